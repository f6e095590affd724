/-
  The document's Most (taffrailref02) and the first line of each statement of layer 2 (awake), over this seat's translation.
-/
import Derived.Test.YtobioiicbdhboaaDoorLebRef
namespace Go.Proofs.YtobioiicbdhboaaDoor
open Go.RowKit
set_option linter.unusedVariables false

set_option maxRecDepth 100000 in
set_option maxHeartbeats 400000 in
theorem rmost_any (s : ByteArray) (at0 most : Nat) (hs : s.size ≤ 1000000) (ha : at0 ≤ s.size) (w : World) :
    Calls Tryd.prog 52 #[.string s, .int .i64 at0, .int .u64 most] w fun e w' => e = .returned (.tuple #[.int .u64 (lebMost (s.data.toList.drop at0) most).1, .int .i64 (lebMost (s.data.toList.drop at0) most).2.1, .int .i64 ((at0 + (lebMost (s.data.toList.drop at0) most).2.2 : Nat) : Int)]) ∧ w = w' := by
  have hg := rget_any s at0 hs ha w
  unfold lebMost
  generalize lebGet (s.data.toList.drop at0) = R at *
  obtain ⟨n, c, m⟩ := R
  have Hg := Lib.hid hg
  clear hg hs ha
  by_cases hc : c = 0
  · subst hc
    by_cases hn : most < n
    · rw [if_pos ⟨rfl, hn⟩]
      have hd : decide ((most : Int) < (n : Int)) = true := by simp; omega
      have hd' : decide (most < n) = true := by simp; omega
      go_enter Tryd.func52, Tryd.ntmps52
      go_wp2_with fail
      refine Hg.out.mono ?_
      rintro e w1 ⟨rfl, rfl⟩
      go_wp2
      go_ret3
      exact ⟨rfl, rfl⟩
    · rw [if_neg (fun x => hn x.2)]
      have hd : decide ((most : Int) < (n : Int)) = false := by simp; omega
      have hd' : decide (most < n) = false := by simp; omega
      go_enter Tryd.func52, Tryd.ntmps52
      go_wp2_with fail
      refine Hg.out.mono ?_
      rintro e w1 ⟨rfl, rfl⟩
      go_wp2
      go_ret3
      exact ⟨rfl, rfl⟩
  · rw [if_neg (fun x => hc x.1)]
    have hcb : ((c : Int) == 0) = false := by rw [beq_eq_false_iff_ne]; omega
    go_enter Tryd.func52, Tryd.ntmps52
    go_wp2_with fail
    refine Hg.out.mono ?_
    rintro e w1 ⟨rfl, rfl⟩
    go_wp2
    go_ret3
    exact ⟨rfl, rfl⟩

theorem leb300 : lebL 300 = [172, 2] := by rw [lebL_ge (by omega), lebL_lt (by omega)]; rfl

/-- A number is got of a text that has just come. -/
theorem get_new (w : World) (s : ByteArray) (hs : s.size ≤ maxLen) (n c m : Nat) (hg : lebGet s.data.toList = (n, c, m)) :
    Calls Tryd.prog 84 #[.pointer (some ⟨w.heap.size, 0, none⟩)] (w.alloc (.cells #[.string s, .int .i64 0] 110)) fun e w' => e = .returned (.tuple #[.int .u64 n, .int .i64 c]) ∧ Below w.heap.size w w' := by
  refine (get_any _ _ s 0 (rd_new w s hs)).mono ?_
  rintro e w' ⟨rfl, h1, g1⟩
  rw [List.drop_zero, hg]
  exact ⟨rfl, ((Below.refl _ _).alloc (Nat.le_refl _) _).grown g1 (by simp) (fun k hk => by simp at hk; omega)⟩


end Go.Proofs.YtobioiicbdhboaaDoor
