/-
  The document's Most (taffrailref02) and the first line of each statement of layer 2 (awake), over this seat's translation.
-/
import Derived.Test.YtedmpbcgocpddaaLebRef
namespace Go.Proofs.Ytedmpbcgocpddaa
open Go.RowKit
set_option linter.unusedVariables false

set_option maxRecDepth 100000 in
set_option maxHeartbeats 400000 in
theorem rmost_any (s : ByteArray) (at0 most : Nat) (hs : s.size ≤ 500) (ha : at0 ≤ s.size) (w : World) :
    Calls Try.prog 22 #[.string s, .int .i64 at0, .int .u64 most] w fun e w' => e = .returned (.tuple #[.int .u64 (lebMost (s.data.toList.drop at0) most).1, .int .i64 (lebMost (s.data.toList.drop at0) most).2.1, .int .i64 ((at0 + (lebMost (s.data.toList.drop at0) most).2.2 : Nat) : Int)]) ∧ w = w' := by
  have hg := rget_any s at0 hs ha w
  unfold lebMost
  generalize lebGet (s.data.toList.drop at0) = R at *
  obtain ⟨n, c, m⟩ := R
  have Hg := Lib.hid hg
  clear hg hs ha
  by_cases hc : c = 0
  · subst hc
    by_cases hn : most < n
    · rw [if_pos ⟨rfl, hn⟩]
      have hd : decide ((most : Int) < (n : Int)) = true := by simp; omega
      have hd' : decide (most < n) = true := by simp; omega
      go_enter Try.func22, Try.ntmps22
      go_wp2_with fail
      refine Hg.out.mono ?_
      rintro e w1 ⟨rfl, rfl⟩
      go_wp2
      go_ret3
      exact ⟨rfl, rfl⟩
    · rw [if_neg (fun x => hn x.2)]
      have hd : decide ((most : Int) < (n : Int)) = false := by simp; omega
      have hd' : decide (most < n) = false := by simp; omega
      go_enter Try.func22, Try.ntmps22
      go_wp2_with fail
      refine Hg.out.mono ?_
      rintro e w1 ⟨rfl, rfl⟩
      go_wp2
      go_ret3
      exact ⟨rfl, rfl⟩
  · rw [if_neg (fun x => hc x.1)]
    have hcb : ((c : Int) == 0) = false := by rw [beq_eq_false_iff_ne]; omega
    go_enter Try.func22, Try.ntmps22
    go_wp2_with fail
    refine Hg.out.mono ?_
    rintro e w1 ⟨rfl, rfl⟩
    go_wp2
    go_ret3
    exact ⟨rfl, rfl⟩

theorem leb300 : lebL 300 = [172, 2] := by rw [lebL_ge (by omega), lebL_lt (by omega)]; rfl

/-- A number is got of a text that has just come. -/
theorem get_new (w : World) (s : ByteArray) (hs : s.size ≤ maxLen) (n c m : Nat) (hg : lebGet s.data.toList = (n, c, m)) :
    Calls Try.prog 19 #[.pointer (some ⟨w.heap.size, 0, none⟩)] (w.alloc (.cells #[.string s, .int .i64 0] 60)) fun e w' => e = .returned (.tuple #[.int .u64 n, .int .i64 c]) ∧ Below w.heap.size w w' := by
  refine (get_any _ _ s 0 (rd_new w s hs)).mono ?_
  rintro e w' ⟨rfl, h1, g1⟩
  rw [List.drop_zero, hg]
  exact ⟨rfl, ((Below.refl _ _).alloc (Nat.le_refl _) _).grown g1 (by simp) (fun k hk => by simp at hk; omega)⟩

set_option maxRecDepth 100000 in
set_option maxHeartbeats 1000000 in
theorem awake2_any (w : World) :
    Calls Try.prog 11 #[] w fun e w' => e = .returned (.bool true) ∧ Below w.heap.size w w' := by
  go_enter Try.func11, Try.ntmps11
  go_wp2_with fail
  refine (lput_any _ w.heap.size [] (wr_new w) 300 (by decide) (by decide)).mono ?_
  rintro e w1 ⟨rfl, h1, g1⟩
  have b1 : Below w.heap.size w w1 := ((Below.refl _ _).alloc (Nat.le_refl _) _).trans g1
  rw [leb300] at h1
  clear g1
  go_wp2_with fail
  refine (new_any _ _).mono ?_
  rintro e w2 ⟨rfl, rfl⟩
  go_wp2_with fail
  refine (get_new w1 _ (by decide) 300 0 2 (by decide)).mono ?_
  rintro e w2 ⟨rfl, b2⟩
  have h2 := h1.below b2
  have b3 := b1.trans (b2.mono b1.size)
  clear h1 b1 b2
  go_wp2_with fail
  refine (new_any _ _).mono ?_
  rintro e w3 ⟨rfl, rfl⟩
  go_wp2_with fail
  refine (get_new w2 _ (by decide) 0 3 0 (by decide)).mono ?_
  rintro e w3 ⟨rfl, b2⟩
  have h3 := h2.below b2
  have b4 := b3.trans (b2.mono b3.size)
  clear h2 b3 b2
  go_wp2_with fail
  refine (new_any _ _).mono ?_
  rintro e w4 ⟨rfl, rfl⟩
  go_wp2_with fail
  refine (get_new w3 _ (by decide) 0 2 0 (by decide)).mono ?_
  rintro e w4 ⟨rfl, b2⟩
  have h4 := h3.below b2
  have b5 := b4.trans (b2.mono b4.size)
  clear h3 b4 b2
  have Hs := Lib.hid (string_any w4 _ _ h4)
  have H1 := Lib.hid (fold_any (-1) (by decide) (by decide) w4)
  have H2 := Lib.hid (fold_any 1 (by decide) (by decide) w4)
  have H3 := Lib.hid (unfold_any 3 (by decide) w4)
  have H4 := Lib.hid (size_any 300 (by decide) w4)
  rw [leb300] at H4
  clear h4
  go_wp2_with fail
  refine Hs.out.mono ?_
  rintro e w5 ⟨rfl, rfl⟩
  go_wp2_with fail
  refine H1.out.mono ?_
  rintro e w5 ⟨rfl, rfl⟩
  go_wp2_with fail
  refine H2.out.mono ?_
  rintro e w5 ⟨rfl, rfl⟩
  go_wp2_with fail
  refine H3.out.mono ?_
  rintro e w5 ⟨rfl, rfl⟩
  go_wp2_with fail
  refine H4.out.mono ?_
  rintro e w5 ⟨rfl, rfl⟩
  go_wp2
  go_ret
  exact ⟨rfl, b5⟩

end Go.Proofs.Ytedmpbcgocpddaa
