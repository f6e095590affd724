/-
  What Kind and Pass of package event do, over this seat's translation. Conditions: the table's cells (EvL).
-/
import Derived.Test.YtonmkmbllaahgaaDoorEv1
import Derived.Laws.Strings
import Derived.Laws.BitsAllLaws
namespace Go.Proofs.YtonmkmbllaahgaaDoor
open Go.RowKit
set_option linter.unusedVariables false
set_option linter.unusedSimpArgs false

theorem beq_bytes (a b : ByteArray) : (a.toList == b.toList) = decide (a.data.toList = b.data.toList) := by
  rw [ByteArray.toList_eq, ByteArray.toList_eq]
  exact bool_eq (by simp)

set_option maxRecDepth 100000 in
set_option maxHeartbeats 1000000 in
theorem kind_any (s : ByteArray) (w : World) (hL : EvL w) :
    Calls Tryd.prog 16 #[.string s] w fun e w' => e = .returned (.int .i64 (kindOf s.data.toList : Nat)) ∧ w = w' := by
  have HL := Lib.hid hL.row
  clear hL
  go_enter Tryd.func16, Tryd.ntmps16
  go_wp2_with fail
  go_loopw [3] (fun x wr => wr = w ∧ ∃ k : Nat, x = .int .i64 k ∧ 1 ≤ k ∧ k ≤ 25 ∧ Hid (∀ j, 1 ≤ j → j < k → nameL j ≠ s.data.toList)) (fun x _ => ((25 : Int) - intOf x).toNat)
  case atStart => exact ⟨rfl, 1, rfl, by omega, by omega, fun j h1 h2 => by omega⟩
  case round =>
    obtain ⟨rfl, k, rfl, k1, k2, K⟩ := hrel
    by_cases hk : k = 25
    · subst hk
      go_wp2
      go_ret
      refine ⟨?_, rfl⟩
      rw [kindOf_none (fun j h1 h2 => K.out j h1 (by omega))]
      rfl
    · obtain ⟨c0, c1, c2, c3⟩ := HL.out k (by omega)
      have hlt : (k : Int) < 25 := by omega
      have hle : (k : Int) ≤ 24 := by omega
      have h0 : (0 : Int) ≤ k := Int.natCast_nonneg _
      clear c1 c2 c3
      have hb := beq_bytes (nameB k) s
      rw [show (nameB k).data.toList = nameL k from bytesOf_data _] at hb
      by_cases hq : nameL k = s.data.toList
      · rw [decide_eq_true hq] at hb
        have HQ := Lib.hid hq
        clear hq
        generalize nameB k = nb at *
        go_wp2
        go_ret
        refine ⟨?_, rfl⟩
        rw [kindOf_is k1 (by omega) HQ.out]
        rfl
      · rw [decide_eq_false hq] at hb
        have HQ := Lib.hid hq
        clear hq
        generalize nameB k = nb at *
        go_wp2
        go_roundw
        case rel => exact ⟨trivial, k + 1, by go_num, by omega, by omega, fun j h1 h2 => by
          by_cases hj : j = k
          · subst hj; exact HQ.out
          · exact K.out j h1 (by omega)⟩
        case measure => simp [intOf]; omega

/-- Does a filter let a kind pass? -/
def passB (f : Nat) (k : Int) : Bool := knownB k && (decide (k = 24) || decide (f / 2 ^ k.toNat % 2 = 1))

set_option maxRecDepth 100000 in
set_option maxHeartbeats 1000000 in
theorem pass_any (f : Nat) (hf : f < 4294967296) (k : Int) (w : World) :
    Calls Tryd.prog 17 #[.int .u32 f, .int .i64 k] w fun e w' => e = .returned (.bool (passB f k)) ∧ w = w' := by
  have H := Lib.hid (known_any k w)
  cases hk : knownB k with
  | false =>
    rw [hk] at H
    rw [show passB f k = false by simp [passB, hk]]
    go_enter Tryd.func17, Tryd.ntmps17
    go_wp2_with fail
    refine H.out.mono ?_
    rintro e w1 ⟨rfl, rfl⟩
    go_wp2
    go_ret
    exact ⟨rfl, rfl⟩
  | true =>
    rw [hk] at H
    obtain ⟨n, rfl, n1, n2⟩ := known_nat hk
    by_cases h24 : n = 24
    · subst h24
      rw [show passB f ((24 : Nat) : Int) = true by simp [passB, knownB]]
      go_enter Tryd.func17, Tryd.ntmps17
      go_wp2_with fail
      refine H.out.mono ?_
      rintro e w1 ⟨rfl, rfl⟩
      go_wp2
      go_ret
      exact ⟨rfl, rfl⟩
    · have h24' : ((n : Int) == 24) = false := by simp; omega
      have hb : (n : Int) < 64 := by omega
      have h0 : (0 : Int) ≤ n := Int.natCast_nonneg _
      go_enter Tryd.func17, Tryd.ntmps17
      go_wp2_with fail
      refine H.out.mono ?_
      rintro e w1 ⟨rfl, rfl⟩
      go_wp2
      go_ret
      refine ⟨congrArg (fun x => Ending.returned (Value.bool x)) ?_, rfl⟩
      go_light
      rw [show ((f : Int) / 2 ^ n) = ((f / 2 ^ n : Nat) : Int) by simp, show (1 : Int) = ((1 : Nat) : Int) from rfl, u32_and_nat _ _ (Nat.lt_of_le_of_lt (Nat.div_le_self _ _) hf) (by decide), Nat.and_one_is_mod]
      refine bool_eq ?_
      simp only [passB, hk, Int.toNat_natCast, Bool.true_and, Bool.or_eq_true, decide_eq_true_eq, beq_iff_eq]
      omega

end Go.Proofs.YtonmkmbllaahgaaDoor
