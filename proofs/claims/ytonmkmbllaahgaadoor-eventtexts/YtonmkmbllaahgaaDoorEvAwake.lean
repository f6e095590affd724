/-
  The statements' own test of answers that the document fixes (awake), over this seat's translation. Conditions: the listed variables (EvL).
-/
import Derived.Test.YtonmkmbllaahgaaDoorEv9
namespace Go.Proofs.YtonmkmbllaahgaaDoor
open Go.RowKit
set_option linter.unusedVariables false
set_option linter.unusedSimpArgs false

theorem dec_is {l : List UInt8} {n : Nat} (h : numOk 64 l = some n) : Lib.decDigits n = l := ((num_iff 64 (by omega) l n).1 h).1.symm

theorem aw_text : bytesOf (textL ⟨5, 9, 5, 2, 255, 0⟩) = ⟨#[53, 32, 57, 32, 115, 119, 105, 116, 99, 104, 32, 50, 32, 50, 53, 53]⟩ := by
  rw [textL_eq]
  simp only
  rw [dec_is (l := [53]) (n := 5) rfl, dec_is (l := [57]) (n := 9) rfl]
  rw [show hasA 5 = true from rfl, show hasB 5 = true from rfl, show hasV 5 = false from rfl]
  unfold optT
  rw [dec_is (l := [50]) (n := 2) rfl, dec_is (l := [50, 53, 53]) (n := 255) rfl]
  rfl
theorem aw_1 : parseL [53, 32, 57, 32, 101, 120, 105, 116, 32, 49, 54] = (ev0, 5) := by kernel_rfl
theorem aw_2 : parseL [53, 32, 57, 32, 104, 97, 108, 116] = (ev0, 3) := by kernel_rfl
theorem aw_3 : parseL [53, 32, 57, 32, 112, 111, 115, 116, 32, 56, 48, 32, 51, 32, 50, 53, 53] = (⟨14, 9, 5, 80, 3, 255⟩, 0) := by kernel_rfl

set_option maxRecDepth 100000 in
set_option maxHeartbeats 2000000 in
theorem awake_any (w : World) (hL : EvL w) :
    Calls Tryd.prog 9 #[] w fun r w' => r = .returned (.bool true) ∧ Below w.heap.size w w' := by
  have HL := Lib.hid hL
  have B0 := Lib.hid (Below.refl w.heap.size w)
  have HT : ∀ w', EvL w' → Calls Tryd.prog 18 #[.agg #[.int .i64 5, .int .u64 9, .int .u64 5, .int .u32 2, .int .u32 255, .int .u32 0]] w' fun r w'' => r = .returned (.tuple #[.string ⟨#[53, 32, 57, 32, 115, 119, 105, 116, 99, 104, 32, 50, 32, 50, 53, 53]⟩, .int .i64 0]) ∧ Below w'.heap.size w' w'' := fun w' h' => by
    have f : Fine ⟨5, 9, 5, 2, 255, 0⟩ := check_fine (by decide) (by decide) (by decide) (by decide) (by decide) (by kernel_rfl)
    have := text_ok ⟨5, 9, 5, 2, 255, 0⟩ f (by kernel_rfl) w' h'
    rw [aw_text] at this
    exact this
  have H1 : ∀ w', EvL w' → Calls Tryd.prog 20 #[.string ⟨#[53, 32, 57, 32, 101, 120, 105, 116, 32, 49, 54]⟩] w' fun r w'' => r = .returned (.tuple #[.agg #[.int .i64 0, .int .u64 0, .int .u64 0, .int .u32 0, .int .u32 0, .int .u32 0], .int .i64 5]) ∧ Below w'.heap.size w' w'' := fun w' h' => by
    have := parse_any ⟨#[53, 32, 57, 32, 101, 120, 105, 116, 32, 49, 54]⟩ (by decide) w' h'
    rw [show (⟨#[53, 32, 57, 32, 101, 120, 105, 116, 32, 49, 54]⟩ : ByteArray).data.toList = [53, 32, 57, 32, 101, 120, 105, 116, 32, 49, 54] from rfl, aw_1] at this
    exact this
  have H2 : ∀ w', EvL w' → Calls Tryd.prog 20 #[.string ⟨#[53, 32, 57, 32, 104, 97, 108, 116]⟩] w' fun r w'' => r = .returned (.tuple #[.agg #[.int .i64 0, .int .u64 0, .int .u64 0, .int .u32 0, .int .u32 0, .int .u32 0], .int .i64 3]) ∧ Below w'.heap.size w' w'' := fun w' h' => by
    have := parse_any ⟨#[53, 32, 57, 32, 104, 97, 108, 116]⟩ (by decide) w' h'
    rw [show (⟨#[53, 32, 57, 32, 104, 97, 108, 116]⟩ : ByteArray).data.toList = [53, 32, 57, 32, 104, 97, 108, 116] from rfl, aw_2] at this
    exact this
  have H3 : ∀ w', EvL w' → Calls Tryd.prog 20 #[.string ⟨#[53, 32, 57, 32, 112, 111, 115, 116, 32, 56, 48, 32, 51, 32, 50, 53, 53]⟩] w' fun r w'' => r = .returned (.tuple #[.agg #[.int .i64 14, .int .u64 9, .int .u64 5, .int .u32 80, .int .u32 3, .int .u32 255], .int .i64 0]) ∧ Below w'.heap.size w' w'' := fun w' h' => by
    have := parse_any ⟨#[53, 32, 57, 32, 112, 111, 115, 116, 32, 56, 48, 32, 51, 32, 50, 53, 53]⟩ (by decide) w' h'
    rw [show (⟨#[53, 32, 57, 32, 112, 111, 115, 116, 32, 56, 48, 32, 51, 32, 50, 53, 53]⟩ : ByteArray).data.toList = [53, 32, 57, 32, 112, 111, 115, 116, 32, 56, 48, 32, 51, 32, 50, 53, 53] from rfl, aw_3] at this
    exact this
  have HK : ∀ w', EvL w' → Calls Tryd.prog 16 #[.string ⟨#[114, 101, 102, 117, 115, 101]⟩] w' fun r w'' => r = .returned (.int .i64 23) ∧ w' = w'' := fun w' h' => by
    have := kind_any ⟨#[114, 101, 102, 117, 115, 101]⟩ w' h'
    rw [show kindOf (⟨#[114, 101, 102, 117, 115, 101]⟩ : ByteArray).data.toList = 23 by kernel_rfl] at this
    exact this
  have HM : ∀ w', EvL w' → Calls Tryd.prog 15 #[.int .i64 1] w' fun r w'' => r = .returned (.string ⟨#[105, 114, 113]⟩) ∧ w' = w'' := fun w' h' => by
    have := name_any 1 w' h'
    rw [if_pos (by decide), show nameB (1 : Int).toNat = ⟨#[105, 114, 113]⟩ from rfl] at this
    exact this
  have JT := Lib.hid HT
  have J1 := Lib.hid H1
  have J2 := Lib.hid H2
  have J3 := Lib.hid H3
  have JK := Lib.hid HK
  have JM := Lib.hid HM
  clear HT H1 H2 H3 HK HM hL
  go_enter Tryd.func9, Tryd.ntmps9
  go_wp2_with fail
  refine (JT.out w HL.out).mono ?_
  rintro r w1 ⟨rfl, h⟩
  have L1 := Lib.hid (HL.out.below h)
  have B1 := Lib.hid (B0.out.trans (h.mono B0.out.size))
  clear h
  go_wp2_with fail
  refine (J1.out w1 L1.out).mono ?_
  rintro r w2 ⟨rfl, h⟩
  have L2 := Lib.hid (L1.out.below h)
  have B2 := Lib.hid (B1.out.trans (h.mono B1.out.size))
  clear h
  obtain ⟨w3, e3⟩ : ∃ w3, w3 = w2.alloc (evO ev0) := ⟨_, rfl⟩
  obtain ⟨-, -, b3⟩ := new_size e3
  have L3 := Lib.hid (L2.out.below b3)
  have B3 := Lib.hid (B2.out.trans (b3.mono B2.out.size))
  clear b3
  unfold evO ev0 at e3
  rw [show ((0 : Nat) : Int) = 0 from rfl] at e3
  go_wp2_with fail
  rw [← e3]
  clear e3
  refine (J2.out w3 L3.out).mono ?_
  rintro r w4 ⟨rfl, h⟩
  have L4 := Lib.hid (L3.out.below h)
  have B4 := Lib.hid (B3.out.trans (h.mono B3.out.size))
  clear h
  obtain ⟨w5, e5⟩ : ∃ w5, w5 = w4.alloc (evO ev0) := ⟨_, rfl⟩
  obtain ⟨-, -, b5⟩ := new_size e5
  have L5 := Lib.hid (L4.out.below b5)
  have B5 := Lib.hid (B4.out.trans (b5.mono B4.out.size))
  clear b5
  unfold evO ev0 at e5
  rw [show ((0 : Nat) : Int) = 0 from rfl] at e5
  go_wp2_with fail
  rw [← e5]
  clear e5
  refine (J3.out w5 L5.out).mono ?_
  rintro r w6 ⟨rfl, h⟩
  have L6 := Lib.hid (L5.out.below h)
  have B6 := Lib.hid (B5.out.trans (h.mono B5.out.size))
  clear h
  obtain ⟨w7, e7⟩ : ∃ w7, w7 = w6.alloc (evO ⟨14, 9, 5, 80, 3, 255⟩) := ⟨_, rfl⟩
  obtain ⟨-, n7, b7⟩ := new_size e7
  have L7 := Lib.hid (L6.out.below b7)
  have B7 := Lib.hid (B6.out.trans (b7.mono B6.out.size))
  clear b7
  subst e7
  clear n7
  go_wp2_with fail
  refine (JK.out _ L7.out).mono ?_
  rintro r w8 ⟨rfl, rfl⟩
  go_wp2_with fail
  refine (JM.out _ L7.out).mono ?_
  rintro r w8 ⟨rfl, rfl⟩
  go_wp2_with fail
  go_ret
  exact ⟨rfl, B7.out⟩

end Go.Proofs.YtonmkmbllaahgaaDoor
