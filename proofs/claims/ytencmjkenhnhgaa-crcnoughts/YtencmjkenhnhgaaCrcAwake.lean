/-
  The first line of each statement of layer 3 (awake), over this seat's translation.
-/
import Derived.Test.YtencmjkenhnhgaaCrcRef
namespace Go.Proofs.Ytencmjkenhnhgaa
open Go.RowKit
set_option linter.unusedVariables false

/-- The sum of some texts, that lie in a row of their own. -/
theorem sum_rows (W : World) (b g : Nat) (ht : TabK W b 256) (ss : List ByteArray) (hg : W.heap[g]? = some (.cells (ss.map Value.string).toArray 9 (0, 0))) (hl : ss.length ≤ maxLen) (hs : ∀ s ∈ ss, s.size ≤ maxLen) (w0 : World) (B : Nat) (hB : Below B w0 W) :
    Calls Try.prog 12 #[.pointer (some ⟨b, 0, none⟩), .slice (some ⟨g, 0, none⟩) ss.length ss.length] W fun e w' =>
      e = .returned (.int .u32 (sumL (catL ss ss.length) : Nat)) ∧ Below B w0 w' ∧ TabK w' b 256 := by
  refine (sum_any _ b ht (some ⟨g, 0, none⟩) ss.length ss.length ss ⟨hl, Nat.le_refl _, fun i hi => ⟨_, _, rfl, lt_of_block hg, fun j hj => ?_⟩⟩ (fun i => ?_)).mono ?_
  · rw [Nat.zero_add, cell_of_row _ _ _ _ _ (0, 0) hg]
    simp [hj]
  · by_cases h : i < ss.length
    · rw [List.getD_eq_getElem?_getD, List.getElem?_eq_getElem h]
      exact hs _ (List.getElem_mem h)
    · rw [List.getD_eq_getElem?_getD, List.getElem?_eq_none (by omega)]
      exact Nat.zero_le _
  · rintro e w' ⟨rfl, n, rfl⟩
    exact ⟨rfl, below_drewN hB n, ht⟩

/-- The sum of nothing. -/
theorem sum_none (w : World) (b : Nat) (ht : TabK w b 256) :
    Calls Try.prog 12 #[.pointer (some ⟨b, 0, none⟩), .slice none 0 0] w fun e w' => e = .returned (.int .u32 0) ∧ Below w.heap.size w w' := by
  refine (sum_any _ b ht none 0 0 [] ⟨by decide, by decide, fun i hi => absurd hi (by omega)⟩ (fun i => by simp)).mono ?_
  rintro e w' ⟨rfl, n, rfl⟩
  exact ⟨by rw [show sumL (catL [] 0) = 0 from by decide +kernel]; rfl, below_drewN (Below.refl _ _) n⟩

theorem sum_lit2 (w : World) (b : Nat) (ht : TabK w b 256) (s t : ByteArray) (hs : s.size ≤ maxLen) (ht' : t.size ≤ maxLen) :
    Calls Try.prog 12 #[.pointer (some ⟨b, 0, none⟩), .slice (some ⟨w.heap.size, 0, none⟩) 2 2] (w.alloc (.cells #[.string s, .string t] 9)) fun e w' =>
      e = .returned (.int .u32 (sumL (s.data.toList ++ t.data.toList) : Nat)) ∧ Below w.heap.size w w' := by
  refine (sum_rows _ b w.heap.size (ht.alloc _) [s, t] (heap_alloc_new w _) (show 2 ≤ maxLen from by decide) (fun x hx => ?_) w w.heap.size ((Below.refl w.heap.size w).alloc (Nat.le_refl _) _)).mono ?_
  · simp only [List.mem_cons, List.not_mem_nil, or_false] at hx
    rcases hx with rfl | rfl
    · exact hs
    · exact ht'
  · rintro e w' ⟨rfl, h1, h2⟩
    exact ⟨by simp [catL], h1⟩

theorem lit_1234 : sumL (ByteArray.mk #[49, 50, 51, 52]).data.toList = 2615402659 := by decide +kernel
theorem lit_56789 : sumL (ByteArray.mk #[53, 54, 55, 56, 57]).data.toList = 320708720 := by decide +kernel
theorem lit_all : sumL ((ByteArray.mk #[49, 50, 51, 52]).data.toList ++ (ByteArray.mk #[53, 54, 55, 56, 57]).data.toList) = 3421780262 := by decide +kernel
theorem lit_join : shn (8 * (5 : Int).toNat) 2615402659 ^^^ 320708720 = 3421780262 := by decide +kernel
theorem lit_holds : holdsB (ByteArray.mk #[0, 0, 0, 0]).data.toList = true := by decide +kernel
theorem lit_bytes : bytesL 1 = [1, 0, 0, 0] := by decide +kernel

set_option maxRecDepth 100000 in
set_option maxHeartbeats 1000000 in
theorem awake3_any (w : World) :
    Calls Try.prog 10 #[] w fun e w' => e = .returned (.bool true) ∧ Below w.heap.size w w' := by
  have q1 : ∀ (w' : World) (b : Nat), TabK w' b 256 → Calls Try.prog 12 #[.pointer (some ⟨b, 0, none⟩), .slice (some ⟨w'.heap.size, 0, none⟩) 2 2] (w'.alloc (.cells #[.string ⟨#[49, 50, 51, 52]⟩, .string ⟨#[53, 54, 55, 56, 57]⟩] 9)) fun e w2 => e = .returned (.int .u32 3421780262) ∧ Below w'.heap.size w' w2 := by
    intro w' b ht
    have := sum_lit2 w' b ht ⟨#[49, 50, 51, 52]⟩ ⟨#[53, 54, 55, 56, 57]⟩ (by decide) (by decide)
    rw [lit_all] at this
    exact this
  have q2 : ∀ (w' : World) (b : Nat), TabK w' b 256 → Calls Try.prog 12 #[.pointer (some ⟨b, 0, none⟩), .slice (some ⟨w'.heap.size, 0, none⟩) 1 1] (w'.alloc (.cells #[.string ⟨#[49, 50, 51, 52]⟩] 9)) fun e w2 => e = .returned (.int .u32 2615402659) ∧ Below w'.heap.size w' w2 := by
    intro w' b ht
    have := sum_one w' b ht ⟨#[49, 50, 51, 52]⟩ (by decide)
    rw [lit_1234] at this
    exact this
  have q3 : ∀ (w' : World) (b : Nat), TabK w' b 256 → Calls Try.prog 12 #[.pointer (some ⟨b, 0, none⟩), .slice (some ⟨w'.heap.size, 0, none⟩) 1 1] (w'.alloc (.cells #[.string ⟨#[53, 54, 55, 56, 57]⟩] 9)) fun e w2 => e = .returned (.int .u32 320708720) ∧ Below w'.heap.size w' w2 := by
    intro w' b ht
    have := sum_one w' b ht ⟨#[53, 54, 55, 56, 57]⟩ (by decide)
    rw [lit_56789] at this
    exact this
  have q4 : ∀ w' : World, Calls Try.prog 18 #[.int .u32 2615402659, .int .u32 320708720, .int .i64 5] w' fun e w2 => e = .returned (.int .u32 3421780262) ∧ w' = w2 := by
    intro w'
    have := join_any 2615402659 320708720 5 (by decide) (by decide) (by decide) (by decide) w'
    rw [lit_join] at this
    exact this
  have q5 : ∀ (w' : World) (b : Nat), TabK w' b 256 → Calls Try.prog 14 #[.pointer (some ⟨b, 0, none⟩), .string ⟨#[0, 0, 0, 0]⟩] w' fun e w2 => e = .returned (.bool true) ∧ Below w'.heap.size w' w2 := by
    intro w' b ht
    have := holds_any w' b ht ⟨#[0, 0, 0, 0]⟩ (by decide)
    rw [lit_holds] at this
    exact this
  have q6 : ∀ (w' : World), Calls Try.prog 16 #[.int .u32 1] w' fun e w2 => e = .returned (.string ⟨#[1, 0, 0, 0]⟩) ∧ Below w'.heap.size w' w2 := by
    intro w'
    have := bytes_any 1 (by decide) w'
    rw [lit_bytes] at this
    exact this
  have Q1 := Lib.hid q1
  have Q2 := Lib.hid q2
  have Q3 := Lib.hid q3
  have Q4 := Lib.hid q4
  have Q5 := Lib.hid q5
  have Q6 := Lib.hid q6
  clear q1 q2 q3 q4 q5 q6
  go_enter Try.func10, Try.ntmps10
  go_wp2_with fail
  refine (make_any _).mono ?_
  rintro e w1 ⟨rfl, t1, b1⟩
  have T1 := Lib.hid t1
  have B1 := Lib.hid b1
  clear t1 b1
  go_wp2_with fail
  refine (Q1.out _ _ T1.out).mono ?_
  rintro e w2 ⟨rfl, b2⟩
  have T2 := Lib.hid (T1.out.below b2 T1.out.lt)
  have B2 := Lib.hid (B1.out.trans (b2.mono B1.out.size))
  clear b2
  go_wp2_with fail
  refine (sum_none _ _ T2.out).mono ?_
  rintro e w3 ⟨rfl, b3⟩
  have T3 := Lib.hid (T2.out.below b3 T2.out.lt)
  have B3 := Lib.hid (B2.out.trans (b3.mono B2.out.size))
  clear b3
  go_wp2_with fail
  refine (Q5.out _ _ T3.out).mono ?_
  rintro e w4 ⟨rfl, b4⟩
  have T4 := Lib.hid (T3.out.below b4 T3.out.lt)
  have B4 := Lib.hid (B3.out.trans (b4.mono B3.out.size))
  clear b4
  go_wp2_with fail
  refine (Q6.out _).mono ?_
  rintro e w5 ⟨rfl, b5⟩
  have T5 := Lib.hid (T4.out.below b5 T4.out.lt)
  have B5 := Lib.hid (B4.out.trans (b5.mono B4.out.size))
  clear b5
  go_wp2_with fail
  refine (Q2.out _ _ T5.out).mono ?_
  rintro e w6 ⟨rfl, b6⟩
  have T6 := Lib.hid (T5.out.below b6 T5.out.lt)
  have B6 := Lib.hid (B5.out.trans (b6.mono B5.out.size))
  clear b6
  go_wp2_with fail
  refine (Q3.out _ _ T6.out).mono ?_
  rintro e w7 ⟨rfl, b7⟩
  have B7 := Lib.hid (B6.out.trans (b7.mono B6.out.size))
  clear b7
  go_wp2_with fail
  refine (Q4.out _).mono ?_
  rintro e w8 ⟨rfl, rfl⟩
  go_wp2
  go_ret
  exact ⟨rfl, B7.out⟩
end Go.Proofs.Ytencmjkenhnhgaa
