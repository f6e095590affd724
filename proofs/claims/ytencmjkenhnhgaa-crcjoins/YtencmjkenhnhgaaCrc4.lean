/-
  Holds of package crc, over this seat's translation.
-/
import Derived.Test.YtencmjkenhnhgaaCrc3
import Derived.Deep.RegionWith
namespace Go.Proofs.Ytencmjkenhnhgaa
open Go.RowKit
set_option linter.unusedVariables false

theorem below_drewN {w w' : World} {B : Nat} (h : Below B w w') (n : Nat) : Below B w (w'.drewN n) := ⟨h.os, h.tape, h.output, h.size, h.block⟩
theorem below_drew {w w' : World} {B : Nat} (h : Below B w w') : Below B w w'.drew := ⟨h.os, h.tape, h.output, h.size, h.block⟩

/-- The sum of one text, that lies in a row of its own. -/
theorem sum_row (W : World) (b g : Nat) (ht : TabK W b 256) (s : ByteArray) (hg : W.heap[g]? = some (.cells #[.string s] 9 (0, 0))) (hs : s.size ≤ maxLen) (w0 : World) (B : Nat) (hB : Below B w0 W) :
    Calls Try.prog 12 #[.pointer (some ⟨b, 0, none⟩), .slice (some ⟨g, 0, none⟩) 1 1] W fun e w' =>
      e = .returned (.int .u32 (sumL s.data.toList : Nat)) ∧ Below B w0 w' ∧ TabK w' b 256 := by
  refine (sum_any _ b ht (some ⟨g, 0, none⟩) 1 1 [s] ⟨by decide, by decide, fun i hi => ⟨_, _, rfl, lt_of_block hg, fun j hj => ?_⟩⟩ (fun i => ?_)).mono ?_
  · obtain rfl : j = 0 := by omega
    rw [cell_of_row _ _ _ _ _ (0, 0) hg]
    rfl
  · rcases i with _ | i
    · exact hs
    · simp
  · rintro e w' ⟨rfl, n, rfl⟩
    exact ⟨by simp [catL], below_drewN hB n, ht⟩

/-- The sum of one text, in a row that was just laid. -/
theorem sum_one (w : World) (b : Nat) (ht : TabK w b 256) (s : ByteArray) (hs : s.size ≤ maxLen) :
    Calls Try.prog 12 #[.pointer (some ⟨b, 0, none⟩), .slice (some ⟨w.heap.size, 0, none⟩) 1 1] (w.alloc (.cells #[.string s] 9)) fun e w' =>
      e = .returned (.int .u32 (sumL s.data.toList : Nat)) ∧ Below w.heap.size w w' :=
  (sum_row _ b _ (ht.alloc _) s (heap_alloc_new w _) hs w _ ((Below.refl w.heap.size w).alloc (Nat.le_refl _) _)).mono fun e w' h => ⟨h.1, h.2.1⟩

theorem sum_one_drew (w : World) (b : Nat) (ht : TabK w b 256) (s : ByteArray) (hs : s.size ≤ maxLen) :
    Calls Try.prog 12 #[.pointer (some ⟨b, 0, none⟩), .slice (some ⟨w.heap.size, 0, none⟩) 1 1] (w.alloc (.cells #[.string s] 9)).drew fun e w' =>
      e = .returned (.int .u32 (sumL s.data.toList : Nat)) ∧ Below w.heap.size w w' :=
  (sum_row (w.alloc (.cells #[.string s] 9)).drew b w.heap.size (show TabK (w.alloc (.cells #[.string s] 9)) b 256 from ht.alloc _) s (heap_alloc_new w (.cells #[.string s] 9)) hs w w.heap.size (below_drew ((Below.refl w.heap.size w).alloc (Nat.le_refl _) _))).mono fun e w' h => ⟨h.1, h.2.1⟩

theorem holds_nil (s : ByteArray) (w : World) :
    Calls Try.prog 14 #[.pointer none, .string s] w fun e w' => e = .returned (.bool false) ∧ w = w' := by
  go_enter Try.func14, Try.ntmps14
  go_wp2
  go_ret
  exact ⟨rfl, rfl⟩

set_option maxRecDepth 100000 in
set_option maxHeartbeats 1000000 in
theorem holds_short (w : World) (b : Nat) (s : ByteArray) (hs : s.size ≤ maxLen) (h4 : s.size < 4) :
    Calls Try.prog 14 #[.pointer (some ⟨b, 0, none⟩), .string s] w fun e w' => e = .returned (.bool false) ∧ w = w' := by
  go_enter Try.func14, Try.ntmps14
  go_wp2
  go_ret
  exact ⟨rfl, rfl⟩

theorem drop_eq (s : ByteArray) (k : Nat) : (s.extract k s.size).toList = s.data.toList.drop k := by
  rw [ByteArray.toList_eq]
  simp [ByteArray.data_extract]
  rw [List.take_of_length_le (by simp)]
theorem take_eq (s : ByteArray) (k : Nat) : (s.extract 0 k).data.toList = s.data.toList.take k := by
  simp [ByteArray.data_extract]

set_option maxRecDepth 100000 in
set_option maxHeartbeats 1000000 in
theorem holds_long (w : World) (b : Nat) (ht : TabK w b 256) (s : ByteArray) (hs : s.size ≤ maxLen) (k : Nat) (h4 : s.size = k + 4) :
    Calls Try.prog 14 #[.pointer (some ⟨b, 0, none⟩), .string s] w fun e w' =>
      e = .returned (.bool (s.data.toList.drop k == bytesL (sumL (s.data.toList.take k)))) ∧ Below w.heap.size w w' := by
  have Ht := Lib.hid ht
  have hsub : (s.size : Int) - 4 = (k : Int) := by omega
  have hd4 : decide ((s.size : Int) < 4) = false := by simp; omega
  have hk : k ≤ s.size := by omega
  have hki : (k : Int) ≤ (s.size : Int) := by omega
  have hk0 : (0 : Int) ≤ (k : Int) := by omega
  have Hsz := Lib.hid hs
  have hkm : k < 9223372036854775808 := by unfold maxLen at hs; omega
  unfold maxLen at hs
  have H4 := Lib.hid h4
  clear ht h4
  go_enter Try.func14, Try.ntmps14
  go_wp2_with fail
  obtain ⟨A, hA⟩ : ∃ A, A = s.extract 0 k := ⟨_, rfl⟩
  have hAs : A.size ≤ maxLen := by rw [hA]; simp [ByteArray.size_extract]; have := Hsz.out; omega
  have HA := Lib.hid hA
  have HAs := Lib.hid hAs
  have hA' := hA.symm
  clear hA hAs
  have HE := Lib.hid (drop_eq s k)
  obtain ⟨S, hS⟩ : ∃ S, S = sumL A.data.toList := ⟨_, rfl⟩
  have HS := Lib.hid (show S < 4294967296 from by rw [hS]; exact sumL_lt _)
  have hS' := Lib.hid hS
  have hone := Lib.hid (fun (w' : World) (ht : TabK w' b 256) => sum_one_drew w' b ht A HAs.out)
  rw [← hS] at hone
  clear hS
  go_region_with (first
    | (go_at_call 12; refine (hone.out _ Ht.out).mono ?_; rintro e w1 ⟨rfl, b1⟩; have B1 := Lib.hid b1; clear b1)
    | (go_at_call 16; refine (bytes_any S HS.out _).mono ?_; rintro e w2 ⟨rfl, b2⟩; have B2 := Lib.hid b2; clear b2))
  go_wp2
  go_ret
  refine ⟨?_, B1.out.trans (B2.out.mono B1.out.size)⟩
  show Ending.returned (Value.bool _) = _
  rw [HE.out, hS'.out, HA.out, take_eq]

/-- Do bytes hold? As a Boolean. -/
def holdsB (l : List UInt8) : Bool := decide (4 ≤ l.length) && (l.drop (l.length - 4) == bytesL (sumL (l.take (l.length - 4))))

theorem holdsB_iff (l : List UInt8) : holdsB l = true ↔ holdsL l := by
  simp [holdsB, holdsL]

theorem holds_any (w : World) (b : Nat) (ht : TabK w b 256) (s : ByteArray) (hs : s.size ≤ maxLen) :
    Calls Try.prog 14 #[.pointer (some ⟨b, 0, none⟩), .string s] w fun e w' => e = .returned (.bool (holdsB s.data.toList)) ∧ Below w.heap.size w w' := by
  have hl : s.data.toList.length = s.size := by simp
  rcases Nat.lt_or_ge s.size 4 with h4 | h4
  · refine (holds_short w b s hs h4).mono ?_
    rintro e w' ⟨rfl, rfl⟩
    refine ⟨?_, Below.refl _ _⟩
    rw [holdsB, hl, decide_eq_false (by omega)]
    rfl
  · refine (holds_long w b ht s hs (s.size - 4) (by omega)).mono ?_
    rintro e w' ⟨rfl, b1⟩
    refine ⟨?_, b1⟩
    rw [holdsB, hl, decide_eq_true h4, Bool.true_and]
end Go.Proofs.Ytencmjkenhnhgaa
