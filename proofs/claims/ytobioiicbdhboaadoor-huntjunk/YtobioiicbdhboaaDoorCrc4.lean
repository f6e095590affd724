/-
  Holds of package crc, over this seat's translation.
-/
import Derived.Test.YtobioiicbdhboaaDoorCrc3
import Derived.Deep.RegionWith
namespace Go.Proofs.YtobioiicbdhboaaDoor
open Go.RowKit
set_option linter.unusedVariables false

theorem belowC_drewN {w w' : World} {B : Nat} (h : Below B w w') (n : Nat) : Below B w (w'.drewN n) := ⟨h.os, h.tape, h.output, h.size, h.block⟩
theorem belowC_drew {w w' : World} {B : Nat} (h : Below B w w') : Below B w w'.drew := ⟨h.os, h.tape, h.output, h.size, h.block⟩

/-- The sum of one text, that lies in a row of its own. -/
theorem sum_row (W : World) (b g : Nat) (ht : TabK W b 256) (s : ByteArray) (hg : W.heap[g]? = some (.cells #[.string s] 9 (0, 0))) (hs : s.size ≤ maxLen) (w0 : World) (B : Nat) (hB : Below B w0 W) :
    Calls Tryd.prog 60 #[.pointer (some ⟨b, 0, none⟩), .slice (some ⟨g, 0, none⟩) 1 1] W fun e w' =>
      e = .returned (.int .u32 (sumL s.data.toList : Nat)) ∧ Below B w0 w' ∧ TabK w' b 256 := by
  refine (sum_any _ b ht (some ⟨g, 0, none⟩) 1 1 [s] ⟨by decide, by decide, fun i hi => ⟨_, _, rfl, lt_of_block hg, fun j hj => ?_⟩⟩ (fun i => ?_)).mono ?_
  · obtain rfl : j = 0 := by omega
    rw [cell_of_row _ _ _ _ _ (0, 0) hg]
    rfl
  · rcases i with _ | i
    · exact hs
    · simp
  · rintro e w' ⟨rfl, n, rfl⟩
    exact ⟨by simp [catL], belowC_drewN hB n, ht⟩

/-- The sum of one text, in a row that was just laid. -/
theorem sum_one (w : World) (b : Nat) (ht : TabK w b 256) (s : ByteArray) (hs : s.size ≤ maxLen) :
    Calls Tryd.prog 60 #[.pointer (some ⟨b, 0, none⟩), .slice (some ⟨w.heap.size, 0, none⟩) 1 1] (w.alloc (.cells #[.string s] 9)) fun e w' =>
      e = .returned (.int .u32 (sumL s.data.toList : Nat)) ∧ Below w.heap.size w w' :=
  (sum_row _ b _ (ht.alloc _) s (heap_alloc_new w _) hs w _ ((Below.refl w.heap.size w).alloc (Nat.le_refl _) _)).mono fun e w' h => ⟨h.1, h.2.1⟩

theorem sum_one_drew (w : World) (b : Nat) (ht : TabK w b 256) (s : ByteArray) (hs : s.size ≤ maxLen) :
    Calls Tryd.prog 60 #[.pointer (some ⟨b, 0, none⟩), .slice (some ⟨w.heap.size, 0, none⟩) 1 1] (w.alloc (.cells #[.string s] 9)).drew fun e w' =>
      e = .returned (.int .u32 (sumL s.data.toList : Nat)) ∧ Below w.heap.size w w' :=
  (sum_row (w.alloc (.cells #[.string s] 9)).drew b w.heap.size (show TabK (w.alloc (.cells #[.string s] 9)) b 256 from ht.alloc _) s (heap_alloc_new w (.cells #[.string s] 9)) hs w w.heap.size (belowC_drew ((Below.refl w.heap.size w).alloc (Nat.le_refl _) _))).mono fun e w' h => ⟨h.1, h.2.1⟩

theorem drop_eq (s : ByteArray) (k : Nat) : (s.extract k s.size).toList = s.data.toList.drop k := by
  rw [ByteArray.toList_eq]
  simp [ByteArray.data_extract]
  rw [List.take_of_length_le (by simp)]
theorem take_eq (s : ByteArray) (k : Nat) : (s.extract 0 k).data.toList = s.data.toList.take k := by
  simp [ByteArray.data_extract]

/-- Do bytes hold? As a Boolean. -/
def holdsB (l : List UInt8) : Bool := decide (4 ≤ l.length) && (l.drop (l.length - 4) == bytesL (sumL (l.take (l.length - 4))))

theorem holdsB_iff (l : List UInt8) : holdsB l = true ↔ holdsL l := by
  simp [holdsB, holdsL]


end Go.Proofs.YtobioiicbdhboaaDoor
