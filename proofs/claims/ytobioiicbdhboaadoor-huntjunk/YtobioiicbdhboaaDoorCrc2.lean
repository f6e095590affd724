/-
  The table of package crc over this seat's translation: Make, Sum, Bytes, Holds.
-/
import Derived.Test.YtobioiicbdhboaaDoorCrc
import Derived.Deep.WholeRow
namespace Go.Proofs.YtobioiicbdhboaaDoor
open Go.RowKit
set_option linter.unusedVariables false

/-- In block b lies a table, filled so far below k. -/
def TabK (w : World) (b k : Nat) : Prop :=
  ∃ c : Array Value, w.heap[b]? = some (.cells c 63 (0, 0)) ∧ c.size = 256 ∧ (∀ j, j < k → c[j]? = some (.int .u32 (shn 8 j : Nat)))

theorem TabK.lt {w : World} {b k : Nat} (h : TabK w b k) : b < w.heap.size := by
  obtain ⟨c, h1, _⟩ := h
  exact lt_of_block h1
theorem TabK.cell {w : World} {b k : Nat} (h : TabK w b k) (j : Nat) (hj : j < k) : w.cell? ⟨b, j, none⟩ = some (.int .u32 (shn 8 j : Nat)) := by
  obtain ⟨c, h1, h2, h3⟩ := h
  simp [World.cell?, h1, h3 j hj]
theorem TabK.some {w : World} {b k : Nat} (h : TabK w b k) (j : Nat) (hj : j < 256) : ∃ v, w.cell? ⟨b, j, none⟩ = some v := by
  obtain ⟨c, h1, h2, h3⟩ := h
  exact ⟨c[j]'(by omega), by simp [World.cell?, h1, h2, hj]⟩
theorem TabK.thawed {w : World} {b k : Nat} (h : TabK w b k) (j : Nat) : w.frozen? ⟨b, j, none⟩ = false := by
  obtain ⟨c, h1, h2, h3⟩ := h
  simp [World.frozen?, h1]
theorem TabK.set {w : World} {b k : Nat} (h : TabK w b k) (hk : k < 256) : TabK (w.setCell ⟨b, k, none⟩ (.int .u32 (shn 8 k : Nat))) b (k + 1) := by
  obtain ⟨c, h1, h2, h3⟩ := h
  refine ⟨c.setIfInBounds k (.int .u32 (shn 8 k : Nat)), ?_, by simp [h2], ?_⟩
  · exact heap_setCell_same w b k c _ _ h1
  · intro j hj
    rw [Array.getElem?_setIfInBounds]
    by_cases e : k = j
    · subst e; simp [h2, hk]
    · rw [if_neg e]; exact h3 j (by omega)
theorem TabK.below {w w' : World} {b k B : Nat} (h : TabK w b k) (hg : Below B w w') (hb : b < B) : TabK w' b k := by
  obtain ⟨c, h1, h2⟩ := h
  exact ⟨c, (hg.block b hb).trans h1, h2⟩
theorem TabK.alloc {w : World} {b k : Nat} (h : TabK w b k) (o : Obj) : TabK (w.alloc o) b k := by
  have hlt := h.lt
  obtain ⟨c, h1, h2⟩ := h
  exact ⟨c, by rw [Below.heap_alloc w o b hlt]; exact h1, h2⟩

theorem Tryd.infoTable : (Tryd.prog.info? 63).map (fun i => (i.zero, i.size)) = some (some (.agg (Array.replicate 256 (.int .u32 0))), 256) := by kernel_rfl

set_option maxRecDepth 100000 in
set_option maxHeartbeats 1000000 in
theorem make_any (w : World) :
    Calls Tryd.prog 10 #[] w fun e w' => e = .returned (.pointer (some ⟨w.heap.size, 0, none⟩)) ∧ TabK w' w.heap.size 256 ∧ Below w.heap.size w w' := by
  obtain ⟨Z, hZ, hz⟩ : ∃ Z : Array Value, Z.size = 256 ∧ ∀ w, (zeroValue 63).run Tryd.prog w = .ok (.agg Z) w := ⟨_, Array.size_replicate, (zero_of_info Tryd.infoTable).1⟩
  have HZ := Lib.hid hZ
  clear hZ
  go_enter Tryd.func10, Tryd.ntmps10
  go_wp2_with fail
  go_loopw [6] (fun x wr => ∃ k : Nat, x = .int .i64 k ∧ k ≤ 256 ∧ TabK wr w.heap.size k ∧ Below w.heap.size w wr) (fun x _ => 256 - (intOf x).toNat)
  case atStart => exact ⟨0, rfl, by decide, ⟨Z, heap_alloc_new w _, HZ.out, fun j hj => by omega⟩, (Below.refl _ _).alloc (Nat.le_refl _) _⟩
  case round =>
    obtain ⟨k, rfl, hk, ht, hb⟩ := hrel
    have Ht := Lib.hid ht
    have Hb := Lib.hid hb
    by_cases h : k < 256
    · have hd : decide ((k : Int) < 256) = true := by simp; omega
      obtain ⟨old, hcell⟩ := ht.some k h
      have hfz := ht.thawed k
      have Hk := Lib.hid hk
      clear hk ht hb
      go_wp2_with fail
      go_loopw [3, 11] (fun x y w2 => ∃ s j : Nat, x = .int .u32 s ∧ y = .int .i64 j ∧ j ≤ 8 ∧ s < 4294967296 ∧ shn (8 - j) s = shn 8 k ∧ wr = w2) (fun _ y _ => 8 - (intOf y).toNat)
      case atStart => exact ⟨k, 0, by go_num, rfl, by decide, by omega, rfl, rfl⟩
      case round =>
        obtain ⟨s, j, rfl, rfl, hj, hs, he, rfl⟩ := hrel
        have Hs := Lib.hid hs
        have He := Lib.hid he
        have Hj := Lib.hid hj
        clear hs he
        by_cases h8 : j < 8
        · have hd8 : decide ((j : Int) < 8) = true := by simp; omega
          have hsh := Lib.hid (sh_lt Hs.out)
          have He2 := Lib.hid (show shn (8 - (j + 1)) (sh s) = shn 8 k from by rw [← He.out, show 8 - j = (8 - (j + 1)) + 1 from by omega]; rfl)
          go_wp2_with fail
          refine (shift_any s Hs.out _).mono ?_
          rintro e w1 ⟨rfl, rfl⟩
          go_wp2
          go_roundw
          case rel => exact ⟨sh s, j + 1, rfl, by go_num, by omega, hsh.out, He2.out, trivial⟩
          case measure => simp [intOf]; omega
        · have hd8 : decide ((j : Int) < 8) = false := by simp; omega
          have hq := Lib.hid (show s = shn 8 k from by rw [← He.out, show 8 - j = 0 from by omega]; rfl)
          clear h8 hj
          go_wp2_with fail
          rw [hq.out]
          exact ⟨⟨k + 1, by go_num, by omega, Ht.out.set h, Hb.out.setCell (Nat.le_refl _) _⟩, by simp [intOf]; omega⟩
    · obtain rfl : k = 256 := by omega
      go_wp2_with fail
      go_ret
      exact ⟨rfl, Ht.out, Hb.out⟩
end Go.Proofs.YtobioiicbdhboaaDoor
