/-
  What each call of package cursor (layer 1) does to the world, a contract for each function, over this seat's translation. Conditions: a reader is a block with its text and its place; a writer is a block with a slice of bytes that it owns.
-/
import Derived.Test.YtobioiicbdhboaaDoorRows
import Derived.WalkKit
import Derived.WalkSpells
import Derived.WalkLawsBesides
import Derived.Deep.QuietTactic
import Derived.BigQuiet
import Derived.Lib.Hide
namespace Go.Proofs.YtobioiicbdhboaaDoor
open Go.RowKit
set_option linter.unusedVariables false

/-- A reader of the text s stands at place k, in block b. -/
structure Rd (w : World) (b : Nat) (s : ByteArray) (k : Nat) : Prop where
  blk : w.heap[b]? = some (.cells #[.string s, .int .i64 k] 110 (0, 0))
  le : k ≤ s.size
  mx : s.size ≤ maxLen

theorem Rd.c0 {w : World} {b : Nat} {s : ByteArray} {k : Nat} (h : Rd w b s k) : w.cell? ⟨b, 0, none⟩ = some (.string s) := by
  simp [World.cell?, h.blk]
theorem Rd.c1 {w : World} {b : Nat} {s : ByteArray} {k : Nat} (h : Rd w b s k) : w.cell? ⟨b, 1, none⟩ = some (.int .i64 k) := by
  simp [World.cell?, h.blk]
theorem Rd.fz {w : World} {b : Nat} {s : ByteArray} {k : Nat} (h : Rd w b s k) : w.frozen? ⟨b, 1, none⟩ = false := by
  simp [World.frozen?, h.blk]
theorem Rd.drewN {w : World} {b : Nat} {s : ByteArray} {k : Nat} (h : Rd w b s k) (n : Nat) : Rd (w.drewN n) b s k := ⟨h.blk, h.le, h.mx⟩
theorem Rd.lt {w : World} {b : Nat} {s : ByteArray} {k : Nat} (h : Rd w b s k) : b < w.heap.size := by
  have := h.blk
  by_cases hb : b < w.heap.size
  · exact hb
  · rw [Array.getElem?_eq_none (by omega)] at this; cases this
theorem Rd.kept {w w' : World} {b : Nat} {s : ByteArray} {k : Nat} {row : Option Nat} (h : Rd w b s k) (hg : w.grownBy w' row) (hne : some b ≠ row) : Rd w' b s k :=
  ⟨(hg.block b h.lt hne).trans h.blk, h.le, h.mx⟩
theorem Rd.below {w w' : World} {b B : Nat} {s : ByteArray} {k : Nat} (h : Rd w b s k) (hg : Below B w w') (hb : b < B) : Rd w' b s k :=
  ⟨(hg.block b hb).trans h.blk, h.le, h.mx⟩
theorem rd_new (w : World) (s : ByteArray) (hs : s.size ≤ maxLen) : Rd (w.alloc (.cells #[.string s, .int .i64 0] 110)) w.heap.size s 0 :=
  ⟨heap_alloc_new w _, Nat.zero_le _, hs⟩
theorem grow_set (w : World) (b i : Nat) (v : Value) (n : Nat) : w.grownBy ((w.setCell ⟨b, i, none⟩ v).drewN n) (some b) :=
  ⟨rfl, rfl, rfl, by simp, fun k _ hk => heap_setCell_other w _ k v (fun h => hk (by simp [h]))⟩
theorem Rd.moved {w : World} {b : Nat} {s : ByteArray} {k : Nat} (h : Rd w b s k) (j : Nat) (hj : j ≤ s.size) (n : Nat) :
    Rd ((w.setCell ⟨b, 1, none⟩ (.int .i64 j)).drewN n) b s j ∧ w.grownBy ((w.setCell ⟨b, 1, none⟩ (.int .i64 j)).drewN n) (some b) := by
  refine ⟨⟨?_, hj, h.mx⟩, ?_⟩
  · have := heap_setCell_same w b 1 _ _ (.int .i64 j) h.blk
    simpa using this
  · exact grow_set w b 1 _ n

set_option maxHeartbeats 400000 in
theorem new_any (w : World) (s : ByteArray) :
    Calls Tryd.prog 45 #[.string s] w fun e w' => e = .returned (.pointer (some ⟨w.heap.size, 0, none⟩)) ∧ w' = w.alloc (.cells #[.string s, .int .i64 0] 110) := by
  go_enter Tryd.func45, Tryd.ntmps45
  go_wp2
  go_ret
  exact ⟨rfl, rfl⟩

set_option maxHeartbeats 400000 in
theorem rest_nil (w : World) :
    Calls Tryd.prog 70 #[.pointer none] w fun e w' => e = .returned (.string ⟨#[]⟩) ∧ w = w' := by
  go_enter Tryd.func70, Tryd.ntmps70
  go_wp2
  go_ret
  exact ⟨rfl, rfl⟩

set_option maxHeartbeats 400000 in
theorem rest_any (w : World) (b : Nat) (s : ByteArray) (k : Nat) (h : Rd w b s k) :
    Calls Tryd.prog 70 #[.pointer (some ⟨b, 0, none⟩)] w fun e w' => e = .returned (.string (s.extract k s.size)) ∧ ∃ n, w' = w.drewN n := by
  have c0 := h.c0
  have c1 := h.c1
  have le := h.le
  have mx := h.mx
  unfold maxLen at mx
  clear h
  go_enter Tryd.func70, Tryd.ntmps70
  go_wp2
  go_quiet (fail)
  go_wp2
  go_ret
  exact ⟨rfl, _, rfl⟩

set_option maxHeartbeats 400000 in
theorem at_nil (w : World) :
    Calls Tryd.prog 50 #[.pointer none] w fun e w' => e = .returned (.int .i64 0) ∧ w = w' := by
  go_enter Tryd.func50, Tryd.ntmps50
  go_wp2
  go_ret
  exact ⟨rfl, rfl⟩

set_option maxHeartbeats 400000 in
theorem at_any (w : World) (b : Nat) (s : ByteArray) (k : Nat) (h : Rd w b s k) :
    Calls Tryd.prog 50 #[.pointer (some ⟨b, 0, none⟩)] w fun e w' => e = .returned (.int .i64 k) ∧ w = w' := by
  have c1 := h.c1
  clear h
  go_enter Tryd.func50, Tryd.ntmps50
  go_wp2
  go_ret
  exact ⟨rfl, rfl⟩

set_option maxHeartbeats 400000 in
theorem left_nil (w : World) :
    Calls Tryd.prog 67 #[.pointer none] w fun e w' => e = .returned (.int .i64 0) ∧ w = w' := by
  go_enter Tryd.func67, Tryd.ntmps67
  go_wp2_with fail
  refine (rest_nil _).mono ?_
  rintro e w' ⟨rfl, rfl⟩
  go_wp2
  go_ret
  exact ⟨rfl, rfl⟩

set_option maxHeartbeats 400000 in
theorem left_any (w : World) (b : Nat) (s : ByteArray) (k : Nat) (h : Rd w b s k) :
    Calls Tryd.prog 67 #[.pointer (some ⟨b, 0, none⟩)] w fun e w' => e = .returned (.int .i64 ((s.size - k : Nat) : Int)) ∧ ∃ n, w' = w.drewN n := by
  have le := h.le
  have mx := h.mx
  unfold maxLen at mx
  go_enter Tryd.func67, Tryd.ntmps67
  go_wp2_with fail
  refine (rest_any _ b s k h).mono ?_
  rintro e w' ⟨rfl, n, rfl⟩
  go_wp2
  go_ret
  exact ⟨by simp, _, rfl⟩

set_option maxHeartbeats 400000 in
theorem byte_nil (w : World) :
    Calls Tryd.prog 74 #[.pointer none] w fun e w' => e = .returned (.tuple #[.int .u8 0, .int .i64 16]) ∧ w = w' := by
  go_enter Tryd.func74, Tryd.ntmps74
  go_wp2
  go_ret2
  exact ⟨rfl, rfl⟩

set_option maxHeartbeats 400000 in
theorem byte_end (w : World) (b : Nat) (s : ByteArray) (k : Nat) (h : Rd w b s k) (hk : s.size ≤ k) :
    Calls Tryd.prog 74 #[.pointer (some ⟨b, 0, none⟩)] w fun e w' => e = .returned (.tuple #[.int .u8 0, .int .i64 2]) ∧ ∃ n, w' = w.drewN n := by
  have hl := left_any w b s k h
  rw [show ((s.size - k : Nat) : Int) = 0 from by omega] at hl
  clear h
  go_enter Tryd.func74, Tryd.ntmps74
  go_wp2_with fail
  refine hl.mono ?_
  rintro e w' ⟨rfl, n, rfl⟩
  go_wp2
  go_ret2
  exact ⟨rfl, _, rfl⟩

set_option maxHeartbeats 400000 in
theorem byte_any (w : World) (b : Nat) (s : ByteArray) (k : Nat) (h : Rd w b s k) (hk : k < s.size) :
    Calls Tryd.prog 74 #[.pointer (some ⟨b, 0, none⟩)] w fun e w' => e = .returned (.tuple #[.int .u8 s[k].toNat, .int .i64 0]) ∧ Rd w' b s (k + 1) ∧ w.grownBy w' (some b) := by
  have hl := left_any w b s k h
  have hmv := fun n => h.moved (k + 1) hk n
  have c0 := h.c0
  have c1 := h.c1
  have fz := h.fz
  have mx := h.mx
  unfold maxLen at mx
  obtain ⟨m, hm⟩ : ∃ m : Nat, m = s.size - k := ⟨_, rfl⟩
  rw [← hm] at hl
  have hm0 : ((m : Int) == 0) = false := beq_eq_false_iff_ne.2 (by omega)
  have hkI : (k : Int) < (s.size : Int) := by omega
  have Hm := Lib.hid hmv
  clear h hm hmv
  go_enter Tryd.func74, Tryd.ntmps74
  go_wp2_with fail
  refine hl.mono ?_
  clear hl
  rintro e w' ⟨rfl, n, rfl⟩
  go_wp2
  go_quiet (fail)
  go_wp2
  go_ret2
  exact ⟨rfl, Hm.out _⟩

set_option maxHeartbeats 400000 in
theorem take_nil (w : World) (n : Int) :
    Calls Tryd.prog 61 #[.pointer none, .int .i64 n] w fun e w' => e = .returned (.tuple #[.string ⟨#[]⟩, .int .i64 16]) ∧ w = w' := by
  go_enter Tryd.func61, Tryd.ntmps61
  go_wp2
  go_ret2
  exact ⟨rfl, rfl⟩

set_option maxHeartbeats 400000 in
theorem take_neg (w : World) (b : Nat) (n : Int) (hn : n < 0) :
    Calls Tryd.prog 61 #[.pointer (some ⟨b, 0, none⟩), .int .i64 n] w fun e w' => e = .returned (.tuple #[.string ⟨#[]⟩, .int .i64 1]) ∧ w = w' := by
  go_enter Tryd.func61, Tryd.ntmps61
  go_wp2
  go_ret2
  exact ⟨rfl, rfl⟩

set_option maxHeartbeats 400000 in
theorem take_end (w : World) (b : Nat) (s : ByteArray) (k : Nat) (h : Rd w b s k) (n : Int) (hn : ((s.size - k : Nat) : Int) < n) :
    Calls Tryd.prog 61 #[.pointer (some ⟨b, 0, none⟩), .int .i64 n] w fun e w' => e = .returned (.tuple #[.string ⟨#[]⟩, .int .i64 2]) ∧ ∃ q, w' = w.drewN q := by
  have hl := left_any w b s k h
  obtain ⟨m, hm⟩ : ∃ m : Nat, m = s.size - k := ⟨_, rfl⟩
  rw [← hm] at hl hn
  have hn0 : ¬ n < 0 := by omega
  clear h hm
  go_enter Tryd.func61, Tryd.ntmps61
  go_wp2_with fail
  refine hl.mono ?_
  clear hl
  rintro e w' ⟨rfl, q, rfl⟩
  go_wp2
  go_ret2
  exact ⟨rfl, _, rfl⟩

theorem extract_rest (s : ByteArray) (k n : Nat) (h : k + n ≤ s.size) : (s.extract k s.size).extract 0 n = s.extract k (k + n) := by
  rw [ByteArray.extract_extract]
  congr 1
  omega

set_option maxHeartbeats 400000 in
theorem take_any (w : World) (b : Nat) (s : ByteArray) (k : Nat) (h : Rd w b s k) (n : Nat) (hn : k + n ≤ s.size) :
    Calls Tryd.prog 61 #[.pointer (some ⟨b, 0, none⟩), .int .i64 n] w fun e w' => e = .returned (.tuple #[.string (s.extract k (k + n)), .int .i64 0]) ∧ Rd w' b s (k + n) ∧ w.grownBy w' (some b) := by
  have hl := left_any w b s k h
  have hr := fun q => rest_any (w.drewN q) b s k (h.drewN q)
  have hmv := fun q => h.moved (k + n) hn q
  have c0 := h.c0
  have c1 := h.c1
  have fz := h.fz
  have mx := h.mx
  unfold maxLen at mx
  obtain ⟨m, hm⟩ : ∃ m : Nat, m = s.size - k := ⟨_, rfl⟩
  rw [← hm] at hl
  have hm0 : ¬ ((m : Int) < (n : Int)) := by omega
  have hz : (s.extract k s.size).size = m := by simp [hm]
  have he := extract_rest s k n hn
  generalize s.extract k s.size = t at *
  have htn : n ≤ t.size := by omega
  have Hm := Lib.hid hmv
  have He := Lib.hid he
  have Hr := Lib.hid hr
  clear h hm hmv hz he hr
  go_enter Tryd.func61, Tryd.ntmps61
  go_wp2_with fail
  refine hl.mono ?_
  clear hl
  rintro e w' ⟨rfl, q, rfl⟩
  go_wp2_with fail
  refine (Hr.out _).mono ?_
  rintro e w' ⟨rfl, q2, rfl⟩
  go_wp2
  go_ret2
  rw [← He.out]
  exact ⟨rfl, Hm.out (q + q2)⟩

set_option maxHeartbeats 400000 in
theorem seek_nil (w : World) (n : Int) :
    Calls Tryd.prog 46 #[.pointer none, .int .i64 n] w fun e w' => e = .returned (.int .i64 16) ∧ w = w' := by
  go_enter Tryd.func46, Tryd.ntmps46
  go_wp2
  go_ret
  exact ⟨rfl, rfl⟩

set_option maxHeartbeats 400000 in
theorem seek_bad (w : World) (b : Nat) (s : ByteArray) (k : Nat) (h : Rd w b s k) (n : Int) (hn : n < 0 ∨ (s.size : Int) < n) :
    Calls Tryd.prog 46 #[.pointer (some ⟨b, 0, none⟩), .int .i64 n] w fun e w' => e = .returned (.int .i64 1) ∧ w = w' := by
  have c0 := h.c0
  have mx := h.mx
  unfold maxLen at mx
  clear h
  rcases hn with hn | hn
  · have hd : decide (n < 0) = true := by simpa using hn
    go_enter Tryd.func46, Tryd.ntmps46
    go_wp2
    go_ret
    exact ⟨rfl, rfl⟩
  · have hd : decide (n < 0) = false := by simp; omega
    go_enter Tryd.func46, Tryd.ntmps46
    go_wp2
    go_ret
    exact ⟨rfl, rfl⟩

set_option maxHeartbeats 400000 in
theorem seek_any (w : World) (b : Nat) (s : ByteArray) (k : Nat) (h : Rd w b s k) (n : Nat) (hn : n ≤ s.size) :
    Calls Tryd.prog 46 #[.pointer (some ⟨b, 0, none⟩), .int .i64 n] w fun e w' => e = .returned (.int .i64 0) ∧ Rd w' b s n ∧ w.grownBy w' (some b) := by
  have hmv := h.moved n hn 0
  have c0 := h.c0
  have c1 := h.c1
  have fz := h.fz
  have mx := h.mx
  unfold maxLen at mx
  have hd : decide ((n : Int) < 0) = false := by simp
  have Hm := Lib.hid hmv
  clear h hmv
  go_enter Tryd.func46, Tryd.ntmps46
  go_wp2
  go_ret
  exact ⟨rfl, Hm.out⟩

end Go.Proofs.YtobioiicbdhboaaDoor
