/-
  The code's queues: the first task, the tasks of a level. Conditions: the library's table of bits stands as it was laid.
-/
import Derived.Test.YtdcadiphebcmbaaDoorRy7
import Derived.BigQuiet
namespace Go.Proofs.YtdcadiphebcmbaaDoor
open Go Go.RowKit
set_option linter.unusedVariables false
set_option linter.unusedSimpArgs false

/-- The library's table. -/
def TabL (w : World) : Prop := ∀ j, j < 32 → w.cell? ⟨0, j, none⟩ = some (.int .u8 ((Lib.deBruijn32tab.getD j 0 : Nat) : Int))
theorem TabL.below {w w' : World} (h : TabL w) (hb : Below w.heap.size w w') : TabL w' := fun j hj => cell_kept hb (h j hj)
theorem TabL.only {w w' : World} {S : Nat → Prop} (h : TabL w) (ho : Only w w' S) (hn : ¬ S 0) : TabL w' := fun j hj => ho.cell (h j hj) hn
theorem TabL.lt {w : World} (h : TabL w) : 0 < w.heap.size := World.block_lt_of_cell? w _ (h 0 (by decide))

theorem tz_key (x a : Nat) (hx : x < 4294967296) (hx0 : x ≠ 0) (hlow : x &&& (4294967296 - x) = a) :
    bits BinOp.and IntKind.u32 (x : Int) (-(x : Int) % 4294967296) * 125613361 % 4294967296 / 134217728 = ((a * 125613361 % 4294967296 / 134217728 : Nat) : Int) := by
  have e1 : -(x : Int) % 4294967296 = ((4294967296 - x : Nat) : Int) := by omega
  rw [e1, band32 x _ hx (by omega), hlow]
  omega
set_option maxRecDepth 100000 in
set_option maxHeartbeats 1000000 in
theorem tz_core (x k idx : Nat) (w : World) (hx0 : ((x : Int) == 0) = false)
    (key : bits BinOp.and IntKind.u32 (x : Int) (-(x : Int) % 4294967296) * 125613361 % 4294967296 / 134217728 = (idx : Int))
    (hi : idx < 32) (hk : k < 32) (hcell : w.cell? ⟨0, idx, none⟩ = some (.int .u8 k)) :
    Calls Tryd.prog 33 #[.int .u32 x] w fun e w' => e = .returned (.int .i64 k) ∧ w = w' := by
  go_enter Tryd.func33, Tryd.ntmps33
  go_wp2_with (simp only [key])
  go_ret
  exact ⟨rfl, rfl⟩
theorem tz_any (x : Nat) (hx : x < 4294967296) (h0 : x ≠ 0) (w : World) (hT : TabL w) : Calls Tryd.prog 33 #[.int .u32 x] w fun e w' => e = .returned (.int .i64 (Lib.ctz 32 x)) ∧ w = w' := by
  obtain ⟨hlow, hk⟩ := Lib.lowest_bit 32 x h0 hx
  obtain ⟨hi, htab⟩ := Lib.deBruijn32_at _ hk
  have hcell := hT _ hi
  rw [htab] at hcell
  exact tz_core x _ _ w (by simp; omega) (tz_key x _ hx h0 hlow) hi hk hcell

/-! ### First -/
def firstV (r : Rws) : Value := match rfirst r with | some x => .tuple #[.int .i64 (x : Int), .bool true] | none => .tuple #[.int .i64 0, .bool false]
set_option maxRecDepth 100000 in
set_option maxHeartbeats 2000000 in
theorem first_any {w : World} {b : Nat} {r : Rws} (h : RQ w b r) (hT : TabL w) : Calls Tryd.prog 19 #[.pointer (some ⟨b, 0, none⟩)] w fun e w' => e = .returned (firstV r) ∧ ∃ q, w' = w.drewN q := by
  obtain ⟨s, hq, hh⟩ := h.st
  have c1 := hq.cF
  by_cases h0 : s.F = 0
  · have hr : firstV r = .tuple #[.int .i64 0, .bool false] := by unfold firstV; rw [rfirst_none ((hh.none h.ok).1 h0)]
    rw [hr]
    rw [h0] at c1
    clear hq hh h0 hr h
    go_enter Tryd.func19, Tryd.ntmps19
    go_wp2_with fail
    go_ret2
    exact ⟨rfl, 0, rfl⟩
  · obtain ⟨hl, hlt⟩ := hh.low h.ok h0
    obtain ⟨x, rest, hrow⟩ : ∃ x rest, r (Lib.ctz 32 s.F) = x :: rest := by
      have := (low?_some hl).2.1
      cases hr : r (Lib.ctz 32 s.F) with
      | nil => exact absurd hr this
      | cons a b => exact ⟨a, b, rfl⟩
    have hr : firstV r = .tuple #[.int .i64 (x : Int), .bool true] := by unfold firstV; rw [rfirst_of hl hrow]
    rw [hr]
    have cf := hq.cfr _ hlt
    rw [hh.fr _ x rest hrow] at cf
    have hz : ((s.F : Int) == 0) = false := by simp; omega
    have HZ := Lib.hid (fun q => (tz_any s.F hh.f32 h0 (w.drewN q) (hT.below ⟨rfl, rfl, rfl, Nat.le_refl _, fun _ _ => rfl⟩)).mono (R' := fun e w' => e = .returned (.int .i64 (Lib.ctz 32 s.F)) ∧ w' = w.drewN q) fun e w' h => ⟨h.1, h.2.symm⟩)
    have hf := hh.f32
    generalize Lib.ctz 32 s.F = k at *
    clear hq hh h0 hr h hl hrow hT
    go_enter Tryd.func19, Tryd.ntmps19
    go_wp2_with fail
    go_quiet (first | (go_at_call 33; exact Calls.quiet_of_same (HZ.out _)))
    go_wp2_with fail
    go_ret2
    exact ⟨rfl, _, rfl⟩
theorem first_nil (w : World) : Calls Tryd.prog 19 #[.pointer none] w fun e w' => e = .returned (.tuple #[.int .i64 0, .bool false]) ∧ w = w' := by
  go_enter Tryd.func19, Tryd.ntmps19
  go_wp2_with fail
  go_ret2
  exact ⟨rfl, rfl⟩

/-! ### At -/
def rowAt (r : Rws) (l : Int) : List Nat := if 0 ≤ l ∧ l < 32 then r l.toNat else []
theorem Ln.at {R : Nat → Nat → Prop} : ∀ (l : List Nat), Ln R l → ∀ i, i + 1 < l.length → R (l.getD i 0) (l.getD (i + 1) 0)
  | [], _, i, hi => by simp at hi
  | [a], _, i, hi => by simp at hi
  | x :: y :: r, h, 0, _ => h.1
  | x :: y :: r, h, i + 1, hi => by
    have := Ln.at (y :: r) h.2 i (by simpa using hi)
    simpa using this
/-- The tasks of a level, one behind the other, and round to the front one. -/
theorem Holds.round {s : QSt} {r : Rws} (h : Holds s r) {l x : Nat} {rest : List Nat} (e : r l = x :: rest) : ∀ i, i ≤ rest.length → s.bh ((x :: rest).getD i 0) = (rest ++ [x]).getD i 0 := by
  intro i hi
  have hg := h.rg l
  rw [e] at hg
  have hg' : Ln s.R (x :: (rest ++ [x])) := hg
  have := (Ln.at _ hg' i (by simp; omega)).1
  have e1 : (x :: (rest ++ [x])).getD i 0 = (x :: rest).getD i 0 := by
    rw [List.getD_eq_getElem?_getD, List.getD_eq_getElem?_getD, ← List.cons_append, List.getElem?_append_left (by simp; omega)]
  rw [e1] at this
  rw [this]; rfl

set_option maxRecDepth 100000 in
theorem at_none {w : World} {b : Nat} {r : Rws} (h : RQ w b r) (l : Int) (hr : rowAt r l = []) : Calls Tryd.prog 20 #[.pointer (some ⟨b, 0, none⟩), .int .i64 l] w fun e w' => e = .returned (.slice none 0 0) ∧ w = w' := by
  have HL := Lib.hid (islevel_any l w)
  by_cases hl : 0 ≤ l ∧ l < 32
  · have h2 : (decide (0 ≤ l) && decide (l < 32)) = true := by simp; omega
    rw [h2] at HL
    obtain ⟨m, rfl⟩ := Int.eq_ofNat_of_zero_le hl.1
    have HH := Lib.hid (has_rows h m (by omega))
    have hrm : r m = [] := by unfold rowAt at hr; rw [if_pos hl, Int.toNat_natCast] at hr; exact hr
    rw [hrm] at HH
    clear h h2 hl hr hrm
    go_enter Tryd.func20, Tryd.ntmps20
    go_wp2_with fail
    refine HL.out.mono ?_
    rintro e w1 ⟨rfl, rfl⟩
    go_wp2_with fail
    refine HH.out.mono ?_
    rintro e w1 ⟨rfl, rfl⟩
    go_wp2_with fail
    go_ret
    exact ⟨rfl, rfl⟩
  · have h2 : (decide (0 ≤ l) && decide (l < 32)) = false := by simp; omega
    rw [h2] at HL
    clear h h2 hl hr
    go_enter Tryd.func20, Tryd.ntmps20
    go_wp2_with fail
    refine HL.out.mono ?_
    rintro e w1 ⟨rfl, rfl⟩
    go_wp2_with fail
    go_ret
    exact ⟨rfl, rfl⟩
theorem at_nil (l : Int) (w : World) : Calls Tryd.prog 20 #[.pointer none, .int .i64 l] w fun e w' => e = .returned (.slice none 0 0) ∧ w = w' := by
  go_enter Tryd.func20, Tryd.ntmps20
  go_wp2_with fail
  go_ret
  exact ⟨rfl, rfl⟩

def lenS (v : Value) : Nat := match v with | .slice _ n _ => n | _ => 0
theorem getD_append_left {l m : List Nat} {j : Nat} (h : j < l.length) : (l ++ m).getD j 0 = l.getD j 0 := by
  rw [List.getD_eq_getElem?_getD, List.getD_eq_getElem?_getD, List.getElem?_append_left h]
theorem getD_append_end (l : List Nat) (x : Nat) : (l ++ [x]).getD l.length 0 = x := by
  rw [List.getD_eq_getElem?_getD, List.getElem?_append_right (Nat.le_refl _)]; simp
theorem take_next {l : List Nat} {j : Nat} (h : j < l.length) : l.take j ++ [l.getD j 0] = l.take (j + 1) := by
  rw [List.take_add_one, List.getElem?_eq_getElem h, List.getD_eq_getElem?_getD, List.getElem?_eq_getElem h]; rfl
theorem getD_mem {l : List Nat} {j : Nat} (h : j < l.length) : l.getD j 0 ∈ l := by
  rw [List.getD_eq_getElem?_getD, List.getElem?_eq_getElem h]; exact List.getElem_mem h

set_option maxRecDepth 100000 in
set_option maxHeartbeats 4000000 in
theorem at_some {w : World} {b : Nat} {r : Rws} (h : RQ w b r) (m : Nat) (hm : m < 32) (x : Nat) (rest : List Nat) (hrow : r m = x :: rest) :
    Calls Tryd.prog 20 #[.pointer (some ⟨b, 0, none⟩), .int .i64 m] w fun e w' => ∃ ao cap, e = .returned (.slice ao (rest.length + 1) cap) ∧ OwnI w' w.heap.size (.slice ao (rest.length + 1) cap) (x :: rest) ∧ Below w.heap.size w w' := by
  have HL := Lib.hid (islevel_any m w)
  have h2 : (decide (0 ≤ (m : Int)) && decide ((m : Int) < 32)) = true := by simp; omega
  rw [h2] at HL
  have HH := Lib.hid (has_rows h m hm)
  rw [hrow] at HH
  obtain ⟨s, hq, hh⟩ := h.st
  have cf := hq.cfr m hm
  rw [hh.fr m x rest hrow] at cf
  have hnd := h.ok.nd m
  rw [hrow] at hnd
  have hlen : rest.length + 1 ≤ 64 := by have := h.ok.row_le m; rw [hrow] at this; simpa using this
  have ht : ∀ y ∈ x :: rest, y < 64 := fun y hy => h.ok.tk m y (by rw [hrow]; exact hy)
  have HR := Lib.hid (hh.round hrow)
  have c0 := hq.cbh x (ht x (by simp))
  have hx64 := ht x (by simp)
  have HQ := Lib.hid hq
  have HT := Lib.hid ht
  have hb0 := HR.out 0 (Nat.zero_le _)
  rw [show (x :: rest).getD 0 0 = x from rfl] at hb0
  rw [hb0] at c0
  have HN := Lib.hid hnd
  clear h h2 hrow hq hh hnd ht hb0
  have hx0 : (rest ++ [x]).getD 0 0 < 64 := by
    cases rest with
    | nil => exact hx64
    | cons y ys => exact HT.out y (by simp)
  obtain ⟨y0, hy0⟩ : ∃ y, (rest ++ [x]).getD 0 0 = y := ⟨_, rfl⟩
  rw [hy0] at c0 hx0
  have HY := Lib.hid hy0
  clear hy0
  obtain ⟨D, hD⟩ : ∃ D, w.heap.size = D := ⟨_, rfl⟩
  obtain ⟨w1, e1⟩ : ∃ w1, w1 = w.alloc (.cells #[.int .i64 (x : Int)] 3) := ⟨_, rfl⟩
  obtain ⟨s1, n1, b1⟩ := new_size e1
  have O1 := Lib.hid (show OwnI w1 w.heap.size (.slice (some ⟨D, 0, none⟩) 1 1) [x] by rw [e1]; exact ownI_lit w x D hD.symm)
  have B1 := Lib.hid b1
  have HD := Lib.hid hD
  have c0' := cell_kept b1 c0
  clear hD n1 b1 s1
  go_enter Tryd.func20, Tryd.ntmps20
  go_wp2_with fail
  refine HL.out.mono ?_
  rintro e w1' ⟨rfl, rfl⟩
  go_wp2_with fail
  refine HH.out.mono ?_
  rintro e w1' ⟨rfl, rfl⟩
  go_upto_region 5 with fail
  rw [← e1, HD.out]
  clear e1 c0 cf
  go_wp2_with fail
  go_loopw [6, 7] (fun v y wr => ∃ (j : Nat) (ao : Option Addr) (cap : Nat), j ≤ rest.length ∧ y = .int .i64 (((rest ++ [x]).getD j 0 : Nat) : Int) ∧ v = .slice ao (j + 1) cap ∧ OwnI wr w.heap.size (.slice ao (j + 1) cap) (x :: rest.take j) ∧ Below w.heap.size w wr) (fun v _ _ => 100 - lenS v)
  case atStart => exact ⟨0, _, _, Nat.zero_le _, by rw [HY.out], rfl, by simpa using O1.out, B1.out⟩
  case round =>
    clear O1 B1 c0'
    obtain ⟨j, ao, cap, hj, rfl, rfl, hO, hB⟩ := hrel
    have HO := Lib.hid hO
    have HB := Lib.hid hB
    clear hO hB
    by_cases hlt : j < rest.length
    · rw [getD_append_left hlt] at *
      have hy64 : rest.getD j 0 < 64 := HT.out _ (List.mem_cons_of_mem _ (getD_mem hlt))
      have hne : (((rest.getD j 0 : Nat) : Int) != (x : Int)) = true := by
        have := (List.nodup_cons.1 HN.out).1
        have h2 := getD_mem hlt
        generalize rest.getD j 0 = q at *
        have hqx : q ≠ x := fun e => this (e ▸ h2)
        simp; omega
      have HR1 := Lib.hid (HR.out (j + 1) hlt)
      have HTk := Lib.hid (take_next hlt)
      have hjl := Lib.hid (show (x :: rest.take j).length = j + 1 by simp; omega)
      obtain ⟨y, hy⟩ : ∃ y, rest.getD j 0 = y := ⟨_, rfl⟩
      have hye : (x :: rest).getD (j + 1) 0 = y := by rw [← hy]; rfl
      rw [hye] at HR1
      obtain ⟨z, hz⟩ : ∃ z, (rest ++ [x]).getD (j + 1) 0 = z := ⟨_, rfl⟩
      rw [hz] at HR1
      have HZ := Lib.hid hz
      clear hz
      rw [hy] at hne hy64 HTk
      simp only [hy]
      clear hy hye
      have HB2 := Lib.hid (below_on HB.out (below_box (.cells #[.int .i64 (y : Int)] 3)))
      have hj64 : j + 1 ≤ 1000000 := by omega
      go_wp2_with (at_builtin; refine wpList_pushI rfl _ _ rfl w.heap.size _ rfl (x :: rest.take j) ?h ?hB (j + 1) hjl.out _ 1 y rfl ?hc hj64 ?_)
      case h => exact HO.out.below (below_box _)
      case hB => have := HB2.out.size; exact this
      case hc => exact lit_int _ y _ (by simp)
      intro ao7 cap7 w7 hA
      have hB7 : Below w.heap.size w w7 := HB2.out.trans (hA.only.below HB2.out.size (fun k hk => (HO.out.lt k hk).1))
      have c7 := (HQ.out.below hB7).cbh y hy64
      rw [HR1.out] at c7
      have HB7 := Lib.hid hB7
      have HO7 := Lib.hid hA.row
      clear hA hB7
      go_wp2_with fail
      go_roundw
      case rel =>
        refine ⟨j + 1, _, _, hlt, by rw [HZ.out], rfl, ?_, HB7.out⟩
        rw [← HTk.out]
        exact HO7.out
      case measure => simp [lenS]; omega
    · obtain rfl : j = rest.length := by omega
      rw [getD_append_end] at *
      have hne : ((x : Int) != (x : Int)) = false := by simp
      have HO2 := Lib.hid (show OwnI wr w.heap.size (.slice ao (rest.length + 1) cap) (x :: rest) by have := HO.out; rw [List.take_length] at this; exact this)
      go_wp2_with fail
      go_ret
      exact ⟨ao, cap, rfl, HO2.out, HB.out⟩
theorem at_any {w : World} {b : Nat} {r : Rws} (h : RQ w b r) (l : Int) :
    Calls Tryd.prog 20 #[.pointer (some ⟨b, 0, none⟩), .int .i64 l] w fun e w' => ∃ ao cap, e = .returned (.slice ao (rowAt r l).length cap) ∧ OwnI w' w.heap.size (.slice ao (rowAt r l).length cap) (rowAt r l) ∧ Below w.heap.size w w' := by
  cases hr : rowAt r l with
  | nil =>
    refine (at_none h l hr).mono ?_
    rintro e w' ⟨rfl, rfl⟩
    exact ⟨none, 0, rfl, ownR_nil, Below.refl _ _⟩
  | cons x rest =>
    have hl : 0 ≤ l ∧ l < 32 := by
      unfold rowAt at hr
      split at hr
      · assumption
      · cases hr
    unfold rowAt at hr
    rw [if_pos hl] at hr
    obtain ⟨m, rfl⟩ := Int.eq_ofNat_of_zero_le hl.1
    exact at_some h m (by omega) x rest hr

end Go.Proofs.YtdcadiphebcmbaaDoor
