/-
  The document's queues (taffrailref14): 32 rows of numbers in a block; a row without a task, Level, First, Len, and whether two rows are the same. No condition.
-/
import Derived.Test.YtdcadiphebcmbaaDoorRy2
import Derived.Test.YtdcadiphebcmbaaDoorRy6
import Derived.Test.YtdcadiphebcmbaaDoorRows
import Derived.BigRegion
import Derived.BigQuiet
import Derived.Deep.RegionWith
import Derived.Deep.DeepCutAuto
import Derived.Deep.WholeRow
namespace Go.Proofs.YtdcadiphebcmbaaDoor
open Go Go.RowKit
set_option linter.unusedVariables false
set_option linter.unusedSimpArgs false

/-- A row without a task. -/
def withoutL (l : List Nat) (t : Int) : List Nat := l.filter fun x => decide ((x : Int) ≠ t)
theorem withoutL_len {l : List Nat} {t : Int} : (withoutL l t).length = l.length ↔ ∀ x ∈ l, (x : Int) ≠ t := by
  unfold withoutL
  rw [List.length_filter_eq_length_iff]
  simp
theorem withoutL_le (l : List Nat) (t : Int) : (withoutL l t).length ≤ l.length := List.length_filter_le _ _
theorem withoutL_nat (l : List Nat) (t : Nat) : withoutL l (t : Int) = l.filter (· != t) := by
  unfold withoutL
  congr 1
  funext x
  exact bool_eq (by simp; omega)
theorem withoutL_next {l : List Nat} {j : Nat} (h : j < l.length) (t : Int) : withoutL (l.take (j + 1)) t = withoutL (l.take j) t ++ (if (l[j] : Int) = t then [] else [l[j]]) := by
  unfold withoutL
  rw [List.take_add_one, List.getElem?_eq_getElem h, List.filter_append]
  congr 1
  simp only [Option.toList_some, List.filter_cons, List.filter_nil]
  by_cases e : (l[j] : Int) = t
  · rw [if_pos e, if_neg (by simpa using e)]
  · rw [if_neg e, if_pos (by simpa using e)]

set_option maxRecDepth 100000 in
set_option maxHeartbeats 4000000 in
theorem without_any {w : World} (ao : Option Addr) (cap : Nat) (l : List Nat) (h : SeenN w ao cap l) (hl : l.length ≤ 1000000) (t : Int) :
    Calls Tryd.prog 29 #[.slice ao l.length cap, .int .i64 t] w fun e w' => ∃ bo bc, e = .returned (.slice bo (withoutL l t).length bc) ∧ OwnI w' w.heap.size (.slice bo (withoutL l t).length bc) (withoutL l t) ∧ Below w.heap.size w w' := by
  obtain ⟨D, hD⟩ : ∃ D, w.heap.size = D := ⟨_, rfl⟩
  obtain ⟨w1, e1⟩ : ∃ w1, w1 = w.alloc (.cells #[] 3) := ⟨_, rfl⟩
  obtain ⟨s1, n1, b1⟩ := new_size e1
  have O1 := Lib.hid (show OwnI w1 w.heap.size (.slice (some ⟨D, 0, none⟩) 0 0) [] by rw [e1]; exact ownI_lit0 w D hD.symm)
  have B1 := Lib.hid b1
  have HD := Lib.hid hD
  have H := Lib.hid h
  clear hD n1 b1 s1 h
  go_enter Tryd.func29, Tryd.ntmps29
  go_upto_region 2 with fail
  rw [← e1, HD.out]
  clear e1
  obtain ⟨M, hM⟩ : ∃ M, l.length = M := ⟨_, rfl⟩
  have HM := Lib.hid hM
  rw [hM] at hl
  simp only [hM]
  clear hM
  go_wp2_with fail
  go_loopw [5, 6] (fun v i wr => ∃ (j : Nat) (bo : Option Addr) (bc m : Nat), j ≤ M ∧ i = .int .i64 j ∧ v = .slice bo m bc ∧ m = (withoutL (l.take j) t).length ∧ OwnI wr w.heap.size (.slice bo m bc) (withoutL (l.take j) t) ∧ Below w.heap.size w wr) (fun _ i _ => M - (intOf i).toNat)
  case atStart => exact ⟨0, _, _, 0, Nat.zero_le _, rfl, rfl, rfl, O1.out, B1.out⟩
  case round =>
    clear O1 B1
    obtain ⟨j, bo, bc, m, hj, rfl, rfl, hm, hO, hB⟩ := hrel
    have HO := Lib.hid hO
    have HB := Lib.hid hB
    have Hm := Lib.hid hm
    clear hO hB
    by_cases hlt : j < M
    · have hlt' : j < l.length := by rw [HM.out]; exact hlt
      obtain ⟨b, off, rfl, hbw, c0⟩ := seenN_at (H.out.below HB.out) j hlt'
      have hnx := withoutL_next hlt' t
      have hm1 : m ≤ j := by
        have := withoutL_le (l.take j) t
        rw [List.length_take] at this
        omega
      generalize l[j] = x at *
      by_cases he : (x : Int) = t
      · rw [if_pos he, List.append_nil] at hnx
        have hne : ((x : Int) != t) = false := by simp [he]
        have HNX := Lib.hid hnx
        clear hnx hm he
        go_wp2_with fail
        go_roundw
        case rel => exact ⟨j + 1, _, _, m, hlt, by go_num, rfl, by rw [HNX.out]; exact Hm.out, by rw [HNX.out]; exact HO.out, HB.out⟩
        case measure => simp [intOf]; omega
      · rw [if_neg he] at hnx
        have hne : ((x : Int) != t) = true := by simp [he]
        have HNX := Lib.hid hnx
        have HB2 := Lib.hid (below_on HB.out (below_box (.cells #[.int .i64 (x : Int)] 3)))
        have hm2 : m ≤ 1000000 := by omega
        clear hnx hm he
        go_wp2_with (at_builtin; refine wpList_pushI rfl _ _ rfl w.heap.size _ rfl (withoutL (l.take j) t) ?h ?hB m Hm.out.symm _ 1 x rfl ?hc hm2 ?_)
        case h => exact HO.out.below (below_box _)
        case hB => have := HB2.out.size; exact this
        case hc => exact lit_int _ x _ (by simp)
        intro ao7 cap7 w7 hA
        have hB7 : Below w.heap.size w w7 := HB2.out.trans (hA.only.below HB2.out.size (fun k hk => (HO.out.lt k hk).1))
        have HB7 := Lib.hid hB7
        have HO7 := Lib.hid hA.row
        clear hA hB7
        go_wp2_with fail
        go_roundw
        case rel => exact ⟨j + 1, _, _, m + 1, hlt, by go_num, rfl, by rw [HNX.out, List.length_append, ← Hm.out]; rfl, by rw [HNX.out]; exact HO7.out, HB7.out⟩
        case measure => simp [intOf]; omega
    · obtain rfl : j = M := by omega
      have e : l.take j = l := List.take_of_length_le (by rw [HM.out]; exact Nat.le_refl _)
      rw [e] at HO Hm
      go_wp2_with fail
      go_ret
      exact ⟨bo, bc, by rw [← Hm.out]; rfl, by rw [← Hm.out]; exact HO.out, HB.out⟩

/-! ### The rows in a block -/
/-- The document's queues in block m, their rows' values told; all that is theirs lies from block B on. -/
structure DV (w : World) (m B : Nat) (vs : Nat → Value) (r : Rws) : Prop where
  blk : ∃ c : Array Value, w.heap[m]? = some (.cells c 36 (0, 0)) ∧ c.size = 32 ∧ ∀ l, l < 32 → c[l]? = some (vs l)
  row : ∀ l, l < 32 → OwnI w B (vs l) (r l)
  nm : ∀ l, l < 32 → (vs l).ownBlock ≠ some m
  nn : ∀ l k, l < 32 → k < 32 → l ≠ k → ∀ q, (vs l).ownBlock = some q → (vs k).ownBlock ≠ some q
  base : B ≤ m
  ok : ROk r
def DQ (w : World) (m B : Nat) (r : Rws) : Prop := ∃ vs : Nat → Value, DV w m B vs r
theorem DV.lt {w : World} {m B : Nat} {vs : Nat → Value} {r : Rws} (h : DV w m B vs r) : m < w.heap.size := by obtain ⟨c, h1, _⟩ := h.blk; exact blk_lt h1
theorem DV.only {w w' : World} {m B : Nat} {vs : Nat → Value} {r : Rws} {S : Nat → Prop} (h : DV w m B vs r) (ho : Only w w' S) (hS : ∀ k, S k → k < B) : DV w' m B vs r := by
  have hlt := h.lt
  obtain ⟨c, h1, h2, h3⟩ := h.blk
  have hb := h.base
  refine ⟨⟨c, (ho.block m hlt (fun e => by have := hS m e; omega)).trans h1, h2, h3⟩, fun l hl => (h.row l hl).only ho fun k hk e => ?_, h.nm, h.nn, hb, h.ok⟩
  have := ((h.row l hl).lt k hk).1
  have := hS k e
  omega
theorem DV.below {w w' : World} {m B : Nat} {vs : Nat → Value} {r : Rws} (h : DV w m B vs r) (hb : Below w.heap.size w w') : DV w' m B vs r := h.only (Only.of_below hb (fun _ => False)) (fun _ e => e.elim)
theorem DQ.lt {w : World} {m B : Nat} {r : Rws} (h : DQ w m B r) : m < w.heap.size := by obtain ⟨vs, h⟩ := h; exact h.lt
theorem DQ.ok {w : World} {m B : Nat} {r : Rws} (h : DQ w m B r) : ROk r := by obtain ⟨vs, h⟩ := h; exact h.ok
theorem DQ.base {w : World} {m B : Nat} {r : Rws} (h : DQ w m B r) : B ≤ m := by obtain ⟨vs, h⟩ := h; exact h.base
theorem DQ.only {w w' : World} {m B : Nat} {r : Rws} {S : Nat → Prop} (h : DQ w m B r) (ho : Only w w' S) (hS : ∀ k, S k → k < B) : DQ w' m B r := by
  obtain ⟨vs, h⟩ := h
  exact ⟨vs, h.only ho hS⟩
theorem DQ.below {w w' : World} {m B : Nat} {r : Rws} (h : DQ w m B r) (hb : Below w.heap.size w w') : DQ w' m B r := h.only (Only.of_below hb (fun _ => False)) (fun _ e => e.elim)
/-- Which blocks the document's calls may turn: that of the queues, and rows of numbers from block B on. -/
def IsI (w : World) (k : Nat) : Prop := ∃ cs, w.heap[k]? = some (.cells cs 3 (0, 0))
def FO (m B : Nat) (w w' : World) : Prop := Only w w' (fun k => k = m ∨ (B ≤ k ∧ IsI w k))
theorem FO.refl (m B : Nat) (w : World) : FO m B w w := Only.refl _ _
theorem FO.of_below {w w' : World} (m B : Nat) (h : Below w.heap.size w w') : FO m B w w' := Only.of_below h _
theorem FO.trans {m B : Nat} {w w1 w2 : World} (h : FO m B w w1) (g : FO m B w1 w2) : FO m B w w2 := by
  refine Only.trans (S := fun k => k = m ∨ (B ≤ k ∧ IsI w k)) h g fun k hk hT => ?_
  rcases hT with e | ⟨e1, cs, e2⟩
  · exact .inl e
  · by_cases hn : k = m ∨ (B ≤ k ∧ IsI w k)
    · exact hn
    · exact .inr ⟨e1, cs, (h.block k hk hn).symm.trans e2⟩
theorem FO.below {m B : Nat} {w w' : World} (h : FO m B w w') (hm : B ≤ m) (hw : B ≤ w.heap.size) : Below B w w' :=
  Only.below h hw (by
    rintro k (e | e)
    · omega
    · exact e.1)
/-- A row put in the place of the l-th one: the old one, grown, or a new one. -/
theorem DV.put {w w' : World} {m B l : Nat} {vs : Nat → Value} {r : Rws} (h : DV w m B vs r) (hl : l < 32) {v' : Value} {x : List Nat} (hr : OwnI w' B v' x) (ho : Only w w' (fun k => (vs l).ownBlock = some k)) (hn : ∀ k, v'.ownBlock = some k → (vs l).ownBlock = some k ∨ w.heap.size ≤ k) (hok : ROk (setR r l x)) :
    DV (w'.setCell ⟨m, l, none⟩ v') m B (fun k => if k = l then v' else vs k) (setR r l x) ∧ FO m B w (w'.setCell ⟨m, l, none⟩ v') := by
  have hlt := h.lt
  have hbm := h.base
  obtain ⟨c, h1, h2, h3⟩ := h.blk
  have hb := ho.block m hlt (h.nm l hl)
  have hne : v'.ownBlock ≠ some m := fun e => by
    rcases hn m e with e1 | e1
    · exact h.nm l hl e1
    · omega
  have hS : Only w' (w'.setCell ⟨m, l, none⟩ v') (fun k => k = m) := Only.setCell w' m l v' (fun k => k = m) rfl
  have hold : ∀ k, k < 32 → k ≠ l → OwnI w' B (vs k) (r k) := fun k hk hkl => (h.row k hk).only ho fun q hq e => h.nn k l hk hl hkl q hq e
  refine ⟨⟨⟨c.setIfInBounds l v', heap_setCell_same w' m l c _ v' (hb.trans h1), by simp [h2], fun k hk => ?_⟩, fun k hk => ?_, fun k hk => ?_, fun a b ha hb' hab q hq => ?_, hbm, hok⟩, ?_⟩
  · rw [Array.getElem?_setIfInBounds]
    by_cases e : l = k
    · subst e; rw [if_pos rfl, if_pos (by omega)]; simp
    · rw [if_neg e, if_neg (Ne.symm e)]; exact h3 k hk
  · by_cases e : k = l
    · subst e
      simp only [if_true, setR_same]
      exact hr.only hS fun q hq e => hne (by rw [hq, e])
    · simp only [if_neg e, setR_other _ _ e]
      exact (hold k hk e).only hS fun q hq e => h.nm k hk (by rw [hq, e])
  · by_cases e : k = l
    · simp only [e, if_true]; exact hne
    · simp only [if_neg e]; exact h.nm k hk
  · by_cases ea : a = l
    · simp only [ea, if_true] at hq
      have eb : b ≠ l := fun e => hab (ea.trans e.symm)
      simp only [if_neg eb]
      intro e
      rcases hn q hq with e1 | e1
      · exact h.nn l b hl hb' (Ne.symm eb) q e1 e
      · have := ((h.row b hb').lt q e).2; omega
    · simp only [if_neg ea] at hq
      by_cases eb : b = l
      · simp only [eb, if_true]
        intro e
        rcases hn q e with e1 | e1
        · exact h.nn l a hl ha (fun e => ea e.symm) q e1 hq
        · have := ((h.row a ha).lt q hq).2; omega
      · simp only [if_neg eb]; exact h.nn a b ha hb' hab q hq
  · refine Only.trans (S := fun k => k = m ∨ (B ≤ k ∧ IsI w k)) (ho.mono fun k _ e => .inr ⟨((h.row l hl).lt k e).1, (h.row l hl).kind e⟩) hS (fun k _ e => .inl e)
/-- The l-th row's cell, and what it holds. -/
theorem DQ.row {w : World} {m B : Nat} {r : Rws} (h : DQ w m B r) (l : Nat) (hl : l < 32) : ∃ ao cap, w.cell? ⟨m, l, none⟩ = some (.slice ao (r l).length cap) ∧ SeenN w ao cap (r l) := by
  obtain ⟨vs, h⟩ := h
  obtain ⟨c, h1, h2, h3⟩ := h.blk
  obtain ⟨ao, cap, e, hs, _⟩ := (h.row l hl).seen w1i_len
  refine ⟨ao, cap, ?_, hs⟩
  simp [World.cell?, h1, h3 l hl, e]

theorem DV.cell {w : World} {m B : Nat} {vs : Nat → Value} {r : Rws} (h : DV w m B vs r) (l : Nat) (hl : l < 32) : w.cell? ⟨m, l, none⟩ = some (vs l) ∧ w.frozen? ⟨m, l, none⟩ = false := by
  obtain ⟨c, h1, h2, h3⟩ := h.blk
  exact ⟨by simp [World.cell?, h1, h3 l hl], by simp [World.frozen?, h1]⟩

set_option maxRecDepth 100000 in
theorem rlen_any {w : World} {m B : Nat} {r : Rws} (h : DQ w m B r) : Calls Tryd.prog 31 #[.pointer (some ⟨m, 0, none⟩)] w fun e w' => e = .returned (.int .i64 (rlen r)) ∧ w = w' := by
  have HR := Lib.hid h.row
  have hrow : ∀ l, (r l).length ≤ 64 := h.ok.row_le
  have HROW := Lib.hid hrow
  clear h hrow
  go_enter Tryd.func31, Tryd.ntmps31
  go_wp2_with fail
  go_loopw [3, 4] (fun n i wr => ∃ j k : Nat, j ≤ 32 ∧ k ≤ j * 64 ∧ i = .int .i64 j ∧ n = .int .i64 k ∧ k = ((List.range j).map fun l => (r l).length).sum ∧ w = wr) (fun _ i _ => 32 - (intOf i).toNat)
  case atStart => exact ⟨0, 0, Nat.zero_le _, Nat.le_refl _, rfl, rfl, rfl, rfl⟩
  case round =>
    obtain ⟨j, k, hj, hk, rfl, rfl, hs, rfl⟩ := hrel
    have Hs := Lib.hid hs
    clear hs
    by_cases hlt : j < 32
    · have hd : decide ((j : Int) < 32) = true := by simp; omega
      obtain ⟨ao, cap, c0, -⟩ := HR.out j hlt
      have hlen := HROW.out j
      have HS2 := Lib.hid (show k + (r j).length = ((List.range (j + 1)).map fun l => (r l).length).sum by rw [List.range_succ, List.map_append, List.sum_append, ← Hs.out]; simp)
      generalize (r j).length = z at *
      go_wp2_with fail
      go_roundw
      case rel => exact ⟨j + 1, k + z, hlt, by omega, by go_num, by go_num, HS2.out, by trivial⟩
      case measure => simp [intOf]; omega
    · obtain rfl : j = 32 := by omega
      have Hs2 := Lib.hid (show k = rlen r from Hs.out)
      go_wp2_with fail
      go_ret
      exact ⟨by rw [← Hs2.out]; rfl, rfl⟩

def firstI (r : Rws) : Int := match rfirst r with | some x => x | none => -1
set_option maxRecDepth 100000 in
theorem rfirst_any {w : World} {m B : Nat} {r : Rws} (h : DQ w m B r) : Calls Tryd.prog 30 #[.pointer (some ⟨m, 0, none⟩)] w fun e w' => e = .returned (.int .i64 (firstI r)) ∧ w = w' := by
  have HR := Lib.hid h.row
  clear h
  go_enter Tryd.func30, Tryd.ntmps30
  go_wp2_with fail
  go_loopw [3] (fun i wr => ∃ j : Nat, j ≤ 32 ∧ i = .int .i64 j ∧ (∀ k, k < j → r k = []) ∧ w = wr) (fun i _ => 32 - (intOf i).toNat)
  case atStart => exact ⟨0, Nat.zero_le _, rfl, fun k hk => absurd hk (by omega), rfl⟩
  case round =>
    obtain ⟨j, hj, rfl, hb, rfl⟩ := hrel
    have Hb := Lib.hid hb
    clear hb
    by_cases hlt : j < 32
    · have hd : decide ((j : Int) < 32) = true := by simp; omega
      obtain ⟨ao, cap, c0, hs⟩ := HR.out j hlt
      cases hr : r j with
      | nil =>
        rw [hr] at c0 hs
        have hz : (([] : List Nat).length : Int) = 0 := rfl
        have HB2 := Lib.hid (show ∀ k, k < j + 1 → r k = [] from fun k hk => by
          rcases Nat.lt_or_ge k j with h | h
          · exact Hb.out k h
          · rw [show k = j by omega]; exact hr)
        simp only [List.length_nil] at c0
        clear hs hr
        go_wp2_with fail
        go_roundw
        case rel => exact ⟨j + 1, hlt, by go_num, HB2.out, by trivial⟩
        case measure => simp [intOf]; omega
      | cons x rest =>
        rw [hr] at c0 hs
        obtain ⟨b, off, rfl, hbw, c1⟩ := seenN_at hs 0 (by simp)
        have HF := Lib.hid (show firstI r = x by unfold firstI; rw [rfirst_of (low?_of hlt (by rw [hr]; simp) Hb.out) hr])
        simp only [Nat.add_zero, List.getElem_cons_zero] at c1
        have hlen : (x :: rest).length = rest.length + 1 := rfl
        obtain ⟨z, hz⟩ : ∃ z, (x :: rest).length = z := ⟨_, rfl⟩
        rw [hz] at c0 hlen
        have hzp : decide ((0 : Int) < (z : Int)) = true := by simp; omega
        have hzi : (0 : Int) < (z : Int) := by omega
        clear hs hr hz hlen
        go_wp2_with fail
        go_ret
        exact ⟨by rw [HF.out]; rfl, rfl⟩
    · obtain rfl : j = 32 := by omega
      have HF := Lib.hid (show firstI r = -1 by unfold firstI; rw [rfirst_none (low?_none.2 Hb.out)])
      go_wp2_with fail
      go_ret
      exact ⟨by rw [HF.out]; rfl, rfl⟩

/-! ### Two rows -/
theorem drewN_more (w : World) (q n : Nat) : (w.drewN q).drewN n = w.drewN (q + n) := by simp [World.drewN, Nat.add_assoc, Nat.add_comm]; omega
set_option maxRecDepth 100000 in
set_option maxHeartbeats 1000000 in
theorem ints_any {w : World} (ao : Option Addr) (cap : Nat) (l : List Nat) (h : SeenN w ao cap l) (bo : Option Addr) (bc : Nat) (k : List Nat) (g : SeenN w bo bc k) (hl : l.length ≤ 1000000) :
    Calls Tryd.prog 21 #[.slice ao l.length cap, .slice bo k.length bc] w fun e w' => e = .returned (.bool (decide (l = k))) ∧ ∃ q, w' = w.drewN q := by
  have H := Lib.hid h
  have G := Lib.hid g
  clear h g
  by_cases hlen : l.length = k.length
  · have hd : ((l.length : Int) != (k.length : Int)) = false := by simp; omega
    have HLen := Lib.hid hlen
    obtain ⟨M, hM⟩ : ∃ M, l.length = M := ⟨_, rfl⟩
    obtain ⟨M2, hM2⟩ : ∃ M2, k.length = M2 := ⟨_, rfl⟩
    have HM := Lib.hid hM
    have HM2 := Lib.hid hM2
    rw [hM] at hd hl
    rw [hM2] at hd
    simp only [hM, hM2]
    clear hM hM2 hlen
    go_enter Tryd.func21, Tryd.ntmps21
    go_wp2_with fail
    go_loopw [5] (fun i wr => ∃ j q : Nat, j ≤ M ∧ i = .int .i64 j ∧ l.take j = k.take j ∧ wr = w.drewN q) (fun i _ => M - (intOf i).toNat)
    case atStart => exact ⟨0, 0, Nat.zero_le _, rfl, rfl, rfl⟩
    case round =>
      obtain ⟨j, q, hj, rfl, hb, hw⟩ := hrel
      have HW := Lib.hid hw
      have HH := Lib.hid (show SeenN wr ao cap l from by rw [hw]; exact H.out.drewN q)
      have GG := Lib.hid (show SeenN wr bo bc k from by rw [hw]; exact G.out.drewN q)
      clear hw
      have Hb := Lib.hid hb
      clear hb
      by_cases hlt : j < M
      · have hjl : j < l.length := by rw [HM.out]; exact hlt
        have hjk : j < k.length := by rw [← HLen.out, HM.out]; exact hlt
        obtain ⟨b1, o1, rfl, hw1, c1⟩ := seenN_at HH.out j hjl
        obtain ⟨b2, o2, rfl, hw2, c2⟩ := seenN_at GG.out j hjk
        have hjk2 : (j : Int) < (M2 : Int) := by rw [← HM2.out]; omega
        by_cases he : l[j] = k[j]
        · have HB2 := Lib.hid (show l.take (j + 1) = k.take (j + 1) by rw [List.take_add_one, List.take_add_one, Hb.out, List.getElem?_eq_getElem hjl, List.getElem?_eq_getElem hjk, he])
          generalize l[j] = x at *
          generalize k[j] = y at *
          subst he
          have hne : ((x : Int) != (x : Int)) = false := by simp
          go_wp2_with fail
          go_quiet (fail)
          go_wp2_with fail
          go_roundw
          case rel => exact ⟨j + 1, q + nq, hlt, by go_num, HB2.out, by rw [HW.out]; exact drewN_more w q nq⟩
          case measure => simp [intOf]; omega
        · have HE := Lib.hid (show decide (l = k) = false by
            simp
            intro e
            subst e
            exact he rfl)
          generalize l[j] = x at *
          generalize k[j] = y at *
          have hne : ((x : Int) != (y : Int)) = true := by simp; omega
          clear he
          go_wp2_with fail
          go_quiet (fail)
          go_wp2_with fail
          go_ret
          exact ⟨by rw [HE.out]; rfl, q + nq, by rw [HW.out]; exact drewN_more w q nq⟩
      · obtain rfl : j = M := by omega
        have HE := Lib.hid (show decide (l = k) = true by
          have := Hb.out
          rw [List.take_of_length_le (by rw [HM.out]; exact Nat.le_refl _), List.take_of_length_le (by rw [← HLen.out, HM.out]; exact Nat.le_refl _)] at this
          simpa using this)
        go_wp2_with fail
        go_ret
        exact ⟨by rw [HE.out]; rfl, q, HW.out⟩
  · have hd : ((l.length : Int) != (k.length : Int)) = true := by simp; omega
    have HE := Lib.hid (show decide (l = k) = false by simp; intro e; exact hlen (by rw [e]))
    clear hlen
    go_enter Tryd.func21, Tryd.ntmps21
    go_wp2_with fail
    go_ret
    exact ⟨by rw [HE.out]; rfl, 0, rfl⟩

end Go.Proofs.YtdcadiphebcmbaaDoor
