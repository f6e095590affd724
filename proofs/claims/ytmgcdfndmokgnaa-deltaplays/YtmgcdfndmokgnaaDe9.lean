/-
  The document's clocks: Cancel and Tick. Conditions: for Tick, each clock has one tick at least.
-/
import Derived.Test.YtmgcdfndmokgnaaDe8
namespace Go.Proofs.Ytmgcdfndmokgnaa
open Go Go.RowKit
set_option linter.unusedVariables false
set_option linter.unusedSimpArgs false

theorem offD_next {D : List Ck} {j : Nat} (h : j < D.length) (id : Int) : offD (D.take (j + 1)) id = offD (D.take j) id ++ (if ((D[j]).1 : Int) = id then [] else [((D[j]).1, (D[j]).2)]) := by
  unfold offD
  rw [List.take_add_one, List.getElem?_eq_getElem h, List.filter_append]
  congr 1
  simp only [Option.toList_some, List.filter_cons, List.filter_nil]
  by_cases e : ((D[j]).1 : Int) = id
  · rw [if_pos e, if_neg (by simpa using e)]
  · rw [if_neg e, if_pos (by simpa using e)]
theorem offD_le (D : List Ck) (id : Int) : (offD D id).length ≤ D.length := List.length_filter_le _ _
theorem offD_mem {D : List Ck} {id : Int} {c : Ck} (h : c ∈ offD D id) : c ∈ D := (List.mem_filter.1 h).1
theorem tickD_next {D : List Ck} {j : Nat} (h : j < D.length) : tickD (D.take (j + 1)) = tickD (D.take j) ++ (if (D[j]).2 - 1 = 0 then [] else [((D[j]).1, (D[j]).2 - 1)]) := by
  unfold tickD
  rw [List.take_add_one, List.getElem?_eq_getElem h, List.map_append, List.filter_append]
  congr 1
  simp only [Option.toList_some, List.map_cons, List.map_nil, List.filter_cons, List.filter_nil, nilG, dec]
  by_cases e : (D[j]).2 - 1 = 0
  · rw [if_pos e, if_neg (by simpa using e)]
  · rw [if_neg e, if_pos (by simpa using e)]
theorem overD_next {D : List Ck} {j : Nat} (h : j < D.length) : overD (D.take (j + 1)) = overD (D.take j) ++ (if (D[j]).2 - 1 = 0 then [(D[j]).1] else []) := by
  unfold overD
  rw [List.take_add_one, List.getElem?_eq_getElem h, List.map_append, List.filter_append, List.map_append]
  congr 1
  simp only [Option.toList_some, List.map_cons, List.map_nil]
  by_cases e : (D[j]).2 - 1 = 0
  · rw [if_pos e, List.filter_cons_of_pos (by simpa [nilG, dec] using e)]; rfl
  · rw [if_neg e, List.filter_cons_of_neg (by simpa [nilG, dec] using e)]; rfl
theorem tickD_le (D : List Ck) : (tickD D).length ≤ D.length := by
  unfold tickD
  exact Nat.le_trans (List.length_filter_le _ _) (by rw [List.length_map]; exact Nat.le_refl _)
theorem overD_le (D : List Ck) : (overD D).length ≤ D.length := by
  unfold overD
  rw [List.length_map]
  exact Nat.le_trans (List.length_filter_le _ _) (by rw [List.length_map]; exact Nat.le_refl _)
theorem tickD_mem {D : List Ck} {c : Ck} (h : c ∈ tickD D) : ∃ d ∈ D, c.1 = d.1 ∧ c.2 ≤ d.2 := by
  obtain ⟨d, hd, rfl⟩ := List.mem_map.1 (List.mem_filter.1 h).1
  exact ⟨d, hd, rfl, Nat.sub_le _ _⟩
/-- Rows of two kinds lie in two blocks. -/
theorem kinds_apart {α β : Type} {t1 t2 : TypeId} {n1 n2 : Nat} {f1 : α → List Value} {f2 : β → List Value} {w : World} {B1 B2 : Nat} {v1 v2 : Value} {l1 : List α} {l2 : List β} (h1 : OwnR t1 n1 f1 w B1 v1 l1) (h2 : OwnR t2 n2 f2 w B2 v2 l2) (ht : t1 ≠ t2) : ∀ k, v1.ownBlock = some k → v2.ownBlock ≠ some k := by
  intro k e1 e2
  obtain ⟨c1, g1⟩ := h1.kind e1
  obtain ⟨c2, g2⟩ := h2.kind e2
  rw [g1] at g2
  injection g2 with g2
  injection g2 with _ g2 _
  exact ht g2

set_option maxRecDepth 100000 in
set_option maxHeartbeats 4000000 in
theorem rcancel_any {w : World} {m B : Nat} {v : Value} {D : List Ck} (h : RV w m B v D) (hB : B ≤ w.heap.size) (id : Int) :
    Calls Try.prog 12 #[.pointer (some ⟨m, 0, none⟩), .int .i64 id] w fun e w' => e = .returned (.bool (decide ((offD D id).length < D.length))) ∧ ∃ v', RStep B m w w' v v' (offD D id) := by
  have H := Lib.hid h
  obtain ⟨ao, cap, rfl, hs⟩ := h.shape
  have HS := Lib.hid hs
  have hL := h.len
  have hmw := h.lt
  have HBz := Lib.hid hB
  obtain ⟨Z, hZ⟩ : ∃ Z, w.heap.size = Z := ⟨_, rfl⟩
  obtain ⟨w1, e1⟩ : ∃ w1, w1 = w.alloc (.cells #[] 48) := ⟨_, rfl⟩
  obtain ⟨s1, n1, b1⟩ := new_size e1
  have O1 := Lib.hid (show OwnD w1 w.heap.size (.slice (some ⟨Z, 0, none⟩) 0 0) [] by rw [e1]; exact ownD_lit0 w Z hZ.symm)
  have B1 := Lib.hid b1
  have HZ := Lib.hid hZ
  rw [hZ] at hmw
  clear h hs hZ s1 n1 b1 hB
  obtain ⟨M, hM⟩ : ∃ M, D.length = M := ⟨_, rfl⟩
  rw [hM] at hL H
  simp only [hM]
  have HM := Lib.hid hM
  clear hM
  go_enter Try.func12, Try.ntmps12
  go_upto_region 2 with fail
  rw [← e1, HZ.out]
  clear e1
  go_wp2_with fail
  go_loopw [5, 6] (fun d i wr => ∃ (j : Nat) (bo : Option Addr) (bc k : Nat), j ≤ M ∧ i = .int .i64 j ∧ d = .slice bo k bc ∧ k = (offD (D.take j) id).length ∧ OwnD wr w.heap.size (.slice bo k bc) (offD (D.take j) id) ∧ Below w.heap.size w wr) (fun _ i _ => M - (intOf i).toNat)
  case atStart => exact ⟨0, _, _, 0, Nat.zero_le _, rfl, rfl, rfl, O1.out, B1.out⟩
  case round =>
    clear O1 B1
    obtain ⟨j, bo, bc, k, hj, rfl, rfl, hk, hO, hBl⟩ := hrel
    have HO := Lib.hid hO
    have HB := Lib.hid hBl
    have Hk := Lib.hid hk
    have cm := (H.out.below HB.out).cell
    have tm := (H.out.below HB.out).thawed
    clear hO hBl
    by_cases hlt : j < M
    · have hlt' : j < D.length := by rw [HM.out]; exact hlt
      obtain ⟨b, off, rfl, hbw, c0, c1⟩ := seenK_at (SeenR.below HS.out HB.out) j hlt'
      have hnx := offD_next hlt' id
      have hk1 : k ≤ j := by
        have := offD_le (D.take j) id
        rw [List.length_take] at this
        omega
      generalize (D[j]).1 = ci at *
      generalize (D[j]).2 = cg at *
      by_cases he : (ci : Int) = id
      · rw [if_pos he, List.append_nil] at hnx
        have hne : ((ci : Int) != id) = false := by simp [he]
        have HNX := Lib.hid hnx
        clear hnx hk he
        go_wp2_with fail
        go_roundw
        case rel => exact ⟨j + 1, _, _, k, hlt, by go_num, rfl, by rw [HNX.out]; exact Hk.out, by rw [HNX.out]; exact HO.out, HB.out⟩
        case measure => simp [intOf]; omega
      · rw [if_neg he] at hnx
        have hne : ((ci : Int) != id) = true := by simp [he]
        have HNX := Lib.hid hnx
        have HB2 := Lib.hid (below_on HB.out (below_box (.cells #[.int .i64 (ci : Int), .int .i64 (cg : Int)] 48)))
        have hm2 : k ≤ 1000000 := by omega
        clear hnx hk he
        go_wp2_with (at_builtin; refine wpList_pushD rfl _ _ rfl w.heap.size _ rfl (offD (D.take j) id) ?h ?hB k Hk.out.symm _ 1 (ci, cg) rfl ?hc hm2 ?_)
        case h => exact HO.out.below (below_box _)
        case hB => exact HB2.out.size
        case hc => exact lit_due _ ci cg _ (by simp)
        intro a7 k7 w7 hA
        have hB7 : Below w.heap.size w w7 := HB2.out.trans (hA.only.below HB2.out.size (fun q hq => (HO.out.lt q hq).1))
        have HB7 := Lib.hid hB7
        have HO7 := Lib.hid hA.row
        clear hA hB7
        go_wp2_with fail
        go_roundw
        case rel => exact ⟨j + 1, _, _, k + 1, hlt, by go_num, rfl, by rw [HNX.out, List.length_append, ← Hk.out]; rfl, by rw [HNX.out]; exact HO7.out, HB7.out⟩
        case measure => simp [intOf]; omega
    · obtain rfl : j = M := by omega
      have e : D.take j = D := List.take_of_length_le (by rw [HM.out]; exact Nat.le_refl _)
      rw [e] at HO Hk
      have hle := offD_le D id
      rw [← Hk.out, HM.out] at hle
      have hst := H.out.fin (w4 := wr) (HO.out.mono HBz.out) (Only.of_below HB.out _) (fun q hq => .inr (HO.out.lt q hq).1) (by rw [← Hk.out]; omega) (fun c hc => H.out.ok c (offD_mem hc)) (fun c hc => H.out.gap c (offD_mem hc))
      have HST := Lib.hid hst
      have HD := Lib.hid (show decide ((offD D id).length < j) = decide (k < j) by rw [← Hk.out])
      clear hst hk
      go_wp2_with fail
      go_ret
      exact ⟨by rw [HD.out]; rfl, _, HST.out⟩

set_option maxRecDepth 100000 in
set_option maxHeartbeats 8000000 in
theorem rtick_any {w : World} {m B : Nat} {v : Value} {D : List Ck} (h : RV w m B v D) (hB : B ≤ w.heap.size) (h1 : ∀ c ∈ D, 1 ≤ c.2) :
    Calls Try.prog 15 #[.pointer (some ⟨m, 0, none⟩)] w fun e w' => ∃ ao cap, e = .returned (.slice ao (overD D).length cap) ∧ OwnI w' w.heap.size (.slice ao (overD D).length cap) (overD D) ∧ ∃ v', RStep B m w w' v v' (tickD D) := by
  have H := Lib.hid h
  obtain ⟨ao, cap, rfl, hs⟩ := h.shape
  have HS := Lib.hid hs
  have hL := h.len
  have hmw := h.lt
  have HBz := Lib.hid hB
  have H1 := Lib.hid (fun c hc => And.intro (h1 c hc) (h.gap c hc))
  obtain ⟨Z, hZ⟩ : ∃ Z, w.heap.size = Z := ⟨_, rfl⟩
  obtain ⟨w1, e1⟩ : ∃ w1, w1 = w.alloc (.cells #[] 3) := ⟨_, rfl⟩
  obtain ⟨w2, e2⟩ : ∃ w2, w2 = w1.alloc (.cells #[] 48) := ⟨_, rfl⟩
  obtain ⟨s1, n1, b1⟩ := new_size e1
  obtain ⟨s2, n2, b2⟩ := new_size e2
  have O1 := Lib.hid (show OwnI w2 w.heap.size (.slice (some ⟨Z, 0, none⟩) 0 0) [] from OwnR.below (by rw [e1]; exact ownI_lit0 w Z hZ.symm) b2)
  obtain ⟨Z1, hZ1⟩ : ∃ Z1, Z + 1 = Z1 := ⟨_, rfl⟩
  have O2 := Lib.hid (show OwnD w2 w.heap.size (.slice (some ⟨Z1, 0, none⟩) 0 0) [] from OwnR.mono (by rw [e2]; exact ownD_lit0 w1 Z1 (by omega)) (by omega))
  have B1 := Lib.hid (below_on b1 b2)
  have HZ := Lib.hid hZ
  have HZ1 := Lib.hid hZ1
  rw [hZ] at hmw
  clear h hs hZ hZ1 s1 n1 b1 s2 n2 b2 hB h1
  obtain ⟨M, hM⟩ : ∃ M, D.length = M := ⟨_, rfl⟩
  rw [hM] at hL H ⊢
  have HM := Lib.hid hM
  clear hM
  go_enter Try.func15, Try.ntmps15
  go_upto_region 3 with fail
  rw [← e1, ← e2, HZ.out, HZ1.out]
  clear e1 e2
  go_wp2_with fail
  go_loopw [3, 4, 5] (fun d d2 i wr => ∃ (j : Nat) (bo : Option Addr) (bc k : Nat) (ro : Option Addr) (rc q : Nat), j ≤ M ∧ i = .int .i64 j ∧ d = .slice bo k bc ∧ d2 = .slice ro q rc ∧ k = (overD (D.take j)).length ∧ q = (tickD (D.take j)).length ∧ OwnI wr w.heap.size (.slice bo k bc) (overD (D.take j)) ∧ OwnD wr w.heap.size (.slice ro q rc) (tickD (D.take j)) ∧ Below w.heap.size w wr) (fun _ _ i _ => M - (intOf i).toNat)
  case atStart => exact ⟨0, _, _, 0, _, _, 0, Nat.zero_le _, rfl, rfl, rfl, rfl, rfl, O1.out, O2.out, B1.out⟩
  case round =>
    clear O1 O2 B1
    obtain ⟨j, bo, bc, k, ro, rc, q, hj, rfl, rfl, rfl, hk, hq, hO, hR, hBl⟩ := hrel
    have HO := Lib.hid hO
    have HR := Lib.hid hR
    have HB := Lib.hid hBl
    have Hk := Lib.hid hk
    have Hq := Lib.hid hq
    have cm := (H.out.below HB.out).cell
    have tm := (H.out.below HB.out).thawed
    clear hO hBl hR
    by_cases hlt : j < M
    · have hlt' : j < D.length := by rw [HM.out]; exact hlt
      obtain ⟨b, off, rfl, hbw, c0, c1⟩ := seenK_at (SeenR.below HS.out HB.out) j hlt'
      have hnx := tickD_next hlt'
      have hno := overD_next hlt'
      obtain ⟨hg1, hg2⟩ := H1.out _ (List.getElem_mem hlt')
      have hk1 : k ≤ j := by
        have := overD_le (D.take j)
        rw [List.length_take] at this
        omega
      have hq1 : q ≤ j := by
        have := tickD_le (D.take j)
        rw [List.length_take] at this
        omega
      generalize (D[j]).1 = ci at *
      generalize (D[j]).2 = cg at *
      obtain ⟨w4, e4⟩ : ∃ w4, w4 = wr.alloc (.cells #[.int .i64 (ci : Int), .int .i64 ((cg : Int) - 1)] 48) := ⟨_, rfl⟩
      obtain ⟨s4, n4, b4⟩ := new_size e4
      obtain ⟨N, hN⟩ : ∃ N, wr.heap.size = N := ⟨_, rfl⟩
      rw [hN] at n4
      have d5 : w4.cell? ⟨N, 0, none⟩ = some (.int .i64 (ci : Int)) := by rw [cell_of_row _ _ 0 _ _ (0, 0) n4]; rfl
      have d6 : w4.cell? ⟨N, 1, none⟩ = some (.int .i64 ((cg : Int) - 1)) := by rw [cell_of_row _ _ 1 _ _ (0, 0) n4]; rfl
      have HN := Lib.hid hN
      have B4 := Lib.hid (below_on HB.out b4)
      have O4 := Lib.hid (HO.out.below b4)
      have R4 := Lib.hid (HR.out.below b4)
      clear s4 n4 b4 hN
      by_cases he : cg - 1 = 0
      · rw [if_pos he] at hno hnx
        rw [List.append_nil] at hnx
        have hne : ((cg : Int) - 1 == 0) = true := by simp; omega
        have g1 : 0 ≤ (cg : Int) - 1 := by omega
        have HNX := Lib.hid hnx
        have HNO := Lib.hid hno
        have hm2 : k ≤ 1000000 := by omega
        have HB2 := Lib.hid (below_on B4.out (below_box (.cells #[.int .i64 (ci : Int)] 3)))
        clear hnx hno hk hq he
        go_upto_region 8 with fail
        rw [← e4, HN.out]
        clear e4 c0 c1
        go_wp2_with (at_builtin; refine wpList_pushI rfl _ _ rfl w.heap.size _ rfl (overD (D.take j)) ?h ?hB k Hk.out.symm _ 1 ci rfl ?hc hm2 ?_)
        case h => exact O4.out.below (below_box _)
        case hB => exact HB2.out.size
        all_goals try exact lit_int _ ci _ (by simp)
        intro a7 k7 w7 hA
        have hB7 : Below w.heap.size w w7 := HB2.out.trans (hA.only.below HB2.out.size (fun q hq => (O4.out.lt q hq).1))
        have HB7 := Lib.hid hB7
        have HO7 := Lib.hid hA.row
        have hR5 := R4.out.below (below_box (w := w4) (.cells #[.int .i64 (ci : Int)] 3))
        have hO5 := O4.out.below (below_box (w := w4) (.cells #[.int .i64 (ci : Int)] 3))
        have HR7 := Lib.hid (OwnR.only hR5 hA.only (fun k hk e => kinds_apart hO5 hR5 (by decide) k e hk))
        clear hA hB7 hR5 hO5
        go_wp2_with fail
        go_roundw
        case rel => exact ⟨j + 1, _, _, k + 1, _, _, q, hlt, by go_num, rfl, rfl, by rw [HNO.out, List.length_append, ← Hk.out]; rfl, by rw [HNX.out]; exact Hq.out, by rw [HNO.out]; exact HO7.out, by rw [HNX.out]; exact HR7.out, HB7.out⟩
        case measure => simp [intOf]; omega
      · rw [if_neg he] at hno hnx
        rw [List.append_nil] at hno
        have hne : ((cg : Int) - 1 == 0) = false := by simp; omega
        have hne2 : ((cg : Int) == 1) = false := by simp; omega
        have hne3 : ¬ ((cg : Int) = 1) := by omega
        have hne4 : ¬ ((cg : Int) - 1 = 0) := by omega
        have hne5 : ¬ (cg = 1) := by omega
        have hne6 : (cg == 1) = false := by simp; omega
        have HNX := Lib.hid hnx
        have HNO := Lib.hid hno
        have hm2 : q ≤ 1000000 := by omega
        have HB2 := Lib.hid (below_on B4.out (below_box (.cells #[.int .i64 (ci : Int), .int .i64 ((cg : Int) - 1)] 48)))
        have ec := Lib.hid (show ((cg - 1 : Nat) : Int) = (cg : Int) - 1 by omega)
        have g1 : 0 ≤ (cg : Int) - 1 := by omega
        clear hnx hno hk hq he
        go_upto_region 8 with fail
        rw [← e4, HN.out]
        clear e4 c0 c1
        go_wp2_with (at_builtin; refine wpList_pushD rfl _ _ rfl w.heap.size _ rfl (tickD (D.take j)) ?pz1 ?pz2 q Hq.out.symm _ 1 (ci, cg - 1) rfl ?pz3 hm2 ?_)
        case pz1 => exact R4.out.below (below_box _)
        case pz2 => exact HB2.out.size
        case pz3 =>
          have := lit_due w4 ci (cg - 1) w4.heap.size rfl
          rw [ec.out] at this
          simpa using this
        intro a7 k7 w7 hA
        have hB7 : Below w.heap.size w w7 := HB2.out.trans (hA.only.below HB2.out.size (fun q hq => (R4.out.lt q hq).1))
        have HB7 := Lib.hid hB7
        have HR7 := Lib.hid hA.row
        have hR5 := R4.out.below (below_box (w := w4) (.cells #[.int .i64 (ci : Int), .int .i64 ((cg : Int) - 1)] 48))
        have hO5 := O4.out.below (below_box (w := w4) (.cells #[.int .i64 (ci : Int), .int .i64 ((cg : Int) - 1)] 48))
        have HO7 := Lib.hid (OwnR.only hO5 hA.only (fun k hk e => kinds_apart hR5 hO5 (by decide) k e hk))
        clear hA hB7 hR5 hO5
        go_wp2_with fail
        go_roundw
        case rel => exact ⟨j + 1, _, _, k, _, _, q + 1, hlt, by go_num, rfl, rfl, by rw [HNO.out]; exact Hk.out, by rw [HNX.out, List.length_append, ← Hq.out]; rfl, by rw [HNO.out]; exact HO7.out, by rw [HNX.out]; exact HR7.out, HB7.out⟩
        case measure => simp [intOf]; omega
    · obtain rfl : j = M := by omega
      have e : D.take j = D := List.take_of_length_le (by rw [HM.out]; exact Nat.le_refl _)
      rw [e] at HO Hk HR Hq
      have hst := H.out.fin (w4 := wr) (HR.out.mono HBz.out) (Only.of_below HB.out _) (fun q hq => .inr (HR.out.lt q hq).1) (by have := tickD_le D; rw [HM.out] at this; omega) (fun c hc => by
        obtain ⟨d, hd, e1, e2⟩ := tickD_mem hc
        have := H.out.ok d hd; omega) (fun c hc => by
        obtain ⟨d, hd, e1, e2⟩ := tickD_mem hc
        have := H.out.gap d hd; omega)
      have HST := Lib.hid hst
      have O9 := Lib.hid (OwnR.only HO.out (Only.setCell wr m 0 (.slice ro q rc) (fun k => k = m) rfl) (fun k hk e => by
        have := (OwnR.lt HO.out k hk).1
        have := HZ.out
        omega))
      clear hst hk hq
      go_wp2_with fail
      go_ret
      exact ⟨bo, bc, by rw [← Hk.out]; rfl, by rw [← Hk.out]; exact O9.out, _, HST.out⟩

end Go.Proofs.Ytmgcdfndmokgnaa
