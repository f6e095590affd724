/-
  slices.Insert of one and slices.Delete on a row of clocks of one's own: what the row holds then, what is turned, and where it lies. Conditions: the place stands in the row; the row is no longer than 1000.
-/
import Derived.Test.YtmgcdfndmokgnaaRows
import Derived.Test.YtmgcdfndmokgnaaDe1
import Derived.BigRegion
import Derived.Deep.RegionWith
import Derived.Deep.WholeRow
namespace Go.Proofs.Ytmgcdfndmokgnaa
open Go Go.RowKit
set_option linter.unusedVariables false
set_option linter.unusedSimpArgs false

set_option maxRecDepth 100000 in
set_option maxHeartbeats 4000000 in
/-- At the end. -/
theorem insert_end {w : World} {B : Nat} {v : Value} {L : List (Nat × Nat)} (h : OwnK w B v L) (hB : B ≤ w.heap.size) (hL : L.length ≤ 1000) (g : Nat) (x : Nat × Nat) (hg : w.heap[g]? = some (.cells (cc x).toArray 53 (0, 0))) :
    Calls Try.prog 25 #[v, .int .i64 (L.length : Int), .slice (some ⟨g, 0, none⟩) 1 1] w fun e w' => ∃ ao cap, e = .returned (.slice ao (L.length + 1) cap) ∧ AppR 53 2 cc B w w' v (.slice ao (L.length + 1) cap) (L ++ [x]) := by
  have H := Lib.hid (run_pushK h hB 24 g 1 x (cc_cells hg) (by omega))
  obtain ⟨ao, cap, rfl⟩ := h.shape
  obtain ⟨n, hn⟩ : ∃ n, L.length = n := ⟨_, rfl⟩
  obtain ⟨hc, hc2⟩ := h.caps
  rw [hn] at hc
  rw [hn] at H hL ⊢
  clear hn h
  clear hg
  obtain ⟨ao', cap', w', hrun, hA⟩ := H.out
  have HR := Lib.hid hrun
  have HA := Lib.hid hA
  clear hrun hA H
  by_cases hcn : cap = n
  · subst hcn
    go_enter Try.func25, Try.ntmps25
    go_wp2_with (at_builtin; refine Lib.wpList_append_run _ rfl _ _ _ _ rfl _ _ rfl rfl _ _ HR.out ?_)
    all_goals
      go_ret
      exact ⟨ao', cap', rfl, HA.out⟩
  · go_enter Try.func25, Try.ntmps25
    go_wp2_with (at_builtin; refine Lib.wpList_append_run _ rfl _ _ _ _ rfl _ _ rfl rfl _ _ HR.out ?_)
    all_goals
      go_ret
      exact ⟨ao', cap', rfl, HA.out⟩

set_option maxRecDepth 100000 in
set_option maxHeartbeats 4000000 in
/-- Within, where there is room: in place. -/
theorem insert_room {w : World} {B g cap at_ n : Nat} {L : List (Nat × Nat)} (h : OwnK w B (.slice (some ⟨g, 0, none⟩) n cap) L) (hat : at_ < n) (hr : n + 1 ≤ cap) (hL : n ≤ 1000) (b : Nat) (x : Nat × Nat) (hg : w.heap[b]? = some (.cells (cc x).toArray 53 (0, 0))) (hb : b ≠ g) :
    Calls Try.prog 25 #[.slice (some ⟨g, 0, none⟩) n cap, .int .i64 (at_ : Int), .slice (some ⟨b, 0, none⟩) 1 1] w fun e w' => e = .returned (.slice (some ⟨g, 0, none⟩) (n + 1) cap) ∧ OwnK w' B (.slice (some ⟨g, 0, none⟩) (n + 1) cap) (L.take at_ ++ x :: L.drop at_) ∧ Only w w' (fun k => k = g) := by
  obtain ⟨hc, hc2⟩ := h.caps
  obtain ⟨i0, hi, hz0, hz1, hz2⟩ := Try.infoClock
  obtain ⟨rest, hn, hl, hrl, hBg, -, -⟩ := h.list cc_len
  -- the cells, in parts
  obtain ⟨A, D, eL, hA⟩ := split_len L at_ (by omega)
  have hD : D.length = n - at_ := by have := congrArg List.length eL; rw [List.length_append] at this; omega
  obtain ⟨fA, hfA⟩ : ∃ fA, fA = A.flatMap cc := ⟨_, rfl⟩
  obtain ⟨fD, hfD⟩ : ∃ fD, fD = D.flatMap cc := ⟨_, rfl⟩
  have lA : fA.length = at_ * 2 := by rw [hfA, ccs_len, hA]
  have lD : fD.length = (n - at_) * 2 := by rw [hfD, ccs_len, hD]
  obtain ⟨r1, r2, er, lr⟩ := split_len rest 2 (by rw [hrl]; omega)
  obtain ⟨d1, d2, ed, ld⟩ := split_len fD 2 (by omega)
  have oD : ∀ u ∈ fD, u.oneCell' = true := by rw [hfD]; exact ccs_one D
  have ld2 : d2.length = (n - at_) * 2 - 2 := by have := congrArg List.length ed; rw [List.length_append] at this; omega
  have e0 : L.flatMap cc ++ rest = fA ++ (fD ++ rest) := by rw [eL, List.flatMap_append, hfA, hfD, List.append_assoc]
  have e1 : fA ++ (fD ++ rest) = (fA ++ d1) ++ ((d2 ++ r1) ++ r2) := by rw [ed, er]; simp
  have e2 : splice ((fA ++ d1) ++ ((d2 ++ r1) ++ r2)) ((at_ + 1) * 2) fD = (fA ++ d1) ++ (fD ++ r2) := splice_app _ _ _ _ (by rw [List.length_append]; omega) _ (by rw [List.length_append]; omega)
  have e3 : splice (fA ++ (d1 ++ (fD ++ r2))) (at_ * 2) (cc x) = fA ++ (cc x ++ (fD ++ r2)) := splice_app _ _ _ _ (by rw [cc_len, ld]) _ lA.symm
  rw [e0] at hl
  have hl1 : w.drew.heap[g]? = some (.cells (fA ++ (fD ++ rest)).toArray 53 (0, 0)) := hl
  have hlen : (fA ++ (fD ++ rest)).length = cap * 2 := by rw [List.length_append, List.length_append, hrl]; omega
  obtain ⟨w1, hw1⟩ : ∃ w1, w1 = w.drew.setCells g ((at_ + 1) * 2) fD := ⟨_, rfl⟩
  have hl2 : w1.heap[g]? = some (.cells (fA ++ (d1 ++ (fD ++ r2))).toArray 53 (0, 0)) := by
    rw [hw1, setCells_list hl1 _ _ (by omega), e1, e2, List.append_assoc]
  have hon1 : Only w w1 (fun k => k = g) := by rw [hw1]; exact (Only.drewN w 1 _).trans (setCells_only g _ _) (fun _ _ h => h)
  have hg1 : w1.heap[b]? = some (.cells (cc x).toArray 53 (0, 0)) := by rw [hon1.block b (blk_lt hg) hb]; exact hg
  obtain ⟨w2, hw2⟩ : ∃ w2, w2 = w1.setCells g (at_ * 2) (cc x) := ⟨_, rfl⟩
  have hl3 : w2.heap[g]? = some (.cells (fA ++ (cc x ++ (fD ++ r2))).toArray 53 (0, 0)) := by
    rw [hw2, setCells_list hl2 _ _ (by simp only [List.length_append, cc_len]; omega), e3]
  have hon2 : Only w w2 (fun k => k = g) := by rw [hw2]; exact hon1.trans (setCells_only g _ _) (fun _ _ h => h)
  have hown : OwnK w2 B (.slice (some ⟨g, 0, none⟩) (n + 1) cap) (L.take at_ ++ x :: L.drop at_) := by
    have eT : L.take at_ ++ x :: L.drop at_ = A ++ x :: D := by rw [eL, ← hA, List.take_left, List.drop_left]
    rw [eT]
    have eN : n + 1 = (A ++ x :: D).length := by rw [List.length_append, List.length_cons]; omega
    have := ownR_of (ty := 53) (n := 2) (f := cc) (w := w2) (B := B) (g := g) (cap := cap) (L := A ++ x :: D) cc_len (rest := r2) (by rw [hl3, List.flatMap_append, List.flatMap_cons, ← hfA, ← hfD]; simp) hBg (by omega) (by unfold maxLen; omega) (by
      have := congrArg List.length er
      rw [List.length_append] at this
      omega)
    rw [eN]; exact this
  -- what the builtins answer
  have hsrc1 : ∀ j v, fD[j]? = some v → w.drew.cell? ((⟨g, at_ * 2, none⟩ : Addr).add j) = some v := list_seg hl1 _ lA.symm
  have hcp1 : ∀ ty dc sc, (Builtin.copy_ #[24, 24] ty #[.slice (some ⟨g, (at_ + 1) * 2, none⟩) (n - at_) dc, .slice (some ⟨g, at_ * 2, none⟩) (n + 1 - at_) sc]).run Try.prog w.drew = .ok (goInt ((n - at_ : Nat))) w1 := fun ty dc sc => by
    rw [hw1]
    exact run_copyN w.drew Try.underlying24 hi hz1 g _ _ dc ⟨g, at_ * 2, none⟩ _ sc (n - at_) (by simp only [Nat.min_def]; split <;> omega) fD lD hsrc1 hl1 (by omega) oD
  have hcp2 : ∀ ty dc, (Builtin.copy_ #[24, 24] ty #[.slice (some ⟨g, at_ * 2, none⟩) (n + 1 - at_) dc, .slice (some ⟨b, 0, none⟩) 1 1]).run Try.prog w1 = .ok (goInt ((1 : Nat))) w2 := fun ty dc => by
    rw [hw2]
    exact run_copyN w1 Try.underlying24 hi hz1 g _ _ dc ⟨b, 0, none⟩ 1 1 1 (by simp only [Nat.min_def]; split <;> omega) (cc x) (by rw [cc_len]) (cc_cells hg1) hl2 (by simp only [List.length_append, cc_len]; omega) (cc_one x)
  have hsa : w.shape? b = some (53, 2) := by simp [World.shape?, hg, cc]
  have hsb : w.shape? g = some (53, cap * 2) := by rw [World.shape?, hl]; simp only [List.size_toArray, hlen]
  have hov : ∀ lb cb, (callFunc 30 #[.slice (some ⟨b, 0, none⟩) 1 1, .slice (some ⟨g, (at_ + 1) * 2, none⟩) lb cb]).run Try.prog w = .ok (.value (.bool false)) w := fun lb cb => by
    rw [run_callFunc_extern Try.func30 (by kernel_rfl) (by kernel_rfl) (by kernel_rfl) (e := Extern.SlicesOverlaps.overlaps #[24, 24] #[4]) (by kernel_rfl),
      Lib.run_overlaps_apart w 24 4 53 Try.underlying24 2 (by intro w; simp [sizeOf, typeInfo, hi, hz1]) ⟨b, 0, none⟩ ⟨g, (at_ + 1) * 2, none⟩ 1 1 lb cb hb 53 53 2 (cap * 2) hsa hsb (by omega)
        (list_thawed hg 0) (list_thawed hg 2)]
    rfl
  have hz1' : ¬ ((at_ : Int) = (n : Int)) := by omega
  have hC1 := Lib.hid hcp1
  have hC2 := Lib.hid hcp2
  have HO := Lib.hid hown
  have HW := Lib.hid hon2
  have hb1 : ¬ (cap = at_ + 1) := by omega
  have hb2 : ¬ (cap = at_) := by omega
  have hb3 : (at_ : Int) ≤ (n : Int) + 1 := by omega
  have hb4 : (at_ : Int) + 1 ≤ (n : Int) + 1 := by omega
  have hb5 : (0 : Int) ≤ (at_ : Int) + 1 := by omega
  have hb6 : ((at_ : Int) + 1).toNat = at_ + 1 := by omega
  have hb7 : IntKind.i64.wrap ((at_ : Int) + 1) = (at_ : Int) + 1 := by rw [IntKind.wrap_i64]; omega
  clear hsa hsb hcp1 hcp2 hown hon2 hsrc1 hw1 hw2 hl hl1 hl2 hl3 hg hg1 hon1 e0 e1 e2 e3 hlen h hD hA lA lD lr ld ld2 hfA hfD er ed eL hn hrl
  go_enter Try.func25, Try.ntmps25
  go_wp2_with (simp only [hov])
  go_region_law (refine step_copyRun rfl (.tmp 73) (.tmp 76) 24 24 rfl (.slice (some ⟨g, (at_ + 1) * 2, none⟩) (n - at_) (cap - (at_ + 1))) (.slice (some ⟨g, at_ * 2, none⟩) (n + 1 - at_) (cap - at_)) (by simp [Act.eval, Act.put]) (by simp [Act.eval, Act.put]) (hC1.out _ _ _) ?_)
  go_wp2_with (refine wpList_copyRun rfl _ _ 24 24 rfl _ _ rfl rfl (hC2.out _ _) ?_)
  go_ret
  exact ⟨rfl, HO.out, HW.out⟩

set_option maxRecDepth 100000 in
set_option maxHeartbeats 4000000 in
/-- Within, where there is no room: a new row. -/
theorem insert_grow {w : World} {B g cap at_ n : Nat} {L : List (Nat × Nat)} (h : OwnK w B (.slice (some ⟨g, 0, none⟩) n cap) L) (hB : B ≤ w.heap.size) (hat : at_ < n) (hr : cap < n + 1) (hL : n ≤ 1000) (b : Nat) (x : Nat × Nat) (hg : w.heap[b]? = some (.cells (cc x).toArray 53 (0, 0))) :
    Calls Try.prog 25 #[.slice (some ⟨g, 0, none⟩) n cap, .int .i64 (at_ : Int), .slice (some ⟨b, 0, none⟩) 1 1] w fun e w' => ∃ cap', e = .returned (.slice (some ⟨w.heap.size, 0, none⟩) (n + 1) cap') ∧ OwnK w' B (.slice (some ⟨w.heap.size, 0, none⟩) (n + 1) cap') (L.take at_ ++ x :: L.drop at_) ∧ Below w.heap.size w w' := by
  obtain ⟨hc, hc2⟩ := h.caps
  obtain rfl : cap = n := by omega
  obtain ⟨i0, hi, hz0, hz1, hz2⟩ := Try.infoClock
  obtain ⟨rest, hn, hl, hrl, hBg, -, -⟩ := h.list cc_len
  obtain ⟨A, D, eL, hA⟩ := split_len L at_ (by omega)
  have hD : D.length = cap - at_ := by have := congrArg List.length eL; rw [List.length_append] at this; omega
  obtain ⟨fA, hfA⟩ : ∃ fA, fA = A.flatMap cc := ⟨_, rfl⟩
  obtain ⟨fD, hfD⟩ : ∃ fD, fD = D.flatMap cc := ⟨_, rfl⟩
  have lA : fA.length = at_ * 2 := by rw [hfA, ccs_len, hA]
  have lD : fD.length = (cap - at_) * 2 := by rw [hfD, ccs_len, hD]
  have oD : ∀ u ∈ fD, u.oneCell' = true := by rw [hfD]; exact ccs_one D
  have e0 : L.flatMap cc ++ rest = fA ++ (fD ++ rest) := by rw [eL, List.flatMap_append, hfA, hfD, List.append_assoc]
  rw [e0] at hl
  obtain ⟨N, hN⟩ : ∃ N, w.heap.size = N := ⟨_, rfl⟩
  have hgN : g ≠ N := by have := blk_lt hl; omega
  have hbN : b ≠ N := by have := blk_lt hg; omega
  -- the new row
  obtain ⟨G, hG⟩ : ∃ G, G = grownCap w (cap + 1) cap 53 := ⟨_, rfl⟩
  have hGn : cap + 1 ≤ G := by rw [hG]; exact grownCap_ge w _ _ _
  have hG63 : G ≤ 9223372036854775807 := by
    have := grownCap_le_maxLen w (cap + 1) cap 53 (by unfold maxLen; omega)
    rw [← hG] at this; unfold maxLen at this; omega
  obtain ⟨Z, hZ⟩ : ∃ Z, Z = (Builtin.zeroCells (Value.agg #[.int .i64 0, .int .i64 0]).cells (cap + 1 - at_)).toList ++ (Builtin.zeroCells (Value.agg #[.int .i64 0, .int .i64 0]).cells (G - (cap + 1))).toList := ⟨_, rfl⟩
  have lZ : Z.length = (G - at_) * 2 := by
    rw [hZ, List.length_append, zeroCells_len, zeroCells_len]
    have : (Value.agg #[.int .i64 0, .int .i64 0]).cells.size = 2 := rfl
    rw [this]; omega
  obtain ⟨w1, hw1⟩ : ∃ w1, w1 = w.drew.alloc (.cells (fA ++ Z).toArray 53) := ⟨_, rfl⟩
  have hrz : ∀ ty, (Builtin.append_ #[24, 3] ty #[.slice (some ⟨g, 0, none⟩) at_ cap, .int .i64 ((cap : Int) + 1 - (at_ : Int))]).run Try.prog w = .ok (.slice (some ⟨N, 0, none⟩) (cap + 1) G) w1 := fun ty => by
    have hold : (Builtin.firstCells i0.size at_ (.slice (some ⟨g, 0, none⟩) at_ cap)).run Try.prog w.drew = .ok fA.toArray w.drew := by
      rw [hz1]
      exact run_firstCells_some w.drew 2 at_ ⟨g, 0, none⟩ at_ cap fA lA (list_seg (A := []) (X := fA) (C := fD ++ rest) (w := w.drew) (ty := 53) hl 0 rfl)
    have h := Lib.run_append_grow_zeros w 24 3 ty 53 i0 _ .i64 .i64 Try.underlying24 Try.underlying3 hi hz0 (some ⟨g, 0, none⟩) at_ cap fA hold (cap + 1 - at_) (by omega) (by omega) (by omega) (by omega) (by rw [hz2]; omega)
      (by rw [hz2, show at_ + (cap + 1 - at_) = cap + 1 by omega]; exact growslice_fits hr (by omega))
    rw [show at_ + (cap + 1 - at_) = cap + 1 by omega, ← hG] at h
    rw [show (cap : Int) + 1 - (at_ : Int) = ((cap + 1 - at_ : Nat) : Int) by omega, h, hw1, hZ, hN]
    congr 4
    apply Array.ext'
    simp
  have hl1 : w1.heap[N]? = some (.cells (fA ++ Z).toArray 53 (0, 0)) := by rw [hw1, ← hN]; exact heap_alloc_new w.drew _
  have hb1 : Below w.heap.size w w1 := by
    have := below_box (w := w.drew) (.cells (fA ++ Z).toArray 53)
    rw [hw1]
    exact ⟨this.os, this.tape, this.output, this.size, this.block⟩
  obtain ⟨z1, Z1, eZ, lz1⟩ := split_len Z 2 (by omega)
  have lZ1 : Z1.length = (G - at_) * 2 - 2 := by have := congrArg List.length eZ; rw [List.length_append] at this; omega
  obtain ⟨z2, Z2, eZ1, lz2⟩ := split_len Z1 ((cap - at_) * 2) (by omega)
  have lZ2 : Z2.length = (G - (cap + 1)) * 2 := by have := congrArg List.length eZ1; rw [List.length_append] at this; omega
  have e2 : splice (fA ++ (z1 ++ Z1)) (at_ * 2) (cc x) = fA ++ (cc x ++ Z1) := splice_app _ _ _ _ (by rw [cc_len, lz1]) _ lA.symm
  have e3 : splice ((fA ++ cc x) ++ (z2 ++ Z2)) ((at_ + 1) * 2) fD = (fA ++ cc x) ++ (fD ++ Z2) := splice_app _ _ _ _ (by rw [lD, lz2]) _ (by rw [List.length_append, cc_len]; omega)
  obtain ⟨w2, hw2⟩ : ∃ w2, w2 = w1.setCells N (at_ * 2) (cc x) := ⟨_, rfl⟩
  have hl2 : w2.heap[N]? = some (.cells ((fA ++ cc x) ++ (z2 ++ Z2)).toArray 53 (0, 0)) := by
    rw [hw2, setCells_list hl1 _ _ (by simp only [List.length_append, cc_len]; omega), eZ, e2, eZ1]; simp
  have hb2 : Below w.heap.size w w2 := by rw [hw2, setCells_stN]; exact stN_below hb1 (by omega) _ _ hb1.size
  have hlg : w2.drew.heap[g]? = some (.cells (fA ++ (fD ++ rest)).toArray 53 (0, 0)) := (hb2.block g (blk_lt hl)).trans hl
  have hl2' : w2.drew.heap[N]? = some (.cells ((fA ++ cc x) ++ (z2 ++ Z2)).toArray 53 (0, 0)) := hl2
  obtain ⟨w3, hw3⟩ : ∃ w3, w3 = w2.drew.setCells N ((at_ + 1) * 2) fD := ⟨_, rfl⟩
  have hl3 : w3.heap[N]? = some (.cells ((fA ++ cc x) ++ (fD ++ Z2)).toArray 53 (0, 0)) := by
    rw [hw3, setCells_list hl2' _ _ (by simp only [List.length_append, cc_len]; omega), e3]
  have hb3 : Below w.heap.size w w3 := by rw [hw3, setCells_stN]; exact stN_below (below_drew hb2) (by omega) _ _ hb2.size
  have hown : OwnK w3 B (.slice (some ⟨N, 0, none⟩) (cap + 1) G) (L.take at_ ++ x :: L.drop at_) := by
    have eT : L.take at_ ++ x :: L.drop at_ = A ++ x :: D := by rw [eL, ← hA, List.take_left, List.drop_left]
    rw [eT]
    have eN : cap + 1 = (A ++ x :: D).length := by rw [List.length_append, List.length_cons]; omega
    have := ownR_of (ty := 53) (n := 2) (f := cc) (w := w3) (B := B) (g := N) (cap := G) (L := A ++ x :: D) cc_len (rest := Z2) (by rw [hl3, List.flatMap_append, List.flatMap_cons, ← hfA, ← hfD]; simp) (by omega) (by omega) (by unfold maxLen; omega) (by rw [lZ2, ← eN])
    rw [eN]; exact this
  have hgx : w1.heap[b]? = some (.cells (cc x).toArray 53 (0, 0)) := (hb1.block b (blk_lt hg)).trans hg
  have hcp1 : ∀ ty dc, (Builtin.copy_ #[24, 24] ty #[.slice (some ⟨N, at_ * 2, none⟩) (cap + 1 - at_) dc, .slice (some ⟨b, 0, none⟩) 1 1]).run Try.prog w1 = .ok (goInt ((1 : Nat))) w2 := fun ty dc => by
    rw [hw2]
    exact run_copyN w1 Try.underlying24 hi hz1 N _ _ dc ⟨b, 0, none⟩ 1 1 1 (by simp only [Nat.min_def]; split <;> omega) (cc x) (by rw [cc_len]) (cc_cells hgx) hl1 (by simp only [List.length_append, cc_len]; omega) (cc_one x)
  have hcp2 : ∀ ty dc sc, (Builtin.copy_ #[24, 24] ty #[.slice (some ⟨N, (at_ + 1) * 2, none⟩) (cap - at_) dc, .slice (some ⟨g, at_ * 2, none⟩) (cap - at_) sc]).run Try.prog w2.drew = .ok (goInt ((cap - at_ : Nat))) w3 := fun ty dc sc => by
    rw [hw3]
    exact run_copyN w2.drew Try.underlying24 hi hz1 N _ _ dc ⟨g, at_ * 2, none⟩ _ sc (cap - at_) (by simp only [Nat.min_def]; split <;> omega) fD lD (list_seg hlg _ lA.symm) hl2' (by simp only [List.length_append, cc_len]; omega) oD
  have hz1' : ¬ ((at_ : Int) = (cap : Int)) := by omega
  have hR := Lib.hid hrz
  have hC1 := Lib.hid hcp1
  have hC2 := Lib.hid hcp2
  have HO := Lib.hid hown
  have HW := Lib.hid hb3
  have HN := Lib.hid hN
  have g1 : ¬ (G = at_ + 1) := by omega
  have g2 : ¬ (G = at_) := by omega
  have g3 : ¬ (cap = at_) := by omega
  have g4 : (at_ : Int) ≤ (cap : Int) := by omega
  have g5 : (at_ : Int) + 1 ≤ (cap : Int) + 1 := by omega
  have g6 : (0 : Int) ≤ (at_ : Int) + 1 := by omega
  have g7 : ((at_ : Int) + 1).toNat = at_ + 1 := by omega
  have g8 : IntKind.i64.wrap ((at_ : Int) + 1) = (at_ : Int) + 1 := by rw [IntKind.wrap_i64]; omega
  clear hrz hcp1 hcp2 hown hb1 hb2 hb3 hN hw1 hw2 hw3 hl hl1 hl2 hl2' hl3 hlg hg hgx e0 e2 e3 h hD hA lA lD lZ lz1 lZ1 lz2 lZ2 hfA hfD hZ eZ eZ1 eL hn hrl hG hgN hbN
  go_enter Try.func25, Try.ntmps25
  go_wp2_with (first
    | (at_builtin; refine Lib.wpList_append_run _ rfl _ _ _ _ rfl _ _ rfl rfl _ _ (hR.out _) ?_)
    | (refine wpList_copyRun rfl _ _ 24 24 rfl _ _ rfl rfl (hC1.out _ _) ?_))
  go_region_law (refine step_copyRun rfl (.tmp 50) (.tmp 53) 24 24 rfl (.slice (some ⟨N, (at_ + 1) * 2, none⟩) (cap - at_) (G - (at_ + 1))) (.slice (some ⟨g, at_ * 2, none⟩) (cap - at_) (cap - at_)) (by simp [Act.eval, Act.put]) (by simp [Act.eval, Act.put]) (hC2.out _ _ _) ?_)
  go_wp2
  go_ret
  exact ⟨G, by rw [HN.out]; rfl, by rw [HN.out]; exact HO.out, HW.out⟩

/-- slices.Insert of one. -/
theorem insert_any {w : World} {B : Nat} {v : Value} {L : List (Nat × Nat)} (h : OwnK w B v L) (hB : B ≤ w.heap.size) (hL : L.length ≤ 1000) (at_ : Nat) (hat : at_ ≤ L.length) (b : Nat) (x : Nat × Nat) (hg : w.heap[b]? = some (.cells (cc x).toArray 53 (0, 0))) (hb : v.ownBlock ≠ some b) :
    Calls Try.prog 25 #[v, .int .i64 (at_ : Int), .slice (some ⟨b, 0, none⟩) 1 1] w fun e w' => ∃ ao cap, e = .returned (.slice ao (L.length + 1) cap) ∧ AppR 53 2 cc B w w' v (.slice ao (L.length + 1) cap) (L.take at_ ++ x :: L.drop at_) := by
  rcases Nat.lt_or_ge at_ L.length with hlt | hge
  · obtain ⟨ao, cap, rfl⟩ := h.shape
    rcases h.2 with ⟨e, e2⟩ | ⟨g, cap', cur, e, hbg, hh, -⟩
    · omega
    · cases e
      rcases Nat.lt_or_ge cap (L.length + 1) with hc | hc
      · refine (insert_grow h hB hlt hc hL b x hg).mono ?_
        rintro e w' ⟨cap', rfl, h1, h2⟩
        exact ⟨_, _, rfl, ⟨h1, Only.of_below h2 _, fun k hk => by cases hk; exact .inr (Nat.le_refl _)⟩⟩
      · refine (insert_room h hlt hc hL b x hg (fun e => hb (by rw [e]; rfl))).mono ?_
        rintro e w' ⟨rfl, h1, h2⟩
        exact ⟨_, _, rfl, ⟨h1, h2.mono (fun k _ hk => by rw [hk]; rfl), fun k hk => .inl hk⟩⟩
  · obtain rfl : at_ = L.length := by omega
    rw [List.take_length, List.drop_length]
    exact insert_end h hB hL b x hg

set_option maxRecDepth 100000 in
set_option maxHeartbeats 4000000 in
/-- slices.Delete: those from i on, ahead of j. -/
theorem delete_any {w : World} {B g cap i j n : Nat} {L : List (Nat × Nat)} (h : OwnK w B (.slice (some ⟨g, 0, none⟩) n cap) L) (hij : i < j) (hj : j ≤ n) (hL : n ≤ 1000) :
    Calls Try.prog 26 #[.slice (some ⟨g, 0, none⟩) n cap, .int .i64 (i : Int), .int .i64 (j : Int)] w fun e w' => e = .returned (.slice (some ⟨g, 0, none⟩) (i + (n - j)) cap) ∧ OwnK w' B (.slice (some ⟨g, 0, none⟩) (i + (n - j)) cap) (L.take i ++ L.drop j) ∧ Only w w' (fun k => k = g) := by
  obtain ⟨hc, hc2⟩ := h.caps
  obtain ⟨i0, hi, hz0, hz1, hz2⟩ := Try.infoClock
  obtain ⟨rest, hn, hl, hrl, hBg, -, -⟩ := h.list cc_len
  obtain ⟨A, MD, eL, hA⟩ := split_len L i (by omega)
  have hMD : MD.length = n - i := by have := congrArg List.length eL; rw [List.length_append] at this; omega
  obtain ⟨M, D, eMD, hM⟩ := split_len MD (j - i) (by omega)
  have hD : D.length = n - j := by have := congrArg List.length eMD; rw [List.length_append] at this; omega
  obtain ⟨fA, hfA⟩ : ∃ fA, fA = A.flatMap cc := ⟨_, rfl⟩
  obtain ⟨fM, hfM⟩ : ∃ fM, fM = M.flatMap cc := ⟨_, rfl⟩
  obtain ⟨fD, hfD⟩ : ∃ fD, fD = D.flatMap cc := ⟨_, rfl⟩
  have lA : fA.length = i * 2 := by rw [hfA, ccs_len, hA]
  have lM : fM.length = (j - i) * 2 := by rw [hfM, ccs_len, hM]
  have lD : fD.length = (n - j) * 2 := by rw [hfD, ccs_len, hD]
  have oD : ∀ u ∈ fD, u.oneCell' = true := by rw [hfD]; exact ccs_one D
  have e0 : L.flatMap cc ++ rest = fA ++ ((fM ++ fD) ++ rest) := by rw [eL, eMD, List.flatMap_append, List.flatMap_append, hfA, hfM, hfD, List.append_assoc]
  obtain ⟨X, Y, eX, lX⟩ := split_len (fM ++ fD) ((n - j) * 2) (by rw [List.length_append]; omega)
  have lY : Y.length = (j - i) * 2 := by have := congrArg List.length eX; rw [List.length_append, List.length_append] at this; omega
  obtain ⟨k, hk⟩ : ∃ k, k = i + (n - j) := ⟨_, rfl⟩
  obtain ⟨Zs, hZs⟩ : ∃ Zs, Zs = (Builtin.zeroCells (Value.agg #[.int .i64 0, .int .i64 0]).cells (n - k)).toList := ⟨_, rfl⟩
  have lZ : Zs.length = (n - k) * 2 := by rw [hZs, zeroCells_len]; rfl
  have e1 : splice (fA ++ (X ++ (Y ++ rest))) (0 + i * 2) fD = fA ++ (fD ++ (Y ++ rest)) := splice_app _ _ _ _ (by rw [lD, lX]) _ (by omega)
  have e2 : splice ((fA ++ fD) ++ (Y ++ rest)) (k * 2) Zs = (fA ++ fD) ++ (Zs ++ rest) := splice_app _ _ _ _ (by rw [lZ, lY, hk]; omega) _ (by rw [List.length_append]; omega)
  rw [e0] at hl
  have hl0 : w.drew.heap[g]? = some (.cells (fA ++ (X ++ (Y ++ rest))).toArray 53 (0, 0)) := by rw [← List.append_assoc X, ← eX]; exact hl
  have hl0' : w.drew.heap[g]? = some (.cells ((fA ++ fM) ++ (fD ++ rest)).toArray 53 (0, 0)) := by
    rw [show (fA ++ fM) ++ (fD ++ rest) = fA ++ ((fM ++ fD) ++ rest) by simp]; exact hl
  have hlen : (fA ++ (X ++ (Y ++ rest))).length = cap * 2 := by simp only [List.length_append]; omega
  obtain ⟨w1, hw1⟩ : ∃ w1, w1 = w.drew.setCells g (0 + i * 2) fD := ⟨_, rfl⟩
  have hl1 : w1.heap[g]? = some (.cells ((fA ++ fD) ++ (Y ++ rest)).toArray 53 (0, 0)) := by
    rw [hw1, setCells_list hl0 _ _ (by omega), e1, List.append_assoc]
  have hon1 : Only w w1 (fun k => k = g) := by rw [hw1]; exact (Only.drewN w 1 _).trans (setCells_only g _ _) (fun _ _ h => h)
  obtain ⟨w2, hw2⟩ : ∃ w2, w2 = w1.setCells g (k * 2) Zs := ⟨_, rfl⟩
  have hl2 : w2.heap[g]? = some (.cells ((fA ++ fD) ++ (Zs ++ rest)).toArray 53 (0, 0)) := by
    rw [hw2, setCells_list hl1 _ _ (by simp only [List.length_append]; omega), e2]
  have hon2 : Only w w2 (fun k => k = g) := by rw [hw2]; exact hon1.trans (setCells_only g _ _) (fun _ _ h => h)
  have hown : OwnK w2 B (.slice (some ⟨g, 0, none⟩) k cap) (L.take i ++ L.drop j) := by
    have eT : L.take i ++ L.drop j = A ++ D := by
      have e3 : j = (A ++ M).length := by rw [List.length_append]; omega
      rw [eL, ← hA, List.take_left, eMD, ← List.append_assoc, e3, List.drop_left]
    rw [eT]
    have eN : k = (A ++ D).length := by rw [List.length_append]; omega
    have := ownR_of (ty := 53) (n := 2) (f := cc) (w := w2) (B := B) (g := g) (cap := cap) (L := A ++ D) cc_len (rest := Zs ++ rest) (by rw [hl2, List.flatMap_append, ← hfA, ← hfD]) hBg (by omega) (by unfold maxLen; omega) (by rw [List.length_append, lZ, hrl, ← eN]; omega)
    rw [eN]; exact this
  obtain ⟨ad, had, hsrc⟩ : ∃ ad : Addr, (if cap = j then (⟨g, 0, none⟩ : Addr) else ⟨g, j * 2, none⟩) = ad ∧ ∀ t u, fD[t]? = some u → w.drew.cell? (ad.add t) = some u := by
    by_cases hcj : cap = j
    · refine ⟨_, if_pos hcj, fun t u hu => ?_⟩
      have : fD = [] := List.eq_nil_of_length_eq_zero (by omega)
      rw [this] at hu; cases hu
    · exact ⟨_, if_neg hcj, list_seg hl0' _ (by rw [List.length_append]; omega)⟩
  have hcl : ∀ ty c, (Builtin.clear_ #[24] ty #[.slice (some ⟨g, k * 2, none⟩) (n - k) c]).run Try.prog w1 = .ok (.tuple #[]) w2 := fun ty c => by
    rw [hw2, hZs]
    exact run_clearN w1 Try.underlying24 (z := .agg #[.int .i64 0, .int .i64 0]) (by intro w; simp [zeroValue, typeInfo, hi, hz0]) (by intro u hu; simp [Value.cells] at hu; rcases hu with rfl | rfl <;> rfl) g (k * 2) (n - k) c (by omega) hl1 (by
      have : (Value.agg #[.int .i64 0, .int .i64 0]).cells.size = 2 := rfl
      rw [this]; simp only [List.length_append]; omega)
  have hsp : ∀ t, t < fD.length → (w.drew.cell? ⟨g, 0 + i * 2 + t, none⟩).isSome = true ∧ w.drew.frozen? ⟨g, 0 + i * 2 + t, none⟩ = false := fun t ht => ⟨list_some hl0 _ (by omega), list_thawed hl0 _⟩
  have HL := Lib.hid (show fD.length = (n - j) * 2 from lD)
  have HS := Lib.hid hsrc
  have HP := Lib.hid hsp
  have HD1 := Lib.hid oD
  have HC := Lib.hid hcl
  have HO := Lib.hid hown
  have HW := Lib.hid hon2
  have H1 := Lib.hid hw1
  have HK := Lib.hid hk
  have g1 : ¬ ((i : Int) = (j : Int)) := by omega
  have g2 : ¬ (cap = k) := by omega
  have g3 : k ≤ n := by omega
  have g4 : ¬ (n = i) := by omega
  have g5 : i ≤ cap := by omega
  have g6 : j ≤ cap := by omega
  have g7 : ¬ (n = k) := by omega
  have g8 : (i : Int) ≤ (j : Int) := by omega
  have g9 : (j : Int) ≤ (n : Int) := by omega
  have g10 : (k : Int) ≤ (n : Int) := by omega
  clear hsrc hsp oD hcl hown hon1 hon2 hw1 hw2 hk hl hl0 hl0' hl1 hl2 hlen e0 e1 e2 h hD hA hM hMD lA lD lM lX lY lZ hfA hfD hfM hZs eX eL eMD hn hrl
  by_cases hcj : cap = j
  · rw [if_pos hcj] at had
    subst had
    subst hcj
    go_enter Try.func26, Try.ntmps26
    go_wp2_with fail
    go_region_law (refine step_append_room rfl (.tmp 22) (.tmp 25) 24 rfl 53 i0 2 Try.underlying24 hi hz1 g 0 i cap (by simp [Act.eval, Act.put]) ⟨g, 0, none⟩ (n - cap) (cap - cap) fD (by simp [Act.eval, Act.put]; omega) HL.out HS.out HD1.out (by omega) HP.out ?_; rw [← H1.out, ← HK.out])
    go_wp2_with (refine wpList_clearRun rfl _ 24 rfl _ rfl (HC.out _ _) ?_)
    go_ret
    exact ⟨by rw [← HK.out]; rfl, by rw [← HK.out]; exact HO.out, HW.out⟩
  · rw [if_neg hcj] at had
    subst had
    go_enter Try.func26, Try.ntmps26
    go_wp2_with fail
    go_region_law (refine step_append_room rfl (.tmp 22) (.tmp 25) 24 rfl 53 i0 2 Try.underlying24 hi hz1 g 0 i cap (by simp [Act.eval, Act.put]) ⟨g, j * 2, none⟩ (n - j) (cap - j) fD (by simp [Act.eval, Act.put]) HL.out HS.out HD1.out (by omega) HP.out ?_; rw [← H1.out, ← HK.out])
    go_wp2_with (refine wpList_clearRun rfl _ 24 rfl _ rfl (HC.out _ _) ?_)
    go_ret
    exact ⟨by rw [← HK.out]; rfl, by rw [← HK.out]; exact HO.out, HW.out⟩

set_option maxRecDepth 100000 in
set_option maxHeartbeats 4000000 in
/-- None of them. -/
theorem delete_none {w : World} {g cap n : Nat} (hn : 0 < n) (hc : n ≤ cap) (hc2 : cap ≤ 9223372036854775807) :
    Calls Try.prog 26 #[.slice (some ⟨g, 0, none⟩) n cap, .int .i64 0, .int .i64 0] w fun e w' => e = .returned (.slice (some ⟨g, 0, none⟩) n cap) ∧ w = w' := by
  have g1 : ¬ (n = 0) := by omega
  go_enter Try.func26, Try.ntmps26
  go_wp2
  all_goals (go_ret; exact ⟨rfl, rfl⟩)

end Go.Proofs.Ytmgcdfndmokgnaa
