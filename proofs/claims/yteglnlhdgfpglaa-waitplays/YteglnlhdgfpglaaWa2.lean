/-
  A row of numbers of one's own: slices.Delete, append of a list onto a new row (slices.Clone), the document's Without; one overtakes another; whose turn it is by the document. Conditions: lengths.
-/
import Derived.Test.YteglnlhdgfpglaaWa1
namespace Go.Proofs.Yteglnlhdgfpglaa
open Go Go.RowKit
set_option linter.unusedVariables false
set_option linter.unusedSimpArgs false

theorem w1is_one (l : List Nat) : ∀ u ∈ l.flatMap w1i, u.oneCell' = true := by
  intro u hu
  obtain ⟨c, _, h⟩ := List.mem_flatMap.1 hu
  exact w1i_one c u h
theorem w1is_len (l : List Nat) : (l.flatMap w1i).length = l.length * 1 := flat_len w1i_len l

set_option maxRecDepth 100000 in
set_option maxHeartbeats 4000000 in
/-- slices.Delete: those from i on, ahead of j. -/
theorem wdelete_any {w : World} {B g cap i j n : Nat} {L : List Nat} (h : OwnI w B (.slice (some ⟨g, 0, none⟩) n cap) L) (hij : i < j) (hj : j ≤ n) (hL : n ≤ 1000) :
    Calls Try.prog 20 #[.slice (some ⟨g, 0, none⟩) n cap, .int .i64 (i : Int), .int .i64 (j : Int)] w fun e w' => e = .returned (.slice (some ⟨g, 0, none⟩) (i + (n - j)) cap) ∧ OwnI w' B (.slice (some ⟨g, 0, none⟩) (i + (n - j)) cap) (L.take i ++ L.drop j) ∧ Only w w' (fun k => k = g) := by
  obtain ⟨hc, hc2⟩ := h.caps
  obtain ⟨i0, hi, hz0, hz1, hz2⟩ := Try.infoInt
  obtain ⟨rest, hn, hl, hrl, hBg, -, -⟩ := h.list w1i_len
  obtain ⟨A, MD, eL, hA⟩ := split_len L i (by omega)
  have hMD : MD.length = n - i := by have := congrArg List.length eL; rw [List.length_append] at this; omega
  obtain ⟨M, D, eMD, hM⟩ := split_len MD (j - i) (by omega)
  have hD : D.length = n - j := by have := congrArg List.length eMD; rw [List.length_append] at this; omega
  obtain ⟨fA, hfA⟩ : ∃ fA, fA = A.flatMap w1i := ⟨_, rfl⟩
  obtain ⟨fM, hfM⟩ : ∃ fM, fM = M.flatMap w1i := ⟨_, rfl⟩
  obtain ⟨fD, hfD⟩ : ∃ fD, fD = D.flatMap w1i := ⟨_, rfl⟩
  have lA : fA.length = i * 1 := by rw [hfA, w1is_len, hA]
  have lM : fM.length = (j - i) * 1 := by rw [hfM, w1is_len, hM]
  have lD : fD.length = (n - j) * 1 := by rw [hfD, w1is_len, hD]
  have oD : ∀ u ∈ fD, u.oneCell' = true := by rw [hfD]; exact w1is_one D
  have e0 : L.flatMap w1i ++ rest = fA ++ ((fM ++ fD) ++ rest) := by rw [eL, eMD, List.flatMap_append, List.flatMap_append, hfA, hfM, hfD, List.append_assoc]
  obtain ⟨X, Y, eX, lX⟩ := split_len (fM ++ fD) ((n - j) * 1) (by rw [List.length_append]; omega)
  have lY : Y.length = (j - i) * 1 := by have := congrArg List.length eX; rw [List.length_append, List.length_append] at this; omega
  obtain ⟨k, hk⟩ : ∃ k, k = i + (n - j) := ⟨_, rfl⟩
  obtain ⟨Zs, hZs⟩ : ∃ Zs, Zs = (Builtin.zeroCells (Value.int .i64 0).cells (n - k)).toList := ⟨_, rfl⟩
  have lZ : Zs.length = (n - k) * 1 := by rw [hZs, zeroCells_len]; rfl
  have e1 : splice (fA ++ (X ++ (Y ++ rest))) (0 + i * 1) fD = fA ++ (fD ++ (Y ++ rest)) := splice_app _ _ _ _ (by rw [lD, lX]) _ (by omega)
  have e2 : splice ((fA ++ fD) ++ (Y ++ rest)) (k * 1) Zs = (fA ++ fD) ++ (Zs ++ rest) := splice_app _ _ _ _ (by rw [lZ, lY, hk]; omega) _ (by rw [List.length_append]; omega)
  rw [e0] at hl
  have hl0 : w.drew.heap[g]? = some (.cells (fA ++ (X ++ (Y ++ rest))).toArray 3 (0, 0)) := by rw [← List.append_assoc X, ← eX]; exact hl
  have hl0' : w.drew.heap[g]? = some (.cells ((fA ++ fM) ++ (fD ++ rest)).toArray 3 (0, 0)) := by
    rw [show (fA ++ fM) ++ (fD ++ rest) = fA ++ ((fM ++ fD) ++ rest) by simp]; exact hl
  have hlen : (fA ++ (X ++ (Y ++ rest))).length = cap * 1 := by simp only [List.length_append]; omega
  obtain ⟨w1, hw1⟩ : ∃ w1, w1 = w.drew.setCells g (0 + i * 1) fD := ⟨_, rfl⟩
  have hl1 : w1.heap[g]? = some (.cells ((fA ++ fD) ++ (Y ++ rest)).toArray 3 (0, 0)) := by
    rw [hw1, setCells_list hl0 _ _ (by omega), e1, List.append_assoc]
  have hon1 : Only w w1 (fun k => k = g) := by rw [hw1]; exact (Only.drewN w 1 _).trans (setCells_only g _ _) (fun _ _ h => h)
  obtain ⟨w2, hw2⟩ : ∃ w2, w2 = w1.setCells g (k * 1) Zs := ⟨_, rfl⟩
  have hl2 : w2.heap[g]? = some (.cells ((fA ++ fD) ++ (Zs ++ rest)).toArray 3 (0, 0)) := by
    rw [hw2, setCells_list hl1 _ _ (by simp only [List.length_append]; omega), e2]
  have hon2 : Only w w2 (fun k => k = g) := by rw [hw2]; exact hon1.trans (setCells_only g _ _) (fun _ _ h => h)
  have hown : OwnI w2 B (.slice (some ⟨g, 0, none⟩) k cap) (L.take i ++ L.drop j) := by
    have eT : L.take i ++ L.drop j = A ++ D := by
      have e3 : j = (A ++ M).length := by rw [List.length_append]; omega
      rw [eL, ← hA, List.take_left, eMD, ← List.append_assoc, e3, List.drop_left]
    rw [eT]
    have eN : k = (A ++ D).length := by rw [List.length_append]; omega
    have := ownR_of (ty := 3) (n := 1) (f := w1i) (w := w2) (B := B) (g := g) (cap := cap) (L := A ++ D) w1i_len (rest := Zs ++ rest) (by rw [hl2, List.flatMap_append, ← hfA, ← hfD]) hBg (by omega) (by unfold maxLen; omega) (by rw [List.length_append, lZ, hrl, ← eN]; omega)
    rw [eN]; exact this
  obtain ⟨ad, had, hsrc⟩ : ∃ ad : Addr, (if cap = j then (⟨g, 0, none⟩ : Addr) else ⟨g, j * 1, none⟩) = ad ∧ ∀ t u, fD[t]? = some u → w.drew.cell? (ad.add t) = some u := by
    by_cases hcj : cap = j
    · refine ⟨_, if_pos hcj, fun t u hu => ?_⟩
      have : fD = [] := List.eq_nil_of_length_eq_zero (by omega)
      rw [this] at hu; cases hu
    · exact ⟨_, if_neg hcj, list_seg hl0' _ (by rw [List.length_append]; omega)⟩
  have hcl : ∀ ty c, (Builtin.clear_ #[23] ty #[.slice (some ⟨g, k, none⟩) (n - k) c]).run Try.prog w1 = .ok (.tuple #[]) w2 := fun ty c => by
    have := run_clearN w1 (ty := ty) Try.underlying23 (z := .int .i64 0) (by intro w; simp [zeroValue, typeInfo, hi, hz0]) (by intro u hu; simp [Value.cells] at hu; subst hu; rfl) g (k * 1) (n - k) c (by omega) hl1 (by
      have : (Value.int .i64 0).cells.size = 1 := rfl
      rw [this]; simp only [List.length_append]; omega)
    rw [hw2, hZs]
    simpa only [Nat.mul_one] using this
  have hsp : ∀ t, t < fD.length → (w.drew.cell? ⟨g, 0 + i * 1 + t, none⟩).isSome = true ∧ w.drew.frozen? ⟨g, 0 + i * 1 + t, none⟩ = false := fun t ht => ⟨list_some hl0 _ (by omega), list_thawed hl0 _⟩
  have HL := Lib.hid (show fD.length = (n - j) * 1 from lD)
  have HS := Lib.hid hsrc
  have HP := Lib.hid hsp
  have HD1 := Lib.hid oD
  have HC := Lib.hid hcl
  have HO := Lib.hid hown
  have HW := Lib.hid hon2
  have H1 := Lib.hid hw1
  have HK := Lib.hid hk
  have g1 : ¬ ((i : Int) = (j : Int)) := by omega
  have g2 : ¬ (cap = k) := by omega
  have g3 : k ≤ n := by omega
  have g4 : ¬ (n = i) := by omega
  have g5 : i ≤ cap := by omega
  have g6 : j ≤ cap := by omega
  have g7 : ¬ (n = k) := by omega
  have g8 : (i : Int) ≤ (j : Int) := by omega
  have g9 : (j : Int) ≤ (n : Int) := by omega
  have g10 : (k : Int) ≤ (n : Int) := by omega
  clear hsrc hsp oD hcl hown hon1 hon2 hw1 hw2 hk hl hl0 hl0' hl1 hl2 hlen e0 e1 e2 h hD hA hM hMD lA lD lM lX lY lZ hfA hfD hfM hZs eX eL eMD hn hrl
  by_cases hcj : cap = j
  · rw [if_pos hcj] at had
    subst had
    subst hcj
    go_enter Try.func20, Try.ntmps20
    go_wp2_with fail
    go_region_law (refine step_append_room rfl (.tmp 22) (.tmp 25) 23 rfl 3 i0 1 Try.underlying23 hi hz1 g 0 i cap (by simp [Act.eval, Act.put]) ⟨g, 0, none⟩ (n - cap) (cap - cap) fD (by simp [Act.eval, Act.put]; omega) HL.out HS.out HD1.out (by omega) HP.out ?_; rw [← H1.out, ← HK.out])
    go_wp2_with (refine wpList_clearRun rfl _ 23 rfl _ rfl (HC.out _ _) ?_)
    go_ret
    exact ⟨by rw [← HK.out]; rfl, by rw [← HK.out]; exact HO.out, HW.out⟩
  · rw [if_neg hcj] at had
    subst had
    go_enter Try.func20, Try.ntmps20
    go_wp2_with fail
    go_region_law (refine step_append_room rfl (.tmp 22) (.tmp 25) 23 rfl 3 i0 1 Try.underlying23 hi hz1 g 0 i cap (by simp [Act.eval, Act.put]) ⟨g, j * 1, none⟩ (n - j) (cap - j) fD (by simp [Act.eval, Act.put]) HL.out HS.out HD1.out (by omega) HP.out ?_; rw [← H1.out, ← HK.out])
    go_wp2_with (refine wpList_clearRun rfl _ 23 rfl _ rfl (HC.out _ _) ?_)
    go_ret
    exact ⟨by rw [← HK.out]; rfl, by rw [← HK.out]; exact HO.out, HW.out⟩

/-! ### append of a list onto a new row -/
theorem wpList_copyOnto {α : Type} {f : α → List Value} (hf : ∀ x, (f x).length = 1) (hfc : ∀ x, ∀ u ∈ f x, u.oneCell' = true)
    {w : World} {ops : Array Oper} {rest : List Oper} {o : Oper} {a : Act} {Q : Exit → Act → World → Prop} (hgd : o.guard = none) (s x : Operand)
    (ho : o.op = .call { callee := .builtin .append, args := #[s, x], argTypes := #[23, 23] }) (B : Nat) (v : Value) (hs : a.eval s = v) (hv : OwnR 3 1 f w B v []) (hB : B ≤ w.heap.size)
    (ao : Option Addr) (cap : Nat) (l : List α) (n : Nat) (hn : l.length = n) (hx : a.eval x = .slice ao n cap) (hl : SeenR 1 f w ao cap l) (hb : n ≤ 1000000)
    (h : ∀ bo bc w', OwnR 3 1 f w' B (.slice bo n bc) l → Below B w w' → wpList Try.prog ops Q rest (a.put o.dst (.slice bo n bc)) w') : wpList Try.prog ops Q (o :: rest) a w := by
  subst hn
  obtain ⟨i0, hi, hz0, hz1, hz2⟩ := Try.infoInt
  have hlt := fun k hk => (hv.lt k hk).1
  cases ao with
  | none =>
    obtain ⟨rfl, rfl⟩ := hl.nn rfl
    obtain ⟨bo, bc, rfl⟩ := hv.shape
    exact wpList_append_own_none hgd s x _ ho B _ i0 1 Try.underlying23 hi _ 0 [] hs hv hx (h bo bc w hv (Below.refl _ _))
  | some ad =>
    refine wpList_append_own _ hgd s x _ ho B _ i0 _ 1 8 Try.underlying23 hi hz0 hz1 hz2 rfl (by decide) v 0 [] hs hv ad l.length cap (l.flatMap f) hx (flat_len hf l) (hl.seg hf)
      (fun u hu => by obtain ⟨e, _, h⟩ := List.mem_flatMap.1 hu; exact hfc e u h) (by have := hl.mx; omega) (by omega) hB ?_
    intro v' w' h1 h2 _
    rw [Nat.zero_add, List.nil_append] at h1
    obtain ⟨bo, bc, rfl⟩ := own_slice' h1
    exact h bo bc w' h1 ((Only.of_grown h2 (fun k e => e)).below hB hlt)

end Go.Proofs.Yteglnlhdgfpglaa
