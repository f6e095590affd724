/-
  Rows whose elements take n cells: copy, clear, append onto a cut and append of zeros, as what they leave in a block that is known whole. Nothing of the translation's functions is named here. No condition.
-/
import Derived.Test.YteglnlhdgfpglaaRy6
import Derived.Laws.IdiomCopy
import Derived.Laws.CopyOwn
import Derived.Lib.AppendZerosOnto
import Derived.Lib.Overlaps
import Derived.Laws.Externs
import Derived.Deep.RegionLaw
namespace Go.Proofs.Yteglnlhdgfpglaa
open Go Go.RowKit
set_option linter.unusedVariables false
set_option linter.unusedSimpArgs false

/-! ### Lists -/
theorem splice_app {α : Type} (A X C Y : List α) (h : Y.length = X.length) (o : Nat) (ho : o = A.length) : splice (A ++ (X ++ C)) o Y = A ++ (Y ++ C) := by
  subst ho
  unfold splice
  rw [List.take_left, h, ← List.length_append, ← List.append_assoc A X C, List.drop_left]
theorem split_len {α : Type} (l : List α) (k : Nat) (h : k ≤ l.length) : ∃ a b, l = a ++ b ∧ a.length = k := ⟨l.take k, l.drop k, (List.take_append_drop k l).symm, by rw [List.length_take]; omega⟩
theorem setsA_list : ∀ (vs : List Value) (cs : Array Value) (o : Nat), o + vs.length ≤ cs.size → (setsA cs o vs).toList = splice cs.toList o vs
  | [], cs, o, _ => by simp [setsA, splice]
  | v :: r, cs, o, h => by
    simp only [List.length_cons] at h
    rw [setsA, setsA_list r _ (o + 1) (by simp; omega)]
    have e := list_seg_step cs.toList o v r (by simp; omega)
    simp only [splice, Array.toList_setIfInBounds, List.length_cons]
    rw [← List.append_assoc, e, List.append_assoc]
theorem setCells_stN (b : Nat) : ∀ (vs : List Value) (o : Nat) (w : World), w.setCells b o vs = stN w b o vs
  | [], _, _ => rfl
  | v :: r, o, w => by rw [World.setCells, stN, setCells_stN b r]
/-- A row that is known whole, behind stores. -/
theorem setCells_list {w : World} {g : Nat} {ty : TypeId} {l : List Value} (h : w.heap[g]? = some (.cells l.toArray ty (0, 0))) (o : Nat) (vs : List Value) (ho : o + vs.length ≤ l.length) :
    (w.setCells g o vs).heap[g]? = some (.cells (splice l o vs).toArray ty (0, 0)) := by
  rw [setCells_stN, stN_block vs w o _ h]
  have := setsA_list vs l.toArray o (by simpa using ho)
  simp only at this
  rw [← this]
theorem setCells_only {w : World} (g o : Nat) (vs : List Value) : Only w (w.setCells g o vs) (fun k => k = g) := by rw [setCells_stN]; exact stN_only vs w o
theorem list_cell {w : World} {g : Nat} {ty : TypeId} {l : List Value} (h : w.heap[g]? = some (.cells l.toArray ty (0, 0))) (j : Nat) : w.cell? ⟨g, j, none⟩ = l[j]? := by
  simp [World.cell?, h]
theorem list_thawed {w : World} {g : Nat} {ty : TypeId} {l : List Value} (h : w.heap[g]? = some (.cells l.toArray ty (0, 0))) (j : Nat) : w.frozen? ⟨g, j, none⟩ = false := by
  simp [World.frozen?, h]
theorem list_some {w : World} {g : Nat} {ty : TypeId} {l : List Value} (h : w.heap[g]? = some (.cells l.toArray ty (0, 0))) (j : Nat) (hj : j < l.length) : (w.cell? ⟨g, j, none⟩).isSome = true := by
  rw [list_cell h, List.getElem?_eq_getElem hj]; rfl
theorem add_lit (g o j : Nat) : (⟨g, o, none⟩ : Addr).add j = ⟨g, o + j, none⟩ := by unfold Addr.add; split <;> simp_all
/-- What stands from a place on. -/
theorem list_seg {w : World} {g : Nat} {ty : TypeId} {A X C : List Value} (h : w.heap[g]? = some (.cells (A ++ (X ++ C)).toArray ty (0, 0))) (o : Nat) (ho : o = A.length) : ∀ j v, X[j]? = some v → w.cell? ((⟨g, o, none⟩ : Addr).add j) = some v := by
  intro j v hj
  subst ho
  have hlt := (List.getElem?_eq_some_iff.1 hj).1
  rw [add_lit, list_cell h, List.getElem?_append_right (by omega), Nat.add_sub_cancel_left, List.getElem?_append_left hlt, hj]

/-! ### A row of one's own, as a list of cells -/
section
variable {α : Type} {ty : TypeId} {n : Nat} {f : α → List Value} {w : World} {B : Nat}
theorem OwnR.list {g m cap : Nat} {L : List α} (hf : ∀ x, (f x).length = n) (h : OwnR ty n f w B (.slice (some ⟨g, 0, none⟩) m cap) L) :
    ∃ rest : List Value, m = L.length ∧ w.heap[g]? = some (.cells (L.flatMap f ++ rest).toArray ty (0, 0)) ∧ rest.length = (cap - L.length) * n ∧ B ≤ g ∧ L.length ≤ cap ∧ cap ≤ maxLen := by
  obtain rfl := h.len
  rcases h.2 with ⟨e, -⟩ | ⟨g', cap', cur, e, hb, hg, hc, hm, hs, ht⟩
  · cases e
  · cases e
    refine ⟨cur.toList.drop (L.length * n), rfl, ?_, ?_, hb, hc, hm⟩
    · rw [← ht, List.take_append_drop]; exact hg
    · rw [List.length_drop, Array.length_toList, hs, Nat.sub_mul]
theorem ownR_of {g cap : Nat} {L : List α} (hf : ∀ x, (f x).length = n) {rest : List Value} (h : w.heap[g]? = some (.cells (L.flatMap f ++ rest).toArray ty (0, 0))) (hB : B ≤ g) (hn : L.length ≤ cap) (hc : cap ≤ maxLen)
    (hr : rest.length = (cap - L.length) * n) : OwnR ty n f w B (.slice (some ⟨g, 0, none⟩) L.length cap) L := by
  refine ⟨flat_len hf L, .inr ⟨g, cap, _, rfl, hB, h, hn, hc, ?_, ?_⟩⟩
  · simp only [List.size_toArray, List.length_append]
    rw [flat_len hf, hr, ← Nat.add_mul]
    congr 1
    omega
  · simp only
    rw [← flat_len hf L, List.take_left]
end

theorem OwnR.caps {α : Type} {ty : TypeId} {n : Nat} {f : α → List Value} {w : World} {B m cap : Nat} {ao : Option Addr} {L : List α} (h : OwnR ty n f w B (.slice ao m cap) L) : m ≤ cap ∧ cap ≤ 9223372036854775807 := by
  have hm := h.len
  rcases h.2 with ⟨e, e2⟩ | ⟨g', cap', cur, e, hb, hg, hc, hx, -⟩
  · injection e with e1 e3 e4; omega
  · injection e with e1 e3 e4; unfold maxLen at hx; omega

/-! ### The builtins -/
theorem run_copyN (w : World) {sl ty e : TypeId} {i0 : TypeInfo} (hu : Try.prog.underlying sl = some (.slice e)) (hi : Try.prog.info? e = some i0) {n : Nat} (hz : i0.size = n) (g o dLen dCap : Nat) (a : Addr) (sLen sCap k : Nat) (hk : Nat.min sLen dLen = k)
    (cs : List Value) (hn : cs.length = k * n) (hsrc : ∀ j v, cs[j]? = some v → w.cell? (a.add j) = some v) {t : TypeId} {l : List Value} (hg : w.heap[g]? = some (.cells l.toArray t (0, 0))) (hfit : o + cs.length ≤ l.length) (h1 : ∀ v ∈ cs, v.oneCell' = true) :
    (Builtin.copy_ #[sl, sl] ty #[.slice (some ⟨g, o, none⟩) dLen dCap, .slice (some a) sLen sCap]).run Try.prog w = .ok (goInt k) (w.setCells g o cs) := by
  have hl := run_loadCells_list (P := Try.prog) w a cs hsrc
  have hst := run_storeCells_cells (P := Try.prog) g o cs 0 w (fun j hj => by rw [Nat.add_zero]; exact list_some hg _ (by omega)) (fun j hj => list_thawed hg _) h1
  rw [Nat.add_zero] at hst
  subst hz
  simp [Builtin.copy_, run_underlying hu, Builtin.lenOf, Builtin.firstCells, sizeOf, typeInfo, hi, hk, ← hn, hl, hst]
theorem zeroCells_len (z : Array Value) (n : Nat) : (Builtin.zeroCells z n).toList.length = n * z.size := by simp [Builtin.zeroCells]
theorem zeroCells_one (z : Array Value) (n : Nat) (h : ∀ u ∈ z.toList, u.oneCell' = true) : ∀ v ∈ (Builtin.zeroCells z n).toList, v.oneCell' = true := by
  intro v hv
  simp only [Builtin.zeroCells, Array.toList_map, Array.toList_range, List.mem_map, List.mem_range] at hv
  obtain ⟨i, hi, rfl⟩ := hv
  have hz : i % z.size < z.size := Nat.mod_lt _ (by rcases Nat.eq_zero_or_pos z.size with h | h
                                                    · rw [h] at hi; omega
                                                    · exact h)
  rw [getElem!_pos z _ hz]
  exact h _ (by simp)
theorem run_clearN (w : World) {sl ty e : TypeId} (hu : Try.prog.underlying sl = some (.slice e)) {z : Value} (hv : ∀ w, (zeroValue e).run Try.prog w = .ok z w) (h1 : ∀ u ∈ z.cells.toList, u.oneCell' = true) (g o k c : Nat) (hk : 0 < k)
    {t : TypeId} {l : List Value} (hg : w.heap[g]? = some (.cells l.toArray t (0, 0))) (hfit : o + k * z.cells.size ≤ l.length) :
    (Builtin.clear_ #[sl] ty #[.slice (some ⟨g, o, none⟩) k c]).run Try.prog w = .ok (.tuple #[]) (w.setCells g o (Builtin.zeroCells z.cells k).toList) := by
  have hst := run_storeCells_cells (P := Try.prog) g o (Builtin.zeroCells z.cells k).toList 0 w (fun j hj => by rw [zeroCells_len] at hj; rw [Nat.add_zero]; exact list_some hg _ (by omega)) (fun j hj => list_thawed hg _) (zeroCells_one _ _ h1)
  rw [Nat.add_zero] at hst
  obtain ⟨m, rfl⟩ : ∃ m, k = m + 1 := ⟨k - 1, by omega⟩
  simp [Builtin.clear_, run_underlying hu, hv, hst]
/-- An operation whose run is known. -/
theorem wpList_copyRun {w : World} {ops : Array Oper} {rest : List Oper} {o : Oper} {a : Act} {Q : Exit → Act → World → Prop} (hgd : o.guard = none) (d s : Operand) (t t' : TypeId)
    (ho : o.op = .call { callee := .builtin .copy, args := #[d, s], argTypes := #[t, t'] }) (v u : Value) (hd : a.eval d = v) (hs : a.eval s = u) {v' : Value} {w' : World}
    (hr : (Builtin.copy_ #[t, t'] o.type #[v, u]).run Try.prog w = .ok v' w') (h : wpList Try.prog ops Q rest (a.put o.dst v') w') : wpList Try.prog ops Q (o :: rest) a w := by
  refine wpList_plain hgd fun K hK => ?_
  unfold Oper.wp
  simp [execOp, ho, resolve, invoke, builtin, hd, hs, hr, Result.andThen]
  exact hK _ _ h
theorem step_copyRun {ops : Array Oper} {o : Oper} {a : Act} {w : World} {K : Act → World → Prop} {Q : Exit → Act → World → Prop} {E : Prop} (hgd : o.guard = none) (d s : Operand) (t t' : TypeId)
    (ho : o.op = .call { callee := .builtin .copy, args := #[d, s], argTypes := #[t, t'] }) (v u : Value) (hd : a.eval d = v) (hs : a.eval s = u) {v' : Value} {w' : World}
    (hr : (Builtin.copy_ #[t, t'] o.type #[v, u]).run Try.prog w = .ok v' w') (h : K (a.put o.dst v') w') : if Region.wanted o (yielded ops a.tmps) = true then Oper.wp Try.prog o a w K Q else E := by
  have hw : Region.wanted o (yielded ops a.tmps) = true := by simp [Region.wanted, hgd]
  rw [if_pos hw]
  unfold Oper.wp
  simp [execOp, ho, resolve, invoke, builtin, hd, hs, hr, Result.andThen]
  exact h
theorem wpList_clearRun {w : World} {ops : Array Oper} {rest : List Oper} {o : Oper} {a : Act} {Q : Exit → Act → World → Prop} (hgd : o.guard = none) (s : Operand) (t : TypeId)
    (ho : o.op = .call { callee := .builtin .clear, args := #[s], argTypes := #[t] }) (u : Value) (hs : a.eval s = u) {v' : Value} {w' : World}
    (hr : (Builtin.clear_ #[t] o.type #[u]).run Try.prog w = .ok v' w') (h : wpList Try.prog ops Q rest (a.put o.dst v') w') : wpList Try.prog ops Q (o :: rest) a w := by
  refine wpList_plain hgd fun K hK => ?_
  unfold Oper.wp
  simp [execOp, ho, resolve, invoke, builtin, hs, hr, Result.andThen]
  exact hK _ _ h

/-! ### Clocks in memory -/
/-- The two cells of a clock, and of what the document tells of one. -/
def cc (c : Nat × Nat) : List Value := [.int .i64 (c.1 : Int), .int .i64 (c.2 : Int)]
theorem cc_len (c : Nat × Nat) : (cc c).length = 2 := rfl
theorem cc_one (c : Nat × Nat) : ∀ u ∈ cc c, u.oneCell' = true := by
  intro u hu
  simp only [cc, List.mem_cons, List.not_mem_nil, or_false] at hu
  rcases hu with rfl | rfl <;> rfl
theorem ccs_one (l : List (Nat × Nat)) : ∀ u ∈ l.flatMap cc, u.oneCell' = true := by
  intro u hu
  obtain ⟨c, _, h⟩ := List.mem_flatMap.1 hu
  exact cc_one c u h
theorem ccs_len (l : List (Nat × Nat)) : (l.flatMap cc).length = l.length * 2 := flat_len cc_len l
abbrev SeenK (w : World) (ao : Option Addr) (cap : Nat) (l : List (Nat × Nat)) : Prop := SeenR 2 cc w ao cap l
theorem seenK_at {w : World} {ao : Option Addr} {cap : Nat} {l : List (Nat × Nat)} (h : SeenK w ao cap l) (i : Nat) (hi : i < l.length) :
    ∃ b off, ao = some ⟨b, off, none⟩ ∧ b < w.heap.size ∧ w.cell? ⟨b, off + i * 2, none⟩ = some (.int .i64 ((l[i]).1 : Int)) ∧ w.cell? ⟨b, off + i * 2 + 1, none⟩ = some (.int .i64 ((l[i]).2 : Int)) := by
  obtain ⟨b, off, h1, h2, h3⟩ := h.at i hi
  exact ⟨b, off, h1, h2, h3 0 (by omega), h3 1 (by omega)⟩
/-- The two cells of one that was just laid. -/
theorem cc_cells {w : World} {g : Nat} {t : TypeId} {x : Nat × Nat} (h : w.heap[g]? = some (.cells (cc x).toArray t (0, 0))) : ∀ j u, (cc x)[j]? = some u → w.cell? ((⟨g, 0, none⟩ : Addr).add j) = some u := by
  have := list_seg (A := []) (X := cc x) (C := []) (w := w) (g := g) (ty := t) (by simpa using h) 0 rfl
  exact this
theorem lit_cells (w : World) (cs : Array Value) (t : TypeId) (n : Nat) (hn : n = w.heap.size) : (w.alloc (.cells cs t)).heap[n]? = some (.cells cs t (0, 0)) := by
  subst hn
  exact heap_alloc_new w _

end Go.Proofs.Yteglnlhdgfpglaa
