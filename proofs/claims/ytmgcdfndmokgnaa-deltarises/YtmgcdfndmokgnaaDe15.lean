/-
  One list of the code's, of the call's own; rows of what was due stay behind its calls. No condition.
-/
import Derived.Test.YtmgcdfndmokgnaaDe14
namespace Go.Proofs.Ytmgcdfndmokgnaa
open Go Go.RowKit
set_option linter.unusedVariables false
set_option linter.unusedSimpArgs false

/-- Blocks of other kinds than the code's lists and their rows stay. -/
def Kc (w w' : World) : Prop := ∀ (k : Nat) (cs : Array Value) (ty : TypeId), w.heap[k]? = some (.cells cs ty (0, 0)) → ty ≠ 26 → ty ≠ 53 → w'.heap[k]? = some (.cells cs ty (0, 0))
theorem Kc.row {α : Type} {ty : TypeId} {n : Nat} {f : α → List Value} {w w' : World} {B : Nat} {v : Value} {l : List α} (h : Kc w w') (r : OwnR ty n f w B v l) (a : ty ≠ 26) (b : ty ≠ 53) : OwnR ty n f w' B v l := by
  refine ⟨r.1, ?_⟩
  rcases r.2 with h1 | ⟨g, cap, cur, rfl, hb, hg, rest⟩
  · exact .inl h1
  · exact .inr ⟨g, cap, cur, rfl, hb, h g cur ty hg a b, rest⟩
section
variable {w0 w w' : World} {m : Nat} {v v' : Value} {D : List Ck}
theorem OL.kc (h : OL w0 w m v D) (f : Foot m v v' w w') : Kc w w' := by
  obtain ⟨L, hk, _⟩ := h.st
  intro k cs ty hc a b
  refine (f.only.block k (blk_lt hc) ?_).trans hc
  rintro (rfl | e)
  · rw [hk.blk] at hc
    injection hc with hc
    injection hc with _ hc _
    exact a hc.symm
  · obtain ⟨c1, g1⟩ := hk.row.kind e
    rw [g1] at hc
    injection hc with hc
    injection hc with _ hc _
    exact b hc.symm
def OneL (w0 w : World) (m : Nat) (D : List Ck) : Prop := ∃ v, OL w0 w m v D
theorem OneL.kept (h : OneL w0 w m D) (hb : Below w.heap.size w w') : OneL w0 w' m D := by obtain ⟨v, h⟩ := h; exact ⟨v, h.kept hb⟩
theorem OneL.bel (h : OneL w0 w m D) : Below w0.heap.size w0 w := by obtain ⟨v, h⟩ := h; exact h.bel
theorem OneL.lt (h : OneL w0 w m D) : m < w.heap.size := by obtain ⟨v, h⟩ := h; exact h.lt
theorem OneL.ok (h : OneL w0 w m D) : OkD D := by obtain ⟨v, h⟩ := h; exact h.ok
theorem on_put (h : OneL w0 w m D) (id t : Int) : Calls Try.prog 9 #[.pointer (some ⟨m, 0, none⟩), .int .i64 id, .int .i64 t] w fun e w' => e = .returned (.int .i64 (if putK D id t then 0 else 1)) ∧ OneL w0 w' m (putD D id t) ∧ Kc w w' := by
  obtain ⟨v, h⟩ := h
  exact (ol_put h id t).mono fun e w' ⟨he, v', h3, f⟩ => ⟨he, ⟨v', h3⟩, h.kc f⟩
theorem on_cancel (h : OneL w0 w m D) (id : Int) : Calls Try.prog 11 #[.pointer (some ⟨m, 0, none⟩), .int .i64 id] w fun e w' => e = .returned (.bool (runsK D id)) ∧ OneL w0 w' m (offD D id) ∧ Kc w w' := by
  obtain ⟨v, h⟩ := h
  exact (ol_cancel h id).mono fun e w' ⟨he, v', h3, f⟩ => ⟨he, ⟨v', h3⟩, h.kc f⟩
theorem on_tick (h : OneL w0 w m D) : Calls Try.prog 14 #[.pointer (some ⟨m, 0, none⟩)] w fun e w' => ∃ ao cap, e = .returned (.slice ao (overD D).length cap) ∧ OwnI w' w.heap.size (.slice ao (overD D).length cap) (overD D) ∧ OneL w0 w' m (tickD D) ∧ Kc w w' := by
  obtain ⟨v, h⟩ := h
  exact (ol_tick h).mono fun e w' ⟨ao, cap, he, hO, v', h3, f⟩ => ⟨ao, cap, he, hO, ⟨v', h3⟩, h.kc f⟩
theorem on_dues (h : OneL w0 w m D) : Calls Try.prog 17 #[.pointer (some ⟨m, 0, none⟩)] w fun e w' => ∃ bo bc, e = .returned (.slice bo D.length bc) ∧ OwnD w' w.heap.size (.slice bo D.length bc) (srt D) ∧ Below w.heap.size w w' := by
  obtain ⟨v, h⟩ := h
  exact ol_dues h
theorem on_left (h : OneL w0 w m D) (id : Int) : Calls Try.prog 19 #[.pointer (some ⟨m, 0, none⟩), .int .i64 id] w fun e w' => e = .returned (.int .i64 (leftS D id : Int)) ∧ Below w.heap.size w w' := by
  obtain ⟨v, h⟩ := h
  exact ol_left h id
end
theorem one_new {w w1 : World} (e1 : w1 = w.alloc (.cells #[.slice none 0 0] 26)) : OneL w w1 w.heap.size [] := ⟨_, ol_new e1⟩

theorem due_eqI (a b : Int) (W : World) : (binOp .neq 48 (.agg #[.int .i64 a, .int .i64 b]) (.agg #[.int .i64 a, .int .i64 b])).run Try.prog W = .ok (.bool false) W := by
  go_simp
/-- What stands in a row of one's own, wherever it lies. -/
theorem ownD_at {w : World} {B n bc : Nat} {ao : Option Addr} {S : List Ck} (h : OwnD w B (.slice ao n bc) S) (i : Nat) (hi : i < S.length) :
    ∃ g, ao = some ⟨g, 0, none⟩ ∧ w.cell? ⟨g, i * 2, none⟩ = some (.int .i64 ((S[i]).1 : Int)) ∧ w.cell? ⟨g, i * 2 + 1, none⟩ = some (.int .i64 ((S[i]).2 : Int)) := by
  rcases h.2 with ⟨e, e2⟩ | ⟨g, cap, cur, e, -⟩
  · omega
  · cases e
    exact ⟨g, rfl, own_at h i hi⟩
theorem ownI_at {w : World} {B n bc : Nat} {ao : Option Addr} {S : List Nat} (h : OwnI w B (.slice ao n bc) S) (i : Nat) (hi : i < S.length) :
    ∃ g, ao = some ⟨g, 0, none⟩ ∧ w.cell? ⟨g, i, none⟩ = some (.int .i64 ((S[i]) : Int)) := by
  rcases h.2 with ⟨e, e2⟩ | ⟨g, cap, cur, e, -⟩
  · omega
  · cases e
    obtain ⟨a', c', e', hsn, -⟩ := OwnR.seen w1i_len h
    cases e'
    obtain ⟨b', off', e', -, c0⟩ := seenN_at hsn i hi
    cases e'
    rw [Nat.zero_add] at c0
    exact ⟨_, rfl, c0⟩

end Go.Proofs.Ytmgcdfndmokgnaa
