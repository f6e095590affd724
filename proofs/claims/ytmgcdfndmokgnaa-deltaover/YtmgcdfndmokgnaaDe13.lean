/-
  The code's list and the document's side by side, of the call's own; what a call of the one leaves of the other, and of all that is of other kinds. No condition.
-/
import Derived.Test.YtmgcdfndmokgnaaDe12
namespace Go.Proofs.Ytmgcdfndmokgnaa
open Go Go.RowKit
set_option linter.unusedVariables false
set_option linter.unusedSimpArgs false

/-- Blocks of other kinds than lists and their rows stay. -/
def Kp (w w' : World) : Prop := ∀ (k : Nat) (cs : Array Value) (ty : TypeId), w.heap[k]? = some (.cells cs ty (0, 0)) → ty ≠ 26 → ty ≠ 53 → ty ≠ 30 → ty ≠ 48 → w'.heap[k]? = some (.cells cs ty (0, 0))
theorem Kp.below {w w' : World} (h : Below w.heap.size w w') : Kp w w' := fun k cs ty hk _ _ _ _ => (h.block k (blk_lt hk)).trans hk
theorem Kp.trans {w w1 w2 : World} (h : Kp w w1) (g : Kp w1 w2) : Kp w w2 := fun k cs ty hk a b c d => g k cs ty (h k cs ty hk a b c d) a b c d
theorem Kp.row {α : Type} {ty : TypeId} {n : Nat} {f : α → List Value} {w w' : World} {B : Nat} {v : Value} {l : List α} (h : Kp w w') (r : OwnR ty n f w B v l) (a : ty ≠ 26) (b : ty ≠ 53) (c : ty ≠ 30) (d : ty ≠ 48) : OwnR ty n f w' B v l := by
  refine ⟨r.1, ?_⟩
  rcases r.2 with h1 | ⟨g, cap, cur, rfl, hb, hg, rest⟩
  · exact .inl h1
  · exact .inr ⟨g, cap, cur, rfl, hb, h g cur ty hg a b c d, rest⟩
section
variable {w0 w w' : World} {m n : Nat} {v v' u u' : Value} {D E D' E' : List Ck}
theorem OL.kp (h : OL w0 w m v D) (f : Foot m v v' w w') : Kp w w' := by
  obtain ⟨L, hk, _⟩ := h.st
  intro k cs ty hc a b _ _
  refine (f.only.block k (blk_lt hc) ?_).trans hc
  rintro (rfl | e)
  · rw [hk.blk] at hc
    injection hc with hc
    injection hc with _ hc _
    exact a hc.symm
  · obtain ⟨c1, g1⟩ := hk.row.kind e
    rw [g1] at hc
    injection hc with hc
    injection hc with _ hc _
    exact b hc.symm
theorem DL.kp (h : DL w0 w n u D) (f : Foot n u u' w w') : Kp w w' := by
  have hk := h.st
  intro k cs ty hc _ _ a b
  refine (f.only.block k (blk_lt hc) ?_).trans hc
  rintro (rfl | e)
  · rw [hk.blk] at hc
    injection hc with hc
    injection hc with _ hc _
    exact a hc.symm
  · obtain ⟨c1, g1⟩ := hk.row.kind e
    rw [g1] at hc
    injection hc with hc
    injection hc with _ hc _
    exact b hc.symm
/-- The code's blocks and the document's are of four kinds. -/
theorem four (h : OL w0 w m v D) (g : DL w0 w n u E) : m ≠ n ∧ v.ownBlock ≠ some n ∧ u.ownBlock ≠ some m ∧ ∀ k, v.ownBlock = some k → u.ownBlock ≠ some k := by
  obtain ⟨L, hk, _⟩ := h.st
  have gk := g.st
  refine ⟨fun e => ?_, fun e => ?_, fun e => ?_, kinds_apart hk.row gk.row (by decide)⟩
  · have h1 := hk.blk
    rw [e, gk.blk] at h1
    injection h1 with h1
    injection h1 with _ h1 _
    exact absurd h1 (by decide)
  · obtain ⟨c1, g1⟩ := hk.row.kind e
    rw [gk.blk] at g1
    injection g1 with g1
    injection g1 with _ g1 _
    exact absurd g1 (by decide)
  · obtain ⟨c1, g1⟩ := gk.row.kind e
    rw [hk.blk] at g1
    injection g1 with g1
    injection g1 with _ g1 _
    exact absurd g1 (by decide)
/-- Both. -/
def TwoD (w0 w : World) (m n : Nat) (D E : List Ck) : Prop := ∃ v u, OL w0 w m v D ∧ DL w0 w n u E
theorem TwoD.kept (h : TwoD w0 w m n D E) (hb : Below w.heap.size w w') : TwoD w0 w' m n D E := by
  obtain ⟨v, u, h1, h2⟩ := h
  exact ⟨v, u, h1.kept hb, h2.kept hb⟩
theorem TwoD.drewN (h : TwoD w0 w m n D E) (q : Nat) : TwoD w0 (w.drewN q) m n D E := h.kept (below_drewN (Below.refl _ _) q)
theorem TwoD.bel (h : TwoD w0 w m n D E) : Below w0.heap.size w0 w := by obtain ⟨v, u, h1, h2⟩ := h; exact h1.bel
theorem TwoD.lt (h : TwoD w0 w m n D E) : m < w.heap.size ∧ n < w.heap.size := by obtain ⟨v, u, h1, h2⟩ := h; exact ⟨h1.lt, h2.lt⟩
theorem code_step (h : OL w0 w m v D) (g : DL w0 w n u E) (h' : OL w0 w' m v' D') (f : Foot m v v' w w') : TwoD w0 w' m n D' E ∧ Kp w w' := by
  obtain ⟨a, b, c, d⟩ := four h g
  refine ⟨⟨v', u, h', g.only f.only h'.bel ?_ ?_⟩, h.kp f⟩
  · rintro (e | e)
    · exact a e.symm
    · exact b e
  · rintro k hk (e | e)
    · exact c (by rw [← e]; exact hk)
    · exact d k e hk
theorem doc_step (h : OL w0 w m v D) (g : DL w0 w n u E) (g' : DL w0 w' n u' E') (f : Foot n u u' w w') : TwoD w0 w' m n D E' ∧ Kp w w' := by
  obtain ⟨a, b, c, d⟩ := four h g
  refine ⟨⟨v, u', h.only f.only g'.bel ?_ ?_, g'⟩, g.kp f⟩
  · rintro (e | e)
    · exact a e
    · exact c e
  · rintro k hk (e | e)
    · exact b (by rw [← e]; exact hk)
    · exact d k hk e
theorem tw_put (h : TwoD w0 w m n D E) (id t : Int) : Calls Try.prog 9 #[.pointer (some ⟨m, 0, none⟩), .int .i64 id, .int .i64 t] w fun e w' => e = .returned (.int .i64 (if putK D id t then 0 else 1)) ∧ TwoD w0 w' m n (putD D id t) E ∧ Kp w w' := by
  obtain ⟨v, u, h1, h2⟩ := h
  exact (ol_put h1 id t).mono fun e w' ⟨he, v', h3, f⟩ => ⟨he, code_step h1 h2 h3 f⟩
theorem tw_rput (h : TwoD w0 w m n D E) (id t : Int) : Calls Try.prog 10 #[.pointer (some ⟨n, 0, none⟩), .int .i64 id, .int .i64 t] w fun e w' => e = .returned (.bool (putK E id t)) ∧ TwoD w0 w' m n D (putD E id t) ∧ Kp w w' := by
  obtain ⟨v, u, h1, h2⟩ := h
  exact (dl_put h2 id t).mono fun e w' ⟨he, u', h3, f⟩ => ⟨he, doc_step h1 h2 h3 f⟩
theorem tw_cancel (h : TwoD w0 w m n D E) (id : Int) : Calls Try.prog 11 #[.pointer (some ⟨m, 0, none⟩), .int .i64 id] w fun e w' => e = .returned (.bool (runsK D id)) ∧ TwoD w0 w' m n (offD D id) E ∧ Kp w w' := by
  obtain ⟨v, u, h1, h2⟩ := h
  exact (ol_cancel h1 id).mono fun e w' ⟨he, v', h3, f⟩ => ⟨he, code_step h1 h2 h3 f⟩
theorem tw_rcancel (h : TwoD w0 w m n D E) (id : Int) : Calls Try.prog 12 #[.pointer (some ⟨n, 0, none⟩), .int .i64 id] w fun e w' => e = .returned (.bool (runsK E id)) ∧ TwoD w0 w' m n D (offD E id) ∧ Kp w w' := by
  obtain ⟨v, u, h1, h2⟩ := h
  exact (dl_cancel h2 id).mono fun e w' ⟨he, u', h3, f⟩ => ⟨he, doc_step h1 h2 h3 f⟩
theorem tw_tick (h : TwoD w0 w m n D E) : Calls Try.prog 14 #[.pointer (some ⟨m, 0, none⟩)] w fun e w' => ∃ ao cap, e = .returned (.slice ao (overD D).length cap) ∧ OwnI w' w.heap.size (.slice ao (overD D).length cap) (overD D) ∧ TwoD w0 w' m n (tickD D) E ∧ Kp w w' := by
  obtain ⟨v, u, h1, h2⟩ := h
  exact (ol_tick h1).mono fun e w' ⟨ao, cap, he, hO, v', h3, f⟩ => ⟨ao, cap, he, hO, code_step h1 h2 h3 f⟩
theorem tw_rtick (h : TwoD w0 w m n D E) : Calls Try.prog 15 #[.pointer (some ⟨n, 0, none⟩)] w fun e w' => ∃ ao cap, e = .returned (.slice ao (overD E).length cap) ∧ OwnI w' w.heap.size (.slice ao (overD E).length cap) (overD E) ∧ TwoD w0 w' m n D (tickD E) ∧ Kp w w' := by
  obtain ⟨v, u, h1, h2⟩ := h
  exact (dl_tick h2).mono fun e w' ⟨ao, cap, he, hO, u', h3, f⟩ => ⟨ao, cap, he, hO, doc_step h1 h2 h3 f⟩
theorem tw_dues (h : TwoD w0 w m n D E) : Calls Try.prog 17 #[.pointer (some ⟨m, 0, none⟩)] w fun e w' => ∃ bo bc, e = .returned (.slice bo D.length bc) ∧ OwnD w' w.heap.size (.slice bo D.length bc) (srt D) ∧ Below w.heap.size w w' := by
  obtain ⟨v, u, h1, h2⟩ := h
  exact ol_dues h1
theorem tw_rdues (h : TwoD w0 w m n D E) : Calls Try.prog 18 #[.pointer (some ⟨n, 0, none⟩)] w fun e w' => ∃ bo bc, e = .returned (.slice bo E.length bc) ∧ OwnD w' w.heap.size (.slice bo E.length bc) (srt E) ∧ Below w.heap.size w w' := by
  obtain ⟨v, u, h1, h2⟩ := h
  exact rdues_any h2.st
theorem tw_left (h : TwoD w0 w m n D E) (id : Int) : Calls Try.prog 19 #[.pointer (some ⟨m, 0, none⟩), .int .i64 id] w fun e w' => e = .returned (.int .i64 (leftS D id : Int)) ∧ Below w.heap.size w w' := by
  obtain ⟨v, u, h1, h2⟩ := h
  exact ol_left h1 id
theorem tw_rleft (h : TwoD w0 w m n D E) (id : Int) : Calls Try.prog 20 #[.pointer (some ⟨n, 0, none⟩), .int .i64 id] w fun e w' => e = .returned (.int .i64 (leftS E id : Int)) ∧ w = w' := by
  obtain ⟨v, u, h1, h2⟩ := h
  exact rleft_any h2.st id
theorem tw_from (h : TwoD w0 w m n D E) (id : Int) : Calls Try.prog 21 #[.pointer (some ⟨m, 0, none⟩), .int .i64 id] w fun e w' => e = .returned (.int .i64 (fromS D id : Int)) ∧ Below w.heap.size w w' := by
  obtain ⟨v, u, h1, h2⟩ := h
  exact ol_from h1 id
theorem tw_rfrom (h : TwoD w0 w m n D E) (id : Int) : Calls Try.prog 22 #[.pointer (some ⟨n, 0, none⟩), .int .i64 id] w fun e w' => e = .returned (.int .i64 (fromS E id : Int)) ∧ w = w' := by
  obtain ⟨v, u, h1, h2⟩ := h
  exact rfrom_any h2.st id
end
theorem two_new {w w1 w2 : World} (e1 : w1 = w.alloc (.cells #[.slice none 0 0] 26)) (e2 : w2 = w1.alloc (.cells #[.slice none 0 0] 30)) : TwoD w w2 w.heap.size (w.heap.size + 1) [] [] := by
  obtain ⟨s1, n1, b1⟩ := new_size e1
  obtain ⟨s2, n2, b2⟩ := new_size e2
  have h2 := dl_new e2
  refine ⟨_, .slice none 0 0, (ol_new e1).kept b2, ?_⟩
  rw [← s1]
  exact ⟨⟨h2.st.blk, ownR_nil, by simp, by simp, by simp⟩, h2.ok, below_on b1 b2, by omega⟩

end Go.Proofs.Ytmgcdfndmokgnaa
