/-
  The code's row of the call's own and a row of tasks beside it (the document's, or what All gave), apart: what each call answers and leaves of both. No condition.
-/
import Derived.Test.YteglnlhdgfpglaaWa6
namespace Go.Proofs.Yteglnlhdgfpglaa
open Go Go.RowKit
set_option linter.unusedVariables false
set_option linter.unusedSimpArgs false

theorem ownI_at {w : World} {B n bc : Nat} {ao : Option Addr} {S : List Nat} (h : OwnI w B (.slice ao n bc) S) (i : Nat) (hi : i < S.length) :
    ∃ g, ao = some ⟨g, 0, none⟩ ∧ w.cell? ⟨g, i, none⟩ = some (.int .i64 ((S[i]) : Int)) := by
  rcases h.2 with ⟨e, e2⟩ | ⟨g, cap, cur, e, -⟩
  · have := h.len; simp at e; omega
  · cases e
    obtain ⟨a', c', e', hsn, -⟩ := OwnR.seen w1i_len h
    cases e'
    obtain ⟨b', off', e', -, c0⟩ := seenN_at hsn i hi
    cases e'
    rw [Nat.zero_add] at c0
    exact ⟨_, rfl, c0⟩
theorem remW_len {l : List Nat} {t : Int} (hn : l.Nodup) (h : inW l t = true) : (remW l t).length + 1 = l.length := by
  obtain ⟨i, h1, h2, h3⟩ := idxW_rem hn h
  rw [h3, List.length_append, List.length_take, List.length_drop]
  omega
/-- Blocks of other types stay. -/
def Keep (w w' : World) : Prop := ∀ (F : Nat) (cs : Array Value) (ty : TypeId), w.heap[F]? = some (Obj.cells cs ty (0, 0)) → ty ≠ 3 → ty ≠ 26 → w'.heap[F]? = some (Obj.cells cs ty (0, 0))
theorem Keep.of_below {w w' : World} (hb : Below w.heap.size w w') : Keep w w' := fun F cs ty h _ _ => blk_on hb h
theorem Keep.refl (w : World) : Keep w w := fun F cs ty h _ _ => h
theorem Keep.trans {w w1 w' : World} (h : Keep w w1) (g : Keep w1 w') : Keep w w' := fun F cs ty hF a b => g F cs ty (h F cs ty hF a b) a b
structure Two (w0 w : World) (D : Nat) (v : Value) (l : List Nat) (o : Value) (L : List Nat) : Prop where
  ow : OW w0 w D v l
  doc : OwnI w w0.heap.size o L
  ap : ∀ k, v.ownBlock = some k → o.ownBlock ≠ some k
section
variable {w0 w w' : World} {D : Nat} {v v' o o' : Value} {l l' L L' : List Nat}
theorem Two.kept (h : Two w0 w D v l o L) (hb : Below w.heap.size w w') : Two w0 w' D v l o L := ⟨h.ow.kept hb, OwnR.below h.doc hb, h.ap⟩
theorem Two.drewN (h : Two w0 w D v l o L) (q : Nat) : Two w0 (w.drewN q) D v l o L := h.kept (below_dr w q)
theorem Two.bel (h : Two w0 w D v l o L) : Below w0.heap.size w0 w := h.ow.bel
theorem Two.nm (h : Two w0 w D v l o L) : o.ownBlock ≠ some D := by
  intro e
  obtain ⟨cs, h1⟩ := OwnR.kind h.doc e
  rw [h.ow.st.blk] at h1
  injection h1 with h1
  injection h1 with h1 h2 h3
  exact absurd h2 (by decide)
theorem Two.code (T : Two w0 w D v l o L) (h : OW w0 w' D v' l') (f : WFoot D v v' w w') : Two w0 w' D v' l' o L ∧ Keep w w' := by
  refine ⟨⟨h, OwnR.only T.doc f.only (fun k hk e => ?_), fun k hk e => ?_⟩, fun F cs ty hF h1 h2 => ?_⟩
  · rcases e with rfl | e
    · exact T.nm hk
    · exact T.ap k e hk
  · rcases f.new k hk with h' | h'
    · exact T.ap k h' e
    · have := (OwnR.lt T.doc k e).2
      omega
  · refine (f.only.block F (blk_lt hF) ?_).trans hF
    rintro (rfl | e)
    · have := T.ow.st.blk
      rw [hF] at this
      injection this with this
      injection this with _ this _
      exact h2 this
    · obtain ⟨cs', h'⟩ := OwnR.kind T.ow.st.row e
      rw [hF] at h'
      injection h' with h'
      injection h' with _ h' _
      exact h1 h'
theorem Two.other (T : Two w0 w D v l o L) (h : OwnI w' w0.heap.size o' L') (f : Only w w' (fun k => o.ownBlock = some k)) (n : ∀ k, o'.ownBlock = some k → o.ownBlock = some k ∨ w.heap.size ≤ k) : Two w0 w' D v l o' L' ∧ Keep w w' := by
  refine ⟨⟨T.ow.only f (T.ow.bel.trans (f.below T.ow.bel.size (fun k hk => (OwnR.lt T.doc k hk).1))) T.nm (fun k hk e => T.ap k hk e), h, fun k hk e => ?_⟩, fun F cs ty hF h1 h2 => ?_⟩
  · rcases n k e with h' | h'
    · exact T.ap k hk h'
    · have := (OwnR.lt T.ow.st.row k hk).2
      omega
  · refine (f.block F (blk_lt hF) ?_).trans hF
    intro e
    obtain ⟨cs', h'⟩ := OwnR.kind T.doc e
    rw [hF] at h'
    injection h' with h'
    injection h' with _ h' _
    exact h1 h'
/-- What a call made behind everything is a row of its own. -/
theorem Two.fresh {n : Nat} (h : OW w0 w D v l) (hb : Below w.heap.size w w') (r : OwnI w' w.heap.size o L) : Two w0 w' D v l o L :=
  ⟨h.kept hb, OwnR.mono r h.bel.size, fun k hk e => by
    have := (OwnR.lt h.st.row k hk).2
    have := (OwnR.lt r k e).1
    omega⟩
theorem tw_add (T : Two w0 w D v l o L) (t : Int) : Calls Try.prog 10 #[.pointer (some ⟨D, 0, none⟩), .int .i64 t] w fun e w' => e = .returned (.int .i64 (if addK l t then 0 else 1)) ∧ ∃ v', Two w0 w' D v' (addW l t) o L ∧ Keep w w' := by
  refine (ow_add T.ow t).mono ?_
  rintro e w' ⟨rfl, v', h1, h2⟩
  exact ⟨rfl, v', T.code h1 h2⟩
theorem tw_remove (T : Two w0 w D v l o L) (t : Int) : Calls Try.prog 11 #[.pointer (some ⟨D, 0, none⟩), .int .i64 t] w fun e w' => e = .returned (.bool (inW l t)) ∧ ∃ v', Two w0 w' D v' (remW l t) o L ∧ Keep w w' := by
  refine (ow_remove T.ow t).mono ?_
  rintro e w' ⟨rfl, v', h1, h2⟩
  exact ⟨rfl, v', T.code h1 h2⟩
theorem Two.docLen (T : Two w0 w D v l o L) (hL : L.length ≤ 1000000) : ∃ ao cap, o = .slice ao L.length cap ∧ SeenN w ao cap L := by
  obtain ⟨ao, cap, e, hs, -⟩ := OwnR.seen w1i_len T.doc
  exact ⟨ao, cap, e, hs⟩
end

end Go.Proofs.Yteglnlhdgfpglaa
