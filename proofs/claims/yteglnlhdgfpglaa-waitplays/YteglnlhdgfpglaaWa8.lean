/-
  The calls of the code and of the document beside each other, in any world behind: what a region that draws its order asks. No condition.
-/
import Derived.Test.YteglnlhdgfpglaaWa7
import Derived.Deep.CutBlock
namespace Go.Proofs.Yteglnlhdgfpglaa
open Go Go.RowKit
set_option linter.unusedVariables false
set_option linter.unusedSimpArgs false

theorem rwithout_own {w : World} {B n cap : Nat} {ao : Option Addr} {l : List Nat} (h : OwnI w B (.slice ao n cap) l) (hl : n ≤ 1000000) (t : Int) :
    Calls Try.prog 12 #[.slice ao n cap, .int .i64 t] w fun e w' => ∃ bo bc, e = .returned (.slice bo (remW l t).length bc) ∧ OwnI w' w.heap.size (.slice bo (remW l t).length bc) (remW l t) ∧ Below w.heap.size w w' := by
  obtain rfl := h.len
  obtain ⟨a1, c1, e1, s1, -⟩ := OwnR.seen w1i_len h
  cases e1
  exact rwithout_any ao cap l s1 hl t
theorem rbest_own {w : World} {B n cap : Nat} {ao : Option Addr} {l : List Nat} (h : OwnI w B (.slice ao n cap) l) (hl : n ≤ 1000000) {bo : Option Addr} {bc K : Nat} {lv : List Int} (g : SeenL w bo bc lv) (hK : lv.length = K) :
    Calls Try.prog 14 #[.slice ao n cap, .slice bo K bc] w fun e w' => e = .returned (.int .i64 (turnI lv l)) ∧ ∃ q, w' = w.drewN q := by
  subst hK
  obtain rfl := h.len
  obtain ⟨a1, c1, e1, s1, -⟩ := OwnR.seen w1i_len h
  cases e1
  exact rbest_any s1 g hl
section
variable {w0 w w' : World} {D : Nat} {v v' o o' : Value} {l l' L L' : List Nat}
theorem tw_all (T : Two w0 w D v l o L) {n : Nat} (hn : l.length = n) : Calls Try.prog 16 #[.pointer (some ⟨D, 0, none⟩)] w fun e w' => ∃ bo bc B, e = .returned (.slice bo n bc) ∧ OwnI w' B (.slice bo n bc) l ∧ Below w.heap.size w w' := by
  subst hn
  refine (ow_all T.ow).mono ?_
  rintro e w' ⟨bo, bc, rfl, h1, h2⟩
  exact ⟨bo, bc, _, rfl, h1, h2⟩
theorem tw_best (T : Two w0 w D v l o L) {bo : Option Addr} {bc K : Nat} {lv : List Int} (g : SeenL w bo bc lv) (hK : lv.length = K) : Calls Try.prog 13 #[.pointer (some ⟨D, 0, none⟩), .slice bo K bc] w fun e w' => e = .returned (bestV lv l) ∧ ∃ q, w' = w.drewN q := by
  subst hK
  exact ow_best T.ow g
/-- Remove, in whichever world: what it leaves where the row was l. -/
theorem rem_any (w0 : World) (D : Nat) (o : Value) (l : List Nat) (t : Int) (F : Nat) (cs : Array Value) (ty : TypeId) (h1 : ty ≠ 3) (h2 : ty ≠ 26) (u : World) (hC : ∃ v' l', Two w0 u D v' l' o l ∧ u.heap[F]? = some (.cells cs ty (0, 0))) :
    Calls Try.prog 11 #[.pointer (some ⟨D, 0, none⟩), .int .i64 t] u fun e w2 => ∃ q, e = .returned (.bool q) ∧ (∃ v' l', Two w0 w2 D v' l' o l ∧ w2.heap[F]? = some (.cells cs ty (0, 0))) ∧ ((∃ v', Two w0 u D v' l o l) → q = inW l t ∧ ∃ v', Two w0 w2 D v' (remW l t) o l) := by
  obtain ⟨v', l', hu, hn⟩ := hC
  by_cases h0 : ∃ v', Two w0 u D v' l o l
  · obtain ⟨v0, h0⟩ := h0
    refine (tw_remove h0 t).mono ?_
    rintro e w2 ⟨rfl, v2, h3, h4⟩
    exact ⟨_, rfl, ⟨v2, _, h3, h4 F _ _ hn h1 h2⟩, fun _ => ⟨rfl, v2, h3⟩⟩
  · refine (tw_remove hu t).mono ?_
    rintro e w2 ⟨rfl, v2, h3, h4⟩
    exact ⟨_, rfl, ⟨v2, _, h3, h4 F _ _ hn h1 h2⟩, fun h => absurd h h0⟩
theorem index_any (w0 : World) (D : Nat) (ao : Option Addr) (n cap : Nat) (hn : n ≤ 1000000) (l : List Nat) (t : Int) (F : Nat) (cs : Array Value) (ty : TypeId) (u : World) (hC : ∃ v' l', Two w0 u D v' l' (.slice ao n cap) l ∧ u.heap[F]? = some (.cells cs ty (0, 0))) :
    Calls Try.prog 9 #[.slice ao n cap, .int .i64 t] u fun e w2 => e = .returned (.int .i64 (idxW l t)) ∧ u = w2 := by
  obtain ⟨v', l', hu, -⟩ := hC
  exact windex_own hu.doc hn t
theorem two_new {w w1 w2 : World} {E : Nat} (e1 : w1 = w.alloc (.cells #[.slice none 0 0] 26)) (e2 : w2 = w1.alloc (.cells #[] 3)) (hE : w.heap.size + 1 = E) : Two w w2 w.heap.size (.slice none 0 0) [] (.slice (some ⟨E, 0, none⟩) 0 0) [] := by
  obtain ⟨s1, -, -⟩ := new_size e1
  refine Two.fresh (n := 0) (ow_new e1) (new_size e2).2.2 ?_
  rw [e2]
  exact ownI_lit0 w1 E (by omega)
end

end Go.Proofs.Yteglnlhdgfpglaa
