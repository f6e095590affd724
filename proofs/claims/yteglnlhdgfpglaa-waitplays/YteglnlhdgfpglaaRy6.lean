/-
  Rows of one's own that grow by one element (append), with what turns and where the row lies then; rows of numbers. No condition but the form's own.
-/
import Derived.Test.YteglnlhdgfpglaaRw
import Derived.Laws.OwnMore
import Derived.ArgAppend
namespace Go.Proofs.Yteglnlhdgfpglaa
open Go Go.RowKit
set_option linter.unusedVariables false
set_option linter.unusedSimpArgs false

/-- What append leaves: the row goes on; its own block is turned alone; it lies there, or in a new one. -/
structure AppR {α : Type} (ty : TypeId) (n : Nat) (f : α → List Value) (B : Nat) (w w' : World) (v v' : Value) (l' : List α) : Prop where
  row : OwnR ty n f w' B v' l'
  only : Only w w' (fun k => v.ownBlock = some k)
  new : ∀ k, v'.ownBlock = some k → v.ownBlock = some k ∨ w.heap.size ≤ k

theorem run_pushR {α : Type} {ty sl : TypeId} {n bytes : Nat} {f : α → List Value} {z : Value} {i0 : TypeInfo} (hu : Try.prog.underlying sl = some (.slice ty)) (hi : Try.prog.info? ty = some i0) (hz0 : i0.zero = some z) (hz1 : i0.size = n) (hz2 : i0.bytes = bytes)
    (hzc : z.cells.size = n) (hn0 : 0 < n) (hf : ∀ x, (f x).length = n) (hfc : ∀ x, ∀ u ∈ f x, u.oneCell' = true) {w : World} {B : Nat} {v : Value} {l : List α} (h : OwnR ty n f w B v l) (hB : B ≤ w.heap.size)
    (t' : TypeId) (ad : Addr) (c : Nat) (x : α) (hc : ∀ j u, (f x)[j]? = some u → w.cell? (ad.add j) = some u) (hm : l.length + 1 ≤ maxLen) (hb : (l.length + 1) * bytes ≤ 140737488355328) :
    ∃ ao cap w', (Builtin.append_ #[sl, sl] t' #[v, .slice (some ad) 1 c]).run Try.prog w = .ok (.slice ao (l.length + 1) cap) w' ∧ AppR ty n f B w w' v (.slice ao (l.length + 1) cap) (l ++ [x]) := by
  have hown : w.ownsRow B ty n v l.length (l.flatMap f) := h
  have e1 : (l ++ [x]).flatMap f = l.flatMap f ++ f x := by rw [List.flatMap_append]; simp
  have fin : ∀ (C : Nat) (v' : Value) (w' : World), w'.ownsRow C ty n v' (l.length + 1) (l.flatMap f ++ f x) → ∃ ao cap, v' = .slice ao (l.length + 1) cap ∧ OwnR ty n f w' C v' (l ++ [x]) := by
    intro C v' w' hw'
    obtain ⟨ao, cap, rfl⟩ := own_slice' hw'
    refine ⟨ao, cap, rfl, ?_⟩
    show w'.ownsRow C ty n _ (l ++ [x]).length _
    rw [e1, List.length_append]
    exact hw'
  have hl1 : (f x).length = 1 * n := by rw [hf]; omega
  rcases hown.2 with ⟨rfl, hn⟩ | ⟨g, cap, cur, rfl, hbg, hg, hnc, hcm, hcs, htake⟩
  · have hl0 : l = [] := List.eq_nil_of_length_eq_zero hn
    subst hl0
    obtain ⟨v', w', hrun, hown', hgr, _⟩ := run_append_own (P := Try.prog) w w.heap.size sl t' ty i0 z n bytes hu hi hz0 hz1 hz2 hzc hn0 (.slice none 0 0) 0 [] (World.ownsRow_nil _ _ _ _) ad 1 c (f x) hl1 hc (hfc x) (by simpa using hm) (by simpa using hb) (Nat.le_refl _)
    obtain ⟨ao, cap, rfl, hx⟩ := fin w.heap.size v' w' (by simpa using hown')
    exact ⟨ao, cap, w', hrun, ⟨hx.mono hB, Only.of_grown hgr (fun k e => e), fun k hk => .inr (hx.lt k hk).1⟩⟩
  · by_cases hr : l.length + 1 ≤ cap
    · obtain ⟨w', hrun, h2, h3⟩ := run_append_fits (P := Try.prog) w B sl t' ty i0 n hu hi hz1 g l.length cap (l.flatMap f) hown ad 1 c (f x) hl1 hc (hfc x) hr
      obtain ⟨ao, cap', e, hx⟩ := fin B _ w' h2
      cases e
      exact ⟨_, _, w', hrun, ⟨hx, Only.of_grown h3 (fun k e => e), fun k hk => .inl hk⟩⟩
    · obtain ⟨v', w', hrun, hown', hgr⟩ := run_append_arg_grows (P := Try.prog) w sl t' ty i0 z n bytes hu hi hz0 hz1 hz2 hzc hn0 ⟨g, 0, none⟩ l.length cap (l.flatMap f) hown.1 (fun j u hj => hown.cells (g := g) rfl j u hj) ad 1 c (f x) hl1 hc (by omega) hm hb
      obtain ⟨ao, cap', rfl, hx⟩ := fin w.heap.size v' w' hown'
      exact ⟨ao, cap', w', hrun, ⟨hx.mono hB, Only.of_grown hgr (fun k e => by cases e), fun k hk => .inr (hx.lt k hk).1⟩⟩

/-! ### Rows of numbers -/
def w1i (n : Nat) : List Value := [.int .i64 (n : Int)]
theorem w1i_len (x : Nat) : (w1i x).length = 1 := rfl
theorem w1i_one (x : Nat) : ∀ u ∈ w1i x, u.oneCell' = true := by
  intro u hu
  simp only [w1i, List.mem_cons, List.not_mem_nil, or_false] at hu
  subst hu; rfl
abbrev SeenN (w : World) (ao : Option Addr) (cap : Nat) (l : List Nat) : Prop := SeenR 1 w1i w ao cap l
abbrev OwnI (w : World) (B : Nat) (v : Value) (l : List Nat) : Prop := OwnR 3 1 w1i w B v l
abbrev AppI (B : Nat) (w w' : World) (v v' : Value) (l' : List Nat) : Prop := AppR 3 1 w1i B w w' v v' l'
theorem seenN_at {w : World} {ao : Option Addr} {cap : Nat} {l : List Nat} (h : SeenN w ao cap l) (i : Nat) (hi : i < l.length) : ∃ b off, ao = some ⟨b, off, none⟩ ∧ b < w.heap.size ∧ w.cell? ⟨b, off + i, none⟩ = some (.int .i64 (l[i] : Int)) := by
  obtain ⟨b, off, h1, h2, h3⟩ := h.at i hi
  have := h3 0 (by omega)
  rw [Nat.mul_one, Nat.add_zero] at this
  exact ⟨b, off, h1, h2, this⟩
theorem Try.infoInt : ∃ i0, Try.prog.info? 3 = some i0 ∧ i0.zero = some (.int .i64 0) ∧ i0.size = 1 ∧ i0.bytes = 8 := by
  have h : (Try.prog.info? 3).map (fun i => (i.zero, i.size, i.bytes)) = some (some (.int .i64 0), 1, 8) := by kernel_rfl
  obtain ⟨i0, h1, h2⟩ := Option.map_eq_some_iff.1 h
  simp only [Prod.mk.injEq] at h2
  exact ⟨i0, h1, h2.1, h2.2.1, h2.2.2⟩
theorem run_pushI {w : World} {B : Nat} {v : Value} {l : List Nat} (h : OwnI w B v l) (hB : B ≤ w.heap.size) (t' : TypeId) (g c x : Nat) (hc : w.cell? ⟨g, 0, none⟩ = some (.int .i64 (x : Int))) (hm : l.length ≤ 1000000) :
    ∃ ao cap w', (Builtin.append_ #[23, 23] t' #[v, .slice (some ⟨g, 0, none⟩) 1 c]).run Try.prog w = .ok (.slice ao (l.length + 1) cap) w' ∧ AppI B w w' v (.slice ao (l.length + 1) cap) (l ++ [x]) := by
  obtain ⟨i0, hi, hz0, hz1, hz2⟩ := Try.infoInt
  refine run_pushR Try.underlying23 hi hz0 hz1 hz2 rfl (by decide) w1i_len w1i_one h hB t' ⟨g, 0, none⟩ c x ?_ (by unfold maxLen; omega) (by omega)
  intro j u hj
  match j, hj with
  | 0, hj => simp [w1i] at hj; subst hj; simpa [Addr.add] using hc
/-- append(row, x). -/
theorem wpList_pushI {w : World} {ops : Array Oper} {rest : List Oper} {o : Oper} {a : Act} {Q : Exit → Act → World → Prop} (hgd : o.guard = none) (s x : Operand)
    (ho : o.op = .call { callee := .builtin .append, args := #[s, x], argTypes := #[23, 23] }) (B : Nat) (v : Value) (hs : a.eval s = v) (l : List Nat) (h : OwnI w B v l) (hB : B ≤ w.heap.size) (m : Nat) (hl : l.length = m)
    (g c n : Nat) (hx : a.eval x = .slice (some ⟨g, 0, none⟩) 1 c) (hc : w.cell? ⟨g, 0, none⟩ = some (.int .i64 (n : Int))) (hm : m ≤ 1000000)
    (hK : ∀ ao cap w', AppI B w w' v (.slice ao (m + 1) cap) (l ++ [n]) → wpList Try.prog ops Q rest (a.put o.dst (.slice ao (m + 1) cap)) w') : wpList Try.prog ops Q (o :: rest) a w := by
  subst hl
  refine wpList_plain hgd fun K hK' => ?_
  obtain ⟨ao, cap, w', hrun, hA⟩ := run_pushI h hB o.type g c n hc hm
  unfold Oper.wp
  simp [execOp, ho, resolve, invoke, builtin, hs, hx, hrun, Result.andThen]
  exact hK' _ _ (hK ao cap w' hA)
theorem step_pushI {ops : Array Oper} {o : Oper} {a : Act} {w : World} {K : Act → World → Prop} {Q : Exit → Act → World → Prop} {E : Prop} (hgd : o.guard = none) (s x : Operand)
    (ho : o.op = .call { callee := .builtin .append, args := #[s, x], argTypes := #[23, 23] }) (B : Nat) (v : Value) (hs : a.eval s = v) (l : List Nat) (h : OwnI w B v l) (hB : B ≤ w.heap.size) (m : Nat) (hl : l.length = m)
    (g c n : Nat) (hx : a.eval x = .slice (some ⟨g, 0, none⟩) 1 c) (hc : w.cell? ⟨g, 0, none⟩ = some (.int .i64 (n : Int))) (hm : m ≤ 1000000)
    (hK : ∀ ao cap w', AppI B w w' v (.slice ao (m + 1) cap) (l ++ [n]) → K (a.put o.dst (.slice ao (m + 1) cap)) w') : if Region.wanted o (yielded ops a.tmps) = true then Oper.wp Try.prog o a w K Q else E := by
  subst hl
  have hw : Region.wanted o (yielded ops a.tmps) = true := by simp [Region.wanted, hgd]
  rw [if_pos hw]
  obtain ⟨ao, cap, w', hrun, hA⟩ := run_pushI h hB o.type g c n hc hm
  unfold Oper.wp
  simp [execOp, ho, resolve, invoke, builtin, hs, hx, hrun, Result.andThen]
  exact hK ao cap w' hA
theorem lit_int (w : World) (x n : Nat) (hn : n = w.heap.size) : (w.alloc (.cells #[.int .i64 (x : Int)] 3)).cell? ⟨n, 0, none⟩ = some (.int .i64 (x : Int)) := by
  subst hn
  rw [cell_of_row _ _ 0 _ _ (0, 0) (heap_alloc_new w _)]; rfl
theorem ownI_lit (w : World) (x n : Nat) (hn : n = w.heap.size) : OwnI (w.alloc (.cells #[.int .i64 (x : Int)] 3)) w.heap.size (.slice (some ⟨n, 0, none⟩) 1 1) [x] := by
  subst hn
  exact World.ownsRow_lit w #[.int .i64 (x : Int)] 1 (Nat.le_refl _) (by decide) rfl
theorem ownI_lit0 (w : World) (n : Nat) (hn : n = w.heap.size) : OwnI (w.alloc (.cells #[] 3)) w.heap.size (.slice (some ⟨n, 0, none⟩) 0 0) [] := by
  subst hn
  exact World.ownsRow_lit w #[] 0 (Nat.le_refl _) (by decide) rfl

end Go.Proofs.Yteglnlhdgfpglaa
