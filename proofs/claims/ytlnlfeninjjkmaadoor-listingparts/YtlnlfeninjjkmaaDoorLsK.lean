/-
  A row of instructions of one's own that goes on with another one's, by append, also where the operation is guarded. No condition but the form's own.
-/
import Derived.Test.YtlnlfeninjjkmaaDoorLsX
import Derived.Laws.AppendOwnNone
import Derived.BigFrame
namespace Go.Proofs.YtlnlfeninjjkmaaDoor
open Go.RowKit
set_option linter.unusedVariables false
set_option linter.unusedSimpArgs false

/-- append(x, l...), x a row of one's own. -/
theorem wpList_moreI {w : World} {ops : Array Oper} {rest : List Oper} {o : Oper} {a : Act} {Q : Exit → Act → World → Prop} (hw : Region.wanted o (yielded ops a.tmps) = true) (s x : Operand)
    (ho : o.op = .call { callee := .builtin .append, args := #[s, x], argTypes := #[36, 36] }) (base : Nat) (v : Value) (l0 : List Ins) (hs : a.eval s = v)
    (hown : OwnN w base v l0) (ao : Option Addr) (cap : Nat) (l : List Ins) (hx : a.eval x = .slice ao l.length cap) (hl : SeenI w ao cap l) (hn : l0.length + l.length ≤ 1000000) (hbase : base ≤ w.heap.size)
    (h : ∀ v' w', OwnN w' base v' (l0 ++ l) → w.grownBy w' v.ownBlock → wpList Tryd.prog ops Q rest (a.put o.dst v') w') : wpList Tryd.prog ops Q (o :: rest) a w := by
  obtain ⟨i0, hi, hz0, hz1, hz2⟩ := Tryd.infoIns3
  have hown' : w.ownsRow base 24 6 v l0.length (inRow l0) := hown
  refine BigFrame.wpList_want hw fun K hK => ?_
  cases ao with
  | none =>
    obtain ⟨rfl, rfl⟩ := hl.nn rfl
    have hx' : a.eval x = .slice none 0 0 := hx
    have hrun := run_append_owned_none (P := Tryd.prog) (w := w) base 36 o.type 24 i0 6 Tryd.underlying36 hi v l0.length (inRow l0) hown'
    unfold Oper.wp
    simp [execOp, ho, resolve, invoke, builtin, hs, hx', hrun, Result.andThen]
    exact hK _ _ (h v w (by rw [List.append_nil]; exact hown) ⟨rfl, rfl, rfl, Nat.le_refl _, fun _ _ _ => rfl⟩)
  | some ad =>
    refine wp_append_own w s x 36 ho base 24 i0 _ 6 48 Tryd.underlying36 hi hz0 hz1 hz2 rfl (by decide) v l0.length (inRow l0) hs hown' ad l.length cap (inRow l) hx (inRow_len l) hl.seg (inRow_cell l) (by unfold maxLen; omega) (by omega) hbase fun v' w' h2 h3 h4 => hK _ _ (h v' w' ?_ h3)
    unfold OwnN
    rw [List.length_append, inRow_append]
    exact h2

end Go.Proofs.YtlnlfeninjjkmaaDoor
