/-
  Steps that the statements on coil share: a copy of a slice of events by append. No condition but the form's own.
-/
import Derived.Test.YtobljhgiibpmkaaDoorCoilAwake
import Derived.Laws.AppendOwnNone
namespace Go.Proofs.YtobljhgiibpmkaaDoor
open Go.RowKit
set_option linter.unusedVariables false
set_option linter.unusedSimpArgs false

/-- append([]api.Event{}, l...): a row of one's own with the same events. -/
theorem wpList_copy {w : World} {ops : Array Oper} {rest : List Oper} {o : Oper} {a : Act} {Q : Exit → Act → World → Prop} (hgd : o.guard = none) (s x : Operand)
    (ho : o.op = .call { callee := .builtin .append, args := #[s, x], argTypes := #[22, 22] }) (base : Nat) (v : Value) (hs : a.eval s = v)
    (hown : w.ownsRow base 39 6 v 0 []) (ao : Option Addr) (cap : Nat) (l : List Ev) (hx : a.eval x = .slice ao l.length cap) (hl : SeenE w ao cap l) (hn : l.length ≤ 1000000) (hbase : base ≤ w.heap.size)
    (h : ∀ v' w', OwnE w' base v' l → w.grownBy w' v.ownBlock → wpList Tryd.prog ops Q rest (a.put o.dst v') w') : wpList Tryd.prog ops Q (o :: rest) a w := by
  obtain ⟨i0, hi, hz0, hz1, hz2⟩ := Tryd.infoEv3
  cases ao with
  | none =>
    obtain ⟨rfl, rfl⟩ := hl.nn rfl
    exact wpList_append_own_none hgd s x _ ho base _ i0 6 Tryd.underlying22 hi v 0 [] hs hown hx (h v w hown ⟨rfl, rfl, rfl, Nat.le_refl _, fun _ _ _ => rfl⟩)
  | some ad =>
    refine wpList_append_own _ hgd s x _ ho base _ i0 _ 6 40 Tryd.underlying22 hi hz0 hz1 hz2 rfl (by decide) v 0 [] hs hown ad l.length cap (evRow l) hx (evRow_len l) hl.seg (evRow_cell l) (by unfold maxLen; omega) (by omega) hbase ?_
    intro v' w' h1 h2 _
    refine h v' w' ?_ h2
    rw [Nat.zero_add, List.nil_append] at h1
    exact h1

end Go.Proofs.YtobljhgiibpmkaaDoor
