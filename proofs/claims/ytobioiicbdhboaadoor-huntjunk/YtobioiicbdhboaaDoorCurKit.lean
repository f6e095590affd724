/-
  Small steps round the contracts of package cursor: worlds that only drew, writers beside new memory.
-/
import Derived.Test.YtobioiicbdhboaaDoorCur4
namespace Go.Proofs.YtobioiicbdhboaaDoor
open Go.RowKit
set_option linter.unusedVariables false

theorem grown_drewN {w w' : World} (h : ∃ n, w' = w.drewN n) : w.grownBy w' none := by
  obtain ⟨n, rfl⟩ := h
  exact ⟨rfl, rfl, rfl, Nat.le_refl _, fun _ _ _ => rfl⟩
theorem grown_any {w w' : World} (h : w.grownBy w' none) (row : Option Nat) : w.grownBy w' row :=
  ⟨h.os, h.tape, h.output, h.size, fun k hk _ => h.block k hk (by simp)⟩
theorem Rd.drawn {w w' : World} {b : Nat} {s : ByteArray} {k : Nat} (h : Rd w b s k) (hw : ∃ n, w' = w.drewN n) : Rd w' b s k := by
  obtain ⟨n, rfl⟩ := hw
  exact h.drewN n
theorem below_drawn {w0 w w' : World} {B : Nat} (h : Below B w0 w) (hw : ∃ n, w' = w.drewN n) : Below B w0 w' := by
  obtain ⟨n, rfl⟩ := hw
  exact ⟨h.os, h.tape, h.output, h.size, h.block⟩

/-- One byte, laid for a call of Put. -/
theorem seg_one (w : World) (x : UInt8) (v : Int) (hv : v = (x.toNat : Int)) : ∀ j u, (cellsOf [x])[j]? = some u → (w.alloc (.cells #[.int .u8 v] 5)).cell? ((⟨w.heap.size, 0, none⟩ : Addr).add j) = some u := by
  intro j u hj
  subst hv
  match j, hj with
  | 0, hj => simp [cellsOf] at hj; subst hj; simp [Addr.add]

/-- One byte more at a row's end. -/
theorem cells_one_seg (w : World) (x : UInt8) (v : Int) (hv : v = (x.toNat : Int)) : ∀ j u, (cellsOf [x])[j]? = some u → (w.alloc (.cells #[.int .u8 v] 5)).cell? ((⟨w.heap.size, 0, none⟩ : Addr).add j) = some u := seg_one w x v hv

/-- A row of bytes of one's own, as a slice. -/
def Byt (w : World) (B : Nat) (v : Value) (l : List UInt8) : Prop := w.ownsRow B 5 1 v l.length (cellsOf l)
theorem Byt.shape {w : World} {B : Nat} {v : Value} {l : List UInt8} (h : Byt w B v l) : ∃ ao cap, v = .slice ao l.length cap ∧
    ((ao = none ∧ l = [] ∧ cap = 0) ∨ ∃ g, ao = some ⟨g, 0, none⟩ ∧ ∀ j (hj : j < l.length), w.cell? ((⟨g, 0, none⟩ : Addr).add j) = some (.int .u8 (l[j].toNat : Int))) := by
  have hown : w.ownsRow B 5 1 v l.length (cellsOf l) := h
  rcases hown.2 with ⟨rfl, hn⟩ | ⟨g, cap, cur, rfl, hb, hg, r⟩
  · exact ⟨none, 0, by rw [hn], .inl ⟨rfl, List.eq_nil_of_length_eq_zero hn, rfl⟩⟩
  · refine ⟨_, cap, rfl, .inr ⟨g, rfl, fun j hj => ?_⟩⟩
    exact hown.cells (g := g) rfl j _ (by simp [cellsOf, hj])

theorem byt_app {wr w1 : World} {B : Nat} {v v' : Value} {l : List UInt8} {x : UInt8} {o : Obj} (hown : Byt wr B v l) (hB : B ≤ wr.heap.size)
    (h1 : w1.ownsRow B 5 1 v' (l.length + 1) (cellsOf l ++ cellsOf [x])) (hg : (wr.alloc o).grownBy w1 v.ownBlock) :
    Byt w1 B v' (l ++ [x]) ∧ Below B wr w1 := by
  have hown0 : wr.ownsRow B 5 1 v l.length (cellsOf l) := hown
  have b1 := (Below.refl B wr).alloc hB o
  refine ⟨?_, b1.grown hg (by simp; omega) (fun k hk => ((hown0.alloc o).lt k hk).1)⟩
  show w1.ownsRow B 5 1 v' (l ++ [x]).length (cellsOf (l ++ [x]))
  rw [cellsOf_append, List.length_append]
  exact h1

end Go.Proofs.YtobioiicbdhboaaDoor
