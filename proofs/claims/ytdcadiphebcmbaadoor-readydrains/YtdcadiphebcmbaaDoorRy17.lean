/-
  Queues of the call's own beside two rows of 64 numbers of the call's own. No condition.
-/
import Derived.Test.YtdcadiphebcmbaaDoorRy15
import Derived.Test.YtdcadiphebcmbaaDoorRy16
namespace Go.Proofs.YtdcadiphebcmbaaDoor
open Go Go.RowKit
set_option linter.unusedVariables false
set_option linter.unusedSimpArgs false

/-- 64 numbers in block k. -/
def A64 (w : World) (k : Nat) (f : Nat → Int) : Prop := ∃ c : Array Value, w.heap[k]? = some (.cells c 46 (0, 0)) ∧ c.size = 64 ∧ ∀ j, j < 64 → c[j]? = some (.int .i64 (f j))
section
variable {w w' : World} {k : Nat} {f : Nat → Int}
theorem A64.lt (h : A64 w k f) : k < w.heap.size := by obtain ⟨c, h1, _⟩ := h; exact blk_lt h1
theorem A64.cell (h : A64 w k f) (j : Nat) (hj : j < 64) : w.cell? ⟨k, j, none⟩ = some (.int .i64 (f j)) := by
  obtain ⟨c, h1, h2, h3⟩ := h
  simp [World.cell?, h1, h3 j hj]
theorem A64.thawed (h : A64 w k f) (j : Nat) : w.frozen? ⟨k, j, none⟩ = false := by
  obtain ⟨c, h1, h2, h3⟩ := h
  simp [World.frozen?, h1]
theorem A64.only {S : Nat → Prop} (h : A64 w k f) (ho : Only w w' S) (hk : ¬ S k) : A64 w' k f := by
  have hlt := h.lt
  obtain ⟨c, h1, h2⟩ := h
  exact ⟨c, (ho.block k hlt hk).trans h1, h2⟩
theorem A64.below (h : A64 w k f) (hb : Below w.heap.size w w') : A64 w' k f := h.only (Only.of_below hb (fun _ => False)) (fun e => e)
theorem A64.set (h : A64 w k f) (j : Nat) (v : Int) : A64 (w.setCell ⟨k, j, none⟩ (.int .i64 v)) k (upI f j v) := by
  obtain ⟨c, h1, h2, h3⟩ := h
  refine ⟨c.setIfInBounds j (.int .i64 v), heap_setCell_same w k j c _ _ h1, by simp [h2], fun q hq => ?_⟩
  rw [Array.getElem?_setIfInBounds]
  by_cases e : j = q
  · subst e; rw [if_pos rfl, if_pos (by omega), upI_same]
  · rw [if_neg e, h3 q hq, upI_other _ _ (Ne.symm e)]
end
def zi (n : Nat) : Array Value := Array.replicate n (.int .i64 0)
set_option maxRecDepth 100000 in
theorem Tryd.info64 : (Tryd.prog.info? 46).map (fun i => (i.zero, i.size)) = some (some (.agg (zi 64)), 64) := by kernel_rfl
theorem zero_64 : ∃ Z : Array Value, (∀ w : World, A64 (w.alloc (.cells Z 46)) w.heap.size (fun _ => 0)) ∧ ∀ w, (zeroValue 46).run Tryd.prog w = .ok (.agg Z) w := by
  refine ⟨zi 64, fun w => ⟨zi 64, heap_alloc_new w _, by simp [zi], fun j hj => ?_⟩, (zero_of_info Tryd.info64).1⟩
  unfold zi
  rw [Array.getElem?_replicate, if_pos hj]

theorem OQ.aside {w0 w w' : World} {b c : Nat} {s : Rws} (h : OQ w0 w c s) (o : Only w w' (fun k => k = b)) (hb : w0.heap.size ≤ b) (hn : b ≠ c) : OQ w0 w' c s := by
  have h1 := h.hb
  have h2 := h.ht
  exact ⟨h.q.only o (fun e => hn e.symm), h.t.only o (fun e => by omega), h.bel.trans (o.below h.bel.size (fun k e => by omega)), h1, h2⟩

/-- Queues in block b, two rows of numbers in blocks c and d. -/
structure DR (w0 w : World) (b c d : Nat) (r : Rws) (inn att : Nat → Int) : Prop where
  q : OQ w0 w b r
  x : A64 w c inn
  y : A64 w d att
  bc : b ≠ c
  bd : b ≠ d
  cd : c ≠ d
  hc : w0.heap.size ≤ c
  hd : w0.heap.size ≤ d
section
variable {w0 w w' : World} {b c d : Nat} {r : Rws} {inn att : Nat → Int}
theorem DR.kept (h : DR w0 w b c d r inn att) (hb : Below w.heap.size w w') : DR w0 w' b c d r inn att := ⟨h.q.kept hb, h.x.below hb, h.y.below hb, h.bc, h.bd, h.cd, h.hc, h.hd⟩
theorem DR.drewN (h : DR w0 w b c d r inn att) (n : Nat) : DR w0 (w.drewN n) b c d r inn att := h.kept ⟨rfl, rfl, rfl, Nat.le_refl _, fun _ _ => rfl⟩
theorem DR.code {r' : Rws} (h : DR w0 w b c d r inn att) (q : RQ w' b r') (o : Only w w' (fun k => k = b)) : DR w0 w' b c d r' inn att :=
  ⟨h.q.turn q o, h.x.only o (fun e => h.bc e.symm), h.y.only o (fun e => h.bd e.symm), h.bc, h.bd, h.cd, h.hc, h.hd⟩
theorem DR.setX (h : DR w0 w b c d r inn att) (j : Nat) (v : Int) : DR w0 (w.setCell ⟨c, j, none⟩ (.int .i64 v)) b c d r (upI inn j v) att :=
  ⟨h.q.aside (only_cell w c j _) h.hc (fun e => h.bc e.symm), h.x.set j v, h.y.only (only_cell w c j _) (fun e => h.cd e.symm), h.bc, h.bd, h.cd, h.hc, h.hd⟩
theorem DR.setY (h : DR w0 w b c d r inn att) (j : Nat) (v : Int) : DR w0 (w.setCell ⟨d, j, none⟩ (.int .i64 v)) b c d r inn (upI att j v) :=
  ⟨h.q.aside (only_cell w d j _) h.hd (fun e => h.bd e.symm), h.x.only (only_cell w d j _) (fun e => h.cd e), h.y.set j v, h.bc, h.bd, h.cd, h.hc, h.hd⟩
end

theorem sum_zero : ∀ (l : List Nat), l.sum = 0 → ∀ x ∈ l, x = 0
  | [], _, x, hx => by cases hx
  | a :: l, h, x, hx => by
    rw [List.sum_cons] at h
    rcases List.mem_cons.1 hx with e | e
    · omega
    · exact sum_zero l (by omega) x e
theorem rlen_zero {r : Rws} (h : rlen r = 0) : low? r = none := by
  rw [low?_none]
  intro l hl
  have := sum_zero _ h (r l).length (List.mem_map.2 ⟨l, by simpa using hl, rfl⟩)
  exact List.eq_nil_of_length_eq_zero this
theorem rlen_pos {r : Rws} (h : 0 < rlen r) : ∃ l x rest, low? r = some l ∧ r l = x :: rest := by
  cases hl : low? r with
  | none =>
    exfalso
    have : ((List.range 32).map fun l => (r l).length) = (List.range 32).map fun _ => 0 := List.map_congr_left fun l hl' => by
      rw [low?_none.1 hl l (by simpa using hl')]; rfl
    unfold rlen at h
    rw [this] at h
    exact absurd h (by decide)
  | some l =>
    cases hr : r l with
    | nil => exact absurd hr (low?_some hl).2.1
    | cons x rest => exact ⟨l, x, rest, rfl, hr⟩

end Go.Proofs.YtdcadiphebcmbaaDoor
