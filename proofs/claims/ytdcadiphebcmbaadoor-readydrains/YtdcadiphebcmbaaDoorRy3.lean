/-
  The code's queues in memory: a block of 226 cells, told by plain numbers; what a store into it leaves. No condition.
-/
import Derived.Test.YtdcadiphebcmbaaDoorRows
import Derived.Test.YtdcadiphebcmbaaDoorBase
import Derived.Test.YtdcadiphebcmbaaDoorRw
import Derived.Test.YtdcadiphebcmbaaDoorRy2
import Derived.Laws.Bits64b
import Derived.BigRegion
import Derived.Deep.WholeRow
namespace Go.Proofs.YtdcadiphebcmbaaDoor
open Go Go.RowKit
set_option linter.unusedVariables false
set_option linter.unusedSimpArgs false

/-- The cells of queues, by their places. -/
def qcell (s : QSt) (j : Nat) : Value :=
  if j = 0 then .int .u64 (s.S : Int) else if j = 1 then .int .u32 (s.F : Int) else if j < 34 then .int .i64 (s.fr (j - 2) : Int)
  else if (j - 34) % 3 = 0 then .int .i64 (s.lv ((j - 34) / 3) : Int) else if (j - 34) % 3 = 1 then .int .i64 (s.ah ((j - 34) / 3) : Int) else .int .i64 (s.bh ((j - 34) / 3) : Int)
theorem qcell_fr (s : QSt) (l : Nat) (hl : l < 32) : qcell s (2 + l) = .int .i64 (s.fr l : Int) := by
  unfold qcell
  rw [if_neg (by omega), if_neg (by omega), if_pos (by omega), show 2 + l - 2 = l by omega]
theorem qcell_lv (s : QSt) (t : Nat) : qcell s (34 + t * 3) = .int .i64 (s.lv t : Int) := by
  unfold qcell
  rw [if_neg (by omega), if_neg (by omega), if_neg (by omega), if_pos (by omega), show (34 + t * 3 - 34) / 3 = t by omega]
theorem qcell_ah (s : QSt) (t : Nat) : qcell s (34 + t * 3 + 1) = .int .i64 (s.ah t : Int) := by
  unfold qcell
  rw [if_neg (by omega), if_neg (by omega), if_neg (by omega), if_neg (by omega), if_pos (by omega), show (34 + t * 3 + 1 - 34) / 3 = t by omega]
theorem qcell_bh (s : QSt) (t : Nat) : qcell s (34 + t * 3 + 2) = .int .i64 (s.bh t : Int) := by
  unfold qcell
  rw [if_neg (by omega), if_neg (by omega), if_neg (by omega), if_neg (by omega), if_neg (by omega), show (34 + t * 3 + 2 - 34) / 3 = t by omega]

/-- In block b lie queues, told by these numbers. -/
def QS (w : World) (b : Nat) (s : QSt) : Prop :=
  ∃ c : Array Value, w.heap[b]? = some (.cells c 31 (0, 0)) ∧ c.size = 226 ∧ ∀ j, j < 226 → c[j]? = some (qcell s j)

section
variable {w w' : World} {b : Nat} {s : QSt}
theorem QS.lt (h : QS w b s) : b < w.heap.size := by obtain ⟨c, h1, _⟩ := h; exact blk_lt h1
theorem QS.cell (h : QS w b s) (j : Nat) (hj : j < 226) : w.cell? ⟨b, j, none⟩ = some (qcell s j) := by
  obtain ⟨c, h1, h2, h3⟩ := h
  simp [World.cell?, h1, h3 j hj]
theorem QS.thawed (h : QS w b s) (j : Nat) : w.frozen? ⟨b, j, none⟩ = false := by
  obtain ⟨c, h1, h2, h3⟩ := h
  simp [World.frozen?, h1]
theorem QS.cS (h : QS w b s) : w.cell? ⟨b, 0, none⟩ = some (.int .u64 (s.S : Int)) := h.cell 0 (by decide)
theorem QS.cF (h : QS w b s) : w.cell? ⟨b, 1, none⟩ = some (.int .u32 (s.F : Int)) := h.cell 1 (by decide)
theorem QS.cfr (h : QS w b s) (l : Nat) (hl : l < 32) : w.cell? ⟨b, 2 + l, none⟩ = some (.int .i64 (s.fr l : Int)) := by rw [h.cell _ (by omega), qcell_fr s l hl]
theorem QS.clv (h : QS w b s) (t : Nat) (ht : t < 64) : w.cell? ⟨b, 34 + t * 3, none⟩ = some (.int .i64 (s.lv t : Int)) := by rw [h.cell _ (by omega), qcell_lv]
theorem QS.cah (h : QS w b s) (t : Nat) (ht : t < 64) : w.cell? ⟨b, 34 + t * 3 + 1, none⟩ = some (.int .i64 (s.ah t : Int)) := by rw [h.cell _ (by omega), qcell_ah]
theorem QS.cbh (h : QS w b s) (t : Nat) (ht : t < 64) : w.cell? ⟨b, 34 + t * 3 + 2, none⟩ = some (.int .i64 (s.bh t : Int)) := by rw [h.cell _ (by omega), qcell_bh]
theorem QS.only {S : Nat → Prop} (h : QS w b s) (ho : Only w w' S) (hb : ¬ S b) : QS w' b s := by
  have hlt := h.lt
  obtain ⟨c, h1, h2⟩ := h
  exact ⟨c, (ho.block b hlt hb).trans h1, h2⟩
theorem QS.below (h : QS w b s) (hb : Below w.heap.size w w') : QS w' b s := h.only (Only.of_below hb (fun _ => False)) (fun e => e)
theorem QS.set (h : QS w b s) (j : Nat) (s' : QSt) (v : Value) (hv : qcell s' j = v) (ho : ∀ k, k < 226 → k ≠ j → qcell s' k = qcell s k) : QS (w.setCell ⟨b, j, none⟩ v) b s' := by
  obtain ⟨c, h1, h2, h3⟩ := h
  refine ⟨c.setIfInBounds j v, heap_setCell_same w b j c _ v h1, by simp [h2], fun k hk => ?_⟩
  rw [Array.getElem?_setIfInBounds]
  by_cases e : j = k
  · subst e; rw [if_pos rfl, if_pos (by omega), hv]
  · rw [if_neg e, h3 k hk, ho k hk (Ne.symm e)]
theorem QS.setS (h : QS w b s) (n : Nat) : QS (w.setCell ⟨b, 0, none⟩ (.int .u64 (n : Int))) b { s with S := n } :=
  h.set 0 _ _ rfl fun k _ hk => by unfold qcell; rw [if_neg hk, if_neg hk]
theorem QS.setF (h : QS w b s) (n : Nat) : QS (w.setCell ⟨b, 1, none⟩ (.int .u32 (n : Int))) b { s with F := n } :=
  h.set 1 _ _ rfl fun k _ hk => by
    unfold qcell
    split
    · rfl
    · rfl
theorem up_eq {f : Nat → Nat} {i v k : Nat} (h : k ≠ i) : up f i v k = f k := if_neg h
theorem QS.setFr (h : QS w b s) (l n : Nat) (hl : l < 32) : QS (w.setCell ⟨b, 2 + l, none⟩ (.int .i64 (n : Int))) b { s with fr := up s.fr l n } := by
  refine h.set _ _ _ (by rw [qcell_fr _ _ hl]; show Value.int .i64 (up s.fr l n l : Int) = _; rw [up_same]) fun k hk hne => ?_
  unfold qcell
  split
  · rfl
  · split
    · rfl
    · split
      · exact congrArg (fun z : Nat => Value.int .i64 (z : Int)) (up_eq (by omega))
      · rfl
theorem QS.setLv (h : QS w b s) (t n : Nat) : QS (w.setCell ⟨b, 34 + t * 3, none⟩ (.int .i64 (n : Int))) b { s with lv := up s.lv t n } := by
  refine h.set _ _ _ (by rw [qcell_lv]; show Value.int .i64 (up s.lv t n t : Int) = _; rw [up_same]) fun k hk hne => ?_
  unfold qcell
  split
  · rfl
  · split
    · rfl
    · split
      · rfl
      · split
        · exact congrArg (fun z : Nat => Value.int .i64 (z : Int)) (up_eq (by omega))
        · rfl
theorem QS.setAh (h : QS w b s) (t n : Nat) : QS (w.setCell ⟨b, 34 + t * 3 + 1, none⟩ (.int .i64 (n : Int))) b { s with ah := up s.ah t n } := by
  refine h.set _ _ _ (by rw [qcell_ah]; show Value.int .i64 (up s.ah t n t : Int) = _; rw [up_same]) fun k hk hne => ?_
  unfold qcell
  split
  · rfl
  · split
    · rfl
    · split
      · rfl
      · split
        · rfl
        · split
          · exact congrArg (fun z : Nat => Value.int .i64 (z : Int)) (up_eq (by omega))
          · rfl
theorem QS.setBh (h : QS w b s) (t n : Nat) : QS (w.setCell ⟨b, 34 + t * 3 + 2, none⟩ (.int .i64 (n : Int))) b { s with bh := up s.bh t n } := by
  refine h.set _ _ _ (by rw [qcell_bh]; show Value.int .i64 (up s.bh t n t : Int) = _; rw [up_same]) fun k hk hne => ?_
  unfold qcell
  split
  · rfl
  · split
    · rfl
    · split
      · rfl
      · split
        · rfl
        · split
          · rfl
          · exact congrArg (fun z : Nat => Value.int .i64 (z : Int)) (up_eq (by omega))
end

/-- New queues' cells. -/
def zq (n : Nat) : Array Value := #[.int .u64 0, .int .u32 0] ++ Array.replicate n (.int .i64 0)
theorem zq_size (n : Nat) : (zq n).size = 2 + n := by unfold zq; simp
theorem zq_0 (n : Nat) : (zq n)[0]? = some (.int .u64 0) := by unfold zq; rw [Array.getElem?_append_left (by simp)]; rfl
theorem zq_1 (n : Nat) : (zq n)[1]? = some (.int .u32 0) := by unfold zq; rw [Array.getElem?_append_left (by simp)]; rfl
theorem zq_r (n j : Nat) (h : 2 ≤ j) (hj : j < 2 + n) : (zq n)[j]? = some (.int .i64 0) := by
  unfold zq
  rw [Array.getElem?_append_right (by simpa using h), Array.getElem?_replicate, if_pos (by simp; omega)]
set_option maxRecDepth 100000 in
theorem Tryd.infoQueues : (Tryd.prog.info? 31).map (fun i => (i.zero, i.size)) = some (some (.agg (zq 224)), 226) := by kernel_rfl
theorem zero_q : ∃ Z : Array Value, (∀ w : World, QS (w.alloc (.cells Z 31)) w.heap.size QSt.zero) ∧ ∀ w, (zeroValue 31).run Tryd.prog w = .ok (.agg Z) w := by
  refine ⟨zq 224, fun w => ⟨zq 224, heap_alloc_new w _, zq_size 224, fun j hj => ?_⟩, (zero_of_info Tryd.infoQueues).1⟩
  rcases Nat.lt_or_ge j 2 with h | h
  · rcases (show j = 0 ∨ j = 1 by omega) with e | e
    · rw [e, zq_0]; rfl
    · rw [e, zq_1]; rfl
  · rw [zq_r 224 j h (by omega)]
    have : qcell QSt.zero j = .int .i64 0 := by
      unfold qcell
      rw [if_neg (by omega), if_neg (by omega)]
      split
      · rfl
      · split
        · rfl
        · split <;> rfl
    rw [this]

/-- Queues that hold these rows. -/
structure RQ (w : World) (b : Nat) (r : Rws) : Prop where
  ok : ROk r
  st : ∃ s, QS w b s ∧ Holds s r
theorem RQ.lt {w : World} {b : Nat} {r : Rws} (h : RQ w b r) : b < w.heap.size := by obtain ⟨s, h1, _⟩ := h.st; exact h1.lt
theorem RQ.only {w w' : World} {b : Nat} {r : Rws} {S : Nat → Prop} (h : RQ w b r) (ho : Only w w' S) (hb : ¬ S b) : RQ w' b r := by
  obtain ⟨s, h1, h2⟩ := h.st
  exact ⟨h.ok, s, h1.only ho hb, h2⟩
theorem RQ.below {w w' : World} {b : Nat} {r : Rws} (h : RQ w b r) (hb : Below w.heap.size w w') : RQ w' b r := h.only (Only.of_below hb (fun _ => False)) (fun e => e)

end Go.Proofs.YtdcadiphebcmbaaDoor
