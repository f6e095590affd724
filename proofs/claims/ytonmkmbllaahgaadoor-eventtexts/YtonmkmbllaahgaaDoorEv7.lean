/-
  What event's read and Parse do, over this seat's translation. Conditions: the listed variables (EvL).
-/
import Derived.Test.YtonmkmbllaahgaaDoorEv6
import Derived.Test.YtonmkmbllaahgaaDoorRel2
namespace Go.Proofs.YtonmkmbllaahgaaDoor
open Go.RowKit
set_option linter.unusedVariables false
set_option linter.unusedSimpArgs false

/-- The event that words tell, and whether they are one's. -/
def readR (ws : List ByteArray) : Ev × Bool :=
  let c := numR 64 ws true
  let y := numR 64 c.2.1 c.2.2
  let k := nextR y.2.1 y.2.2
  let kd : Nat := kindOf k.1.data.toList
  let a := fieldR (hasA kd) k.2.1 k.2.2
  let b := fieldR (hasB kd) a.2.1 a.2.2
  let v := fieldR (hasV kd) b.2.1 b.2.2
  (⟨kd, y.1, c.1, a.1, b.1, v.1⟩, v.2.2 && (knownB kd && v.2.1.isEmpty))

def wl (ws : List ByteArray) : List (List UInt8) := ws.map (·.data.toList)

theorem next_false (ws : List ByteArray) : (nextR ws false).2.2 = false := by cases ws <;> rfl
theorem num_false (B : Nat) (ws : List ByteArray) : (numR B ws false).2.2 = false := by
  unfold numR
  split
  · exact next_false ws
  · rfl
theorem field_false (h : Bool) (ws : List ByteArray) : (fieldR h ws false).2.2 = false := by
  unfold fieldR
  split
  · exact num_false 32 ws
  · rfl

/-- A number of right words is one of them, or all is wrong. -/
theorem num_cases (B : Nat) (hB : B ≤ 64) (ws : List ByteArray) : (∃ x t n, ws = x :: t ∧ numOk B x.data.toList = some n ∧ numR B ws true = (n, t, true)) ∨
    ((numR B ws true).2.2 = false ∧ (ws = [] ∨ ∃ x t, ws = x :: t ∧ numOk B x.data.toList = none)) := by
  cases ws with
  | nil =>
    right
    refine ⟨?_, .inl rfl⟩
    unfold numR
    split
    · rfl
    · rfl
  | cons x t =>
    cases h : numOk B x.data.toList with
    | some n => left; exact ⟨x, t, n, rfl, h, by unfold numR; simp [nextR, h]⟩
    | none => right; exact ⟨by unfold numR; simp [nextR, h], .inr ⟨x, t, rfl, h⟩⟩

theorem field_cases (h : Bool) (ws : List ByteArray) : (∃ n t, takeF h (wl ws) = some (n, wl t) ∧ fieldR h ws true = (n, t, true)) ∨ (takeF h (wl ws) = none ∧ (fieldR h ws true).2.2 = false) := by
  cases h with
  | false => left; exact ⟨0, ws, rfl, rfl⟩
  | true =>
    have e : fieldR true ws true = numR 32 ws true := rfl
    rw [e]
    rcases num_cases 32 (by omega) ws with ⟨x, t, n, rfl, h1, h2⟩ | ⟨h1, h2⟩
    · left; exact ⟨n, t, by simp [takeF, wl, h1], h2⟩
    · right
      refine ⟨?_, h1⟩
      rcases h2 with rfl | ⟨x, t, rfl, h3⟩
      · rfl
      · simp [takeF, wl, h3]

theorem read_form (ws : List ByteArray) : (readR ws).2 = true ∧ formL (wl ws) = some (readR ws).1 ∨ (readR ws).2 = false ∧ formL (wl ws) = none := by
  have bad : ∀ (ws : List ByteArray), (readR ws).2 = false → formL (wl ws) = none → (readR ws).2 = true ∧ formL (wl ws) = some (readR ws).1 ∨ (readR ws).2 = false ∧ formL (wl ws) = none := fun ws h1 h2 => .inr ⟨h1, h2⟩
  rcases num_cases 64 (by omega) ws with ⟨x, t, cnt, rfl, hx, e1⟩ | ⟨h1, h2⟩
  rotate_left
  · apply bad
    · simp only [readR, h1]
      simp [num_false, next_false, field_false]
    · rcases h2 with rfl | ⟨x, t, rfl, h3⟩
      · rfl
      · match t with
        | [] => rfl
        | [y] => rfl
        | y :: z :: r => simp [formL, wl, h3]
  rcases num_cases 64 (by omega) t with ⟨y, t2, cyc, rfl, hy, e2⟩ | ⟨h1, h2⟩
  rotate_left
  · apply bad
    · simp only [readR, e1, h1]
      simp [next_false, field_false]
    · rcases h2 with rfl | ⟨y, t2, rfl, h3⟩
      · rfl
      · match t2 with
        | [] => rfl
        | z :: r => simp [formL, wl, h3]
  cases t2 with
  | nil =>
    apply bad
    · simp only [readR, e1, e2, nextR]
      simp [field_false]
    · rfl
  | cons z r =>
    by_cases hk : kindOf z.data.toList = 0
    · apply bad
      · simp only [readR, e1, e2, nextR, hk]
        simp [knownB]
      · simp [formL, wl, hk]
    · have hle := kindOf_le z.data.toList
      have hkn : knownB (kindOf z.data.toList : Nat) = true := by simp [knownB]; omega
      rcases field_cases (hasA (kindOf z.data.toList : Nat)) r with ⟨a, r1, t1, f1⟩ | ⟨t1, f1⟩
      rotate_left
      · apply bad
        · simp only [readR, e1, e2, nextR, f1]
          simp [field_false]
        · simp only [wl] at t1
          simp [formL, wl, hx, hy, hk, t1]
      rcases field_cases (hasB (kindOf z.data.toList : Nat)) r1 with ⟨b, r2, t2, f2⟩ | ⟨t2, f2⟩
      rotate_left
      · apply bad
        · simp only [readR, e1, e2, nextR, f1, f2]
          simp [field_false]
        · simp only [wl] at t1 t2
          simp [formL, wl, hx, hy, hk, t1, t2]
      rcases field_cases (hasV (kindOf z.data.toList : Nat)) r2 with ⟨v, r3, t3, f3⟩ | ⟨t3, f3⟩
      rotate_left
      · apply bad
        · simp only [readR, e1, e2, nextR, f1, f2, f3]
          simp
        · simp only [wl] at t1 t2 t3
          simp [formL, wl, hx, hy, hk, t1, t2, t3]
      simp only [wl] at t1 t2 t3
      cases r3 with
      | nil =>
        left
        refine ⟨?_, ?_⟩
        · simp only [readR, e1, e2, nextR, f1, f2, f3, hkn]; rfl
        · simp only [readR, e1, e2, nextR, f1, f2, f3]
          simp [formL, wl, hx, hy, hk, t1, t2, t3]
      | cons q r4 =>
        apply bad
        · simp only [readR, e1, e2, nextR, f1, f2, f3]; simp
        · simp [formL, wl, hx, hy, hk, t1, t2, t3]

/-- While a line is read: the result's block, the words', the reader's, the event's. -/
structure RS (w0 w : World) (e : Ev) (ws : List ByteArray) (ok : Bool) : Prop where
  rd : RdS w (w0.heap.size + 1 + 1) ws ok
  ev : w.heap[w0.heap.size + 1 + 1 + 1]? = some (evO e)
  rs : w.heap[w0.heap.size]? = some (evO ev0)
  l : EvL w
  fit : wordsFit ws
  bel : Below w0.heap.size w0 w
  top : evTop < w0.heap.size

theorem blk_lt {w : World} {b : Nat} {o : Obj} (h : w.heap[b]? = some o) : b < w.heap.size := by
  rcases Nat.lt_or_ge b w.heap.size with h' | h'
  · exact h'
  · rw [Array.getElem?_eq_none h'] at h; cases h

theorem RS.call {w0 w w' : World} {e : Ev} {ws ws' : List ByteArray} {ok ok' : Bool} (h : RS w0 w e ws ok) (hg : w.grownBy w' (some (w0.heap.size + 1 + 1))) (hr : RdS w' (w0.heap.size + 1 + 1) ws' ok') (hf : wordsFit ws') : RS w0 w' e ws' ok' := by
  have ht := h.top
  refine ⟨hr, (hg.block _ (blk_lt h.ev) (by simp)).trans h.ev, (hg.block _ (blk_lt h.rs) (by simp; omega)).trans h.rs, h.l.kept hg (by omega), hf, below_grown h.bel ?_ (by omega) hg, h.top⟩
  have := blk_lt h.rs
  omega

/-- The event's cells. -/
def evC (e : Ev) : Array Value := #[.int .i64 e.kind, .int .u64 (e.cyc : Int), .int .u64 (e.cnt : Int), .int .u32 (e.a : Int), .int .u32 (e.b : Int), .int .u32 (e.v : Int)]

theorem RS.set {w0 w : World} {e e' : Ev} {ws : List ByteArray} {ok : Bool} (h : RS w0 w e ws ok) (j : Nat) (hj : j < 6) (v : Value) (hv : (evC e).setIfInBounds j v = evC e') : RS w0 (w.setCell ⟨w0.heap.size + 1 + 1 + 1, j, none⟩ v) e' ws ok := by
  have ht := h.top
  have hsame := heap_setCell_same w (w0.heap.size + 1 + 1 + 1) j (evC e) 25 v h.ev
  rw [hv] at hsame
  have hc : w.cell? ⟨w0.heap.size + 1 + 1 + 1, j, none⟩ = (evC e)[j]? := by
    have := h.ev
    simp [World.cell?, this, evO, evC]
  obtain ⟨u, hu, hns⟩ : ∃ u, (evC e)[j]? = some u ∧ ∀ s, u ≠ .string s := by
    match j, hj with
    | 0, _ => exact ⟨_, rfl, fun s e => by cases e⟩
    | 1, _ => exact ⟨_, rfl, fun s e => by cases e⟩
    | 2, _ => exact ⟨_, rfl, fun s e => by cases e⟩
    | 3, _ => exact ⟨_, rfl, fun s e => by cases e⟩
    | 4, _ => exact ⟨_, rfl, fun s e => by cases e⟩
    | 5, _ => exact ⟨_, rfl, fun s e => by cases e⟩
  have hg := grow_cell w (w0.heap.size + 1 + 1 + 1) j v
  refine ⟨h.rd.beside (by omega) (hc.trans hu) hns, hsame, ?_, h.l.kept hg (by omega), h.fit, h.bel.setCell (by simp; omega) v, h.top⟩
  exact (heap_setCell_other w _ _ v (by simp; omega)).trans h.rs

theorem RS.cells {w0 w : World} {e : Ev} {ws : List ByteArray} {ok : Bool} (h : RS w0 w e ws ok) (E : Nat) (hE : w0.heap.size + 1 + 1 + 1 = E) :
    (w.cell? ⟨E, 0, none⟩ = some (.int .i64 e.kind) ∧ w.cell? ⟨E, 1, none⟩ = some (.int .u64 (e.cyc : Int)) ∧ w.cell? ⟨E, 2, none⟩ = some (.int .u64 (e.cnt : Int)) ∧
    w.cell? ⟨E, 3, none⟩ = some (.int .u32 (e.a : Int)) ∧ w.cell? ⟨E, 4, none⟩ = some (.int .u32 (e.b : Int)) ∧ w.cell? ⟨E, 5, none⟩ = some (.int .u32 (e.v : Int))) ∧ ∀ j, w.frozen? ⟨E, j, none⟩ = false := by
  subst hE
  have := h.ev
  refine ⟨⟨?_, ?_, ?_, ?_, ?_, ?_⟩, fun j => ?_⟩
  all_goals first | simp [World.cell?, this, evO] | simp [World.frozen?, this, evO]

theorem new_size {w w' : World} {o : Obj} (h : w' = w.alloc o) : w'.heap.size = w.heap.size + 1 ∧ w'.heap[w.heap.size]? = some o ∧ Below w.heap.size w w' := by
  subst h
  exact ⟨by simp, heap_alloc_new w _, (Below.refl _ w).alloc (Nat.le_refl _) _⟩

theorem rs_start {w w1 w2 w3 w4 : World} (hL : EvL w) (N : Nat) (ws : List ByteArray) (hlen : ws.length ≤ N) (hN : N ≤ 1000) (hf : wordsFit ws)
    (e1 : w1 = w.alloc (evO ev0)) (e2 : w2 = w1.alloc (.cells (Lib.cellsOf ws N) 9)) (e3 : w3 = w2.alloc (.cells #[.slice (some ⟨w.heap.size + 1, 0, none⟩) ws.length N, .bool true] 69)) (e4 : w4 = w3.alloc (evO ev0)) :
    RS w w4 ev0 ws true := by
  obtain ⟨s1, n1, b1⟩ := new_size e1
  obtain ⟨s2, n2, b2⟩ := new_size e2
  obtain ⟨s3, n3, b3⟩ := new_size e3
  obtain ⟨s4, n4, b4⟩ := new_size e4
  have up : ∀ {u u' : World} {b : Nat} {o : Obj}, Below u.heap.size u u' → u.heap[b]? = some o → u'.heap[b]? = some o := fun hb h => (hb.block _ (blk_lt h)).trans h
  have bw : Below w.heap.size w w4 := ((b1.trans (b2.mono (by omega))).trans (b3.mono (by omega))).trans (b4.mono (by omega))
  have r4 := up b4 (up b3 (up b2 n1))
  have c4 := up b4 (up b3 n2)
  have d4 := up b4 n3
  rw [s1] at c4
  rw [s2, s1] at d4
  rw [s3, s2, s1] at n4
  refine ⟨⟨some ⟨w.heap.size + 1, 0, none⟩, N, hlen, hN, d4, fun _ => ⟨w.heap.size + 1, 0, rfl, by omega, fun j hj => ?_⟩⟩, n4, r4, hL.below bw, hf, bw, hL.top⟩
  have hc : (Lib.cellsOf ws N)[j]? = some (.string ws[j]) := by
    unfold Lib.cellsOf
    rw [List.getElem?_toArray, List.getElem?_append_left (by simpa using hj)]
    simp [hj]
  simp only [World.cell?, c4]
  simpa using hc

theorem rs_number (B : Nat) (hB : B = 64 ∨ B = 32) {w0 w : World} {e : Ev} {ws ws' : List ByteArray} {ok ok' : Bool} {n R : Nat} (h : RS w0 w e ws ok) (q : numR B ws ok = (n, ws', ok')) (f : wordsFit ws') (hR : w0.heap.size + 1 + 1 = R) :
    Calls Tryd.prog 37 #[.pointer (some ⟨R, 0, none⟩), .int .i64 (B : Int)] w fun r w' => r = .returned (.int .u64 (n : Int)) ∧ RS w0 w' e ws' ok' := by
  subst hR
  have ht := h.top
  have := number_any B hB w (w0.heap.size + 1 + 1) ws ok h.rd h.fit h.l (by omega)
  rw [q] at this
  exact this.mono fun r w' hr => ⟨hr.1, h.call hr.2.2 hr.2.1 f⟩
theorem rs_number64 {w0 w : World} {e : Ev} {ws ws' : List ByteArray} {ok ok' : Bool} {n R : Nat} (h : RS w0 w e ws ok) (q : numR 64 ws ok = (n, ws', ok')) (f : wordsFit ws') (hR : w0.heap.size + 1 + 1 = R) :
    Calls Tryd.prog 37 #[.pointer (some ⟨R, 0, none⟩), .int .i64 64] w fun r w' => r = .returned (.int .u64 (n : Int)) ∧ RS w0 w' e ws' ok' := by
  have := rs_number 64 (.inl rfl) h q f hR
  rw [show ((64 : Nat) : Int) = 64 from rfl] at this
  exact this
theorem rs_next {w0 w : World} {e : Ev} {ws ws' : List ByteArray} {ok ok' : Bool} {x : ByteArray} {R : Nat} (h : RS w0 w e ws ok) (q : nextR ws ok = (x, ws', ok')) (f : wordsFit ws') (hR : w0.heap.size + 1 + 1 = R) :
    Calls Tryd.prog 38 #[.pointer (some ⟨R, 0, none⟩)] w fun r w' => r = .returned (.string x) ∧ RS w0 w' e ws' ok' := by
  subst hR
  have := next_any w (w0.heap.size + 1 + 1) ws ok h.rd
  rw [q] at this
  exact this.mono fun r w' hr => ⟨hr.1, h.call hr.2.2 hr.2.1 f⟩
theorem rs_field {w0 w : World} {e : Ev} {ws ws' : List ByteArray} {ok ok' hh : Bool} {n R : Nat} (h : RS w0 w e ws ok) (q : fieldR hh ws ok = (n, ws', ok')) (f : wordsFit ws') (hR : w0.heap.size + 1 + 1 = R) :
    Calls Tryd.prog 39 #[.pointer (some ⟨R, 0, none⟩), .bool hh] w fun r w' => r = .returned (.int .u32 (n : Int)) ∧ RS w0 w' e ws' ok' := by
  subst hR
  have ht := h.top
  have := fieldr_any hh w (w0.heap.size + 1 + 1) ws ok h.rd h.fit h.l (by omega)
  rw [q] at this
  exact this.mono fun r w' hr => ⟨hr.1, h.call hr.2.2 hr.2.1 f⟩
theorem rs_set {w0 w : World} {e e' : Ev} {ws : List ByteArray} {ok : Bool} {E : Nat} (h : RS w0 w e ws ok) (hE : w0.heap.size + 1 + 1 + 1 = E) (j : Nat) (hj : j < 6) (v : Value) (hv : (evC e).setIfInBounds j v = evC e') : RS w0 (w.setCell ⟨E, j, none⟩ v) e' ws ok := by
  subst hE
  exact h.set j hj v hv
theorem RS.drewN {w0 w : World} {e : Ev} {ws : List ByteArray} {ok : Bool} (h : RS w0 w e ws ok) (n : Nat) : RS w0 (w.drewN n) e ws ok :=
  ⟨h.rd.below (below_drewN (Below.refl _ _) n), h.ev, h.rs, h.l.below (below_drewN (Below.refl _ _) n), h.fit, below_drewN h.bel n, h.top⟩

end Go.Proofs.YtonmkmbllaahgaaDoor
