/-
  What event's read does, over this seat's translation. Conditions: the listed variables (EvL).
-/
import Derived.Test.YtonmkmbllaahgaaDoorEv7
import Derived.Laws.ResultCell
namespace Go.Proofs.YtonmkmbllaahgaaDoor
open Go.RowKit
set_option linter.unusedVariables false
set_option linter.unusedSimpArgs false

/-- While the answer is told: the result's block may be written. -/
structure RC (w0 w : World) (E R : Nat) (e : Ev) (ao : Option Addr) (n cap : Nat) (ok : Bool) : Prop where
  rs : ∃ e', w.heap[w0.heap.size]? = some (evO e')
  bel : Below w0.heap.size w0 w
  ev : w.heap[E]? = some (evO e)
  rd : w.heap[R]? = some (.cells #[.slice ao n cap, .bool ok] 69 (0, 0))
  nE : E ≠ w0.heap.size
  nR : R ≠ w0.heap.size

theorem RC.drew {w0 w : World} {E R : Nat} {e : Ev} {ao : Option Addr} {n cap : Nat} {ok : Bool} (h : RC w0 w E R e ao n cap ok) : RC w0 w.drew E R e ao n cap ok := ⟨h.rs, below_drew h.bel, h.ev, h.rd, h.nE, h.nR⟩
theorem evcells {w : World} {E : Nat} {e : Ev} (h : w.heap[E]? = some (evO e)) :
    w.cell? ⟨E, 0, none⟩ = some (.int .i64 e.kind) ∧ w.cell? ⟨E, 1, none⟩ = some (.int .u64 (e.cyc : Int)) ∧ w.cell? ⟨E, 2, none⟩ = some (.int .u64 (e.cnt : Int)) ∧
    w.cell? ⟨E, 3, none⟩ = some (.int .u32 (e.a : Int)) ∧ w.cell? ⟨E, 4, none⟩ = some (.int .u32 (e.b : Int)) ∧ w.cell? ⟨E, 5, none⟩ = some (.int .u32 (e.v : Int)) := by
  refine ⟨?_, ?_, ?_, ?_, ?_, ?_⟩ <;> simp [World.cell?, h, evO]
theorem RC.evc {w0 w : World} {E R : Nat} {e : Ev} {ao : Option Addr} {n cap : Nat} {ok : Bool} (h : RC w0 w E R e ao n cap ok) :
    w.cell? ⟨E, 0, none⟩ = some (.int .i64 e.kind) ∧ w.cell? ⟨E, 1, none⟩ = some (.int .u64 (e.cyc : Int)) ∧ w.cell? ⟨E, 2, none⟩ = some (.int .u64 (e.cnt : Int)) ∧
    w.cell? ⟨E, 3, none⟩ = some (.int .u32 (e.a : Int)) ∧ w.cell? ⟨E, 4, none⟩ = some (.int .u32 (e.b : Int)) ∧ w.cell? ⟨E, 5, none⟩ = some (.int .u32 (e.v : Int)) := evcells h.ev
theorem RC.rdc {w0 w : World} {E R : Nat} {e : Ev} {ao : Option Addr} {n cap : Nat} {ok : Bool} (h : RC w0 w E R e ao n cap ok) : w.cell? ⟨R, 0, none⟩ = some (.slice ao n cap) ∧ w.cell? ⟨R, 1, none⟩ = some (.bool ok) := by
  have := h.rd
  exact ⟨by simp [World.cell?, this], by simp [World.cell?, this]⟩

theorem evfree {w : World} {E : Nat} {e : Ev} (h : w.heap[E]? = some (evO e)) :
    w.frozen? ⟨E, 0, none⟩ = false ∧ w.frozen? ⟨E, 1, none⟩ = false ∧ w.frozen? ⟨E, 2, none⟩ = false ∧ w.frozen? ⟨E, 3, none⟩ = false ∧ w.frozen? ⟨E, 4, none⟩ = false ∧ w.frozen? ⟨E, 5, none⟩ = false := by
  refine ⟨?_, ?_, ?_, ?_, ?_, ?_⟩ <;> simp [World.frozen?, h, evO]

/-- An event, stored over another one. -/
def evSt (w : World) (B : Nat) (e : Ev) : World :=
  (((((w.setCell ⟨B, 0, none⟩ (.int .i64 e.kind)).setCell ⟨B, 1, none⟩ (.int .u64 (e.cyc : Int))).setCell ⟨B, 2, none⟩ (.int .u64 (e.cnt : Int))).setCell ⟨B, 3, none⟩ (.int .u32 (e.a : Int))).setCell ⟨B, 4, none⟩ (.int .u32 (e.b : Int))).setCell ⟨B, 5, none⟩ (.int .u32 (e.v : Int))
theorem ev_stored {w : World} {B : Nat} {e' e : Ev} (h : w.heap[B]? = some (evO e')) : (evSt w B e).heap[B]? = some (evO e) ∧ w.grownBy (evSt w B e) (some B) := by
  have h0 := heap_setCell_same w B 0 _ _ (.int .i64 e.kind) h
  have h1 := heap_setCell_same _ B 1 _ _ (.int .u64 (e.cyc : Int)) h0
  have h2 := heap_setCell_same _ B 2 _ _ (.int .u64 (e.cnt : Int)) h1
  have h3 := heap_setCell_same _ B 3 _ _ (.int .u32 (e.a : Int)) h2
  have h4 := heap_setCell_same _ B 4 _ _ (.int .u32 (e.b : Int)) h3
  have h5 := heap_setCell_same _ B 5 _ _ (.int .u32 (e.v : Int)) h4
  refine ⟨?_, ?_⟩
  · unfold evSt
    rw [h5]
    simp [evO]
  · unfold evSt
    exact grown_trans (grown_trans (grown_trans (grown_trans (grown_trans (grow_cell _ B 0 _) (grow_cell _ B 1 _)) (grow_cell _ B 2 _)) (grow_cell _ B 3 _)) (grow_cell _ B 4 _)) (grow_cell _ B 5 _)
theorem RC.stored {w0 w w' : World} {E R : Nat} {e e2 : Ev} {ao : Option Addr} {n cap : Nat} {ok : Bool} (h : RC w0 w E R e ao n cap ok) (hg : w.grownBy w' (some w0.heap.size)) (hs : w'.heap[w0.heap.size]? = some (evO e2)) : RC w0 w' E R e ao n cap ok := by
  have hE := h.nE
  have hR := h.nR
  obtain ⟨e1, h1⟩ := h.rs
  have hsz : w0.heap.size ≤ w.heap.size := by have := blk_lt h1; omega
  exact ⟨⟨e2, hs⟩, below_grown h.bel hsz (Nat.le_refl _) hg, (hg.block E (blk_lt h.ev) (by simp; omega)).trans h.ev, (hg.block R (blk_lt h.rd) (by simp; omega)).trans h.rd, hE, hR⟩

set_option maxRecDepth 100000 in
set_option maxHeartbeats 1000000 in
theorem read_walk (s : ByteArray) (hs : s.size < 4294967281) (w : World) (hL : EvL w) (ws : List ByteArray) (hws : Lib.splitB ⟨#[32]⟩ 0 (min 7 (s.size + 1) - 1) s = ws) (hlen : ws.length ≤ min 7 (s.size + 1)) (hf : wordsFit ws)
    (cnt cyc a b v : Nat) (k : Nat) (ws1 ws2 ws3 ws4 ws5 ws6 : List ByteArray) (ok1 ok2 ok3 ok4 ok5 ok6 : Bool) (x : ByteArray) (hA hB hV : Bool)
    (q1 : Hid (numR 64 ws true = (cnt, ws1, ok1))) (q2 : Hid (numR 64 ws1 ok1 = (cyc, ws2, ok2))) (q3 : Hid (nextR ws2 ok2 = (x, ws3, ok3))) (qk : Hid (kindOf x.data.toList = k)) (qA : Hid (hasA (k : Int) = hA)) (qB : Hid (hasB (k : Int) = hB)) (qV : Hid (hasV (k : Int) = hV))
    (q4 : Hid (fieldR hA ws3 ok3 = (a, ws4, ok4))) (q5 : Hid (fieldR hB ws4 ok4 = (b, ws5, ok5))) (q6 : Hid (fieldR hV ws5 ok5 = (v, ws6, ok6)))
    (f1 : Hid (wordsFit ws1)) (f2 : Hid (wordsFit ws2)) (f3 : Hid (wordsFit ws3)) (f4 : Hid (wordsFit ws4)) (f5 : Hid (wordsFit ws5)) (f6 : Hid (wordsFit ws6)) (res : Bool) (qr : Hid ((ok6 && (knownB (k : Int) && ws6.isEmpty)) = res)) :
    Calls Tryd.prog 30 #[.string s] w fun r w' => r = .returned (.tuple #[evV ⟨k, cyc, cnt, a, b, v⟩, .bool res]) ∧ Below w.heap.size w w' := by
  obtain ⟨w1, e1⟩ : ∃ w1, w1 = w.alloc (evO ev0) := ⟨_, rfl⟩
  obtain ⟨w2, e2⟩ : ∃ w2, w2 = w1.alloc (.cells (Lib.cellsOf ws (min 7 (s.size + 1))) 9) := ⟨_, rfl⟩
  obtain ⟨w3, e3⟩ : ∃ w3, w3 = w2.alloc (.cells #[.slice (some ⟨w.heap.size + 1, 0, none⟩) ws.length (min 7 (s.size + 1)), .bool true] 69) := ⟨_, rfl⟩
  obtain ⟨w4, e4⟩ : ∃ w4, w4 = w3.alloc (evO ev0) := ⟨_, rfl⟩
  have S0 := Lib.hid (rs_start hL (min 7 (s.size + 1)) ws hlen (by omega) hf e1 e2 e3 e4)
  obtain ⟨s1, -, b1⟩ := new_size e1
  have hsp : Calls Tryd.prog 36 #[.string s, .string ⟨#[32]⟩, .int .i64 7] w1 fun r w' => r = .returned (.slice (some ⟨w.heap.size + 1, 0, none⟩) ws.length (min 7 (s.size + 1) : Nat)) ∧ w' = w2 := by
    obtain ⟨m, hm⟩ := (hL.below b1).mx
    have := Tryd.strings_SplitN s ⟨#[32]⟩ 7 m w1 hs hm (by decide) (by decide) (by decide)
    rw [hws, s1, ← e2] at this
    exact this
  have HS := Lib.hid hsp
  clear hsp b1 hL
  generalize min 7 (s.size + 1) = N7 at *
  unfold evO ev0 at e1 e4
  rw [show ((0 : Nat) : Int) = 0 from rfl] at e1 e4
  clear hws hlen hf
  obtain ⟨R, hR⟩ : ∃ R, w.heap.size + 1 + 1 = R := ⟨_, rfl⟩
  obtain ⟨E, hE⟩ : ∃ E, w.heap.size + 1 + 1 + 1 = E := ⟨_, rfl⟩
  have HR := Lib.hid hR
  have HE := Lib.hid hE
  clear hR hE
  unfold evV
  go_enter Tryd.func30, Tryd.ntmps30
  go_wp2_with fail
  rw [← e1]
  refine HS.out.mono ?_
  rintro r w' ⟨rfl, rfl⟩
  go_wp2_with fail
  rw [← e1, ← e2, ← e3, ← e4]
  rw [HE.out]
  rw [HR.out]
  clear e1 e2 e3 e4 HS s1
  refine (rs_number64 S0.out q1.out f1.out HR.out).mono ?_
  rintro r w5 ⟨rfl, S⟩
  have S1 := Lib.hid S
  obtain ⟨⟨-, -, c2, -, -, -⟩, z⟩ := S.cells E HE.out
  have z2 := z 2
  clear S z S0
  go_wp2_with fail
  have S2 := Lib.hid (rs_set (e' := ⟨0, 0, cnt, 0, 0, 0⟩) S1.out HE.out 2 (by omega) (.int .u64 (cnt : Int)) rfl)
  clear c2 z2 S1
  generalize w5.setCell ⟨E, 2, none⟩ (.int .u64 (cnt : Int)) = w6 at *
  refine (rs_number64 S2.out q2.out f2.out HR.out).mono ?_
  rintro r w7 ⟨rfl, S⟩
  have S3 := Lib.hid S
  obtain ⟨⟨-, c1, -, -, -, -⟩, z⟩ := S.cells E HE.out
  have z1 := z 1
  clear S z S2
  go_wp2_with fail
  have S4 := Lib.hid (rs_set (e' := ⟨0, cyc, cnt, 0, 0, 0⟩) S3.out HE.out 1 (by omega) (.int .u64 (cyc : Int)) rfl)
  clear c1 z1 S3
  generalize w7.setCell ⟨E, 1, none⟩ (.int .u64 (cyc : Int)) = w8 at *
  refine (rs_next S4.out q3.out f3.out HR.out).mono ?_
  rintro r w9 ⟨rfl, S⟩
  have S5 := Lib.hid S
  clear S S4
  go_wp2_with fail
  have hkd := kind_any x w9 S5.out.l
  rw [qk.out] at hkd
  refine hkd.mono ?_
  rintro r w10 ⟨rfl, rfl⟩
  obtain ⟨⟨c0, -, -, -, -, -⟩, z⟩ := S5.out.cells E HE.out
  have z0 := z 0
  clear z hkd
  go_wp2_with fail
  have S6 := Lib.hid (rs_set (e' := ⟨k, cyc, cnt, 0, 0, 0⟩) S5.out HE.out 0 (by omega) (.int .i64 (k : Int)) rfl)
  clear c0 z0 S5
  generalize w9.setCell ⟨E, 0, none⟩ (.int .i64 (k : Int)) = w11 at *
  refine (fields_any (k : Int) w11 S6.out.l).mono ?_
  rintro r w12 ⟨hr, m, hw12⟩
  rw [qA.out, qB.out, qV.out] at hr
  subst hr
  have S7 := Lib.hid (by rw [hw12]; exact S6.out.drewN m : RS w w12 ⟨k, cyc, cnt, 0, 0, 0⟩ ws3 ok3)
  clear S6 hw12
  go_wp2_with fail
  refine (rs_field S7.out q4.out f4.out HR.out).mono ?_
  rintro r w13 ⟨rfl, S⟩
  have S8 := Lib.hid S
  obtain ⟨⟨-, -, -, c3, -, -⟩, z⟩ := S.cells E HE.out
  have z3 := z 3
  clear S z S7
  go_wp2_with fail
  have S9 := Lib.hid (rs_set (e' := ⟨k, cyc, cnt, a, 0, 0⟩) S8.out HE.out 3 (by omega) (.int .u32 (a : Int)) rfl)
  clear c3 z3 S8
  generalize w13.setCell ⟨E, 3, none⟩ (.int .u32 (a : Int)) = w14 at *
  refine (rs_field S9.out q5.out f5.out HR.out).mono ?_
  rintro r w15 ⟨rfl, S⟩
  have S10 := Lib.hid S
  obtain ⟨⟨-, -, -, -, c4, -⟩, z⟩ := S.cells E HE.out
  have z4 := z 4
  clear S z S9
  go_wp2_with fail
  have S11 := Lib.hid (rs_set (e' := ⟨k, cyc, cnt, a, b, 0⟩) S10.out HE.out 4 (by omega) (.int .u32 (b : Int)) rfl)
  clear c4 z4 S10
  generalize w15.setCell ⟨E, 4, none⟩ (.int .u32 (b : Int)) = w16 at *
  refine (rs_field S11.out q6.out f6.out HR.out).mono ?_
  rintro r w17 ⟨rfl, S⟩
  have S12 := Lib.hid S
  obtain ⟨⟨-, -, -, -, -, c5⟩, z⟩ := S.cells E HE.out
  have z5 := z 5
  clear S z S11
  go_wp2_with fail
  have S13 := Lib.hid (rs_set (e' := ⟨k, cyc, cnt, a, b, v⟩) S12.out HE.out 5 (by omega) (.int .u32 (v : Int)) rfl)
  clear c5 z5 S12
  generalize w17.setCell ⟨E, 5, none⟩ (.int .u32 (v : Int)) = w18 at *
  obtain ⟨ao, cap, -, -, hrd, -⟩ := S13.out.rd.ex
  rw [HR.out] at hrd
  have HC := Lib.hid (⟨⟨ev0, S13.out.rs⟩, S13.out.bel, by rw [← HE.out]; exact S13.out.ev, hrd, by have := HE.out; omega, by have := HR.out; omega⟩ : RC w w18 E R ⟨k, cyc, cnt, a, b, v⟩ ao ws6.length cap ok6)
  have HK := Lib.hid (fun u => known_any (k : Int) u)
  clear hrd S13 q1 q2 q3 qk qA qB qV q4 q5 q6 f1 f2 f3 f4 f5 f6
  cases ok6
  · obtain rfl : false = res := qr.out
    clear qr
    refine wp_region_vals [some (Value.agg #[.int .i64 (k : Int), .int .u64 (cyc : Int), .int .u64 (cnt : Int), .int .u32 (a : Int), .int .u32 (b : Int), .int .u32 (v : Int)]), some (Value.pointer (some ⟨R, 1, none⟩)), some (Value.bool false), some (Value.bool false), none, none, none, some (Value.bool false), some (Value.bool false), none, none, none, none, some (Value.bool false), none, some (Value.bool false)]
      (fun w' => RC w w' E R ⟨k, cyc, cnt, a, b, v⟩ ao ws6.length cap false) (fun u u' => u'.heap = u.heap ∨ u'.heap[w.heap.size]? = some (evO ⟨k, cyc, cnt, a, b, v⟩)) (fun j u => j = 14 → u.heap[w.heap.size]? = some (evO ⟨k, cyc, cnt, a, b, v⟩)) [(0, 35), (1, 36), (2, 37), (3, 38), (4, 39), (5, 40), (6, 41), (7, 42), (8, 43), (9, 44), (10, 45), (11, 46), (12, 47), (13, 48), (15, 3)] 16 (by kernel_rfl) (by kernel_rfl) (by kernel_rfl) (by kernel_rfl) ?hC ?hF ?hs ?hf
    case hC => exact HC.out.drew
    case hF => exact fun i u u' _ hg hF hi => hg.elim (fun h => by rw [h]; exact hF hi) (fun h => h)
    case hs =>
      refine stepsV_succ ?s15 (stepsV_succ ?s14 (stepsV_succ ?s13 (stepsV_succ ?s12 (stepsV_succ ?s11 (stepsV_succ ?s10 (stepsV_succ ?s9 (stepsV_succ ?s8 (stepsV_succ ?s7 (stepsV_succ ?s6 (stepsV_succ ?s5 (stepsV_succ ?s4 (stepsV_succ ?s3 (stepsV_succ ?s2 (stepsV_succ ?s1 (stepsV_succ ?s0 (stepsV_zero))))))))))))))))
      case s0 =>
        refine stepV0 rfl (by kernel_rfl) ?_
        rintro w' hC
        intro K hK
        obtain ⟨c0, c1, c2, c3, c4, c5⟩ := hC.evc
        go_simp
        exact hK _ _ rfl ⟨rfl, hC, .inl rfl, fun h => absurd h (by decide)⟩
      case s1 =>
        refine stepV0 rfl (by kernel_rfl) ?_
        rintro w' hC
        intro K hK
        go_simp
        exact hK _ _ rfl ⟨rfl, hC, .inl rfl, fun h => absurd h (by decide)⟩
      case s2 =>
        refine stepV1 1 36 rfl (by kernel_rfl) ?_
        rintro w' hC v1 rfl
        intro K hK
        obtain ⟨d0, d1⟩ := hC.rdc
        go_simp
        exact hK _ _ rfl ⟨rfl, hC, .inl rfl, fun h => absurd h (by decide)⟩
      case s3 =>
        refine stepV1 2 37 rfl (by kernel_rfl) ?_
        rintro w' hC v1 rfl
        intro K hK
        go_simp
        exact hK _ _ rfl ⟨rfl, hC, .inl rfl, fun h => absurd h (by decide)⟩
      case s4 =>
        refine stepV1 3 38 rfl (by kernel_rfl) ?_
        rintro w' hC v1 rfl
        intro K hK
        go_simp
        exact hK _ _ rfl ⟨trivial, hC, .inl rfl, fun h => absurd h (by decide)⟩
      case s5 =>
        refine stepV2 3 38 4 39 rfl (by kernel_rfl) ?_
        rintro w' hC v1 v2 rfl -
        intro K hK
        go_simp
        exact hK _ _ rfl ⟨trivial, hC, .inl rfl, fun h => absurd h (by decide)⟩
      case s6 =>
        refine stepV2 3 38 5 40 rfl (by kernel_rfl) ?_
        rintro w' hC v1 v2 rfl -
        intro K hK
        go_simp
        exact hK _ _ rfl ⟨trivial, hC, .inl rfl, fun h => absurd h (by decide)⟩
      case s7 =>
        refine stepV2 3 38 6 41 rfl (by kernel_rfl) ?_
        rintro w' hC v1 v2 rfl -
        intro K hK
        go_simp
        exact hK _ _ rfl ⟨rfl, hC, .inl rfl, fun h => absurd h (by decide)⟩
      case s8 =>
        refine stepV1 7 42 rfl (by kernel_rfl) ?_
        rintro w' hC v1 rfl
        intro K hK
        go_simp
        exact hK _ _ rfl ⟨rfl, hC, .inl rfl, fun h => absurd h (by decide)⟩
      case s9 =>
        refine stepV1 8 43 rfl (by kernel_rfl) ?_
        rintro w' hC v1 rfl
        intro K hK
        go_simp
        exact hK _ _ rfl ⟨trivial, hC, .inl rfl, fun h => absurd h (by decide)⟩
      case s10 =>
        refine stepV2 8 43 9 44 rfl (by kernel_rfl) ?_
        rintro w' hC v1 v2 rfl -
        intro K hK
        go_simp
        exact hK _ _ rfl ⟨trivial, hC, .inl rfl, fun h => absurd h (by decide)⟩
      case s11 =>
        refine stepV2 8 43 10 45 rfl (by kernel_rfl) ?_
        rintro w' hC v1 v2 rfl -
        intro K hK
        go_simp
        exact hK _ _ rfl ⟨trivial, hC, .inl rfl, fun h => absurd h (by decide)⟩
      case s12 =>
        refine stepV2 8 43 11 46 rfl (by kernel_rfl) ?_
        rintro w' hC v1 v2 rfl -
        intro K hK
        go_simp
        exact hK _ _ rfl ⟨trivial, hC, .inl rfl, fun h => absurd h (by decide)⟩
      case s13 =>
        refine stepV2 8 43 12 47 rfl (by kernel_rfl) ?_
        rintro w' hC v1 v2 rfl -
        intro K hK
        go_simp
        exact hK _ _ rfl ⟨rfl, hC, .inl rfl, fun h => absurd h (by decide)⟩
      case s14 =>
        refine stepV1 0 35 rfl (by kernel_rfl) ?_
        rintro w' hC v1 rfl
        intro K hK
        obtain ⟨e', hr⟩ := hC.rs
        obtain ⟨r0, r1, r2, r3, r4, r5⟩ := evcells hr
        obtain ⟨z0, z1, z2, z3, z4, z5⟩ := evfree hr
        go_simp
        have hst := ev_stored (e := ⟨k, cyc, cnt, a, b, v⟩) hr
        exact hK _ _ rfl ⟨trivial, hC.stored hst.2 hst.1, .inr hst.1, fun _ => hst.1⟩
      case s15 =>
        refine stepV1 13 48 rfl (by kernel_rfl) ?_
        rintro w' hC v1 rfl
        intro K hK
        go_simp
        exact hK _ _ rfl ⟨rfl, hC, .inl rfl, fun h => absurd h (by decide)⟩
    case hf =>
      intro w' hC x hx hF
      have hB0 := hF 14 (by omega) rfl
      have e0 : x 35 = Value.agg #[.int .i64 (k : Int), .int .u64 (cyc : Int), .int .u64 (cnt : Int), .int .u32 (a : Int), .int .u32 (b : Int), .int .u32 (v : Int)] := hx (0, 35) (by simp)
      have e1 : x 36 = Value.pointer (some ⟨R, 1, none⟩) := hx (1, 36) (by simp)
      have e2 : x 37 = Value.bool false := hx (2, 37) (by simp)
      have e3 : x 38 = Value.bool false := hx (3, 38) (by simp)
      have e7 : x 42 = Value.bool false := hx (7, 42) (by simp)
      have e8 : x 43 = Value.bool false := hx (8, 43) (by simp)
      have e13 : x 48 = Value.bool false := hx (13, 48) (by simp)
      have e15 : x 3 = Value.bool false := hx (15, 3) (by simp)
      simp only [putAll, List.foldl_cons, List.foldl_nil, e0, e1, e2, e3, e7, e8, e13, e15, Act.put, List.setIfInBounds_toArray, List.set_cons_succ, List.set_cons_zero]
      clear hx hF e0 e1 e2 e3 e7 e8 e13 e15
      go_wp2_with fail
      obtain ⟨b0, b1, b2, b3, b4, b5⟩ := evcells hB0
      have HBW := Lib.hid hC.bel
      clear hC hB0
      simp only at b0 b1 b2 b3 b4 b5
      refine bodyPost_ret (v := .tuple #[.agg #[.int .i64 (k : Int), .int .u64 (cyc : Int), .int .u64 (cnt : Int), .int .u32 (a : Int), .int .u32 (b : Int), .int .u32 (v : Int)], .bool false]) (by rw [results_cell_tmp rfl]; go_simp) rfl ⟨rfl, HBW.out⟩
  cases hkn : knownB (k : Int)
  · rw [hkn] at HK
    obtain rfl : false = res := by have := qr.out; rw [hkn] at this; exact this
    clear qr
    refine wp_region_vals [some (Value.agg #[.int .i64 (k : Int), .int .u64 (cyc : Int), .int .u64 (cnt : Int), .int .u32 (a : Int), .int .u32 (b : Int), .int .u32 (v : Int)]), some (Value.pointer (some ⟨R, 1, none⟩)), some (Value.bool true), some (Value.bool true), some (Value.pointer (some ⟨E, 0, none⟩)), some (Value.int .i64 (k : Int)), some (Value.bool false), some (Value.bool false), some (Value.bool false), none, none, none, none, some (Value.bool false), none, some (Value.bool false)]
      (fun w' => RC w w' E R ⟨k, cyc, cnt, a, b, v⟩ ao ws6.length cap true) (fun u u' => u'.heap = u.heap ∨ u'.heap[w.heap.size]? = some (evO ⟨k, cyc, cnt, a, b, v⟩)) (fun j u => j = 14 → u.heap[w.heap.size]? = some (evO ⟨k, cyc, cnt, a, b, v⟩)) [(0, 35), (1, 36), (2, 37), (3, 38), (4, 39), (5, 40), (6, 41), (7, 42), (8, 43), (9, 44), (10, 45), (11, 46), (12, 47), (13, 48), (15, 3)] 16 (by kernel_rfl) (by kernel_rfl) (by kernel_rfl) (by kernel_rfl) ?hC ?hF ?hs ?hf
    case hC => exact HC.out.drew
    case hF => exact fun i u u' _ hg hF hi => hg.elim (fun h => by rw [h]; exact hF hi) (fun h => h)
    case hs =>
      refine stepsV_succ ?s15 (stepsV_succ ?s14 (stepsV_succ ?s13 (stepsV_succ ?s12 (stepsV_succ ?s11 (stepsV_succ ?s10 (stepsV_succ ?s9 (stepsV_succ ?s8 (stepsV_succ ?s7 (stepsV_succ ?s6 (stepsV_succ ?s5 (stepsV_succ ?s4 (stepsV_succ ?s3 (stepsV_succ ?s2 (stepsV_succ ?s1 (stepsV_succ ?s0 (stepsV_zero))))))))))))))))
      case s0 =>
        refine stepV0 rfl (by kernel_rfl) ?_
        rintro w' hC
        intro K hK
        obtain ⟨c0, c1, c2, c3, c4, c5⟩ := hC.evc
        go_simp
        exact hK _ _ rfl ⟨rfl, hC, .inl rfl, fun h => absurd h (by decide)⟩
      case s1 =>
        refine stepV0 rfl (by kernel_rfl) ?_
        rintro w' hC
        intro K hK
        go_simp
        exact hK _ _ rfl ⟨rfl, hC, .inl rfl, fun h => absurd h (by decide)⟩
      case s2 =>
        refine stepV1 1 36 rfl (by kernel_rfl) ?_
        rintro w' hC v1 rfl
        intro K hK
        obtain ⟨d0, d1⟩ := hC.rdc
        go_simp
        exact hK _ _ rfl ⟨rfl, hC, .inl rfl, fun h => absurd h (by decide)⟩
      case s3 =>
        refine stepV1 2 37 rfl (by kernel_rfl) ?_
        rintro w' hC v1 rfl
        intro K hK
        go_simp
        exact hK _ _ rfl ⟨rfl, hC, .inl rfl, fun h => absurd h (by decide)⟩
      case s4 =>
        refine stepV1 3 38 rfl (by kernel_rfl) ?_
        rintro w' hC v1 rfl
        intro K hK
        go_simp
        exact hK _ _ rfl ⟨rfl, hC, .inl rfl, fun h => absurd h (by decide)⟩
      case s5 =>
        refine stepV2 3 38 4 39 rfl (by kernel_rfl) ?_
        rintro w' hC v1 v2 rfl rfl
        intro K hK
        obtain ⟨c0, c1, c2, c3, c4, c5⟩ := hC.evc
        go_simp
        exact hK _ _ rfl ⟨rfl, hC, .inl rfl, fun h => absurd h (by decide)⟩
      case s6 =>
        refine stepV2 3 38 5 40 rfl (by kernel_rfl) ?_
        rintro w' hC v1 v2 rfl rfl
        intro K hK
        go_simp
        refine (HK.out w').mono ?_
        rintro r w2 ⟨rfl, rfl⟩
        exact hK _ _ rfl ⟨rfl, hC, .inl rfl, fun h => absurd h (by decide)⟩
      case s7 =>
        refine stepV2 3 38 6 41 rfl (by kernel_rfl) ?_
        rintro w' hC v1 v2 rfl rfl
        intro K hK
        go_simp
        exact hK _ _ rfl ⟨rfl, hC, .inl rfl, fun h => absurd h (by decide)⟩
      case s8 =>
        refine stepV1 7 42 rfl (by kernel_rfl) ?_
        rintro w' hC v1 rfl
        intro K hK
        go_simp
        exact hK _ _ rfl ⟨rfl, hC, .inl rfl, fun h => absurd h (by decide)⟩
      case s9 =>
        refine stepV1 8 43 rfl (by kernel_rfl) ?_
        rintro w' hC v1 rfl
        intro K hK
        go_simp
        exact hK _ _ rfl ⟨trivial, hC, .inl rfl, fun h => absurd h (by decide)⟩
      case s10 =>
        refine stepV2 8 43 9 44 rfl (by kernel_rfl) ?_
        rintro w' hC v1 v2 rfl -
        intro K hK
        go_simp
        exact hK _ _ rfl ⟨trivial, hC, .inl rfl, fun h => absurd h (by decide)⟩
      case s11 =>
        refine stepV2 8 43 10 45 rfl (by kernel_rfl) ?_
        rintro w' hC v1 v2 rfl -
        intro K hK
        go_simp
        exact hK _ _ rfl ⟨trivial, hC, .inl rfl, fun h => absurd h (by decide)⟩
      case s12 =>
        refine stepV2 8 43 11 46 rfl (by kernel_rfl) ?_
        rintro w' hC v1 v2 rfl -
        intro K hK
        go_simp
        exact hK _ _ rfl ⟨trivial, hC, .inl rfl, fun h => absurd h (by decide)⟩
      case s13 =>
        refine stepV2 8 43 12 47 rfl (by kernel_rfl) ?_
        rintro w' hC v1 v2 rfl -
        intro K hK
        go_simp
        exact hK _ _ rfl ⟨rfl, hC, .inl rfl, fun h => absurd h (by decide)⟩
      case s14 =>
        refine stepV1 0 35 rfl (by kernel_rfl) ?_
        rintro w' hC v1 rfl
        intro K hK
        obtain ⟨e', hr⟩ := hC.rs
        obtain ⟨r0, r1, r2, r3, r4, r5⟩ := evcells hr
        obtain ⟨z0, z1, z2, z3, z4, z5⟩ := evfree hr
        go_simp
        have hst := ev_stored (e := ⟨k, cyc, cnt, a, b, v⟩) hr
        exact hK _ _ rfl ⟨trivial, hC.stored hst.2 hst.1, .inr hst.1, fun _ => hst.1⟩
      case s15 =>
        refine stepV1 13 48 rfl (by kernel_rfl) ?_
        rintro w' hC v1 rfl
        intro K hK
        go_simp
        exact hK _ _ rfl ⟨rfl, hC, .inl rfl, fun h => absurd h (by decide)⟩
    case hf =>
      intro w' hC x hx hF
      have hB0 := hF 14 (by omega) rfl
      have e0 : x 35 = Value.agg #[.int .i64 (k : Int), .int .u64 (cyc : Int), .int .u64 (cnt : Int), .int .u32 (a : Int), .int .u32 (b : Int), .int .u32 (v : Int)] := hx (0, 35) (by simp)
      have e1 : x 36 = Value.pointer (some ⟨R, 1, none⟩) := hx (1, 36) (by simp)
      have e2 : x 37 = Value.bool true := hx (2, 37) (by simp)
      have e3 : x 38 = Value.bool true := hx (3, 38) (by simp)
      have e4 : x 39 = Value.pointer (some ⟨E, 0, none⟩) := hx (4, 39) (by simp)
      have e5 : x 40 = Value.int .i64 (k : Int) := hx (5, 40) (by simp)
      have e6 : x 41 = Value.bool false := hx (6, 41) (by simp)
      have e7 : x 42 = Value.bool false := hx (7, 42) (by simp)
      have e8 : x 43 = Value.bool false := hx (8, 43) (by simp)
      have e13 : x 48 = Value.bool false := hx (13, 48) (by simp)
      have e15 : x 3 = Value.bool false := hx (15, 3) (by simp)
      simp only [putAll, List.foldl_cons, List.foldl_nil, e0, e1, e2, e3, e4, e5, e6, e7, e8, e13, e15, Act.put, List.setIfInBounds_toArray, List.set_cons_succ, List.set_cons_zero]
      clear hx hF e0 e1 e2 e3 e4 e5 e6 e7 e8 e13 e15
      go_wp2_with fail
      obtain ⟨b0, b1, b2, b3, b4, b5⟩ := evcells hB0
      have HBW := Lib.hid hC.bel
      clear hC hB0
      simp only at b0 b1 b2 b3 b4 b5
      refine bodyPost_ret (v := .tuple #[.agg #[.int .i64 (k : Int), .int .u64 (cyc : Int), .int .u64 (cnt : Int), .int .u32 (a : Int), .int .u32 (b : Int), .int .u32 (v : Int)], .bool false]) (by rw [results_cell_tmp rfl]; go_simp) rfl ⟨rfl, HBW.out⟩
  · rw [hkn] at HK
    have hq : ws6.isEmpty = res := by have := qr.out; rw [hkn] at this; simpa using this
    have HQ := Lib.hid (show ((ws6.length : Int) == 0) = res by rw [← hq]; cases ws6 <;> simp; omega)
    clear hq qr
    refine wp_region_vals [some (Value.agg #[.int .i64 (k : Int), .int .u64 (cyc : Int), .int .u64 (cnt : Int), .int .u32 (a : Int), .int .u32 (b : Int), .int .u32 (v : Int)]), some (Value.pointer (some ⟨R, 1, none⟩)), some (Value.bool true), some (Value.bool true), some (Value.pointer (some ⟨E, 0, none⟩)), some (Value.int .i64 (k : Int)), some (Value.bool true), some (Value.bool true), some (Value.bool true), some (Value.pointer (some ⟨R, 0, none⟩)), some (Value.slice ao ws6.length cap), some (Value.int .i64 (ws6.length : Int)), some (Value.bool res), some (Value.bool res), none, some (Value.bool res)]
      (fun w' => RC w w' E R ⟨k, cyc, cnt, a, b, v⟩ ao ws6.length cap true) (fun u u' => u'.heap = u.heap ∨ u'.heap[w.heap.size]? = some (evO ⟨k, cyc, cnt, a, b, v⟩)) (fun j u => j = 14 → u.heap[w.heap.size]? = some (evO ⟨k, cyc, cnt, a, b, v⟩)) [(0, 35), (1, 36), (2, 37), (3, 38), (4, 39), (5, 40), (6, 41), (7, 42), (8, 43), (9, 44), (10, 45), (11, 46), (12, 47), (13, 48), (15, 3)] 16 (by kernel_rfl) (by kernel_rfl) (by kernel_rfl) (by kernel_rfl) ?hC ?hF ?hs ?hf
    case hC => exact HC.out.drew
    case hF => exact fun i u u' _ hg hF hi => hg.elim (fun h => by rw [h]; exact hF hi) (fun h => h)
    case hs =>
      refine stepsV_succ ?s15 (stepsV_succ ?s14 (stepsV_succ ?s13 (stepsV_succ ?s12 (stepsV_succ ?s11 (stepsV_succ ?s10 (stepsV_succ ?s9 (stepsV_succ ?s8 (stepsV_succ ?s7 (stepsV_succ ?s6 (stepsV_succ ?s5 (stepsV_succ ?s4 (stepsV_succ ?s3 (stepsV_succ ?s2 (stepsV_succ ?s1 (stepsV_succ ?s0 (stepsV_zero))))))))))))))))
      case s0 =>
        refine stepV0 rfl (by kernel_rfl) ?_
        rintro w' hC
        intro K hK
        obtain ⟨c0, c1, c2, c3, c4, c5⟩ := hC.evc
        go_simp
        exact hK _ _ rfl ⟨rfl, hC, .inl rfl, fun h => absurd h (by decide)⟩
      case s1 =>
        refine stepV0 rfl (by kernel_rfl) ?_
        rintro w' hC
        intro K hK
        go_simp
        exact hK _ _ rfl ⟨rfl, hC, .inl rfl, fun h => absurd h (by decide)⟩
      case s2 =>
        refine stepV1 1 36 rfl (by kernel_rfl) ?_
        rintro w' hC v1 rfl
        intro K hK
        obtain ⟨d0, d1⟩ := hC.rdc
        go_simp
        exact hK _ _ rfl ⟨rfl, hC, .inl rfl, fun h => absurd h (by decide)⟩
      case s3 =>
        refine stepV1 2 37 rfl (by kernel_rfl) ?_
        rintro w' hC v1 rfl
        intro K hK
        go_simp
        exact hK _ _ rfl ⟨rfl, hC, .inl rfl, fun h => absurd h (by decide)⟩
      case s4 =>
        refine stepV1 3 38 rfl (by kernel_rfl) ?_
        rintro w' hC v1 rfl
        intro K hK
        go_simp
        exact hK _ _ rfl ⟨rfl, hC, .inl rfl, fun h => absurd h (by decide)⟩
      case s5 =>
        refine stepV2 3 38 4 39 rfl (by kernel_rfl) ?_
        rintro w' hC v1 v2 rfl rfl
        intro K hK
        obtain ⟨c0, c1, c2, c3, c4, c5⟩ := hC.evc
        go_simp
        exact hK _ _ rfl ⟨rfl, hC, .inl rfl, fun h => absurd h (by decide)⟩
      case s6 =>
        refine stepV2 3 38 5 40 rfl (by kernel_rfl) ?_
        rintro w' hC v1 v2 rfl rfl
        intro K hK
        go_simp
        refine (HK.out w').mono ?_
        rintro r w2 ⟨rfl, rfl⟩
        exact hK _ _ rfl ⟨rfl, hC, .inl rfl, fun h => absurd h (by decide)⟩
      case s7 =>
        refine stepV2 3 38 6 41 rfl (by kernel_rfl) ?_
        rintro w' hC v1 v2 rfl rfl
        intro K hK
        go_simp
        exact hK _ _ rfl ⟨rfl, hC, .inl rfl, fun h => absurd h (by decide)⟩
      case s8 =>
        refine stepV1 7 42 rfl (by kernel_rfl) ?_
        rintro w' hC v1 rfl
        intro K hK
        go_simp
        exact hK _ _ rfl ⟨rfl, hC, .inl rfl, fun h => absurd h (by decide)⟩
      case s9 =>
        refine stepV1 8 43 rfl (by kernel_rfl) ?_
        rintro w' hC v1 rfl
        intro K hK
        go_simp
        exact hK _ _ rfl ⟨rfl, hC, .inl rfl, fun h => absurd h (by decide)⟩
      case s10 =>
        refine stepV2 8 43 9 44 rfl (by kernel_rfl) ?_
        rintro w' hC v1 v2 rfl rfl
        intro K hK
        obtain ⟨d0, d1⟩ := hC.rdc
        go_simp
        exact hK _ _ rfl ⟨rfl, hC, .inl rfl, fun h => absurd h (by decide)⟩
      case s11 =>
        refine stepV2 8 43 10 45 rfl (by kernel_rfl) ?_
        rintro w' hC v1 v2 rfl rfl
        intro K hK
        go_simp
        exact hK _ _ rfl ⟨rfl, hC, .inl rfl, fun h => absurd h (by decide)⟩
      case s12 =>
        refine stepV2 8 43 11 46 rfl (by kernel_rfl) ?_
        rintro w' hC v1 v2 rfl rfl
        intro K hK
        have hq := HQ.out
        go_simp
        exact hK _ _ rfl ⟨rfl, hC, .inl rfl, fun h => absurd h (by decide)⟩
      case s13 =>
        refine stepV2 8 43 12 47 rfl (by kernel_rfl) ?_
        rintro w' hC v1 v2 rfl rfl
        intro K hK
        go_simp
        exact hK _ _ rfl ⟨rfl, hC, .inl rfl, fun h => absurd h (by decide)⟩
      case s14 =>
        refine stepV1 0 35 rfl (by kernel_rfl) ?_
        rintro w' hC v1 rfl
        intro K hK
        obtain ⟨e', hr⟩ := hC.rs
        obtain ⟨r0, r1, r2, r3, r4, r5⟩ := evcells hr
        obtain ⟨z0, z1, z2, z3, z4, z5⟩ := evfree hr
        go_simp
        have hst := ev_stored (e := ⟨k, cyc, cnt, a, b, v⟩) hr
        exact hK _ _ rfl ⟨trivial, hC.stored hst.2 hst.1, .inr hst.1, fun _ => hst.1⟩
      case s15 =>
        refine stepV1 13 48 rfl (by kernel_rfl) ?_
        rintro w' hC v1 rfl
        intro K hK
        go_simp
        exact hK _ _ rfl ⟨rfl, hC, .inl rfl, fun h => absurd h (by decide)⟩
    case hf =>
      intro w' hC x hx hF
      have hB0 := hF 14 (by omega) rfl
      have e0 : x 35 = Value.agg #[.int .i64 (k : Int), .int .u64 (cyc : Int), .int .u64 (cnt : Int), .int .u32 (a : Int), .int .u32 (b : Int), .int .u32 (v : Int)] := hx (0, 35) (by simp)
      have e1 : x 36 = Value.pointer (some ⟨R, 1, none⟩) := hx (1, 36) (by simp)
      have e2 : x 37 = Value.bool true := hx (2, 37) (by simp)
      have e3 : x 38 = Value.bool true := hx (3, 38) (by simp)
      have e4 : x 39 = Value.pointer (some ⟨E, 0, none⟩) := hx (4, 39) (by simp)
      have e5 : x 40 = Value.int .i64 (k : Int) := hx (5, 40) (by simp)
      have e6 : x 41 = Value.bool true := hx (6, 41) (by simp)
      have e7 : x 42 = Value.bool true := hx (7, 42) (by simp)
      have e8 : x 43 = Value.bool true := hx (8, 43) (by simp)
      have e9 : x 44 = Value.pointer (some ⟨R, 0, none⟩) := hx (9, 44) (by simp)
      have e10 : x 45 = Value.slice ao ws6.length cap := hx (10, 45) (by simp)
      have e11 : x 46 = Value.int .i64 (ws6.length : Int) := hx (11, 46) (by simp)
      have e12 : x 47 = Value.bool res := hx (12, 47) (by simp)
      have e13 : x 48 = Value.bool res := hx (13, 48) (by simp)
      have e15 : x 3 = Value.bool res := hx (15, 3) (by simp)
      simp only [putAll, List.foldl_cons, List.foldl_nil, e0, e1, e2, e3, e4, e5, e6, e7, e8, e9, e10, e11, e12, e13, e15, Act.put, List.setIfInBounds_toArray, List.set_cons_succ, List.set_cons_zero]
      clear hx hF e0 e1 e2 e3 e4 e5 e6 e7 e8 e9 e10 e11 e12 e13 e15
      go_wp2_with fail
      obtain ⟨b0, b1, b2, b3, b4, b5⟩ := evcells hB0
      have HBW := Lib.hid hC.bel
      clear hC hB0
      simp only at b0 b1 b2 b3 b4 b5
      refine bodyPost_ret (v := .tuple #[.agg #[.int .i64 (k : Int), .int .u64 (cyc : Int), .int .u64 (cnt : Int), .int .u32 (a : Int), .int .u32 (b : Int), .int .u32 (v : Int)], .bool res]) (by rw [results_cell_tmp rfl]; go_simp) rfl ⟨rfl, HBW.out⟩

end Go.Proofs.YtonmkmbllaahgaaDoor
