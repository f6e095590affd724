/-
  What event's Parse does, over this seat's translation. Conditions: the listed variables (EvL).
-/
import Derived.Test.YtonmkmbllaahgaaDoorEv8
namespace Go.Proofs.YtonmkmbllaahgaaDoor
open Go.RowKit
set_option linter.unusedVariables false
set_option linter.unusedSimpArgs false

theorem num_fit {B : Nat} {ws : List ByteArray} {ok : Bool} (h : wordsFit ws) : wordsFit (numR B ws ok).2.1 := by
  unfold numR
  split
  · exact (next_fit h).2
  · exact (next_fit h).2
theorem field_fit {hh : Bool} {ws : List ByteArray} {ok : Bool} (h : wordsFit ws) : wordsFit (fieldR hh ws ok).2.1 := by
  unfold fieldR
  split
  · exact num_fit h
  · exact h

theorem split_fit (sep : ByteArray) (m : Nat) : ∀ (k : Nat) (s : ByteArray), s.size ≤ m → ∀ x ∈ Lib.splitB sep 0 k s, x.size ≤ m
  | 0, s, h, x, hx => by simp [Lib.splitB] at hx; rw [hx]; exact h
  | k + 1, s, h, x, hx => by
    unfold Lib.splitB at hx
    split at hx
    · simp at hx; rw [hx]; exact h
    · rcases List.mem_cons.1 hx with rfl | hx
      · simp; omega
      · exact split_fit sep m k _ (by simp; omega) x hx

theorem read_any (s : ByteArray) (hs : s.size < 4294967281) (w : World) (hL : EvL w) (ws : List ByteArray) (hws : Lib.splitB ⟨#[32]⟩ 0 (min 7 (s.size + 1) - 1) s = ws) :
    Calls Tryd.prog 30 #[.string s] w fun r w' => r = .returned (.tuple #[evV (readR ws).1, .bool (readR ws).2]) ∧ Below w.heap.size w w' := by
  have hlen : ws.length ≤ min 7 (s.size + 1) := by
    rw [← hws]
    have := Lib.splitB_length_le ⟨#[32]⟩ 0 (min 7 (s.size + 1) - 1) s
    omega
  have hf : wordsFit ws := by
    rw [← hws]
    exact fun x hx => split_fit _ 4294967296 _ s (by omega) x hx
  have f1 : wordsFit (numR 64 ws true).2.1 := num_fit hf
  have f2 : wordsFit (numR 64 (numR 64 ws true).2.1 (numR 64 ws true).2.2).2.1 := num_fit f1
  have f3 := (next_fit (ok := (numR 64 (numR 64 ws true).2.1 (numR 64 ws true).2.2).2.2) f2).2
  exact read_walk s hs w hL ws hws hlen hf _ _ _ _ _ _ _ _ _ _ _ _ _ _ _ _ _ _ _ _ _ _ rfl rfl rfl rfl rfl rfl rfl rfl rfl rfl f1 f2 f3 (field_fit f3) (field_fit (field_fit f3)) (field_fit (field_fit (field_fit f3))) _ rfl

set_option maxRecDepth 100000 in
set_option maxHeartbeats 2000000 in
theorem parse_form (s : ByteArray) (w : World) (e : Ev)
    (HR : Hid (∀ w', EvL w' → Calls Tryd.prog 30 #[.string s] w' fun r w'' => r = .returned (.tuple #[evV e, .bool false]) ∧ Below w'.heap.size w' w'')) (hL : EvL w) :
    Calls Tryd.prog 20 #[.string s] w fun r w' => r = .returned (.tuple #[evV ev0, .int .i64 3]) ∧ Below w.heap.size w w' := by
  obtain ⟨w1, e1⟩ : ∃ w1, w1 = w.alloc (evO ev0) := ⟨_, rfl⟩
  obtain ⟨s1, n1, b1⟩ := new_size e1
  have HR1 := Lib.hid (HR.out w1 (hL.below b1))
  have B1 := Lib.hid b1
  have N1 := Lib.hid n1
  unfold evO ev0 at e1
  rw [show ((0 : Nat) : Int) = 0 from rfl] at e1
  clear HR hL b1 n1 s1
  obtain ⟨k, cyc, cnt, a, b, v⟩ := e
  unfold evV ev0 at *
  go_enter Tryd.func20, Tryd.ntmps20
  go_wp2_with fail
  rw [← e1]
  clear e1
  refine HR1.out.mono ?_
  rintro r w2 ⟨rfl, h2⟩
  have B2 := Lib.hid (B1.out.trans (h2.mono B1.out.size))
  have N2 := (h2.block _ (blk_lt N1.out)).trans N1.out
  obtain ⟨w3, e3⟩ : ∃ w3, w3 = w2.alloc (evO ⟨k, cyc, cnt, a, b, v⟩) := ⟨_, rfl⟩
  obtain ⟨s3, n3, b3⟩ := new_size e3
  have N3 := (b3.block _ (blk_lt N2)).trans N2
  have B3 := Lib.hid (B2.out.trans (b3.mono (by have := B2.out.size; omega)))
  obtain ⟨r0, r1, r2, r3, r4, r5⟩ := evcells N3
  obtain ⟨z0, z1, z2, z3, z4, z5⟩ := evfree N3
  simp only at r0 r1 r2 r3 r4 r5
  have HN3 := Lib.hid N3
  unfold evO at e3
  simp only at e3
  subst e3
  clear N2 n3 s3 b3 h2 HR1 N1 N3 B1 B2
  go_wp2_with fail
  refine bodyPost_ret (v := .tuple #[.agg #[.int .i64 0, .int .u64 0, .int .u64 0, .int .u32 0, .int .u32 0, .int .u32 0], .int .i64 3]) (by rw [results_cell_tmp rfl]; go_simp) rfl ⟨rfl, ?_⟩
  exact below_grown B3.out (Nat.le_of_lt (blk_lt HN3.out)) (Nat.le_refl _) (ev_stored (e := ⟨0, 0, 0, 0, 0, 0⟩) HN3.out).2

set_option maxRecDepth 100000 in
set_option maxHeartbeats 2000000 in
theorem parse_range (s : ByteArray) (w : World) (e : Ev) (c : Int) (hc : (c != 0) = true)
    (HR : Hid (∀ w', EvL w' → Calls Tryd.prog 30 #[.string s] w' fun r w'' => r = .returned (.tuple #[evV e, .bool true]) ∧ Below w'.heap.size w' w''))
    (HC : Hid (∀ w', EvL w' → Calls Tryd.prog 10 #[evV e] w' fun r w'' => r = .returned (.int .i64 c) ∧ Below w'.heap.size w' w'')) (hL : EvL w) :
    Calls Tryd.prog 20 #[.string s] w fun r w' => r = .returned (.tuple #[evV ev0, .int .i64 c]) ∧ Below w.heap.size w w' := by
  obtain ⟨w1, e1⟩ : ∃ w1, w1 = w.alloc (evO ev0) := ⟨_, rfl⟩
  obtain ⟨s1, n1, b1⟩ := new_size e1
  have HR1 := Lib.hid (HR.out w1 (hL.below b1))
  have HL1 := Lib.hid (hL.below b1)
  have B1 := Lib.hid b1
  have N1 := Lib.hid n1
  unfold evO ev0 at e1
  rw [show ((0 : Nat) : Int) = 0 from rfl] at e1
  clear HR hL b1 n1 s1
  obtain ⟨k, cyc, cnt, a, b, v⟩ := e
  unfold evV ev0 at *
  go_enter Tryd.func20, Tryd.ntmps20
  go_wp2_with fail
  rw [← e1]
  clear e1
  refine HR1.out.mono ?_
  rintro r w2 ⟨rfl, h2⟩
  have B2 := Lib.hid (B1.out.trans (h2.mono B1.out.size))
  have N2 := (h2.block _ (blk_lt N1.out)).trans N1.out
  have HL2 := HL1.out.below h2
  obtain ⟨w3, e3⟩ : ∃ w3, w3 = w2.alloc (evO ⟨k, cyc, cnt, a, b, v⟩) := ⟨_, rfl⟩
  obtain ⟨s3, n3, b3⟩ := new_size e3
  have N3 := Lib.hid ((b3.block _ (blk_lt N2)).trans N2)
  have D3 := Lib.hid n3
  have B3 := Lib.hid (B2.out.trans (b3.mono (by have := B2.out.size; omega)))
  have HC3 := Lib.hid (HC.out w3 (HL2.below b3))
  unfold evO at e3
  simp only at e3
  clear N2 n3 s3 b3 h2 HR1 N1 B1 B2 HL1 HL2 HC
  go_wp2_with fail
  rw [← e3]
  clear e3
  refine HC3.out.mono ?_
  rintro r w4 ⟨rfl, h4⟩
  have N4 := Lib.hid ((h4.block _ (blk_lt N3.out)).trans N3.out)
  have D4 := (h4.block _ (blk_lt D3.out)).trans D3.out
  have B4 := Lib.hid (B3.out.trans (h4.mono B3.out.size))
  obtain ⟨r0, r1, r2, r3, r4, r5⟩ := evcells N4.out
  obtain ⟨z0, z1, z2, z3, z4, z5⟩ := evfree N4.out
  obtain ⟨d0, d1, d2, d3, d4, d5⟩ := evcells D4
  simp only at r0 r1 r2 r3 r4 r5 d0 d1 d2 d3 d4 d5
  generalize w2.heap.size = D at *
  clear h4 D4 D3 N3 B3 HC3
  go_wp2_with fail
  refine bodyPost_ret (v := .tuple #[.agg #[.int .i64 0, .int .u64 0, .int .u64 0, .int .u32 0, .int .u32 0, .int .u32 0], .int .i64 c]) (by rw [results_cell_tmp rfl]; go_simp) rfl ⟨rfl, ?_⟩
  exact below_grown B4.out (Nat.le_of_lt (blk_lt N4.out)) (Nat.le_refl _) (ev_stored (e := ⟨0, 0, 0, 0, 0, 0⟩) N4.out).2

set_option maxRecDepth 100000 in
set_option maxHeartbeats 2000000 in
theorem parse_ok (s : ByteArray) (w : World) (e : Ev) 
    (HR : Hid (∀ w', EvL w' → Calls Tryd.prog 30 #[.string s] w' fun r w'' => r = .returned (.tuple #[evV e, .bool true]) ∧ Below w'.heap.size w' w''))
    (HC : Hid (∀ w', EvL w' → Calls Tryd.prog 10 #[evV e] w' fun r w'' => r = .returned (.int .i64 0) ∧ Below w'.heap.size w' w'')) (hL : EvL w) :
    Calls Tryd.prog 20 #[.string s] w fun r w' => r = .returned (.tuple #[evV e, .int .i64 0]) ∧ Below w.heap.size w w' := by
  obtain ⟨w1, e1⟩ : ∃ w1, w1 = w.alloc (evO ev0) := ⟨_, rfl⟩
  obtain ⟨s1, n1, b1⟩ := new_size e1
  have HR1 := Lib.hid (HR.out w1 (hL.below b1))
  have HL1 := Lib.hid (hL.below b1)
  have B1 := Lib.hid b1
  have N1 := Lib.hid n1
  unfold evO ev0 at e1
  rw [show ((0 : Nat) : Int) = 0 from rfl] at e1
  clear HR hL b1 n1 s1
  obtain ⟨k, cyc, cnt, a, b, v⟩ := e
  unfold evV at *
  go_enter Tryd.func20, Tryd.ntmps20
  go_wp2_with fail
  rw [← e1]
  clear e1
  refine HR1.out.mono ?_
  rintro r w2 ⟨rfl, h2⟩
  have B2 := Lib.hid (B1.out.trans (h2.mono B1.out.size))
  have N2 := (h2.block _ (blk_lt N1.out)).trans N1.out
  have HL2 := HL1.out.below h2
  obtain ⟨w3, e3⟩ : ∃ w3, w3 = w2.alloc (evO ⟨k, cyc, cnt, a, b, v⟩) := ⟨_, rfl⟩
  obtain ⟨s3, n3, b3⟩ := new_size e3
  have N3 := Lib.hid ((b3.block _ (blk_lt N2)).trans N2)
  have D3 := Lib.hid n3
  have B3 := Lib.hid (B2.out.trans (b3.mono (by have := B2.out.size; omega)))
  have HC3 := Lib.hid (HC.out w3 (HL2.below b3))
  unfold evO at e3
  simp only at e3
  clear N2 n3 s3 b3 h2 HR1 N1 B1 B2 HL1 HL2 HC
  go_wp2_with fail
  rw [← e3]
  clear e3
  refine HC3.out.mono ?_
  rintro r w4 ⟨rfl, h4⟩
  have N4 := Lib.hid ((h4.block _ (blk_lt N3.out)).trans N3.out)
  have D4 := (h4.block _ (blk_lt D3.out)).trans D3.out
  have B4 := Lib.hid (B3.out.trans (h4.mono B3.out.size))
  obtain ⟨r0, r1, r2, r3, r4, r5⟩ := evcells N4.out
  obtain ⟨z0, z1, z2, z3, z4, z5⟩ := evfree N4.out
  obtain ⟨d0, d1, d2, d3, d4, d5⟩ := evcells D4
  simp only at r0 r1 r2 r3 r4 r5 d0 d1 d2 d3 d4 d5
  generalize w2.heap.size = D at *
  clear h4 D4 D3 N3 B3 HC3
  go_wp2_with fail
  refine bodyPost_ret (v := .tuple #[.agg #[.int .i64 k, .int .u64 (cyc : Int), .int .u64 (cnt : Int), .int .u32 (a : Int), .int .u32 (b : Int), .int .u32 (v : Int)], .int .i64 0]) (by rw [results_cell_tmp rfl]; go_simp) rfl ⟨rfl, ?_⟩
  exact below_grown B4.out (Nat.le_of_lt (blk_lt N4.out)) (Nat.le_refl _) (ev_stored (e := ⟨k, cyc, cnt, a, b, v⟩) N4.out).2


theorem parse_any (s : ByteArray) (hs : s.size < 4294967281) (w : World) (hL : EvL w) :
    Calls Tryd.prog 20 #[.string s] w fun r w' => r = .returned (.tuple #[evV (parseL s.data.toList).1, .int .i64 (parseL s.data.toList).2]) ∧ Below w.heap.size w w' := by
  obtain ⟨ws, hws⟩ : ∃ ws, Lib.splitB ⟨#[32]⟩ 0 (min 7 (s.size + 1) - 1) s = ws := ⟨_, rfl⟩
  have hr := fun w' h' => read_any s hs w' h' ws hws
  have hfm : formL (wl ws) = formL (words s.data.toList) := by
    rw [← form_split, list_len, ← hws]
    exact congrArg formL (Lib.splitB_data ⟨#[32]⟩ 0 _ s)
  unfold parseL parseW
  rw [← hfm]
  rcases read_form ws with ⟨h1, h2⟩ | ⟨h1, h2⟩
  · rw [h2]
    rw [h1] at hr
    generalize (readR ws).1 = e at *
    simp only
    by_cases hc : checkN e = 0
    · rw [if_pos hc]
      exact parse_ok s w e hr (fun w' h' => by rw [← hc]; exact check_any e w' h') hL
    · rw [if_neg hc]
      exact parse_range s w e (checkN e) (by simp [hc]) hr (fun w' h' => check_any e w' h') hL
  · rw [h2]
    rw [h1] at hr
    exact parse_form s w _ hr hL

end Go.Proofs.YtonmkmbllaahgaaDoor
