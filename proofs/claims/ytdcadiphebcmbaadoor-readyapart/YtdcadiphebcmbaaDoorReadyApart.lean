/-
  ReadyApart: for every list of calls and every task the statement's function answers true: what happens to a task changes nothing about the order of the others. Conditions: none beyond the card's own: the listed package variables start as the program's text lays them, which the card ties to that text.
-/
import Derived.Test.YtdcadiphebcmbaaDoorRy15
import Derived.Test.YtdcadiphebcmbaaDoorRy16
import Derived.Test.YtdcadiphebcmbaaDoorTie
import Derived.Test.YtdcadiphebcmbaaDoorCards
import Derived.ProofKit
import Derived.OpenShut
import Derived.ShutString
import Derived.LaidMore
import Derived.Lay
import Derived.SevenTiedAt
import Derived.Stop.Joined
import Derived.Deep.DeepHandedRow
import Derived.BigRegion
import Derived.Deep.RegionWith
import Derived.Deep.DeepCutAuto
namespace Go.Proofs.YtdcadiphebcmbaaDoor.ReadyApart
open Go.ChangeShapes Go.WideShapes Go.ChangeAt Go.RowKit
open Go.ChangeMaps (open_string shut_string)
set_option linter.unusedVariables false
set_option linter.unusedSimpArgs false

/-- Two queues of the call's own. -/
structure PQ (w0 w : World) (b c : Nat) (r s : Rws) : Prop where
  p : OQ w0 w b r
  q : OQ w0 w c s
  ne : b ≠ c
theorem OQ.beside {w0 w w' : World} {b c : Nat} {s : Rws} (h : OQ w0 w c s) (o : Only w w' (fun k => k = b)) (hb : w0.heap.size ≤ b) (hn : b ≠ c) : OQ w0 w' c s := by
  have h1 := h.hb
  have h2 := h.ht
  exact ⟨h.q.only o (fun e => hn e.symm), h.t.only o (fun e => by omega), h.bel.trans (o.below h.bel.size (fun k e => by omega)), h1, h2⟩
theorem PQ.left {w0 w w' : World} {b c : Nat} {r r' s : Rws} (h : PQ w0 w b c r s) (q : RQ w' b r') (o : Only w w' (fun k => k = b)) : PQ w0 w' b c r' s := ⟨h.p.turn q o, OQ.beside h.q o h.p.hb h.ne, h.ne⟩
theorem PQ.right {w0 w w' : World} {b c : Nat} {r s s' : Rws} (h : PQ w0 w b c r s) (q : RQ w' c s') (o : Only w w' (fun k => k = c)) : PQ w0 w' b c r s' := ⟨OQ.beside h.p o h.q.hb (fun e => h.ne e.symm), h.q.turn q o, h.ne⟩
theorem PQ.kept {w0 w w' : World} {b c : Nat} {r s : Rws} (h : PQ w0 w b c r s) (hb : Below w.heap.size w w') : PQ w0 w' b c r s := ⟨h.p.kept hb, h.q.kept hb, h.ne⟩

set_option maxRecDepth 100000 in
set_option maxHeartbeats 16000000 in
theorem walk_long {w : World} (ao : Option Addr) (cap : Nat) (l : List (Int × Int × Int)) (x : Int) (hl : 200 < l.length) (hT : TabL w) : Calls Tryd.prog 6 #[.slice ao l.length cap, .int .i64 x] w fun e w' => e = .returned (.bool true) ∧ Below w.heap.size w w' := by
  have HA := Lib.hid (fun w' h => awake14_any w' (hT.below h))
  have hd : decide ((200 : Int) < (l.length : Int)) = true := by simp <;> omega
  clear hT
  go_enter Tryd.func6, Tryd.ntmps6
  go_wp2_with fail
  refine (HA.out w (Below.refl _ _)).mono ?_
  rintro e w1 ⟨rfl, h⟩
  have B1 := Lib.hid h
  clear h
  go_wp2_with fail
  refine (HA.out w1 B1.out).mono ?_
  rintro e w2 ⟨rfl, h⟩
  have B2 := Lib.hid (below_on B1.out h)
  clear h
  go_wp2_with fail
  go_ret
  exact ⟨rfl, B2.out⟩

set_option maxRecDepth 100000 in
set_option maxHeartbeats 16000000 in
theorem walk_short {w : World} (ao : Option Addr) (cap : Nat) (l : List (Int × Int × Int)) (hs : SeenOp w ao cap l) (task : Int) (hl : l.length ≤ 200) (hT : TabL w) : Calls Tryd.prog 6 #[.slice ao l.length cap, .int .i64 task] w fun e w' => e = .returned (.bool true) ∧ Below w.heap.size w w' := by
  have HA := Lib.hid (awake14_any w hT)
  have hd : decide ((200 : Int) < (l.length : Int)) = false := by simp <;> omega
  have HS := Lib.hid hs
  have HT := Lib.hid hT
  obtain ⟨Z, hZ, hz⟩ := zero_q
  have HZ := Lib.hid hZ
  clear hs hT hZ
  obtain ⟨M, hM⟩ : ∃ M, l.length = M := ⟨_, rfl⟩
  rw [hM] at hl hd
  simp only [hM]
  have HM := Lib.hid hM
  clear hM
  go_enter Tryd.func6, Tryd.ntmps6
  go_wp2_with fail
  refine HA.out.mono ?_
  rintro e w1 ⟨rfl, h⟩
  have B1 := Lib.hid h
  clear h
  obtain ⟨w2, e2⟩ : ∃ w2, w2 = w1.alloc (.cells Z 31) := ⟨_, rfl⟩
  obtain ⟨w3, e3⟩ : ∃ w3, w3 = w2.alloc (.cells Z 31) := ⟨_, rfl⟩
  obtain ⟨s2, -, b2⟩ := new_size e2
  obtain ⟨s3, -, b3⟩ := new_size e3
  obtain ⟨B, hB⟩ : ∃ B, w1.heap.size = B := ⟨_, rfl⟩
  obtain ⟨C, hC⟩ : ∃ C, B + 1 = C := ⟨_, rfl⟩
  have hQ2 := oq_new (HT.out.below B1.out) e2 (HZ.out w1)
  have hQ3 := HZ.out w2
  rw [← e3] at hQ3
  rw [s2, hB, hC] at hQ3
  have hQ3' : OQ w1 w3 C (fun _ => []) := ⟨⟨rok_zero, _, hQ3, holds_zero⟩, (hQ2.kept b3).t, (hQ2.kept b3).bel, by omega, hQ2.ht⟩
  rw [hB] at hQ2
  have T3 := Lib.hid (show PQ w1 w3 B C (strip (fun _ => []) task) (fun _ => []) from ⟨hQ2.kept b3, hQ3', by omega⟩)
  have HB := Lib.hid hB
  have HC := Lib.hid hC
  clear s2 s3 b2 b3 hQ2 hQ3 hQ3' hB hC
  go_upto_region 4 with fail
  rw [← e2, ← e3, HB.out, HC.out]
  clear e2 e3 hz
  go_wp2_with fail
  go_loopw [20] (fun i wr => ∃ (j : Nat) (r : Rws), j ≤ M ∧ i = .int .i64 j ∧ PQ w1 wr B C (strip r task) r) (fun i _ => M - (intOf i).toNat)
  case atStart => exact ⟨0, _, Nat.zero_le _, rfl, T3.out⟩
  case round =>
    clear T3 HZ
    obtain ⟨j, r, hj, rfl, hT3⟩ := hrel
    have T3 := Lib.hid hT3
    clear hT3
    by_cases hlt : j < M
    · obtain ⟨b0, off, rfl, hb0, c0, c1, c2⟩ := seenOp_at (HS.out.below (below_on B1.out T3.out.p.bel)) j (by rw [HM.out]; exact hlt)
      generalize (l[j]'(by rw [HM.out]; exact hlt)).1 = kd at *
      generalize (l[j]'(by rw [HM.out]; exact hlt)).2.1 = t at *
      generalize (l[j]'(by rw [HM.out]; exact hlt)).2.2 = k at *
      obtain ⟨w4, e4⟩ : ∃ w4, w4 = wr.alloc (.cells #[.int .i64 kd, .int .i64 t, .int .i64 k] 38) := ⟨_, rfl⟩
      obtain ⟨s4, n4, b4⟩ := new_size e4
      obtain ⟨F, hF⟩ : ∃ F, wr.heap.size = F := ⟨_, rfl⟩
      rw [hF] at n4
      have hFC : F ≠ C := by have := T3.out.q.q.lt; omega
      have P4 := Lib.hid (T3.out.kept b4)
      have H4 := Lib.hid n4
      have HF := Lib.hid hF
      obtain ⟨o0, o1, o2⟩ := op_cells n4
      clear s4 n4 b4 hF T3
      go_upto_region 7 with fail
      rw [← e4, HF.out]
      clear e4 c0 c1 c2
      rcases (show kd = 1 ∨ kd = 2 ∨ kd = 3 ∨ kd = 4 ∨ (kd ≠ 1 ∧ kd ≠ 2 ∧ kd ≠ 3 ∧ kd ≠ 4) from by omega) with hkd | hkd | hkd | hkd | hkd
      · subst hkd
        obtain ⟨r', hr'⟩ : ∃ r', (rput r t k).getD r = r' := ⟨_, rfl⟩
        have hst := strip_put (r := r) (t := task) (u := t) (l := k)
        rw [hr'] at hst
        have KQ : Calls Tryd.prog 9 #[.pointer (some ⟨C, 0, none⟩), .int .i64 t, .int .i64 k] w4 fun e w5 => (∃ z, e = .returned z) ∧ PQ w1 w5 B C (strip r task) r' ∧ w5.heap[F]? = some (.cells #[.int .i64 1, .int .i64 t, .int .i64 k] 38 (0, 0)) :=
          (put_any P4.out.q.q t k).mono fun e w5 ⟨h1, h2, h3⟩ => ⟨⟨_, h1⟩, P4.out.right (by rw [← hr']; exact h2) h3, TwoQ.call_code H4.out h3 hFC⟩
        have KP : t ≠ task → ∀ w5, PQ w1 w5 B C (strip r task) r' → w5.heap[F]? = some (.cells #[.int .i64 1, .int .i64 t, .int .i64 k] 38 (0, 0)) → Calls Tryd.prog 9 #[.pointer (some ⟨B, 0, none⟩), .int .i64 t, .int .i64 k] w5 fun e w6 => (∃ z, e = .returned z) ∧ PQ w1 w6 B C (strip r' task) r' :=
          fun hne w5 h hk => (put_any h.p.q t k).mono fun e w6 ⟨h1, h2, h3⟩ => ⟨⟨_, h1⟩, h.left (by rw [hst, if_neg hne]; exact h2) h3⟩
        have HKQ := Lib.hid KQ
        have HKP := Lib.hid KP
        have HST := Lib.hid hst
        clear KQ KP hst hr'
        by_cases ht : t = task
        · have hb : (t == task) = true := by simp [ht]
          rw [if_pos ht] at HST
          clear ht
          go_wp2_with fail
          refine HKQ.out.mono ?_
          rintro e w5 ⟨⟨z, rfl⟩, t5, n5⟩
          have P5 := Lib.hid (show PQ w1 w5 B C (strip r' task) r' by rw [HST.out]; exact t5)
          obtain ⟨x0, x1, x2⟩ := op_cells n5
          clear t5 n5 o0 o1 o2
          go_wp2_with fail
          go_roundw
          case rel => exact ⟨j + 1, r', hlt, by go_num, P5.out⟩
          case measure => simp [intOf]; omega
        · have hb : (t == task) = false := by simp [ht]
          have HNE := Lib.hid ht
          clear ht
          go_wp2_with fail
          refine HKQ.out.mono ?_
          rintro e w5 ⟨⟨z, rfl⟩, t5, n5⟩
          have P5 := Lib.hid t5
          have H5 := Lib.hid n5
          obtain ⟨x0, x1, x2⟩ := op_cells n5
          clear t5 n5 o0 o1 o2
          go_wp2_with fail
          refine (HKP.out HNE.out w5 P5.out H5.out).mono ?_
          rintro e w6 ⟨⟨z2, rfl⟩, t6⟩
          have P6 := Lib.hid t6
          clear t6 x0 x1 x2
          go_wp2_with fail
          go_roundw
          case rel => exact ⟨j + 1, r', hlt, by go_num, P6.out⟩
          case measure => simp [intOf]; omega
      · subst hkd
        obtain ⟨r', hr'⟩ : ∃ r', (rrem r t).getD r = r' := ⟨_, rfl⟩
        have hst := strip_rem (r := r) (t := task) (u := t)
        rw [hr'] at hst
        have KQ : Calls Tryd.prog 11 #[.pointer (some ⟨C, 0, none⟩), .int .i64 t] w4 fun e w5 => (∃ z, e = .returned z) ∧ PQ w1 w5 B C (strip r task) r' ∧ w5.heap[F]? = some (.cells #[.int .i64 2, .int .i64 t, .int .i64 k] 38 (0, 0)) :=
          (remove_any P4.out.q.q t).mono fun e w5 ⟨h1, h2, h3⟩ => ⟨⟨_, h1⟩, P4.out.right (by rw [← hr']; exact h2) h3, TwoQ.call_code H4.out h3 hFC⟩
        have KP : t ≠ task → ∀ w5, PQ w1 w5 B C (strip r task) r' → w5.heap[F]? = some (.cells #[.int .i64 2, .int .i64 t, .int .i64 k] 38 (0, 0)) → Calls Tryd.prog 11 #[.pointer (some ⟨B, 0, none⟩), .int .i64 t] w5 fun e w6 => (∃ z, e = .returned z) ∧ PQ w1 w6 B C (strip r' task) r' :=
          fun hne w5 h hk => (remove_any h.p.q t).mono fun e w6 ⟨h1, h2, h3⟩ => ⟨⟨_, h1⟩, h.left (by rw [hst, if_neg hne]; exact h2) h3⟩
        have HKQ := Lib.hid KQ
        have HKP := Lib.hid KP
        have HST := Lib.hid hst
        clear KQ KP hst hr'
        by_cases ht : t = task
        · have hb : (t == task) = true := by simp [ht]
          rw [if_pos ht] at HST
          clear ht
          go_wp2_with fail
          refine HKQ.out.mono ?_
          rintro e w5 ⟨⟨z, rfl⟩, t5, n5⟩
          have P5 := Lib.hid (show PQ w1 w5 B C (strip r' task) r' by rw [HST.out]; exact t5)
          obtain ⟨x0, x1, x2⟩ := op_cells n5
          clear t5 n5 o0 o1 o2
          go_wp2_with fail
          go_roundw
          case rel => exact ⟨j + 1, r', hlt, by go_num, P5.out⟩
          case measure => simp [intOf]; omega
        · have hb : (t == task) = false := by simp [ht]
          have HNE := Lib.hid ht
          clear ht
          go_wp2_with fail
          refine HKQ.out.mono ?_
          rintro e w5 ⟨⟨z, rfl⟩, t5, n5⟩
          have P5 := Lib.hid t5
          have H5 := Lib.hid n5
          obtain ⟨x0, x1, x2⟩ := op_cells n5
          clear t5 n5 o0 o1 o2
          go_wp2_with fail
          refine (HKP.out HNE.out w5 P5.out H5.out).mono ?_
          rintro e w6 ⟨⟨z2, rfl⟩, t6⟩
          have P6 := Lib.hid t6
          clear t6 x0 x1 x2
          go_wp2_with fail
          go_roundw
          case rel => exact ⟨j + 1, r', hlt, by go_num, P6.out⟩
          case measure => simp [intOf]; omega
      · subst hkd
        obtain ⟨r', hr'⟩ : ∃ r', (rturn r t).getD r = r' := ⟨_, rfl⟩
        have hst := strip_turn (r := r) (t := task) (u := t)
        rw [hr'] at hst
        have KQ : Calls Tryd.prog 13 #[.pointer (some ⟨C, 0, none⟩), .int .i64 t] w4 fun e w5 => (∃ z, e = .returned z) ∧ PQ w1 w5 B C (strip r task) r' ∧ w5.heap[F]? = some (.cells #[.int .i64 3, .int .i64 t, .int .i64 k] 38 (0, 0)) :=
          (turn_any P4.out.q.q t).mono fun e w5 ⟨h1, h2, h3⟩ => ⟨⟨_, h1⟩, P4.out.right (by rw [← hr']; exact h2) h3, TwoQ.call_code H4.out h3 hFC⟩
        have KP : t ≠ task → ∀ w5, PQ w1 w5 B C (strip r task) r' → w5.heap[F]? = some (.cells #[.int .i64 3, .int .i64 t, .int .i64 k] 38 (0, 0)) → Calls Tryd.prog 13 #[.pointer (some ⟨B, 0, none⟩), .int .i64 t] w5 fun e w6 => (∃ z, e = .returned z) ∧ PQ w1 w6 B C (strip r' task) r' :=
          fun hne w5 h hk => (turn_any h.p.q t).mono fun e w6 ⟨h1, h2, h3⟩ => ⟨⟨_, h1⟩, h.left (by rw [hst, if_neg hne]; exact h2) h3⟩
        have HKQ := Lib.hid KQ
        have HKP := Lib.hid KP
        have HST := Lib.hid hst
        clear KQ KP hst hr'
        by_cases ht : t = task
        · have hb : (t == task) = true := by simp [ht]
          rw [if_pos ht] at HST
          clear ht
          go_wp2_with fail
          refine HKQ.out.mono ?_
          rintro e w5 ⟨⟨z, rfl⟩, t5, n5⟩
          have P5 := Lib.hid (show PQ w1 w5 B C (strip r' task) r' by rw [HST.out]; exact t5)
          obtain ⟨x0, x1, x2⟩ := op_cells n5
          clear t5 n5 o0 o1 o2
          go_wp2_with fail
          go_roundw
          case rel => exact ⟨j + 1, r', hlt, by go_num, P5.out⟩
          case measure => simp [intOf]; omega
        · have hb : (t == task) = false := by simp [ht]
          have HNE := Lib.hid ht
          clear ht
          go_wp2_with fail
          refine HKQ.out.mono ?_
          rintro e w5 ⟨⟨z, rfl⟩, t5, n5⟩
          have P5 := Lib.hid t5
          have H5 := Lib.hid n5
          obtain ⟨x0, x1, x2⟩ := op_cells n5
          clear t5 n5 o0 o1 o2
          go_wp2_with fail
          refine (HKP.out HNE.out w5 P5.out H5.out).mono ?_
          rintro e w6 ⟨⟨z2, rfl⟩, t6⟩
          have P6 := Lib.hid t6
          clear t6 x0 x1 x2
          go_wp2_with fail
          go_roundw
          case rel => exact ⟨j + 1, r', hlt, by go_num, P6.out⟩
          case measure => simp [intOf]; omega
      · subst hkd
        obtain ⟨r', hr'⟩ : ∃ r', (rmove r t k).getD r = r' := ⟨_, rfl⟩
        have hst := strip_move (r := r) (t := task) (u := t) (l := k)
        rw [hr'] at hst
        have KQ : Calls Tryd.prog 15 #[.pointer (some ⟨C, 0, none⟩), .int .i64 t, .int .i64 k] w4 fun e w5 => (∃ z, e = .returned z) ∧ PQ w1 w5 B C (strip r task) r' ∧ w5.heap[F]? = some (.cells #[.int .i64 4, .int .i64 t, .int .i64 k] 38 (0, 0)) :=
          (move_any P4.out.q.q t k).mono fun e w5 ⟨h1, h2, h3⟩ => ⟨⟨_, h1⟩, P4.out.right (by rw [← hr']; exact h2) h3, TwoQ.call_code H4.out h3 hFC⟩
        have KP : t ≠ task → ∀ w5, PQ w1 w5 B C (strip r task) r' → w5.heap[F]? = some (.cells #[.int .i64 4, .int .i64 t, .int .i64 k] 38 (0, 0)) → Calls Tryd.prog 15 #[.pointer (some ⟨B, 0, none⟩), .int .i64 t, .int .i64 k] w5 fun e w6 => (∃ z, e = .returned z) ∧ PQ w1 w6 B C (strip r' task) r' :=
          fun hne w5 h hk => (move_any h.p.q t k).mono fun e w6 ⟨h1, h2, h3⟩ => ⟨⟨_, h1⟩, h.left (by rw [hst, if_neg hne]; exact h2) h3⟩
        have HKQ := Lib.hid KQ
        have HKP := Lib.hid KP
        have HST := Lib.hid hst
        clear KQ KP hst hr'
        by_cases ht : t = task
        · have hb : (t == task) = true := by simp [ht]
          rw [if_pos ht] at HST
          clear ht
          go_wp2_with fail
          refine HKQ.out.mono ?_
          rintro e w5 ⟨⟨z, rfl⟩, t5, n5⟩
          have P5 := Lib.hid (show PQ w1 w5 B C (strip r' task) r' by rw [HST.out]; exact t5)
          obtain ⟨x0, x1, x2⟩ := op_cells n5
          clear t5 n5 o0 o1 o2
          go_wp2_with fail
          go_roundw
          case rel => exact ⟨j + 1, r', hlt, by go_num, P5.out⟩
          case measure => simp [intOf]; omega
        · have hb : (t == task) = false := by simp [ht]
          have HNE := Lib.hid ht
          clear ht
          go_wp2_with fail
          refine HKQ.out.mono ?_
          rintro e w5 ⟨⟨z, rfl⟩, t5, n5⟩
          have P5 := Lib.hid t5
          have H5 := Lib.hid n5
          obtain ⟨x0, x1, x2⟩ := op_cells n5
          clear t5 n5 o0 o1 o2
          go_wp2_with fail
          refine (HKP.out HNE.out w5 P5.out H5.out).mono ?_
          rintro e w6 ⟨⟨z2, rfl⟩, t6⟩
          have P6 := Lib.hid t6
          clear t6 x0 x1 x2
          go_wp2_with fail
          go_roundw
          case rel => exact ⟨j + 1, r', hlt, by go_num, P6.out⟩
          case measure => simp [intOf]; omega
      · have d1 : (kd == 1) = false := by simp; omega
        have d2 : (kd == 2) = false := by simp; omega
        have d3 : (kd == 3) = false := by simp; omega
        have d4 : (kd == 4) = false := by simp; omega
        clear hkd
        by_cases ht : t = task
        all_goals
          first
            | have hb : (t == task) = true := by simp [ht]
            | have hb : (t == task) = false := by simp [ht]
          clear ht
          go_wp2_with fail
          go_roundw
          case rel => exact ⟨j + 1, r, hlt, by go_num, P4.out⟩
          case measure => simp [intOf]; omega
    · obtain rfl : j = M := by omega
      have KR : Calls Tryd.prog 11 #[.pointer (some ⟨C, 0, none⟩), .int .i64 task] wr fun e w' => (∃ z, e = .returned (.bool z)) ∧ PQ w1 w' B C (strip r task) (strip r task) :=
        (remove_any T3.out.q.q task).mono fun e w' ⟨h1, h2, h3⟩ => ⟨⟨_, h1⟩, T3.out.right (by rw [← strip_last T3.out.q.q.ok task]; exact h2) h3⟩
      have HKR := Lib.hid KR
      clear KR
      generalize strip r task = s at *
      go_wp2_with fail
      refine HKR.out.mono ?_
      rintro e w4 ⟨⟨z, rfl⟩, h⟩
      have P4 := Lib.hid h
      clear h T3 HKR
      go_wp2_with fail
      go_loopw [83] (fun i wr => ∃ j : Nat, j ≤ 32 ∧ i = .int .i64 j ∧ PQ w1 wr B C s s) (fun i _ => 32 - (intOf i).toNat)
      case atStart => exact ⟨0, Nat.zero_le _, rfl, P4.out⟩
      case round =>
        clear P4
        obtain ⟨i, hi, rfl, hP⟩ := hrel
        have P5 := Lib.hid hP
        clear hP
        by_cases hlt : i < 32
        · have hdi : decide ((i : Int) < 32) = true := by simp; omega
          have KA := Lib.hid (at_any P5.out.p.q (i : Int))
          rw [rowAt_nat s i hlt] at KA
          have hrow := P5.out.p.q.ok.row_le i
          have KB : ∀ w5, Below wr.heap.size wr w5 → Calls Tryd.prog 20 #[.pointer (some ⟨C, 0, none⟩), .int .i64 i] w5 fun e w' => ∃ ao cap, e = .returned (.slice ao (s i).length cap) ∧ OwnI w' w5.heap.size (.slice ao (s i).length cap) (s i) ∧ Below w5.heap.size w5 w' := by
            intro w5 h5
            have := at_any (P5.out.kept h5).q.q (i : Int)
            rw [rowAt_nat s i hlt] at this
            exact this
          have KI : ∀ w6 a6 k6 B6 a7 k7 B7, OwnI w6 B6 (.slice a6 (s i).length k6) (s i) → OwnI w6 B7 (.slice a7 (s i).length k7) (s i) → Calls Tryd.prog 21 #[.slice a6 (s i).length k6, .slice a7 (s i).length k7] w6 fun e w' => e = .returned (.bool true) ∧ ∃ q, w' = w6.drewN q := by
            intro w6 a6 k6 B6 a7 k7 B7 h6 h7
            obtain ⟨a8, k8, e8, s8, -⟩ := h6.seen w1i_len
            obtain ⟨a9, k9, e9, s9, -⟩ := h7.seen w1i_len
            cases e8
            cases e9
            have := ints_any a6 k6 (s i) s8 a7 k7 (s i) s9 (by omega)
            rw [show decide (s i = s i) = true by simp] at this
            exact this
          have HKB := Lib.hid KB
          have HKI := Lib.hid KI
          clear KB KI hrow
          generalize (s i).length = n at *
          go_wp2_with fail
          refine KA.out.mono ?_
          rintro e w5 ⟨a5, k5, rfl, h5, b5⟩
          have W5 := Lib.hid h5
          have C5 := Lib.hid b5
          clear h5 b5
          go_wp2_with fail
          refine (HKB.out w5 C5.out).mono ?_
          rintro e w6 ⟨a6, k6, rfl, h6, b6⟩
          have W6 := Lib.hid h6
          have W5' := Lib.hid (OwnR.below W5.out b6)
          have C6 := Lib.hid (below_on C5.out b6)
          clear h6 b6
          go_wp2_with fail
          refine (HKI.out w6 _ _ _ _ _ _ W5'.out W6.out).mono ?_
          rintro e w7 ⟨rfl, q, rfl⟩
          have P7 := Lib.hid (P5.out.kept (below_drewN C6.out q))
          go_wp2_with fail
          go_roundw
          case rel => exact ⟨i + 1, hlt, by go_num, P7.out⟩
          case measure => simp [intOf]; omega
        · obtain rfl : i = 32 := by omega
          have BF := Lib.hid (below_on B1.out P5.out.p.bel)
          go_wp2_with fail
          go_ret
          exact ⟨rfl, BF.out⟩

theorem walk {w : World} (ao : Option Addr) (cap : Nat) (l : List (Int × Int × Int)) (hs : SeenOp w ao cap l) (_ok : ∀ o ∈ l, True) (task : Int) (_wt : (Lit.int .i64 task).wf = true) (hT : TabL w) : Calls Tryd.prog 6 #[.slice ao l.length cap, .int .i64 task] w fun e w' => e = .returned (.bool true) ∧ Below w.heap.size w w' := by
  rcases Nat.lt_or_ge 200 l.length with h | h
  · exact walk_long ao cap l task h hT
  · exact walk_short ao cap l hs task h hT

theorem own : ownKnob Tryd.prog.godebug = none := by kernel_rfl
theorem laidOut : laidOutB Tryd.prog = true := by kernel_rfl

set_option maxRecDepth 100000 in
theorem lifted (os : Os) (started : os.Started) (H : Type) (enc : TypeId × Value → H) :
    ReturnsInHanded {} Tryd.checked os 6 .any (fun w args => (Rows.readyApartSpec.pre enc Tryd.prog Tryd.f6 Rows.readyApartRow.domain false w args ∧ laidMetH Tryd.prog laidL w) ∧ sizedMet enc Tryd.prog Tryd.f6 (OpenSpec.ofChange Rows.readyApartSpec) false w args) (Rows.readyApartSpec.post enc Tryd.prog Tryd.f6 false true false false) := by
  refine returnsInHanded_of_row (s := OpenSpec.ofChange Rows.readyApartSpec) (F := fun _ _ _ => 0) (laid := laidL) (C := Tryd.checked) own started (by kernel_rfl) Tryd.func6
    (ChangeSpec.witness_shaped (enc := enc) (C := Tryd.checked) (os := os) (s := Rows.readyApartSpec) (X := fun w _ => laidMetH Tryd.prog laidL w) false (World.laidAll Tryd.prog os laidL) #[.slice none 0 0, .int .i64 0] 8 (World.laidAll_os _ _ _)
      (World.shaped_of_ZipB (by kernel_rfl) (by kernel_rfl)) (by kernel_rfl) (by kernel_rfl) (by kernel_rfl)
      (by rw [MakeChecks.laidMetH_plain _ _ _ (by kernel_rfl)]; exact laidMet_laidAll _ (by kernel_rfl) (by kernel_rfl))) ?_
  intro W base args ds gs before hval0 hW hcnd _ hsz0 hL hsh _
  have hval : ∀ (j : Nat) t v, Tryd.f6.params[j]? = some t → args[j]? = some v → Value.okWide Tryd.prog W .any base t v := hval0
  have hW' := hW
  obtain ⟨p, q, hA0, hV, rfl, hfz, hnd⟩ := hW
  have hA : DataW.TrodAll enc Tryd.prog W 0 (fun _ => true) true Tryd.f6.params.toList args.toList ds p := hA0
  rw [Tryd.params6] at hA hval
  obtain ⟨v0, vs0, d0, ds0, p0, q0, hargs, rfl, rfl, h0, r0⟩ := trodAll_cons hA
  obtain ⟨v1, vs1, d1, ds1, p1, q1, rfl, rfl, rfl, h1, r1⟩ := trodAll_cons r0
  obtain ⟨rfl, rfl, rfl⟩ := trodAll_nil r1
  obtain rfl : args = #[v0, v1] := by cases args; simp_all
  obtain ⟨rfl, rfl⟩ := trodVars_none hV
  have k0 := h0
  have lt0 : ∀ x ∈ p0, x.block < W.heap.size := by obtain ⟨m, hm⟩ := k0; exact DataW.trod_lt m _ _ _ hm
  have k1 := h1
  have lt1 : ∀ x ∈ p1, x.block < W.heap.size := by obtain ⟨m, hm⟩ := k1; exact DataW.trod_lt m _ _ _ hm
  obtain ⟨a0, len0, cap0, rfl⟩ := okWide_slice Tryd.underlying22 (hval 0 22 v0 rfl rfl)
  obtain ⟨l0, rfl, w0, ok0⟩ := open_ops h0
  obtain ⟨a1, rfl, rfl, rfl, w1⟩ := open_int Tryd.underlying3 (hval 1 3 v1 rfl rfl) h1
  clear hA0 hval0
  refine (walk a0 cap0 l0 w0 ok0 a1 w1 (of_laid hL hsh)).mono fun e W' ⟨he, bel⟩ => ?_
  subst he
  exact ⟨_, rfl, _, _, _, [], _, [], hW', trodAll_mk1 (shut_bool Tryd.underlying4 _), (trodAll_cons_mk (Below.trod laidOut (by kernel_rfl) (of_decide_eq_true (by kernel_rfl)) k0 bel lt0) (trodAll_cons_mk (Below.trod laidOut (by kernel_rfl) (of_decide_eq_true (by kernel_rfl)) k1 bel lt1) trodAll_mk0)), rfl, bel.frame _, fun h => by cases h⟩

theorem over : Rows.ReadyApartSaid :=
  OpenClaim.holds_of_wide 6 Tryd.f6 rfl rfl rfl rfl rfl rfl rfl ⟨rfl, rfl, rfl, rfl, rfl⟩ rfl rfl rfl rfl rfl (by kernel_rfl) Tryd.func6 (by kernel_rfl)
    (of_decide_eq_true (by kernel_rfl)) (by unfold Func.isWrapper; first | (rw [if_pos (by decide +kernel)]; kernel_rfl) | (rw [if_neg (by decide +kernel)]; exact ⟨rfl, rfl⟩))
    (fun os started H enc _ => lifted os started H enc)

theorem proved : Rows.ReadyApartCardSaid :=
  Claim7.holds_tied_plain_at .later [] _ true _ false over (fun _ h => by cases h) (by kernel_rfl) (fun _ h => by cases h) readyApart_row_tie rfl ⟨rfl, rfl⟩ (by kernel_rfl) rfl
    (fun f fn hf hfn => by
      obtain rfl : f = 6 := Option.some.inj ((show Tryd.prog.funcNamed "taffrail/taffraillaw14.ReadyApart" = some 6 by kernel_rfl).symm.trans hf) |>.symm
      obtain rfl : fn = Tryd.f6 := (Option.some.inj (Tryd.func6.symm.trans hfn)).symm
      refine ⟨by kernel_rfl, fun j t ht => ?_⟩
      rw [Tryd.params6] at ht
      have hm : t ∈ [22, 3] := by simpa using Array.mem_of_getElem? ht
      have hall : ([22, 3].all fun u => !Tryd.prog.wantsStandIn u) = true := by kernel_rfl
      exact (show Tryd.prog.wantsStandIn t = false by simpa using List.all_eq_true.1 hall t hm))
    (by kernel_rfl)
#print axioms proved

end Go.Proofs.YtdcadiphebcmbaaDoor.ReadyApart
