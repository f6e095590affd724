/-
  ReadyPlays: for every list of calls the statement's function answers true: in every order of calls the queues answer as the document says, and have just the rows that it says. Conditions: none beyond the card's own: the listed package variables start as the program's text lays them, which the card ties to that text.
-/
import Derived.Test.YtdcadiphebcmbaaDoorRy15
import Derived.Test.YtdcadiphebcmbaaDoorRel6
import Derived.Test.YtdcadiphebcmbaaDoorTie
import Derived.Test.YtdcadiphebcmbaaDoorCards
import Derived.ProofKit
import Derived.OpenShut
import Derived.ShutString
import Derived.LaidMore
import Derived.Lay
import Derived.SevenTiedAt
import Derived.Stop.Joined
import Derived.Deep.DeepHandedRow
import Derived.BigRegion
import Derived.Deep.RegionWith
import Derived.Deep.DeepCutAuto
namespace Go.Proofs.YtdcadiphebcmbaaDoor.ReadyPlays
open Go.ChangeShapes Go.WideShapes Go.ChangeAt Go.RowKit
open Go.ChangeMaps (open_string shut_string)
set_option linter.unusedVariables false
set_option linter.unusedSimpArgs false

set_option maxRecDepth 100000 in
set_option maxHeartbeats 16000000 in
theorem walk_long {w : World} (ao : Option Addr) (cap : Nat) (l : List (Int × Int × Int)) (hs : SeenOp w ao cap l) (hl : 400 < l.length) (hT : TabL w) : Calls Tryd.prog 3 #[.slice ao l.length cap] w fun e w' => e = .returned (.bool true) ∧ Below w.heap.size w w' := by
  have HA := Lib.hid (fun w' h => awake14_any w' (hT.below h))
  have hd : decide ((400 : Int) < (l.length : Int)) = true := by simp <;> omega
  clear hs hT
  go_enter Tryd.func3, Tryd.ntmps3
  go_wp2_with fail
  refine (HA.out w (Below.refl _ _)).mono ?_
  rintro e w1 ⟨rfl, h⟩
  have B1 := Lib.hid h
  clear h
  go_wp2_with fail
  refine (HA.out w1 B1.out).mono ?_
  rintro e w2 ⟨rfl, h⟩
  have B2 := Lib.hid (below_on B1.out h)
  clear h
  go_wp2_with fail
  go_ret
  exact ⟨rfl, B2.out⟩

set_option maxRecDepth 100000 in
set_option maxHeartbeats 16000000 in
theorem walk_short {w : World} (ao : Option Addr) (cap : Nat) (l : List (Int × Int × Int)) (hs : SeenOp w ao cap l) (hl : l.length ≤ 400) (hT : TabL w) : Calls Tryd.prog 3 #[.slice ao l.length cap] w fun e w' => e = .returned (.bool true) ∧ Below w.heap.size w w' := by
  have HA := Lib.hid (awake14_any w hT)
  have hd : decide ((400 : Int) < (l.length : Int)) = false := by simp <;> omega
  have HS := Lib.hid hs
  have HT := Lib.hid hT
  obtain ⟨Z, hZ, hz⟩ := zero_q
  obtain ⟨Z2, hZ2, hz2⟩ := zero_d
  have HZ := Lib.hid hZ
  have HZ2 := Lib.hid hZ2
  clear hs hT hZ hZ2
  obtain ⟨M, hM⟩ : ∃ M, l.length = M := ⟨_, rfl⟩
  rw [hM] at hl hd
  simp only [hM]
  have HM := Lib.hid hM
  clear hM
  go_enter Tryd.func3, Tryd.ntmps3
  go_wp2_with fail
  refine HA.out.mono ?_
  rintro e w1 ⟨rfl, h⟩
  have B1 := Lib.hid h
  clear h
  obtain ⟨w2, e2⟩ : ∃ w2, w2 = w1.alloc (.cells Z 31) := ⟨_, rfl⟩
  obtain ⟨w3, e3⟩ : ∃ w3, w3 = w2.alloc (.cells Z2 36) := ⟨_, rfl⟩
  obtain ⟨s2, -, -⟩ := new_size e2
  obtain ⟨s3, -, b3⟩ := new_size e3
  obtain ⟨D, hD⟩ : ∃ D, w1.heap.size = D := ⟨_, rfl⟩
  obtain ⟨E, hE⟩ : ∃ E, D + 1 = E := ⟨_, rfl⟩
  have hQ2 := oq_new (HT.out.below B1.out) e2 (HZ.out w1)
  have hDq := HZ2.out w2
  rw [← e3] at hDq
  rw [s2, hD, hE] at hDq
  rw [hD] at hQ2
  have T3 := Lib.hid (show TwoQ w1 w3 D E (fun _ => []) (fun _ => []) from ⟨hQ2.kept b3, hDq, by omega⟩)
  have HD := Lib.hid hD
  have HE := Lib.hid hE
  clear s2 s3 b3 hQ2 hDq hD hE
  go_upto_region 5 with fail
  rw [← e2, ← e3, HD.out, HE.out]
  clear e2 e3 hz hz2
  go_wp2_with fail
  go_loopw [21] (fun i wr => ∃ (j : Nat) (r : Rws), j ≤ M ∧ i = .int .i64 j ∧ TwoQ w1 wr D E r r) (fun i _ => M - (intOf i).toNat)
  case atStart => exact ⟨0, _, Nat.zero_le _, rfl, T3.out⟩
  case round =>
    clear T3 HZ HZ2
    obtain ⟨j, r, hj, rfl, hT3⟩ := hrel
    have T3 := Lib.hid hT3
    clear hT3
    by_cases hlt : j < M
    · obtain ⟨b0, off, rfl, hb0, c0, c1, c2⟩ := seenOp_at (HS.out.below (below_on B1.out T3.out.q.bel)) j (by rw [HM.out]; exact hlt)
      generalize (l[j]'(by rw [HM.out]; exact hlt)).1 = kd at *
      generalize (l[j]'(by rw [HM.out]; exact hlt)).2.1 = t at *
      generalize (l[j]'(by rw [HM.out]; exact hlt)).2.2 = k at *
      obtain ⟨w4, e4⟩ : ∃ w4, w4 = wr.alloc (.cells #[.int .i64 kd, .int .i64 t, .int .i64 k] 38) := ⟨_, rfl⟩
      obtain ⟨s4, n4, b4⟩ := new_size e4
      obtain ⟨F, hF⟩ : ∃ F, wr.heap.size = F := ⟨_, rfl⟩
      rw [hF] at n4
      have hFD : F ≠ D := by have := T3.out.q.q.lt; omega
      have hFE : F ≠ E := by have := T3.out.d.lt; omega
      have T4 := Lib.hid (T3.out.kept b4)
      have H4 := Lib.hid n4
      have HF := Lib.hid hF
      obtain ⟨o0, o1, o2⟩ := op_cells n4
      clear s4 n4 b4 hF T3
      go_upto_region 8 with fail
      rw [← e4, HF.out]
      clear e4 c0 c1 c2
      rcases (show kd = 1 ∨ kd = 2 ∨ kd = 3 ∨ kd = 4 ∨ (kd ≠ 1 ∧ kd ≠ 2 ∧ kd ≠ 3 ∧ kd ≠ 4) from by omega) with hkd | hkd | hkd | hkd | hkd
      · subst hkd
        have KP := Lib.hid (put_any T4.out.q.q t k)
        have KD : ∀ w' s, TwoQ w1 w' D E s r → Calls Tryd.prog 10 #[.pointer (some ⟨E, 0, none⟩), .int .i64 t, .int .i64 k] w' fun e w'' => e = .returned (.bool (rput r t k).isSome) ∧ TwoQ w1 w'' D E s ((rput r t k).getD r) ∧ FO E E w' w'' :=
          fun w' s h => (rput_any h.d t k).mono fun e w'' ⟨h1, h2, h3⟩ => ⟨h1, h.doc h2 h3, h3⟩
        have HKD := Lib.hid KD
        clear KD
        generalize (rput r t k).getD r = r' at *
        generalize (rput r t k).isSome = z at *
        cases z with
        | true =>
          simp only [if_true] at KP
          go_wp2_with fail
          refine KP.out.mono ?_
          rintro e w5 ⟨rfl, q5, f5⟩
          have T5 := Lib.hid (T4.out.code q5 f5)
          have n5 := TwoQ.call_code H4.out f5 hFD
          have H5 := Lib.hid n5
          obtain ⟨x0, x1, x2⟩ := op_cells n5
          clear q5 f5 n5 o0 o1 o2
          go_wp2_with fail
          refine (HKD.out w5 _ T5.out).mono ?_
          rintro e w6 ⟨rfl, t6, f6⟩
          have T6 := Lib.hid t6
          have n6 := TwoQ.call_doc H5.out f6 hFE
          obtain ⟨y0, y1, y2⟩ := op_cells n6
          clear t6 f6 n6 x0 x1 x2
          go_wp2_with fail
          refine (alike_any T6.out.q.q T6.out.q.t T6.out.d t).mono ?_
          rintro e w7 ⟨rfl, h⟩
          have T7 := Lib.hid (T6.out.kept h)
          clear h
          go_wp2_with fail
          go_roundw
          case rel =>
            first
              | exact ⟨j + 1, r', hlt, by go_num, T7.out⟩
              | ((repeat apply Exists.intro); exact ⟨⟨hlt, by go_num, T7.out⟩, rfl⟩)
          case measure => simp [intOf]; omega
        | false =>
          simp only [Bool.false_eq_true, if_false] at KP
          go_wp2_with fail
          refine KP.out.mono ?_
          rintro e w5 ⟨rfl, q5, f5⟩
          have T5 := Lib.hid (T4.out.code q5 f5)
          have n5 := TwoQ.call_code H4.out f5 hFD
          have H5 := Lib.hid n5
          obtain ⟨x0, x1, x2⟩ := op_cells n5
          clear q5 f5 n5 o0 o1 o2
          go_wp2_with fail
          refine (HKD.out w5 _ T5.out).mono ?_
          rintro e w6 ⟨rfl, t6, f6⟩
          have T6 := Lib.hid t6
          have n6 := TwoQ.call_doc H5.out f6 hFE
          obtain ⟨y0, y1, y2⟩ := op_cells n6
          clear t6 f6 n6 x0 x1 x2
          go_wp2_with fail
          refine (alike_any T6.out.q.q T6.out.q.t T6.out.d t).mono ?_
          rintro e w7 ⟨rfl, h⟩
          have T7 := Lib.hid (T6.out.kept h)
          clear h
          go_wp2_with fail
          go_roundw
          case rel =>
            first
              | exact ⟨j + 1, r', hlt, by go_num, T7.out⟩
              | ((repeat apply Exists.intro); exact ⟨⟨hlt, by go_num, T7.out⟩, rfl⟩)
          case measure => simp [intOf]; omega
      · subst hkd
        have KC : ∀ u, (∃ a' b', TwoQ w1 u D E a' b' ∧ u.heap[F]? = some (.cells #[.int .i64 2, .int .i64 t, .int .i64 k] 38 (0, 0))) → Calls Tryd.prog 11 #[.pointer (some ⟨D, 0, none⟩), .int .i64 t] u fun e w5 => ∃ q, e = .returned (.bool q) ∧ (∃ a' b', TwoQ w1 w5 D E a' b' ∧ w5.heap[F]? = some (.cells #[.int .i64 2, .int .i64 t, .int .i64 k] 38 (0, 0))) ∧ (TwoQ w1 u D E r r → q = (rrem r t).isSome ∧ TwoQ w1 w5 D E ((rrem r t).getD r) r) := by
          rintro u ⟨a', b', hu, hn⟩
          by_cases h0 : TwoQ w1 u D E r r
          · exact (remove_any h0.q.q t).mono fun e w5 ⟨h1, h2, h3⟩ => ⟨_, h1, ⟨_, _, h0.code h2 h3, TwoQ.call_code hn h3 hFD⟩, fun _ => ⟨rfl, h0.code h2 h3⟩⟩
          · exact (remove_any hu.q.q t).mono fun e w5 ⟨h1, h2, h3⟩ => ⟨_, h1, ⟨_, _, hu.code h2 h3, TwoQ.call_code hn h3 hFD⟩, fun h => absurd h h0⟩
        have KD : ∀ u, (∃ a' b', TwoQ w1 u D E a' b' ∧ u.heap[F]? = some (.cells #[.int .i64 2, .int .i64 t, .int .i64 k] 38 (0, 0))) → Calls Tryd.prog 12 #[.pointer (some ⟨E, 0, none⟩), .int .i64 t] u fun e w6 => ∃ q, e = .returned (.bool q) ∧ (∃ a' b', TwoQ w1 w6 D E a' b' ∧ w6.heap[F]? = some (.cells #[.int .i64 2, .int .i64 t, .int .i64 k] 38 (0, 0))) ∧ (TwoQ w1 u D E ((rrem r t).getD r) r → q = (rrem r t).isSome ∧ TwoQ w1 w6 D E ((rrem r t).getD r) ((rrem r t).getD r)) := by
          rintro u ⟨a', b', hu, hn⟩
          by_cases h0 : TwoQ w1 u D E ((rrem r t).getD r) r
          · exact (rremove_any h0.d t).mono fun e w6 ⟨h1, h2, h3⟩ => ⟨_, h1, ⟨_, _, h0.doc h2 h3, TwoQ.call_doc hn h3 hFE⟩, fun _ => ⟨rfl, h0.doc h2 h3⟩⟩
          · exact (rremove_any hu.d t).mono fun e w6 ⟨h1, h2, h3⟩ => ⟨_, h1, ⟨_, _, hu.doc h2 h3, TwoQ.call_doc hn h3 hFE⟩, fun h => absurd h h0⟩
        have HKC := Lib.hid KC
        have HKD := Lib.hid KD
        clear KC KD
        generalize (rrem r t).getD r = r' at *
        generalize (rrem r t).isSome = z at *
        go_upto_region 15 with fail
        go_cut [61] (fun c wx => c = .bool false ∧ TwoQ w1 wx D E r' r' ∧ wx.heap[F]? = some (.cells #[.int .i64 2, .int .i64 t, .int .i64 k] 38 (0, 0)))
        case first =>
          refine wp_region_inv [fun v _ => v = Value.pointer (some ⟨F, 1, none⟩), fun v _ => v = Value.int .i64 t, fun v _ => ∃ q, v = .bool q, fun v _ => v = Value.pointer (some ⟨E, 0, none⟩), fun v _ => v = Value.pointer (some ⟨F, 1, none⟩), fun v _ => v = Value.int .i64 t, fun v _ => ∃ q, v = .bool q, fun v _ => ∃ q, v = .bool q]
            (fun u => ∃ a' b', TwoQ w1 u D E a' b' ∧ u.heap[F]? = some (.cells #[.int .i64 2, .int .i64 t, .int .i64 k] 38 (0, 0))) (fun _ _ => True) (fun _ _ _ => True) (fun l sv u => TwoC (fun u => TwoQ w1 u D E r r) (fun u => TwoQ w1 u D E r' r) (fun u => TwoQ w1 u D E r' r') z 2 6 7 56 60 61 l sv u) [(0, 54), (1, 55), (2, 56), (3, 57), (4, 58), (5, 59), (6, 60), (7, 61)] 8 (by kernel_rfl) (by kernel_rfl) (by kernel_rfl) (by kernel_rfl) ?hC ?hI ?hR ?hF ?hloc ?hs ?hf
          case hC => exact ⟨r, r, T4.out.drewN 1, H4.out⟩
          case hI => exact TwoC.start _ _ (T4.out.drewN 1)
          case hR =>
            intro i v w1' w2' _ _ h
            match i, h with
            | 0, h => exact h
            | 1, h => exact h
            | 2, h => exact h
            | 3, h => exact h
            | 4, h => exact h
            | 5, h => exact h
            | 6, h => exact h
            | 7, h => exact h
            | _ + 8, h => exact h
          case hF => exact fun _ _ _ _ _ _ _ => trivial
          case hloc => exact fun _ _ _ _ _ _ _ _ => trivial
          case hs =>
            refine stepsI_succ ?s7 (stepsI_succ ?s6 (stepsI_succ ?s5 (stepsI_succ ?s4 (stepsI_succ ?s3 (stepsI_succ ?s2 (stepsI_succ ?s1 (stepsI_succ ?s0 (stepsI_zero))))))))
            case s0 =>
              refine stepI0 rfl (by kernel_rfl) ?_
              rintro w' hC sv
              intro K hK
              go_simp
              exact hK _ _ rfl ⟨rfl, hC, trivial, trivial, fun l hl hn hdn hde hi => hl.pure 0 54 _ (by rw [hn]; decide) (by decide) (by decide)⟩
            case s1 =>
              refine stepI1 0 54 rfl (by kernel_rfl) ?_
              rintro w' hC sv v1 - rfl
              intro K hK
              have hC9 := hC
              obtain ⟨_, _, _, hn9⟩ := hC9
              obtain ⟨x0, x1, x2⟩ := op_cells hn9
              go_simp
              exact hK _ _ rfl ⟨rfl, hC, trivial, trivial, fun l hl hn hdn hde hi => hl.pure 1 55 _ (by rw [hn]; decide) (by decide) (by decide)⟩
            case s2 =>
              refine stepI1 1 55 rfl (by kernel_rfl) ?_
              rintro w' hC sv v1 - rfl
              intro K hK
              go_simp
              refine (HKC.out w' hC).mono ?_
              rintro e w2 ⟨q, rfl, hc2, hp2⟩
              exact hK _ _ rfl ⟨⟨_, rfl⟩, hc2, trivial, trivial, fun l hl hn hdn hde hi => hl.first q (by rw [hn]; decide) (by decide) (by decide) (by rw [getD_bool l 2 (by rw [hn]; decide) false true]; exact hi) (by
                cases hq : l.getD 6 false with
                | false => rfl
                | true =>
                  have := down_of hdn 6 2 (by kernel_rfl) (by rw [getD_bool l 6 (by rw [hn]; decide) true false]; exact hq)
                  rw [getD_bool l 2 (by rw [hn]; decide) false true, hi] at this
                  cases this) (by
                cases hq : l.getD 7 false with
                | false => rfl
                | true =>
                  have := down_of hdn 7 2 (by kernel_rfl) (by rw [getD_bool l 7 (by rw [hn]; decide) true false]; exact hq)
                  rw [getD_bool l 2 (by rw [hn]; decide) false true, hi] at this
                  cases this) hp2⟩
            case s3 =>
              refine stepI0 rfl (by kernel_rfl) ?_
              rintro w' hC sv
              intro K hK
              go_simp
              exact hK _ _ rfl ⟨rfl, hC, trivial, trivial, fun l hl hn hdn hde hi => hl.pure 3 57 _ (by rw [hn]; decide) (by decide) (by decide)⟩
            case s4 =>
              refine stepI0 rfl (by kernel_rfl) ?_
              rintro w' hC sv
              intro K hK
              go_simp
              exact hK _ _ rfl ⟨rfl, hC, trivial, trivial, fun l hl hn hdn hde hi => hl.pure 4 58 _ (by rw [hn]; decide) (by decide) (by decide)⟩
            case s5 =>
              refine stepI1 4 58 rfl (by kernel_rfl) ?_
              rintro w' hC sv v1 - rfl
              intro K hK
              have hC9 := hC
              obtain ⟨_, _, _, hn9⟩ := hC9
              obtain ⟨x0, x1, x2⟩ := op_cells hn9
              go_simp
              exact hK _ _ rfl ⟨rfl, hC, trivial, trivial, fun l hl hn hdn hde hi => hl.pure 5 59 _ (by rw [hn]; decide) (by decide) (by decide)⟩
            case s6 =>
              refine stepI2 3 57 5 59 rfl (by kernel_rfl) ?_
              rintro w' hC sv v1 v2 - - rfl rfl
              intro K hK
              go_simp
              refine (HKD.out w' hC).mono ?_
              rintro e w2 ⟨q, rfl, hc2, hp2⟩
              exact hK _ _ rfl ⟨⟨_, rfl⟩, hc2, trivial, trivial, fun l hl hn hdn hde hi => hl.second q (by rw [hn]; decide) (by decide) (by decide) (deps_of hde 2 (by kernel_rfl)) (by rw [getD_bool l 6 (by rw [hn]; decide) false true]; exact hi) (by
                cases hq : l.getD 7 false with
                | false => rfl
                | true =>
                  have := down_of hdn 7 6 (by kernel_rfl) (by rw [getD_bool l 7 (by rw [hn]; decide) true false]; exact hq)
                  rw [getD_bool l 6 (by rw [hn]; decide) false true, hi] at this
                  cases this) hp2⟩
            case s7 =>
              refine stepI2 2 56 6 60 rfl (by kernel_rfl) ?_
              rintro w' hC sv v1 v2 e1 e2 ⟨z1, rfl⟩ ⟨z2, rfl⟩
              intro K hK
              have E1 := Lib.hid e1
              have E2 := Lib.hid e2
              clear e1 e2
              cases z1 <;> cases z2
              all_goals
                go_simp
                exact hK _ _ rfl ⟨⟨_, rfl⟩, hC, trivial, trivial, fun l hl hn hdn hde hi => hl.third _ _ _ (by rw [hn]; decide) (by decide) (by decide) (deps_of hde 2 (by kernel_rfl)) (deps_of hde 6 (by kernel_rfl)) E1.out.symm E2.out.symm (by decide)⟩
          case hf =>
            intro w' hC sv hx _ hI
            obtain ⟨l', hl, hn, hj⟩ := hI
            obtain ⟨hP2, ea, eb, ec⟩ := hj.done hl (by rw [hn]; decide) (by rw [hn]; decide)
            have e0 : sv 54 = Value.pointer (some ⟨F, 1, none⟩) := hx (0, 54) (by simp)
            have e1 : sv 55 = Value.int .i64 t := hx (1, 55) (by simp)
            have e3 : sv 57 = Value.pointer (some ⟨E, 0, none⟩) := hx (3, 57) (by simp)
            have e4 : sv 58 = Value.pointer (some ⟨F, 1, none⟩) := hx (4, 58) (by simp)
            have e5 : sv 59 = Value.int .i64 t := hx (5, 59) (by simp)
            simp only [putAll, List.foldl_cons, List.foldl_nil, ea, eb, ec, e0, e1, e3, e4, e5, Act.put, List.setIfInBounds_toArray, List.set_cons_succ, List.set_cons_zero]
            clear hx hl hn hj ea eb ec e0 e1 e3 e4 e5
            obtain ⟨_, _, _, hn6⟩ := hC
            have T6 := Lib.hid hP2
            have H6 := Lib.hid hn6
            clear hP2 hn6
            go_wp2_with fail
            go_meet
            exact ⟨rfl, T6.out, H6.out⟩
        case rest =>
        obtain ⟨rfl, t6, n6⟩ := hcut
        have T6 := Lib.hid t6
        obtain ⟨y0, y1, y2⟩ := op_cells n6
        clear t6 n6 o0 o1 o2
        go_wp2_with fail
        refine (alike_any T6.out.q.q T6.out.q.t T6.out.d t).mono ?_
        rintro e w7 ⟨rfl, h⟩
        have T7 := Lib.hid (T6.out.kept h)
        clear h
        go_wp2_with fail
        go_roundw
        case rel =>
          first
            | exact ⟨j + 1, r', hlt, by go_num, T7.out⟩
            | ((repeat apply Exists.intro); exact ⟨⟨hlt, by go_num, T7.out⟩, rfl⟩)
        case measure => simp [intOf]; omega
      · subst hkd
        have KC : ∀ u, (∃ a' b', TwoQ w1 u D E a' b' ∧ u.heap[F]? = some (.cells #[.int .i64 3, .int .i64 t, .int .i64 k] 38 (0, 0))) → Calls Tryd.prog 13 #[.pointer (some ⟨D, 0, none⟩), .int .i64 t] u fun e w5 => ∃ q, e = .returned (.bool q) ∧ (∃ a' b', TwoQ w1 w5 D E a' b' ∧ w5.heap[F]? = some (.cells #[.int .i64 3, .int .i64 t, .int .i64 k] 38 (0, 0))) ∧ (TwoQ w1 u D E r r → q = (rturn r t).isSome ∧ TwoQ w1 w5 D E ((rturn r t).getD r) r) := by
          rintro u ⟨a', b', hu, hn⟩
          by_cases h0 : TwoQ w1 u D E r r
          · exact (turn_any h0.q.q t).mono fun e w5 ⟨h1, h2, h3⟩ => ⟨_, h1, ⟨_, _, h0.code h2 h3, TwoQ.call_code hn h3 hFD⟩, fun _ => ⟨rfl, h0.code h2 h3⟩⟩
          · exact (turn_any hu.q.q t).mono fun e w5 ⟨h1, h2, h3⟩ => ⟨_, h1, ⟨_, _, hu.code h2 h3, TwoQ.call_code hn h3 hFD⟩, fun h => absurd h h0⟩
        have KD : ∀ u, (∃ a' b', TwoQ w1 u D E a' b' ∧ u.heap[F]? = some (.cells #[.int .i64 3, .int .i64 t, .int .i64 k] 38 (0, 0))) → Calls Tryd.prog 14 #[.pointer (some ⟨E, 0, none⟩), .int .i64 t] u fun e w6 => ∃ q, e = .returned (.bool q) ∧ (∃ a' b', TwoQ w1 w6 D E a' b' ∧ w6.heap[F]? = some (.cells #[.int .i64 3, .int .i64 t, .int .i64 k] 38 (0, 0))) ∧ (TwoQ w1 u D E ((rturn r t).getD r) r → q = (rturn r t).isSome ∧ TwoQ w1 w6 D E ((rturn r t).getD r) ((rturn r t).getD r)) := by
          rintro u ⟨a', b', hu, hn⟩
          by_cases h0 : TwoQ w1 u D E ((rturn r t).getD r) r
          · exact (rturn_any h0.d t).mono fun e w6 ⟨h1, h2, h3⟩ => ⟨_, h1, ⟨_, _, h0.doc h2 h3, TwoQ.call_doc hn h3 hFE⟩, fun _ => ⟨rfl, h0.doc h2 h3⟩⟩
          · exact (rturn_any hu.d t).mono fun e w6 ⟨h1, h2, h3⟩ => ⟨_, h1, ⟨_, _, hu.doc h2 h3, TwoQ.call_doc hn h3 hFE⟩, fun h => absurd h h0⟩
        have HKC := Lib.hid KC
        have HKD := Lib.hid KD
        clear KC KD
        generalize (rturn r t).getD r = r' at *
        generalize (rturn r t).isSome = z at *
        go_upto_region 18 with fail
        go_cut [71] (fun c wx => c = .bool false ∧ TwoQ w1 wx D E r' r' ∧ wx.heap[F]? = some (.cells #[.int .i64 3, .int .i64 t, .int .i64 k] 38 (0, 0)))
        case first =>
          refine wp_region_inv [fun v _ => v = Value.pointer (some ⟨F, 1, none⟩), fun v _ => v = Value.int .i64 t, fun v _ => ∃ q, v = .bool q, fun v _ => v = Value.pointer (some ⟨E, 0, none⟩), fun v _ => v = Value.pointer (some ⟨F, 1, none⟩), fun v _ => v = Value.int .i64 t, fun v _ => ∃ q, v = .bool q, fun v _ => ∃ q, v = .bool q]
            (fun u => ∃ a' b', TwoQ w1 u D E a' b' ∧ u.heap[F]? = some (.cells #[.int .i64 3, .int .i64 t, .int .i64 k] 38 (0, 0))) (fun _ _ => True) (fun _ _ _ => True) (fun l sv u => TwoC (fun u => TwoQ w1 u D E r r) (fun u => TwoQ w1 u D E r' r) (fun u => TwoQ w1 u D E r' r') z 2 6 7 66 70 71 l sv u) [(0, 64), (1, 65), (2, 66), (3, 67), (4, 68), (5, 69), (6, 70), (7, 71)] 8 (by kernel_rfl) (by kernel_rfl) (by kernel_rfl) (by kernel_rfl) ?hC ?hI ?hR ?hF ?hloc ?hs ?hf
          case hC => exact ⟨r, r, T4.out.drewN 1, H4.out⟩
          case hI => exact TwoC.start _ _ (T4.out.drewN 1)
          case hR =>
            intro i v w1' w2' _ _ h
            match i, h with
            | 0, h => exact h
            | 1, h => exact h
            | 2, h => exact h
            | 3, h => exact h
            | 4, h => exact h
            | 5, h => exact h
            | 6, h => exact h
            | 7, h => exact h
            | _ + 8, h => exact h
          case hF => exact fun _ _ _ _ _ _ _ => trivial
          case hloc => exact fun _ _ _ _ _ _ _ _ => trivial
          case hs =>
            refine stepsI_succ ?s7 (stepsI_succ ?s6 (stepsI_succ ?s5 (stepsI_succ ?s4 (stepsI_succ ?s3 (stepsI_succ ?s2 (stepsI_succ ?s1 (stepsI_succ ?s0 (stepsI_zero))))))))
            case s0 =>
              refine stepI0 rfl (by kernel_rfl) ?_
              rintro w' hC sv
              intro K hK
              go_simp
              exact hK _ _ rfl ⟨rfl, hC, trivial, trivial, fun l hl hn hdn hde hi => hl.pure 0 64 _ (by rw [hn]; decide) (by decide) (by decide)⟩
            case s1 =>
              refine stepI1 0 64 rfl (by kernel_rfl) ?_
              rintro w' hC sv v1 - rfl
              intro K hK
              have hC9 := hC
              obtain ⟨_, _, _, hn9⟩ := hC9
              obtain ⟨x0, x1, x2⟩ := op_cells hn9
              go_simp
              exact hK _ _ rfl ⟨rfl, hC, trivial, trivial, fun l hl hn hdn hde hi => hl.pure 1 65 _ (by rw [hn]; decide) (by decide) (by decide)⟩
            case s2 =>
              refine stepI1 1 65 rfl (by kernel_rfl) ?_
              rintro w' hC sv v1 - rfl
              intro K hK
              go_simp
              refine (HKC.out w' hC).mono ?_
              rintro e w2 ⟨q, rfl, hc2, hp2⟩
              exact hK _ _ rfl ⟨⟨_, rfl⟩, hc2, trivial, trivial, fun l hl hn hdn hde hi => hl.first q (by rw [hn]; decide) (by decide) (by decide) (by rw [getD_bool l 2 (by rw [hn]; decide) false true]; exact hi) (by
                cases hq : l.getD 6 false with
                | false => rfl
                | true =>
                  have := down_of hdn 6 2 (by kernel_rfl) (by rw [getD_bool l 6 (by rw [hn]; decide) true false]; exact hq)
                  rw [getD_bool l 2 (by rw [hn]; decide) false true, hi] at this
                  cases this) (by
                cases hq : l.getD 7 false with
                | false => rfl
                | true =>
                  have := down_of hdn 7 2 (by kernel_rfl) (by rw [getD_bool l 7 (by rw [hn]; decide) true false]; exact hq)
                  rw [getD_bool l 2 (by rw [hn]; decide) false true, hi] at this
                  cases this) hp2⟩
            case s3 =>
              refine stepI0 rfl (by kernel_rfl) ?_
              rintro w' hC sv
              intro K hK
              go_simp
              exact hK _ _ rfl ⟨rfl, hC, trivial, trivial, fun l hl hn hdn hde hi => hl.pure 3 67 _ (by rw [hn]; decide) (by decide) (by decide)⟩
            case s4 =>
              refine stepI0 rfl (by kernel_rfl) ?_
              rintro w' hC sv
              intro K hK
              go_simp
              exact hK _ _ rfl ⟨rfl, hC, trivial, trivial, fun l hl hn hdn hde hi => hl.pure 4 68 _ (by rw [hn]; decide) (by decide) (by decide)⟩
            case s5 =>
              refine stepI1 4 68 rfl (by kernel_rfl) ?_
              rintro w' hC sv v1 - rfl
              intro K hK
              have hC9 := hC
              obtain ⟨_, _, _, hn9⟩ := hC9
              obtain ⟨x0, x1, x2⟩ := op_cells hn9
              go_simp
              exact hK _ _ rfl ⟨rfl, hC, trivial, trivial, fun l hl hn hdn hde hi => hl.pure 5 69 _ (by rw [hn]; decide) (by decide) (by decide)⟩
            case s6 =>
              refine stepI2 3 67 5 69 rfl (by kernel_rfl) ?_
              rintro w' hC sv v1 v2 - - rfl rfl
              intro K hK
              go_simp
              refine (HKD.out w' hC).mono ?_
              rintro e w2 ⟨q, rfl, hc2, hp2⟩
              exact hK _ _ rfl ⟨⟨_, rfl⟩, hc2, trivial, trivial, fun l hl hn hdn hde hi => hl.second q (by rw [hn]; decide) (by decide) (by decide) (deps_of hde 2 (by kernel_rfl)) (by rw [getD_bool l 6 (by rw [hn]; decide) false true]; exact hi) (by
                cases hq : l.getD 7 false with
                | false => rfl
                | true =>
                  have := down_of hdn 7 6 (by kernel_rfl) (by rw [getD_bool l 7 (by rw [hn]; decide) true false]; exact hq)
                  rw [getD_bool l 6 (by rw [hn]; decide) false true, hi] at this
                  cases this) hp2⟩
            case s7 =>
              refine stepI2 2 66 6 70 rfl (by kernel_rfl) ?_
              rintro w' hC sv v1 v2 e1 e2 ⟨z1, rfl⟩ ⟨z2, rfl⟩
              intro K hK
              have E1 := Lib.hid e1
              have E2 := Lib.hid e2
              clear e1 e2
              cases z1 <;> cases z2
              all_goals
                go_simp
                exact hK _ _ rfl ⟨⟨_, rfl⟩, hC, trivial, trivial, fun l hl hn hdn hde hi => hl.third _ _ _ (by rw [hn]; decide) (by decide) (by decide) (deps_of hde 2 (by kernel_rfl)) (deps_of hde 6 (by kernel_rfl)) E1.out.symm E2.out.symm (by decide)⟩
          case hf =>
            intro w' hC sv hx _ hI
            obtain ⟨l', hl, hn, hj⟩ := hI
            obtain ⟨hP2, ea, eb, ec⟩ := hj.done hl (by rw [hn]; decide) (by rw [hn]; decide)
            have e0 : sv 64 = Value.pointer (some ⟨F, 1, none⟩) := hx (0, 64) (by simp)
            have e1 : sv 65 = Value.int .i64 t := hx (1, 65) (by simp)
            have e3 : sv 67 = Value.pointer (some ⟨E, 0, none⟩) := hx (3, 67) (by simp)
            have e4 : sv 68 = Value.pointer (some ⟨F, 1, none⟩) := hx (4, 68) (by simp)
            have e5 : sv 69 = Value.int .i64 t := hx (5, 69) (by simp)
            simp only [putAll, List.foldl_cons, List.foldl_nil, ea, eb, ec, e0, e1, e3, e4, e5, Act.put, List.setIfInBounds_toArray, List.set_cons_succ, List.set_cons_zero]
            clear hx hl hn hj ea eb ec e0 e1 e3 e4 e5
            obtain ⟨_, _, _, hn6⟩ := hC
            have T6 := Lib.hid hP2
            have H6 := Lib.hid hn6
            clear hP2 hn6
            go_wp2_with fail
            go_meet
            exact ⟨rfl, T6.out, H6.out⟩
        case rest =>
        obtain ⟨rfl, t6, n6⟩ := hcut
        have T6 := Lib.hid t6
        obtain ⟨y0, y1, y2⟩ := op_cells n6
        clear t6 n6 o0 o1 o2
        go_wp2_with fail
        refine (alike_any T6.out.q.q T6.out.q.t T6.out.d t).mono ?_
        rintro e w7 ⟨rfl, h⟩
        have T7 := Lib.hid (T6.out.kept h)
        clear h
        go_wp2_with fail
        go_roundw
        case rel =>
          first
            | exact ⟨j + 1, r', hlt, by go_num, T7.out⟩
            | ((repeat apply Exists.intro); exact ⟨⟨hlt, by go_num, T7.out⟩, rfl⟩)
        case measure => simp [intOf]; omega
      · subst hkd
        have KC : ∀ u, (∃ a' b', TwoQ w1 u D E a' b' ∧ u.heap[F]? = some (.cells #[.int .i64 4, .int .i64 t, .int .i64 k] 38 (0, 0))) → Calls Tryd.prog 15 #[.pointer (some ⟨D, 0, none⟩), .int .i64 t, .int .i64 k] u fun e w5 => ∃ q, e = .returned (.bool q) ∧ (∃ a' b', TwoQ w1 w5 D E a' b' ∧ w5.heap[F]? = some (.cells #[.int .i64 4, .int .i64 t, .int .i64 k] 38 (0, 0))) ∧ (TwoQ w1 u D E r r → q = (rmove r t k).isSome ∧ TwoQ w1 w5 D E ((rmove r t k).getD r) r) := by
          rintro u ⟨a', b', hu, hn⟩
          by_cases h0 : TwoQ w1 u D E r r
          · exact (move_any h0.q.q t k).mono fun e w5 ⟨h1, h2, h3⟩ => ⟨_, h1, ⟨_, _, h0.code h2 h3, TwoQ.call_code hn h3 hFD⟩, fun _ => ⟨rfl, h0.code h2 h3⟩⟩
          · exact (move_any hu.q.q t k).mono fun e w5 ⟨h1, h2, h3⟩ => ⟨_, h1, ⟨_, _, hu.code h2 h3, TwoQ.call_code hn h3 hFD⟩, fun h => absurd h h0⟩
        have KD : ∀ u, (∃ a' b', TwoQ w1 u D E a' b' ∧ u.heap[F]? = some (.cells #[.int .i64 4, .int .i64 t, .int .i64 k] 38 (0, 0))) → Calls Tryd.prog 16 #[.pointer (some ⟨E, 0, none⟩), .int .i64 t, .int .i64 k] u fun e w6 => ∃ q, e = .returned (.bool q) ∧ (∃ a' b', TwoQ w1 w6 D E a' b' ∧ w6.heap[F]? = some (.cells #[.int .i64 4, .int .i64 t, .int .i64 k] 38 (0, 0))) ∧ (TwoQ w1 u D E ((rmove r t k).getD r) r → q = (rmove r t k).isSome ∧ TwoQ w1 w6 D E ((rmove r t k).getD r) ((rmove r t k).getD r)) := by
          rintro u ⟨a', b', hu, hn⟩
          by_cases h0 : TwoQ w1 u D E ((rmove r t k).getD r) r
          · exact (rmove_any h0.d t k).mono fun e w6 ⟨h1, h2, h3⟩ => ⟨_, h1, ⟨_, _, h0.doc h2 h3, TwoQ.call_doc hn h3 hFE⟩, fun _ => ⟨rfl, h0.doc h2 h3⟩⟩
          · exact (rmove_any hu.d t k).mono fun e w6 ⟨h1, h2, h3⟩ => ⟨_, h1, ⟨_, _, hu.doc h2 h3, TwoQ.call_doc hn h3 hFE⟩, fun h => absurd h h0⟩
        have HKC := Lib.hid KC
        have HKD := Lib.hid KD
        clear KC KD
        generalize (rmove r t k).getD r = r' at *
        generalize (rmove r t k).isSome = z at *
        go_upto_region 21 with fail
        go_cut [85] (fun c wx => c = .bool false ∧ TwoQ w1 wx D E r' r' ∧ wx.heap[F]? = some (.cells #[.int .i64 4, .int .i64 t, .int .i64 k] 38 (0, 0)))
        case first =>
          refine wp_region_inv [fun v _ => v = Value.pointer (some ⟨F, 1, none⟩), fun v _ => v = Value.int .i64 t, fun v _ => v = Value.pointer (some ⟨F, 2, none⟩), fun v _ => v = Value.int .i64 k, fun v _ => ∃ q, v = .bool q, fun v _ => v = Value.pointer (some ⟨E, 0, none⟩), fun v _ => v = Value.pointer (some ⟨F, 1, none⟩), fun v _ => v = Value.int .i64 t, fun v _ => v = Value.pointer (some ⟨F, 2, none⟩), fun v _ => v = Value.int .i64 k, fun v _ => ∃ q, v = .bool q, fun v _ => ∃ q, v = .bool q]
            (fun u => ∃ a' b', TwoQ w1 u D E a' b' ∧ u.heap[F]? = some (.cells #[.int .i64 4, .int .i64 t, .int .i64 k] 38 (0, 0))) (fun _ _ => True) (fun _ _ _ => True) (fun l sv u => TwoC (fun u => TwoQ w1 u D E r r) (fun u => TwoQ w1 u D E r' r) (fun u => TwoQ w1 u D E r' r') z 4 10 11 78 84 85 l sv u) [(0, 74), (1, 75), (2, 76), (3, 77), (4, 78), (5, 79), (6, 80), (7, 81), (8, 82), (9, 83), (10, 84), (11, 85)] 12 (by kernel_rfl) (by kernel_rfl) (by kernel_rfl) (by kernel_rfl) ?hC ?hI ?hR ?hF ?hloc ?hs ?hf
          case hC => exact ⟨r, r, T4.out.drewN 1, H4.out⟩
          case hI => exact TwoC.start _ _ (T4.out.drewN 1)
          case hR =>
            intro i v w1' w2' _ _ h
            match i, h with
            | 0, h => exact h
            | 1, h => exact h
            | 2, h => exact h
            | 3, h => exact h
            | 4, h => exact h
            | 5, h => exact h
            | 6, h => exact h
            | 7, h => exact h
            | 8, h => exact h
            | 9, h => exact h
            | 10, h => exact h
            | 11, h => exact h
            | _ + 12, h => exact h
          case hF => exact fun _ _ _ _ _ _ _ => trivial
          case hloc => exact fun _ _ _ _ _ _ _ _ => trivial
          case hs =>
            refine stepsI_succ ?s11 (stepsI_succ ?s10 (stepsI_succ ?s9 (stepsI_succ ?s8 (stepsI_succ ?s7 (stepsI_succ ?s6 (stepsI_succ ?s5 (stepsI_succ ?s4 (stepsI_succ ?s3 (stepsI_succ ?s2 (stepsI_succ ?s1 (stepsI_succ ?s0 (stepsI_zero))))))))))))
            case s0 =>
              refine stepI0 rfl (by kernel_rfl) ?_
              rintro w' hC sv
              intro K hK
              go_simp
              exact hK _ _ rfl ⟨rfl, hC, trivial, trivial, fun l hl hn hdn hde hi => hl.pure 0 74 _ (by rw [hn]; decide) (by decide) (by decide)⟩
            case s1 =>
              refine stepI1 0 74 rfl (by kernel_rfl) ?_
              rintro w' hC sv v1 - rfl
              intro K hK
              have hC9 := hC
              obtain ⟨_, _, _, hn9⟩ := hC9
              obtain ⟨x0, x1, x2⟩ := op_cells hn9
              go_simp
              exact hK _ _ rfl ⟨rfl, hC, trivial, trivial, fun l hl hn hdn hde hi => hl.pure 1 75 _ (by rw [hn]; decide) (by decide) (by decide)⟩
            case s2 =>
              refine stepI0 rfl (by kernel_rfl) ?_
              rintro w' hC sv
              intro K hK
              go_simp
              exact hK _ _ rfl ⟨rfl, hC, trivial, trivial, fun l hl hn hdn hde hi => hl.pure 2 76 _ (by rw [hn]; decide) (by decide) (by decide)⟩
            case s3 =>
              refine stepI1 2 76 rfl (by kernel_rfl) ?_
              rintro w' hC sv v1 - rfl
              intro K hK
              have hC9 := hC
              obtain ⟨_, _, _, hn9⟩ := hC9
              obtain ⟨x0, x1, x2⟩ := op_cells hn9
              go_simp
              exact hK _ _ rfl ⟨rfl, hC, trivial, trivial, fun l hl hn hdn hde hi => hl.pure 3 77 _ (by rw [hn]; decide) (by decide) (by decide)⟩
            case s4 =>
              refine stepI2 1 75 3 77 rfl (by kernel_rfl) ?_
              rintro w' hC sv v1 v2 - - rfl rfl
              intro K hK
              go_simp
              refine (HKC.out w' hC).mono ?_
              rintro e w2 ⟨q, rfl, hc2, hp2⟩
              exact hK _ _ rfl ⟨⟨_, rfl⟩, hc2, trivial, trivial, fun l hl hn hdn hde hi => hl.first q (by rw [hn]; decide) (by decide) (by decide) (by rw [getD_bool l 4 (by rw [hn]; decide) false true]; exact hi) (by
                cases hq : l.getD 10 false with
                | false => rfl
                | true =>
                  have := down_of hdn 10 4 (by kernel_rfl) (by rw [getD_bool l 10 (by rw [hn]; decide) true false]; exact hq)
                  rw [getD_bool l 4 (by rw [hn]; decide) false true, hi] at this
                  cases this) (by
                cases hq : l.getD 11 false with
                | false => rfl
                | true =>
                  have := down_of hdn 11 4 (by kernel_rfl) (by rw [getD_bool l 11 (by rw [hn]; decide) true false]; exact hq)
                  rw [getD_bool l 4 (by rw [hn]; decide) false true, hi] at this
                  cases this) hp2⟩
            case s5 =>
              refine stepI0 rfl (by kernel_rfl) ?_
              rintro w' hC sv
              intro K hK
              go_simp
              exact hK _ _ rfl ⟨rfl, hC, trivial, trivial, fun l hl hn hdn hde hi => hl.pure 5 79 _ (by rw [hn]; decide) (by decide) (by decide)⟩
            case s6 =>
              refine stepI0 rfl (by kernel_rfl) ?_
              rintro w' hC sv
              intro K hK
              go_simp
              exact hK _ _ rfl ⟨rfl, hC, trivial, trivial, fun l hl hn hdn hde hi => hl.pure 6 80 _ (by rw [hn]; decide) (by decide) (by decide)⟩
            case s7 =>
              refine stepI1 6 80 rfl (by kernel_rfl) ?_
              rintro w' hC sv v1 - rfl
              intro K hK
              have hC9 := hC
              obtain ⟨_, _, _, hn9⟩ := hC9
              obtain ⟨x0, x1, x2⟩ := op_cells hn9
              go_simp
              exact hK _ _ rfl ⟨rfl, hC, trivial, trivial, fun l hl hn hdn hde hi => hl.pure 7 81 _ (by rw [hn]; decide) (by decide) (by decide)⟩
            case s8 =>
              refine stepI0 rfl (by kernel_rfl) ?_
              rintro w' hC sv
              intro K hK
              go_simp
              exact hK _ _ rfl ⟨rfl, hC, trivial, trivial, fun l hl hn hdn hde hi => hl.pure 8 82 _ (by rw [hn]; decide) (by decide) (by decide)⟩
            case s9 =>
              refine stepI1 8 82 rfl (by kernel_rfl) ?_
              rintro w' hC sv v1 - rfl
              intro K hK
              have hC9 := hC
              obtain ⟨_, _, _, hn9⟩ := hC9
              obtain ⟨x0, x1, x2⟩ := op_cells hn9
              go_simp
              exact hK _ _ rfl ⟨rfl, hC, trivial, trivial, fun l hl hn hdn hde hi => hl.pure 9 83 _ (by rw [hn]; decide) (by decide) (by decide)⟩
            case s10 =>
              refine stepI3 5 79 7 81 9 83 rfl (by kernel_rfl) ?_
              rintro w' hC sv v1 v2 v3 - - - rfl rfl rfl
              intro K hK
              go_simp
              refine (HKD.out w' hC).mono ?_
              rintro e w2 ⟨q, rfl, hc2, hp2⟩
              exact hK _ _ rfl ⟨⟨_, rfl⟩, hc2, trivial, trivial, fun l hl hn hdn hde hi => hl.second q (by rw [hn]; decide) (by decide) (by decide) (deps_of hde 4 (by kernel_rfl)) (by rw [getD_bool l 10 (by rw [hn]; decide) false true]; exact hi) (by
                cases hq : l.getD 11 false with
                | false => rfl
                | true =>
                  have := down_of hdn 11 10 (by kernel_rfl) (by rw [getD_bool l 11 (by rw [hn]; decide) true false]; exact hq)
                  rw [getD_bool l 10 (by rw [hn]; decide) false true, hi] at this
                  cases this) hp2⟩
            case s11 =>
              refine stepI2 4 78 10 84 rfl (by kernel_rfl) ?_
              rintro w' hC sv v1 v2 e1 e2 ⟨z1, rfl⟩ ⟨z2, rfl⟩
              intro K hK
              have E1 := Lib.hid e1
              have E2 := Lib.hid e2
              clear e1 e2
              cases z1 <;> cases z2
              all_goals
                go_simp
                exact hK _ _ rfl ⟨⟨_, rfl⟩, hC, trivial, trivial, fun l hl hn hdn hde hi => hl.third _ _ _ (by rw [hn]; decide) (by decide) (by decide) (deps_of hde 4 (by kernel_rfl)) (deps_of hde 10 (by kernel_rfl)) E1.out.symm E2.out.symm (by decide)⟩
          case hf =>
            intro w' hC sv hx _ hI
            obtain ⟨l', hl, hn, hj⟩ := hI
            obtain ⟨hP2, ea, eb, ec⟩ := hj.done hl (by rw [hn]; decide) (by rw [hn]; decide)
            have e0 : sv 74 = Value.pointer (some ⟨F, 1, none⟩) := hx (0, 74) (by simp)
            have e1 : sv 75 = Value.int .i64 t := hx (1, 75) (by simp)
            have e2 : sv 76 = Value.pointer (some ⟨F, 2, none⟩) := hx (2, 76) (by simp)
            have e3 : sv 77 = Value.int .i64 k := hx (3, 77) (by simp)
            have e5 : sv 79 = Value.pointer (some ⟨E, 0, none⟩) := hx (5, 79) (by simp)
            have e6 : sv 80 = Value.pointer (some ⟨F, 1, none⟩) := hx (6, 80) (by simp)
            have e7 : sv 81 = Value.int .i64 t := hx (7, 81) (by simp)
            have e8 : sv 82 = Value.pointer (some ⟨F, 2, none⟩) := hx (8, 82) (by simp)
            have e9 : sv 83 = Value.int .i64 k := hx (9, 83) (by simp)
            simp only [putAll, List.foldl_cons, List.foldl_nil, ea, eb, ec, e0, e1, e2, e3, e5, e6, e7, e8, e9, Act.put, List.setIfInBounds_toArray, List.set_cons_succ, List.set_cons_zero]
            clear hx hl hn hj ea eb ec e0 e1 e2 e3 e5 e6 e7 e8 e9
            obtain ⟨_, _, _, hn6⟩ := hC
            have T6 := Lib.hid hP2
            have H6 := Lib.hid hn6
            clear hP2 hn6
            go_wp2_with fail
            go_meet
            exact ⟨rfl, T6.out, H6.out⟩
        case rest =>
        obtain ⟨rfl, t6, n6⟩ := hcut
        have T6 := Lib.hid t6
        obtain ⟨y0, y1, y2⟩ := op_cells n6
        clear t6 n6 o0 o1 o2
        go_wp2_with fail
        refine (alike_any T6.out.q.q T6.out.q.t T6.out.d t).mono ?_
        rintro e w7 ⟨rfl, h⟩
        have T7 := Lib.hid (T6.out.kept h)
        clear h
        go_wp2_with fail
        go_roundw
        case rel =>
          first
            | exact ⟨j + 1, r', hlt, by go_num, T7.out⟩
            | ((repeat apply Exists.intro); exact ⟨⟨hlt, by go_num, T7.out⟩, rfl⟩)
        case measure => simp [intOf]; omega
      · have d1 : (kd == 1) = false := by simp; omega
        have d2 : (kd == 2) = false := by simp; omega
        have d3 : (kd == 3) = false := by simp; omega
        have d4 : (kd == 4) = false := by simp; omega
        clear hkd
        have T6 := Lib.hid T4.out
        have r' := r
        go_wp2_with fail
        refine (alike_any T6.out.q.q T6.out.q.t T6.out.d t).mono ?_
        rintro e w7 ⟨rfl, h⟩
        have T7 := Lib.hid (T6.out.kept h)
        clear h
        go_wp2_with fail
        go_roundw
        case rel =>
          first
            | exact ⟨j + 1, r, hlt, by go_num, T7.out⟩
            | ((repeat apply Exists.intro); exact ⟨⟨hlt, by go_num, T7.out⟩, rfl⟩)
        case measure => simp [intOf]; omega
    · obtain rfl : j = M := by omega
      have BF := Lib.hid (below_on B1.out T3.out.q.bel)
      go_wp2_with fail
      go_ret
      exact ⟨rfl, BF.out⟩

theorem walk {w : World} (ao : Option Addr) (cap : Nat) (l : List (Int × Int × Int)) (hs : SeenOp w ao cap l) (_ok : ∀ o ∈ l, True) (hT : TabL w) : Calls Tryd.prog 3 #[.slice ao l.length cap] w fun e w' => e = .returned (.bool true) ∧ Below w.heap.size w w' := by
  rcases Nat.lt_or_ge 400 l.length with h | h
  · exact walk_long ao cap l hs h hT
  · exact walk_short ao cap l hs h hT

theorem own : ownKnob Tryd.prog.godebug = none := by kernel_rfl
theorem laidOut : laidOutB Tryd.prog = true := by kernel_rfl

set_option maxRecDepth 100000 in
theorem lifted (os : Os) (started : os.Started) (H : Type) (enc : TypeId × Value → H) :
    ReturnsInHanded {} Tryd.checked os 3 .any (fun w args => (Rows.readyPlaysSpec.pre enc Tryd.prog Tryd.f3 Rows.readyPlaysRow.domain false w args ∧ laidMetH Tryd.prog laidL w) ∧ sizedMet enc Tryd.prog Tryd.f3 (OpenSpec.ofChange Rows.readyPlaysSpec) false w args) (Rows.readyPlaysSpec.post enc Tryd.prog Tryd.f3 false true false false) := by
  refine returnsInHanded_of_row (s := OpenSpec.ofChange Rows.readyPlaysSpec) (F := fun _ _ _ => 0) (laid := laidL) (C := Tryd.checked) own started (by kernel_rfl) Tryd.func3
    (ChangeSpec.witness_shaped (enc := enc) (C := Tryd.checked) (os := os) (s := Rows.readyPlaysSpec) (X := fun w _ => laidMetH Tryd.prog laidL w) false (World.laidAll Tryd.prog os laidL) #[.slice none 0 0] 8 (World.laidAll_os _ _ _)
      (World.shaped_of_ZipB (by kernel_rfl) (by kernel_rfl)) (by kernel_rfl) (by kernel_rfl) (by kernel_rfl)
      (by rw [MakeChecks.laidMetH_plain _ _ _ (by kernel_rfl)]; exact laidMet_laidAll _ (by kernel_rfl) (by kernel_rfl))) ?_
  intro W base args ds gs before hval0 hW hcnd _ hsz0 hL hsh _
  have hval : ∀ (j : Nat) t v, Tryd.f3.params[j]? = some t → args[j]? = some v → Value.okWide Tryd.prog W .any base t v := hval0
  have hW' := hW
  obtain ⟨p, q, hA0, hV, rfl, hfz, hnd⟩ := hW
  have hA : DataW.TrodAll enc Tryd.prog W 0 (fun _ => true) true Tryd.f3.params.toList args.toList ds p := hA0
  rw [Tryd.params3] at hA hval
  obtain ⟨v0, vs0, d0, ds0, p0, q0, hargs, rfl, rfl, h0, r0⟩ := trodAll_cons hA
  obtain ⟨rfl, rfl, rfl⟩ := trodAll_nil r0
  obtain rfl : args = #[v0] := by cases args; simp_all
  obtain ⟨rfl, rfl⟩ := trodVars_none hV
  have k0 := h0
  have lt0 : ∀ x ∈ p0, x.block < W.heap.size := by obtain ⟨m, hm⟩ := k0; exact DataW.trod_lt m _ _ _ hm
  obtain ⟨a0, len0, cap0, rfl⟩ := okWide_slice Tryd.underlying22 (hval 0 22 v0 rfl rfl)
  obtain ⟨l0, rfl, w0, ok0⟩ := open_ops h0
  clear hA0 hval0
  refine (walk a0 cap0 l0 w0 ok0 (of_laid hL hsh)).mono fun e W' ⟨he, bel⟩ => ?_
  subst he
  exact ⟨_, rfl, _, _, _, [], _, [], hW', trodAll_mk1 (shut_bool Tryd.underlying4 _), (trodAll_cons_mk (Below.trod laidOut (by kernel_rfl) (of_decide_eq_true (by kernel_rfl)) k0 bel lt0) trodAll_mk0), rfl, bel.frame _, fun h => by cases h⟩

theorem over : Rows.ReadyPlaysSaid :=
  OpenClaim.holds_of_wide 3 Tryd.f3 rfl rfl rfl rfl rfl rfl rfl ⟨rfl, rfl, rfl, rfl, rfl⟩ rfl rfl rfl rfl rfl (by kernel_rfl) Tryd.func3 (by kernel_rfl)
    (of_decide_eq_true (by kernel_rfl)) (by unfold Func.isWrapper; first | (rw [if_pos (by decide +kernel)]; kernel_rfl) | (rw [if_neg (by decide +kernel)]; exact ⟨rfl, rfl⟩))
    (fun os started H enc _ => lifted os started H enc)

theorem proved : Rows.ReadyPlaysCardSaid :=
  Claim7.holds_tied_plain_at .later [] _ true _ false over (fun _ h => by cases h) (by kernel_rfl) (fun _ h => by cases h) readyPlays_row_tie rfl ⟨rfl, rfl⟩ (by kernel_rfl) rfl
    (fun f fn hf hfn => by
      obtain rfl : f = 3 := Option.some.inj ((show Tryd.prog.funcNamed "taffrail/taffraillaw14.ReadyPlays" = some 3 by kernel_rfl).symm.trans hf) |>.symm
      obtain rfl : fn = Tryd.f3 := (Option.some.inj (Tryd.func3.symm.trans hfn)).symm
      refine ⟨by kernel_rfl, fun j t ht => ?_⟩
      rw [Tryd.params3] at ht
      have hm : t ∈ [22] := by simpa using Array.mem_of_getElem? ht
      have hall : ([22].all fun u => !Tryd.prog.wantsStandIn u) = true := by kernel_rfl
      exact (show Tryd.prog.wantsStandIn t = false by simpa using List.all_eq_true.1 hall t hm))
    (by kernel_rfl)
#print axioms proved

end Go.Proofs.YtdcadiphebcmbaaDoor.ReadyPlays
