/-
  DeltaRises: for every list of calls the statement's function answers true: clocks stand by rising ticks, each with one at least; each tick takes one from all of them. No condition.
-/
import Derived.Test.YtmgcdfndmokgnaaDe15
import Derived.Test.YtmgcdfndmokgnaaRel
import Derived.ProofKit
import Derived.OpenShut
import Derived.ShutString
import Derived.HandedShaped
import Derived.BigRegion
import Derived.Deep.RegionWith
import Derived.Deep.DeepCutAuto
namespace Go.Proofs.Ytmgcdfndmokgnaa.deltaRises
open Go Go.ChangeShapes Go.WideShapes Go.ChangeAt Go.RowKit
open Go.ChangeMaps (open_string shut_string)
set_option linter.unusedVariables false

set_option maxRecDepth 100000 in
set_option maxHeartbeats 16000000 in
theorem walk_long {w : World} (ao : Option Addr) (cap : Nat) (l : List (Int × Int × Int)) (hl : 200 < l.length) : Calls Try.prog 6 #[.slice ao l.length cap] w fun e w' => e = .returned (.bool true) ∧ Below w.heap.size w w' := by
  have HA := Lib.hid awake15_any
  have hd : decide ((200 : Int) < (l.length : Int)) = true := by simp <;> omega
  go_enter Try.func6, Try.ntmps6
  go_wp2_with fail
  refine (HA.out w).mono ?_
  rintro e w1 ⟨rfl, h⟩
  have B1 := Lib.hid h
  clear h
  go_wp2_with fail
  refine (HA.out w1).mono ?_
  rintro e w2 ⟨rfl, h⟩
  have B2 := Lib.hid (below_on B1.out h)
  clear h
  go_wp2_with fail
  go_ret
  exact ⟨rfl, B2.out⟩

theorem due_cells {w : World} {k : Nat} {u0 u1 : Value} (h : w.heap[k]? = some (.cells #[u0, u1] 48 (0, 0))) : w.cell? ⟨k, 0, none⟩ = some u0 ∧ w.cell? ⟨k, 1, none⟩ = some u1 := by
  refine ⟨?_, ?_⟩ <;> simp [World.cell?, h]

set_option maxRecDepth 100000 in
set_option maxHeartbeats 16000000 in
theorem walk_short {w : World} (ao : Option Addr) (cap : Nat) (l : List (Int × Int × Int)) (hs : SeenOp w ao cap l) (hok : ∀ o ∈ l, (Lit.int .i64 o.1).wf = true ∧ (Lit.int .i64 o.2.1).wf = true ∧ (Lit.int .i64 o.2.2).wf = true) (hl : l.length ≤ 200) : Calls Try.prog 6 #[.slice ao l.length cap] w fun e w' => e = .returned (.bool true) ∧ Below w.heap.size w w' := by
  have HA := Lib.hid (awake15_any w)
  have hd : decide ((200 : Int) < (l.length : Int)) = false := by simp <;> omega
  have HS := Lib.hid hs
  clear hs hok
  obtain ⟨M, hM⟩ : ∃ M, l.length = M := ⟨_, rfl⟩
  rw [hM] at hl hd
  simp only [hM]
  have HM := Lib.hid hM
  clear hM
  go_enter Try.func6, Try.ntmps6
  go_wp2_with fail
  refine HA.out.mono ?_
  rintro e w1 ⟨rfl, h⟩
  have B1 := Lib.hid h
  clear h
  obtain ⟨w2, e2⟩ : ∃ w2, w2 = w1.alloc (.cells #[.slice none 0 0] 26) := ⟨_, rfl⟩
  obtain ⟨D, hD⟩ : ∃ D, w1.heap.size = D := ⟨_, rfl⟩
  have hT3 := one_new e2
  rw [hD] at hT3
  have T3 := Lib.hid hT3
  have HD := Lib.hid hD
  clear hT3 hD
  go_upto_region 4 with fail
  rw [← e2, HD.out]
  clear e2
  go_wp2_with fail
  go_loopw [23] (fun i wr => ∃ (j : Nat) (r : List Ck), j ≤ M ∧ i = .int .i64 j ∧ OneL w1 wr D r) (fun i _ => M - (intOf i).toNat)
  case atStart => exact ⟨0, [], Nat.zero_le _, rfl, T3.out⟩
  case round =>
    clear T3
    obtain ⟨j, r, hj, rfl, hT3⟩ := hrel
    have T3 := Lib.hid hT3
    clear hT3
    by_cases hlt : j < M
    · obtain ⟨b0, off, rfl, hb0, c0, c1, c2⟩ := seenOp_at (SeenR.below HS.out (below_on B1.out T3.out.bel)) j (by rw [HM.out]; exact hlt)
      generalize (l[j]'(by rw [HM.out]; exact hlt)).1 = kd at *
      generalize (l[j]'(by rw [HM.out]; exact hlt)).2.1 = o at *
      generalize (l[j]'(by rw [HM.out]; exact hlt)).2.2 = t at *
      obtain ⟨w4, e4⟩ : ∃ w4, w4 = wr.alloc (.cells #[.int .i64 kd, .int .i64 o, .int .i64 t] 32) := ⟨_, rfl⟩
      obtain ⟨s4, n4, b4⟩ := new_size e4
      obtain ⟨F, hF⟩ : ∃ F, wr.heap.size = F := ⟨_, rfl⟩
      rw [hF] at n4
      have T4 := Lib.hid (T3.out.kept b4)
      have H4 := Lib.hid n4
      have HF := Lib.hid hF
      obtain ⟨o0, o1, o2⟩ := op_cells n4
      clear s4 n4 b4 hF T3
      go_upto_region 7 with fail
      rw [← e4, HF.out]
      clear e4 c0 c1 c2
      go_upto_if 29 with fail
      go_cut [] (fun wx => (∃ r', OneL w1 wx D r') ∧ wx.heap[F]? = some (.cells #[.int .i64 kd, .int .i64 o, .int .i64 t] 32 (0, 0)))
      case first =>
        rcases (show kd = 1 ∨ kd = 2 ∨ (kd ≠ 1 ∧ kd ≠ 2) from by omega) with hkd | hkd | hkd
        · subst hkd
          have K5 := Lib.hid (on_put T4.out o t)
          generalize (if putK r o t then (0 : Int) else 1) = z0 at *
          go_wp2_with fail
          refine K5.out.mono ?_
          rintro e w5 ⟨rfl, t5, p5⟩
          have T5 := Lib.hid t5
          have H5 := Lib.hid (p5 F _ _ H4.out (by decide) (by decide))
          clear t5 p5 o0 o1 o2 K5
          go_wp2_with fail
          go_meet
          exact ⟨⟨_, T5.out⟩, H5.out⟩
        · subst hkd
          have K5 := Lib.hid (on_cancel T4.out o)
          go_wp2_with fail
          refine K5.out.mono ?_
          rintro e w5 ⟨rfl, t5, p5⟩
          have T5 := Lib.hid t5
          have H5 := Lib.hid (p5 F _ _ H4.out (by decide) (by decide))
          clear t5 p5 o0 o1 o2 K5
          go_wp2_with fail
          go_meet
          exact ⟨⟨_, T5.out⟩, H5.out⟩
        · have d1 : (kd == 1) = false := by simp; omega
          have d2 : (kd == 2) = false := by simp; omega
          clear hkd
          go_wp2_with fail
          go_meet
          exact ⟨⟨_, T4.out⟩, H4.out⟩
      case rest =>
      clear T4 H4 o0 o1 o2
      obtain ⟨⟨r, hT5⟩, hH5⟩ := hcut
      have K5 := on_dues hT5
      obtain ⟨S, hS⟩ : ∃ S, S = srt r := ⟨_, rfl⟩
      obtain ⟨S2, hS2⟩ : ∃ S2, S2 = srt (tickD r) := ⟨_, rfl⟩
      have hok := hT5.ok
      have hSL : S.length = r.length := by rw [hS]; exact srt_len r
      have hS2L : S2.length = (tickD r).length := by rw [hS2]; exact srt_len _
      have HS1 := Lib.hid (show ∀ i (hi : i < S.length), 1 ≤ (S[i]).2 ∧ (S[i]).2 < 4294967296 from by subst hS; exact fun i hi => ⟨(hok.srt_one i hi).1, (hok.srt_one i hi).2.1⟩)
      have HLf := Lib.hid (show ∀ i (hi : i < S.length), leftS r ((S[i]).1 : Int) = (S[i]).2 from by subst hS; exact fun i hi => (hok.srt_one i hi).2.2)
      have HSt := Lib.hid (show ∀ i (h0 : 0 < i) (hi : i < S.length), (S[i - 1]).2 ≤ (S[i]).2 from by subst hS; exact fun i h0 hi => srt_step i h0 hi)
      have HFr := Lib.hid (show ∀ i (hi : i < (overD r).length) (hs : i < S.length), (S[i]).2 = 1 ∧ (overD r)[i] = (S[i]).1 from by subst hS; exact fun i hi hs => tick_front hok i hi hs)
      have HBk := Lib.hid (show ∀ i (hi : (overD r).length ≤ i) (hs : i < S.length) (hn : i - (overD r).length < S2.length), S2[i - (overD r).length] = ((S[i]).1, (S[i]).2 - 1) from by subst hS hS2; exact fun i hi hs hn => tick_back hok i hi hs hn)
      have HTl := Lib.hid (show (overD r).length + S2.length = S.length from by subst hS hS2; exact tick_len hok)
      obtain ⟨k, hk⟩ : ∃ k, r.length = k := ⟨_, rfl⟩
      have hk2 : k ≤ 256 := by have := hok.len; omega
      rw [hk, ← hS] at K5
      rw [hk] at hSL
      have HSL := Lib.hid hSL
      have HS2L0 := Lib.hid hS2L
      have HS2 := Lib.hid hS2
      have KD := Lib.hid K5
      have T5 := Lib.hid hT5
      have H5 := Lib.hid hH5
      clear hT5 hH5 K5 hk hSL hS hS2 hS2L hok
      go_wp2_with fail
      refine KD.out.mono ?_
      rintro e w6 ⟨a5, c5, rfl, r6, h6⟩
      have R6 := Lib.hid r6
      have L6 := Lib.hid (T5.out.kept h6)
      have H6 := Lib.hid (blk_on h6 H5.out)
      clear r6 h6 KD T5 H5
      go_wp2_with fail
      go_loopw [44] (fun i wr => ∃ p : Nat, p ≤ k ∧ i = .int .i64 p ∧ Below w6.heap.size w6 wr) (fun i _ => k - (intOf i).toNat)
      case atStart => exact ⟨0, Nat.zero_le _, rfl, Below.refl _ _⟩
      case round =>
        obtain ⟨p, hp, rfl, hB⟩ := hrel
        have HB := Lib.hid hB
        clear hB
        by_cases hlp : p < k
        · have hlps : p < S.length := by rw [HSL.out]; exact hlp
          have hx1 := HS1.out p hlps
          have hlf := HLf.out p hlps
          have W6 := OwnR.below R6.out HB.out
          obtain ⟨g, hg, cs0, cs1⟩ := ownD_at W6 p hlps
          cases hg
          obtain ⟨ci, hci⟩ : ∃ ci, (S[p]).1 = ci := ⟨_, rfl⟩
          obtain ⟨cg, hcg⟩ : ∃ cg, (S[p]).2 = cg := ⟨_, rfl⟩
          have hst := fun (h0 : 0 < p) => HSt.out p h0 hlps
          rw [hci] at cs0 hlf
          rw [hcg] at cs1 hx1 hlf
          simp only [hcg] at hst
          obtain ⟨w5, e5⟩ : ∃ w5, w5 = wr.alloc (.cells #[.int .i64 (ci : Int), .int .i64 (cg : Int)] 48) := ⟨_, rfl⟩
          obtain ⟨s5, n5, b5⟩ := new_size e5
          obtain ⟨N, hN⟩ : ∃ N, wr.heap.size = N := ⟨_, rfl⟩
          rw [hN] at n5
          have HN := Lib.hid hN
          have B5 := Lib.hid (below_on HB.out b5)
          have N5 := Lib.hid n5
          have KL := Lib.hid (fun u (hb : Below w5.heap.size w5 u) => on_left (L6.out.kept (below_on B5.out hb)) (ci : Int))
          rw [hlf] at KL
          have g0 : 1 ≤ cg := hx1.1
          have g1 : cg < 4294967296 := hx1.2
          have d1 : ¬ ((cg : Int) < 1) := by omega
          have d9 : ((cg : Int) != (cg : Int)) = false := by simp
          by_cases h0 : 0 < p
          · have hst0 := hst h0
            have cpg := Lib.hid (own_at (OwnR.below W6 b5) (p - 1) (by omega)).2
            obtain ⟨pg, hpg⟩ : ∃ pg, (S[p - 1]'(by omega)).2 = pg := ⟨_, rfl⟩
            rw [hpg] at cpg hst0
            have d2 : (0 : Int) < (p : Int) := by omega
            have d8 : (1 : Int) ≤ (p : Int) := by omega
            have d3 : ¬ ((cg : Int) < (pg : Int)) := by omega
            have d4 : IntKind.i64.wrap ((p : Int) - 1) = (p : Int) - 1 := by rw [IntKind.wrap_i64]; omega
            have d5 : (0 : Int) ≤ (p : Int) - 1 := by omega
            have d6 : ((p : Int) - 1).toNat = p - 1 := by omega
            have d7 : (p : Int) - 1 < (k : Int) := by omega
            clear s5 n5 b5 hN hci hcg hst hst0 hpg hx1 hlf W6 hlps
            go_upto_region 15 with fail
            rw [← e5, HN.out]
            clear e5 cs0 cs1
            refine wp_region_rel [.is (Value.pointer (some ⟨N, 1, none⟩)), .is (Value.int .i64 (cg : Int)), .is (.bool false), .is (.bool false), .is (Value.int .i64 (p : Int)), .is (.bool true), .is (.bool true), .is (Value.pointer (some ⟨N, 1, none⟩)), .is (Value.int .i64 (cg : Int)), .is (Value.slice (some ⟨g, 0, none⟩) k c5), .is (Value.int .i64 (p : Int)), .is (Value.int .i64 ((p : Int) - 1)), .is (Value.pointer (some ⟨g, (p - 1) * 2, none⟩)), .is (Value.pointer (some ⟨g, (p - 1) * 2 + 1, none⟩)), .is (Value.int .i64 (pg : Int)), .is (.bool false), .is (.bool false), .is (.bool false), .is (.bool false), .is (Value.pointer (some ⟨N, 0, none⟩)), .is (Value.int .i64 (ci : Int)), .is (Value.int .i64 (cg : Int)), .is (Value.pointer (some ⟨N, 1, none⟩)), .is (Value.int .i64 (cg : Int)), .is (.bool false), .is (.bool false)]
              (fun u => Below w5.heap.size w5 u) [(0, 49), (1, 50), (2, 51), (3, 52), (4, 53), (5, 54), (6, 55), (7, 56), (8, 57), (9, 58), (10, 59), (11, 60), (12, 61), (13, 62), (14, 63), (15, 64), (16, 65), (17, 66), (18, 67), (19, 68), (20, 69), (21, 70), (22, 71), (23, 72), (24, 73), (25, 74)] 26 (by kernel_rfl) (by kernel_rfl) (by kernel_rfl) (by kernel_rfl) ?hC ?hs ?hf
            case hC => exact below_drew (Below.refl _ _)
            case hs =>
              refine stepsOk_succ ?s25 (stepsOk_succ ?s24 (stepsOk_succ ?s23 (stepsOk_succ ?s22 (stepsOk_succ ?s21 (stepsOk_succ ?s20 (stepsOk_succ ?s19 (stepsOk_succ ?s18 (stepsOk_succ ?s17 (stepsOk_succ ?s16 (stepsOk_succ ?s15 (stepsOk_succ ?s14 (stepsOk_succ ?s13 (stepsOk_succ ?s12 (stepsOk_succ ?s11 (stepsOk_succ ?s10 (stepsOk_succ ?s9 (stepsOk_succ ?s8 (stepsOk_succ ?s7 (stepsOk_succ ?s6 (stepsOk_succ ?s5 (stepsOk_succ ?s4 (stepsOk_succ ?s3 (stepsOk_succ ?s2 (stepsOk_succ ?s1 (stepsOk_succ ?s0 (stepsOk_zero))))))))))))))))))))))))))
              case s0 =>
                refine stepOk0 rfl (by kernel_rfl) ?_
                rintro w' hC
                intro K hK
                go_simp
                exact hK _ _ rfl ⟨rfl, hC, Below.refl _ _⟩
              case s1 =>
                refine stepOk1 0 49 rfl (by kernel_rfl) ?_
                rintro w' hC v1 rfl
                intro K hK
                obtain ⟨x0, x1⟩ := due_cells (blk_on hC N5.out)
                go_simp
                exact hK _ _ rfl ⟨rfl, hC, Below.refl _ _⟩
              case s2 =>
                refine stepOk1 1 50 rfl (by kernel_rfl) ?_
                rintro w' hC v1 rfl
                intro K hK
                go_simp
                exact hK _ _ rfl ⟨rfl, hC, Below.refl _ _⟩
              case s3 =>
                refine stepOk1 2 51 rfl (by kernel_rfl) ?_
                rintro w' hC v1 rfl
                intro K hK
                go_simp
                exact hK _ _ rfl ⟨rfl, hC, Below.refl _ _⟩
              case s4 =>
                refine stepOk1 3 52 rfl (by kernel_rfl) ?_
                rintro w' hC v1 rfl
                intro K hK
                go_simp
                exact hK _ _ rfl ⟨rfl, hC, Below.refl _ _⟩
              case s5 =>
                refine stepOk2 3 52 4 53 rfl (by kernel_rfl) ?_
                rintro w' hC v1 v2 rfl rfl
                intro K hK
                go_simp
                exact hK _ _ rfl ⟨rfl, hC, Below.refl _ _⟩
              case s6 =>
                refine stepOk2 3 52 5 54 rfl (by kernel_rfl) ?_
                rintro w' hC v1 v2 rfl rfl
                intro K hK
                go_simp
                exact hK _ _ rfl ⟨rfl, hC, Below.refl _ _⟩
              case s7 =>
                refine stepOk1 6 55 rfl (by kernel_rfl) ?_
                rintro w' hC v1 rfl
                intro K hK
                go_simp
                exact hK _ _ rfl ⟨rfl, hC, Below.refl _ _⟩
              case s8 =>
                refine stepOk2 6 55 7 56 rfl (by kernel_rfl) ?_
                rintro w' hC v1 v2 rfl rfl
                intro K hK
                obtain ⟨x0, x1⟩ := due_cells (blk_on hC N5.out)
                go_simp
                exact hK _ _ rfl ⟨rfl, hC, Below.refl _ _⟩
              case s9 =>
                refine stepOk1 6 55 rfl (by kernel_rfl) ?_
                rintro w' hC v1 rfl
                intro K hK
                go_simp
                exact hK _ _ rfl ⟨rfl, hC, Below.refl _ _⟩
              case s10 =>
                refine stepOk1 6 55 rfl (by kernel_rfl) ?_
                rintro w' hC v1 rfl
                intro K hK
                go_simp
                exact hK _ _ rfl ⟨rfl, hC, Below.refl _ _⟩
              case s11 =>
                refine stepOk2 6 55 10 59 rfl (by kernel_rfl) ?_
                rintro w' hC v1 v2 rfl rfl
                intro K hK
                go_simp
                exact hK _ _ rfl ⟨rfl, hC, Below.refl _ _⟩
              case s12 =>
                refine stepOk3 6 55 9 58 11 60 rfl (by kernel_rfl) ?_
                rintro w' hC v1 v2 v3 rfl rfl rfl
                intro K hK
                go_simp
                exact hK _ _ rfl ⟨rfl, hC, Below.refl _ _⟩
              case s13 =>
                refine stepOk2 6 55 12 61 rfl (by kernel_rfl) ?_
                rintro w' hC v1 v2 rfl rfl
                intro K hK
                go_simp
                exact hK _ _ rfl ⟨rfl, hC, Below.refl _ _⟩
              case s14 =>
                refine stepOk2 6 55 13 62 rfl (by kernel_rfl) ?_
                rintro w' hC v1 v2 rfl rfl
                intro K hK
                have x2 := cell_kept hC cpg.out
                go_simp
                exact hK _ _ rfl ⟨rfl, hC, Below.refl _ _⟩
              case s15 =>
                refine stepOk3 6 55 8 57 14 63 rfl (by kernel_rfl) ?_
                rintro w' hC v1 v2 v3 rfl rfl rfl
                intro K hK
                go_simp
                exact hK _ _ rfl ⟨rfl, hC, Below.refl _ _⟩
              case s16 =>
                refine stepOk3 3 52 6 55 15 64 rfl (by kernel_rfl) ?_
                rintro w' hC v1 v2 v3 rfl rfl rfl
                intro K hK
                go_simp
                exact hK _ _ rfl ⟨rfl, hC, Below.refl _ _⟩
              case s17 =>
                refine stepOk2 3 52 16 65 rfl (by kernel_rfl) ?_
                rintro w' hC v1 v2 rfl rfl
                intro K hK
                go_simp
                exact hK _ _ rfl ⟨rfl, hC, Below.refl _ _⟩
              case s18 =>
                refine stepOk1 17 66 rfl (by kernel_rfl) ?_
                rintro w' hC v1 rfl
                intro K hK
                go_simp
                exact hK _ _ rfl ⟨rfl, hC, Below.refl _ _⟩
              case s19 =>
                refine stepOk1 18 67 rfl (by kernel_rfl) ?_
                rintro w' hC v1 rfl
                intro K hK
                go_simp
                exact hK _ _ rfl ⟨rfl, hC, Below.refl _ _⟩
              case s20 =>
                refine stepOk2 18 67 19 68 rfl (by kernel_rfl) ?_
                rintro w' hC v1 v2 rfl rfl
                intro K hK
                obtain ⟨x0, x1⟩ := due_cells (blk_on hC N5.out)
                go_simp
                exact hK _ _ rfl ⟨rfl, hC, Below.refl _ _⟩
              case s21 =>
                refine stepOk2 18 67 20 69 rfl (by kernel_rfl) ?_
                rintro w' hC v1 v2 rfl rfl
                intro K hK
                go_simp
                refine (KL.out w' hC).mono ?_
                rintro e w2 ⟨rfl, hb⟩
                exact hK _ _ rfl ⟨rfl, below_on hC hb, hb⟩
              case s22 =>
                refine stepOk1 18 67 rfl (by kernel_rfl) ?_
                rintro w' hC v1 rfl
                intro K hK
                go_simp
                exact hK _ _ rfl ⟨rfl, hC, Below.refl _ _⟩
              case s23 =>
                refine stepOk2 18 67 22 71 rfl (by kernel_rfl) ?_
                rintro w' hC v1 v2 rfl rfl
                intro K hK
                obtain ⟨x0, x1⟩ := due_cells (blk_on hC N5.out)
                go_simp
                exact hK _ _ rfl ⟨rfl, hC, Below.refl _ _⟩
              case s24 =>
                refine stepOk3 18 67 21 70 23 72 rfl (by kernel_rfl) ?_
                rintro w' hC v1 v2 v3 rfl rfl rfl
                intro K hK
                go_simp
                exact hK _ _ rfl ⟨rfl, hC, Below.refl _ _⟩
              case s25 =>
                refine stepOk2 18 67 24 73 rfl (by kernel_rfl) ?_
                rintro w' hC v1 v2 rfl rfl
                intro K hK
                go_simp
                exact hK _ _ rfl ⟨rfl, hC, Below.refl _ _⟩
            case hf =>
              intro w7 hC x_ hx
              have e0 : x_ 49 = (Value.pointer (some ⟨N, 1, none⟩)) := hx (0, 49) (by simp)
              have e1 : x_ 50 = (Value.int .i64 (cg : Int)) := hx (1, 50) (by simp)
              have e2 : x_ 51 = (.bool false) := hx (2, 51) (by simp)
              have e3 : x_ 52 = (.bool false) := hx (3, 52) (by simp)
              have e4 : x_ 53 = (Value.int .i64 (p : Int)) := hx (4, 53) (by simp)
              have e5 : x_ 54 = (.bool true) := hx (5, 54) (by simp)
              have e6 : x_ 55 = (.bool true) := hx (6, 55) (by simp)
              have e7 : x_ 56 = (Value.pointer (some ⟨N, 1, none⟩)) := hx (7, 56) (by simp)
              have e8 : x_ 57 = (Value.int .i64 (cg : Int)) := hx (8, 57) (by simp)
              have e9 : x_ 58 = (Value.slice (some ⟨g, 0, none⟩) k c5) := hx (9, 58) (by simp)
              have e10 : x_ 59 = (Value.int .i64 (p : Int)) := hx (10, 59) (by simp)
              have e11 : x_ 60 = (Value.int .i64 ((p : Int) - 1)) := hx (11, 60) (by simp)
              have e12 : x_ 61 = (Value.pointer (some ⟨g, (p - 1) * 2, none⟩)) := hx (12, 61) (by simp)
              have e13 : x_ 62 = (Value.pointer (some ⟨g, (p - 1) * 2 + 1, none⟩)) := hx (13, 62) (by simp)
              have e14 : x_ 63 = (Value.int .i64 (pg : Int)) := hx (14, 63) (by simp)
              have e15 : x_ 64 = (.bool false) := hx (15, 64) (by simp)
              have e16 : x_ 65 = (.bool false) := hx (16, 65) (by simp)
              have e17 : x_ 66 = (.bool false) := hx (17, 66) (by simp)
              have e18 : x_ 67 = (.bool false) := hx (18, 67) (by simp)
              have e19 : x_ 68 = (Value.pointer (some ⟨N, 0, none⟩)) := hx (19, 68) (by simp)
              have e20 : x_ 69 = (Value.int .i64 (ci : Int)) := hx (20, 69) (by simp)
              have e21 : x_ 70 = (Value.int .i64 (cg : Int)) := hx (21, 70) (by simp)
              have e22 : x_ 71 = (Value.pointer (some ⟨N, 1, none⟩)) := hx (22, 71) (by simp)
              have e23 : x_ 72 = (Value.int .i64 (cg : Int)) := hx (23, 72) (by simp)
              have e24 : x_ 73 = (.bool false) := hx (24, 73) (by simp)
              have e25 : x_ 74 = (.bool false) := hx (25, 74) (by simp)
              simp only [putAll, List.foldl_cons, List.foldl_nil, e0, e1, e2, e3, e4, e5, e6, e7, e8, e9, e10, e11, e12, e13, e14, e15, e16, e17, e18, e19, e20, e21, e22, e23, e24, e25, Act.put, List.setIfInBounds_toArray, List.set_cons_succ, List.set_cons_zero]
              have B7 := Lib.hid (below_on B5.out hC)
              clear hx hC e0 e1 e2 e3 e4 e5 e6 e7 e8 e9 e10 e11 e12 e13 e14 e15 e16 e17 e18 e19 e20 e21 e22 e23 e24 e25 KL
              go_wp2_with fail
              go_roundw
              case rel =>
                first
                  | exact ⟨p + 1, hlp, by go_num, B7.out⟩
                  | ((repeat apply Exists.intro); exact ⟨⟨p + 1, hlp, by go_num, B7.out⟩, rfl⟩)
              case measure => simp [intOf]; omega
          · have d2 : ¬ ((0 : Int) < (p : Int)) := by omega
            clear s5 n5 b5 hN hci hcg hst hx1 hlf W6 hlps
            go_upto_region 15 with fail
            rw [← e5, HN.out]
            clear e5 cs0 cs1
            refine wp_region_rel [.is (Value.pointer (some ⟨N, 1, none⟩)), .is (Value.int .i64 (cg : Int)), .is (.bool false), .is (.bool false), .is (Value.int .i64 (p : Int)), .is (.bool false), .is (.bool false), .any, .any, .any, .any, .any, .any, .any, .any, .any, .is (.bool false), .is (.bool false), .is (.bool false), .is (Value.pointer (some ⟨N, 0, none⟩)), .is (Value.int .i64 (ci : Int)), .is (Value.int .i64 (cg : Int)), .is (Value.pointer (some ⟨N, 1, none⟩)), .is (Value.int .i64 (cg : Int)), .is (.bool false), .is (.bool false)]
              (fun u => Below w5.heap.size w5 u) [(0, 49), (1, 50), (2, 51), (3, 52), (4, 53), (5, 54), (6, 55), (7, 56), (8, 57), (9, 58), (10, 59), (11, 60), (12, 61), (13, 62), (14, 63), (15, 64), (16, 65), (17, 66), (18, 67), (19, 68), (20, 69), (21, 70), (22, 71), (23, 72), (24, 73), (25, 74)] 26 (by kernel_rfl) (by kernel_rfl) (by kernel_rfl) (by kernel_rfl) ?hC ?hs ?hf
            case hC => exact below_drew (Below.refl _ _)
            case hs =>
              refine stepsOk_succ ?s25 (stepsOk_succ ?s24 (stepsOk_succ ?s23 (stepsOk_succ ?s22 (stepsOk_succ ?s21 (stepsOk_succ ?s20 (stepsOk_succ ?s19 (stepsOk_succ ?s18 (stepsOk_succ ?s17 (stepsOk_succ ?s16 (stepsOk_succ ?s15 (stepsOk_succ ?s14 (stepsOk_succ ?s13 (stepsOk_succ ?s12 (stepsOk_succ ?s11 (stepsOk_succ ?s10 (stepsOk_succ ?s9 (stepsOk_succ ?s8 (stepsOk_succ ?s7 (stepsOk_succ ?s6 (stepsOk_succ ?s5 (stepsOk_succ ?s4 (stepsOk_succ ?s3 (stepsOk_succ ?s2 (stepsOk_succ ?s1 (stepsOk_succ ?s0 (stepsOk_zero))))))))))))))))))))))))))
              case s0 =>
                refine stepOk0 rfl (by kernel_rfl) ?_
                rintro w' hC
                intro K hK
                go_simp
                exact hK _ _ rfl ⟨rfl, hC, Below.refl _ _⟩
              case s1 =>
                refine stepOk1 0 49 rfl (by kernel_rfl) ?_
                rintro w' hC v1 rfl
                intro K hK
                obtain ⟨x0, x1⟩ := due_cells (blk_on hC N5.out)
                go_simp
                exact hK _ _ rfl ⟨rfl, hC, Below.refl _ _⟩
              case s2 =>
                refine stepOk1 1 50 rfl (by kernel_rfl) ?_
                rintro w' hC v1 rfl
                intro K hK
                go_simp
                exact hK _ _ rfl ⟨rfl, hC, Below.refl _ _⟩
              case s3 =>
                refine stepOk1 2 51 rfl (by kernel_rfl) ?_
                rintro w' hC v1 rfl
                intro K hK
                go_simp
                exact hK _ _ rfl ⟨rfl, hC, Below.refl _ _⟩
              case s4 =>
                refine stepOk1 3 52 rfl (by kernel_rfl) ?_
                rintro w' hC v1 rfl
                intro K hK
                go_simp
                exact hK _ _ rfl ⟨rfl, hC, Below.refl _ _⟩
              case s5 =>
                refine stepOk2 3 52 4 53 rfl (by kernel_rfl) ?_
                rintro w' hC v1 v2 rfl rfl
                intro K hK
                go_simp
                exact hK _ _ rfl ⟨rfl, hC, Below.refl _ _⟩
              case s6 =>
                refine stepOk2 3 52 5 54 rfl (by kernel_rfl) ?_
                rintro w' hC v1 v2 rfl rfl
                intro K hK
                go_simp
                exact hK _ _ rfl ⟨rfl, hC, Below.refl _ _⟩
              case s7 =>
                refine stepOk1 6 55 rfl (by kernel_rfl) ?_
                rintro w' hC v1 rfl
                intro K hK
                go_simp
                exact hK _ _ rfl ⟨trivial, hC, Below.refl _ _⟩
              case s8 =>
                refine stepOk2 6 55 7 56 rfl (by kernel_rfl) ?_
                rintro w' hC v1 v2 rfl h1
                intro K hK
                go_simp
                exact hK _ _ rfl ⟨trivial, hC, Below.refl _ _⟩
              case s9 =>
                refine stepOk1 6 55 rfl (by kernel_rfl) ?_
                rintro w' hC v1 rfl
                intro K hK
                go_simp
                exact hK _ _ rfl ⟨trivial, hC, Below.refl _ _⟩
              case s10 =>
                refine stepOk1 6 55 rfl (by kernel_rfl) ?_
                rintro w' hC v1 rfl
                intro K hK
                go_simp
                exact hK _ _ rfl ⟨trivial, hC, Below.refl _ _⟩
              case s11 =>
                refine stepOk2 6 55 10 59 rfl (by kernel_rfl) ?_
                rintro w' hC v1 v2 rfl h1
                intro K hK
                go_simp
                exact hK _ _ rfl ⟨trivial, hC, Below.refl _ _⟩
              case s12 =>
                refine stepOk3 6 55 9 58 11 60 rfl (by kernel_rfl) ?_
                rintro w' hC v1 v2 v3 rfl h1 h2
                intro K hK
                go_simp
                exact hK _ _ rfl ⟨trivial, hC, Below.refl _ _⟩
              case s13 =>
                refine stepOk2 6 55 12 61 rfl (by kernel_rfl) ?_
                rintro w' hC v1 v2 rfl h1
                intro K hK
                go_simp
                exact hK _ _ rfl ⟨trivial, hC, Below.refl _ _⟩
              case s14 =>
                refine stepOk2 6 55 13 62 rfl (by kernel_rfl) ?_
                rintro w' hC v1 v2 rfl h1
                intro K hK
                go_simp
                exact hK _ _ rfl ⟨trivial, hC, Below.refl _ _⟩
              case s15 =>
                refine stepOk3 6 55 8 57 14 63 rfl (by kernel_rfl) ?_
                rintro w' hC v1 v2 v3 rfl h1 h2
                intro K hK
                go_simp
                exact hK _ _ rfl ⟨trivial, hC, Below.refl _ _⟩
              case s16 =>
                refine stepOk3 3 52 6 55 15 64 rfl (by kernel_rfl) ?_
                rintro w' hC v1 v2 v3 rfl rfl h2
                intro K hK
                go_simp
                exact hK _ _ rfl ⟨rfl, hC, Below.refl _ _⟩
              case s17 =>
                refine stepOk2 3 52 16 65 rfl (by kernel_rfl) ?_
                rintro w' hC v1 v2 rfl rfl
                intro K hK
                go_simp
                exact hK _ _ rfl ⟨rfl, hC, Below.refl _ _⟩
              case s18 =>
                refine stepOk1 17 66 rfl (by kernel_rfl) ?_
                rintro w' hC v1 rfl
                intro K hK
                go_simp
                exact hK _ _ rfl ⟨rfl, hC, Below.refl _ _⟩
              case s19 =>
                refine stepOk1 18 67 rfl (by kernel_rfl) ?_
                rintro w' hC v1 rfl
                intro K hK
                go_simp
                exact hK _ _ rfl ⟨rfl, hC, Below.refl _ _⟩
              case s20 =>
                refine stepOk2 18 67 19 68 rfl (by kernel_rfl) ?_
                rintro w' hC v1 v2 rfl rfl
                intro K hK
                obtain ⟨x0, x1⟩ := due_cells (blk_on hC N5.out)
                go_simp
                exact hK _ _ rfl ⟨rfl, hC, Below.refl _ _⟩
              case s21 =>
                refine stepOk2 18 67 20 69 rfl (by kernel_rfl) ?_
                rintro w' hC v1 v2 rfl rfl
                intro K hK
                go_simp
                refine (KL.out w' hC).mono ?_
                rintro e w2 ⟨rfl, hb⟩
                exact hK _ _ rfl ⟨rfl, below_on hC hb, hb⟩
              case s22 =>
                refine stepOk1 18 67 rfl (by kernel_rfl) ?_
                rintro w' hC v1 rfl
                intro K hK
                go_simp
                exact hK _ _ rfl ⟨rfl, hC, Below.refl _ _⟩
              case s23 =>
                refine stepOk2 18 67 22 71 rfl (by kernel_rfl) ?_
                rintro w' hC v1 v2 rfl rfl
                intro K hK
                obtain ⟨x0, x1⟩ := due_cells (blk_on hC N5.out)
                go_simp
                exact hK _ _ rfl ⟨rfl, hC, Below.refl _ _⟩
              case s24 =>
                refine stepOk3 18 67 21 70 23 72 rfl (by kernel_rfl) ?_
                rintro w' hC v1 v2 v3 rfl rfl rfl
                intro K hK
                go_simp
                exact hK _ _ rfl ⟨rfl, hC, Below.refl _ _⟩
              case s25 =>
                refine stepOk2 18 67 24 73 rfl (by kernel_rfl) ?_
                rintro w' hC v1 v2 rfl rfl
                intro K hK
                go_simp
                exact hK _ _ rfl ⟨rfl, hC, Below.refl _ _⟩
            case hf =>
              intro w7 hC x_ hx
              have e0 : x_ 49 = (Value.pointer (some ⟨N, 1, none⟩)) := hx (0, 49) (by simp)
              have e1 : x_ 50 = (Value.int .i64 (cg : Int)) := hx (1, 50) (by simp)
              have e2 : x_ 51 = (.bool false) := hx (2, 51) (by simp)
              have e3 : x_ 52 = (.bool false) := hx (3, 52) (by simp)
              have e4 : x_ 53 = (Value.int .i64 (p : Int)) := hx (4, 53) (by simp)
              have e5 : x_ 54 = (.bool false) := hx (5, 54) (by simp)
              have e6 : x_ 55 = (.bool false) := hx (6, 55) (by simp)
              have e16 : x_ 65 = (.bool false) := hx (16, 65) (by simp)
              have e17 : x_ 66 = (.bool false) := hx (17, 66) (by simp)
              have e18 : x_ 67 = (.bool false) := hx (18, 67) (by simp)
              have e19 : x_ 68 = (Value.pointer (some ⟨N, 0, none⟩)) := hx (19, 68) (by simp)
              have e20 : x_ 69 = (Value.int .i64 (ci : Int)) := hx (20, 69) (by simp)
              have e21 : x_ 70 = (Value.int .i64 (cg : Int)) := hx (21, 70) (by simp)
              have e22 : x_ 71 = (Value.pointer (some ⟨N, 1, none⟩)) := hx (22, 71) (by simp)
              have e23 : x_ 72 = (Value.int .i64 (cg : Int)) := hx (23, 72) (by simp)
              have e24 : x_ 73 = (.bool false) := hx (24, 73) (by simp)
              have e25 : x_ 74 = (.bool false) := hx (25, 74) (by simp)
              simp only [putAll, List.foldl_cons, List.foldl_nil, e0, e1, e2, e3, e4, e5, e6, e16, e17, e18, e19, e20, e21, e22, e23, e24, e25, Act.put, List.setIfInBounds_toArray, List.set_cons_succ, List.set_cons_zero]
              have B7 := Lib.hid (below_on B5.out hC)
              clear hx hC e0 e1 e2 e3 e4 e5 e6 e16 e17 e18 e19 e20 e21 e22 e23 e24 e25 KL
              go_wp2_with fail
              go_roundw
              case rel =>
                first
                  | exact ⟨p + 1, hlp, by go_num, B7.out⟩
                  | ((repeat apply Exists.intro); exact ⟨⟨p + 1, hlp, by go_num, B7.out⟩, rfl⟩)
              case measure => simp [intOf]; omega
        · obtain rfl : k = p := by omega
          have L7 := Lib.hid (L6.out.kept HB.out)
          have R7 := Lib.hid (OwnR.below R6.out HB.out)
          have H7 := Lib.hid (blk_on HB.out H6.out)
          obtain ⟨o0, o1, o2⟩ := op_cells H7.out
          clear L6 R6 H6 HB
          by_cases hkd : kd = 3
          · subst hkd
            have K8 := on_tick L7.out
            have hq1 : (overD r).length ≤ k := by
              have := HTl.out
              have := HSL.out
              omega
            obtain ⟨q, hq⟩ : ∃ q, (overD r).length = q := ⟨_, rfl⟩
            have HQ := Lib.hid hq
            rw [hq] at K8 hq1
            have KT := Lib.hid K8
            clear hq K8
            go_wp2_with fail
            refine KT.out.mono ?_
            rintro e w8 ⟨a8, c8, rfl, r8, t8, p8⟩
            have K9 := on_dues t8
            have R8 := Lib.hid (p8.row R7.out (by decide) (by decide))
            have O8 := Lib.hid r8
            obtain ⟨k2, hk2'⟩ : ∃ k2, (tickD r).length = k2 := ⟨_, rfl⟩
            have hS2L := HS2L0.out
            rw [hk2', ← HS2.out] at K9
            rw [hk2'] at hS2L
            have hsum : (q : Int) + (k2 : Int) = (k : Int) := by
              have h1 := HTl.out
              have h2 := HSL.out
              have h3 := HQ.out
              omega
            have hne : ((q : Int) + (k2 : Int) != (k : Int)) = false := by simp; omega
            have KN := Lib.hid K9
            have T8 := Lib.hid t8
            have HS2L := Lib.hid (show S2.length = k2 ∧ q + k2 = k from ⟨hS2L, by omega⟩)
            clear r8 t8 p8 K9 hk2' hS2L KT R7 L7 H7 o0 o1 o2
            go_wp2_with fail
            refine KN.out.mono ?_
            rintro e w9 ⟨a9, c9, rfl, r9, h9⟩
            have N9 := Lib.hid r9
            have R9 := Lib.hid (OwnR.below R8.out h9)
            have O9 := Lib.hid (OwnR.below O8.out h9)
            have L9 := Lib.hid (T8.out.kept h9)
            clear r9 h9 KN R8 O8 T8
            have HSum := Lib.hid hsum
            go_wp2_with fail
            go_loopw [91] (fun i wr => ∃ p : Nat, p ≤ k ∧ i = .int .i64 p ∧ Below w9.heap.size w9 wr) (fun i _ => k - (intOf i).toNat)
            case atStart => exact ⟨0, Nat.zero_le _, rfl, Below.refl _ _⟩
            case round =>
              obtain ⟨p, hp, rfl, hB⟩ := hrel
              have HB := Lib.hid hB
              clear hB
              by_cases hlp : p < k
              · have hlps : p < S.length := by rw [HSL.out]; exact hlp
                have hx1 := HS1.out p hlps
                have W9 := OwnR.below R9.out HB.out
                obtain ⟨g, hg, cs0, cs1⟩ := ownD_at W9 p hlps
                cases hg
                have hfr := HFr.out p
                have hbk := HBk.out p
                obtain ⟨ci, hci⟩ : ∃ ci, (S[p]).1 = ci := ⟨_, rfl⟩
                obtain ⟨cg, hcg⟩ : ∃ cg, (S[p]).2 = cg := ⟨_, rfl⟩
                rw [hci] at cs0
                rw [hcg] at cs1 hx1
                obtain ⟨w5, e5⟩ : ∃ w5, w5 = wr.alloc (.cells #[.int .i64 (ci : Int), .int .i64 (cg : Int)] 48) := ⟨_, rfl⟩
                obtain ⟨s5, n5, b5⟩ := new_size e5
                obtain ⟨N, hN⟩ : ∃ N, wr.heap.size = N := ⟨_, rfl⟩
                rw [hN] at n5
                have HN := Lib.hid hN
                have B5 := Lib.hid (below_on HB.out b5)
                obtain ⟨n0, n1⟩ := due_cells n5
                have g0 : 1 ≤ cg := hx1.1
                have g1 : cg < 4294967296 := hx1.2
                by_cases hpq : p < q
                · have hpo : p < (overD r).length := by rw [HQ.out]; exact hpq
                  obtain ⟨f1, f2⟩ := hfr hpo hlps
                  rw [hcg] at f1
                  rw [hci] at f2
                  obtain ⟨go, hgo, co⟩ := ownI_at (OwnR.below O9.out B5.out) p hpo
                  cases hgo
                  rw [f2] at co
                  have d1 : ((p : Int) < (q : Int)) := by omega
                  have d2 : ((cg : Int) != 1) = false := by simp; omega
                  have d3 : ((ci : Int) != (ci : Int)) = false := by simp
                  have d4 : ¬ ((q : Int) ≤ (p : Int)) := by omega
                  clear s5 n5 b5 hN hci hcg f1 f2 hpo hfr hbk hx1 W9 hlps
                  go_upto_region 26 with fail
                  rw [← e5, HN.out]
                  clear e5 cs0 cs1
                  go_quiet (fail)
                  go_wp2_with fail
                  go_roundw
                  case rel =>
                    first
                      | exact ⟨p + 1, hlp, by go_num, below_drewN B5.out nq⟩
                      | ((repeat apply Exists.intro); exact ⟨⟨p + 1, hlp, by go_num, below_drewN B5.out nq⟩, rfl⟩)
                  case measure => simp [intOf]; omega
                · have hpn : p - (overD r).length < S2.length := by have := HS2L.out.1; have := HS2L.out.2; rw [HQ.out]; omega
                  have f2 := hbk (by rw [HQ.out]; omega) hlps hpn
                  obtain ⟨gn, hgn, cn0, cn1⟩ := ownD_at (OwnR.below N9.out B5.out) (p - (overD r).length) hpn
                  cases hgn
                  rw [f2] at cn0 cn1
                  simp only [hci, hcg, HQ.out] at cn0 cn1
                  rw [show ((cg - 1 : Nat) : Int) = (cg : Int) - 1 by omega] at cn1
                  have d1 : ¬ ((p : Int) < (q : Int)) := by omega
                  have d4 : ((q : Int) ≤ (p : Int)) := by omega
                  have d5 : IntKind.i64.wrap ((p : Int) - (q : Int)) = (p : Int) - (q : Int) := by rw [IntKind.wrap_i64]; omega
                  have d6 : (0 : Int) ≤ (p : Int) - (q : Int) := by omega
                  have d7 : ((p : Int) - (q : Int)).toNat = p - q := by omega
                  have d8 : (p : Int) - (q : Int) < (k2 : Int) := by have := HS2L.out.2; omega
                  have d9 : IntKind.i64.wrap ((cg : Int) - 1) = (cg : Int) - 1 := by rw [IntKind.wrap_i64]; omega
                  have d10 := due_eqI (ci : Int) ((cg : Int) - 1)
                  clear s5 n5 b5 hN hci hcg f2 hpn hfr hbk hx1 W9 hlps
                  go_upto_region 26 with fail
                  rw [← e5, HN.out]
                  clear e5 cs0 cs1
                  go_quiet (fail)
                  go_wp2_with fail
                  go_roundw
                  case rel =>
                    first
                      | exact ⟨p + 1, hlp, by go_num, below_drewN B5.out nq⟩
                      | ((repeat apply Exists.intro); exact ⟨⟨p + 1, hlp, by go_num, below_drewN B5.out nq⟩, rfl⟩)
                  case measure => simp [intOf]; omega
              · obtain rfl : p = k := by omega
                have T9 := Lib.hid (L9.out.kept HB.out)
                go_wp2_with fail
                go_roundw
                case rel =>
                  first
                    | exact ⟨j + 1, _, hlt, by go_num, T9.out⟩
                    | ((repeat apply Exists.intro); exact ⟨⟨j + 1, _, hlt, by go_num, T9.out⟩, rfl⟩)
                case measure => simp [intOf]; omega
          · have hne : (kd != 3) = true := by simpa using hkd
            clear hkd
            go_wp2_with fail
            go_roundw
            case rel =>
              first
                | exact ⟨j + 1, _, hlt, by go_num, L7.out⟩
                | ((repeat apply Exists.intro); exact ⟨⟨j + 1, _, hlt, by go_num, L7.out⟩, rfl⟩)
            case measure => simp [intOf]; omega
    · obtain rfl : j = M := by omega
      have BF := Lib.hid (below_on B1.out T3.out.bel)
      go_wp2_with fail
      go_ret
      exact ⟨rfl, BF.out⟩

theorem walk {w : World} (ao : Option Addr) (len cap : Nat) (l : List (Int × Int × Int)) (hs : l.length = len ∧ SeenOp w ao cap l ∧ ∀ o ∈ l, (fun o => (Lit.int .i64 o.1).wf = true ∧ (Lit.int .i64 o.2.1).wf = true ∧ (Lit.int .i64 o.2.2).wf = true) o) : Calls Try.prog 6 #[.slice ao len cap] w fun e w' => e = .returned (.bool true) ∧ Below w.heap.size w w' := by
  obtain ⟨rfl, hs, hok⟩ := hs
  rcases Nat.lt_or_ge 200 l.length with h | h
  · exact walk_long ao cap l h
  · exact walk_short ao cap l hs hok h

theorem own : ownKnob Try.prog.godebug = none := by kernel_rfl
theorem laidOut : laidOutB Try.prog = true := by kernel_rfl

set_option maxRecDepth 100000 in
theorem lifted (os : Os) (started : os.Started) (H : Type) (enc : TypeId × Value → H) :
    ReturnsInHanded {} Try.checked os 6 .any (Rows.deltaRisesSpec.pre6 enc Try.prog Try.f6 Rows.deltaRisesRow.domain false) (Rows.deltaRisesSpec.post enc Try.prog Try.f6 false true false false) := by
  refine returnsInHanded_of_change_shaped (C := Try.checked) own started (by kernel_rfl) Try.func6
    (ChangeSpec.witness6 (enc := enc) (C := Try.checked) false ⟨#[], #[.slice none 0 0], []⟩ 8 (by kernel_rfl) (by kernel_rfl) (by kernel_rfl) (by kernel_rfl)) ?_
  intro W base args ds gs before hval0 hW hcnd hsz0 hsh _
  have hval : ∀ (j : Nat) t v, Try.f6.params[j]? = some t → args[j]? = some v → Value.okWide Try.prog W .any base t v := hval0
  have hsz : (DataW.weightsEach Try.prog (Try.f6.params.toList ++ Rows.deltaRisesSpec.plain.varTypes Try.prog) (ds ++ gs)).all (· ≤ reachBytes) = true := hsz0
  have hW' := hW
  obtain ⟨p, q, hA0, hV, rfl, hfz, hnd⟩ := hW
  have hA : DataW.TrodAll enc Try.prog W 0 (fun _ => true) true Try.f6.params.toList args.toList ds p := hA0
  rw [Try.params6] at hA hval hsz
  obtain ⟨v0, vs0, d0, ds0, p0, q0, hargs, rfl, rfl, h0, r0⟩ := trodAll_cons hA
  obtain ⟨rfl, rfl, rfl⟩ := trodAll_nil r0
  obtain rfl : args = #[v0] := by cases args; simp_all
  obtain ⟨rfl, rfl⟩ := trodVars_none hV
  have k0 := h0
  have lt0 : ∀ x ∈ p0, x.block < W.heap.size := by obtain ⟨m, hm⟩ := k0; exact DataW.trod_lt m _ _ _ hm
  obtain ⟨a0, len0, cap0, rfl⟩ := okWide_slice Try.underlying22 (hval 0 22 v0 rfl rfl)
  obtain ⟨z0, w0⟩ := open_ops h0
  clear hA0 hval0
  refine (walk a0 len0 cap0 z0 w0 ).mono fun e W' ⟨he, bel⟩ => ?_
  subst he
  exact ⟨_, rfl, _, _, _, [], _, [], hW', trodAll_mk1 (shut_bool Try.underlying4 _), (trodAll_cons_mk (Below.trod laidOut (by kernel_rfl) (of_decide_eq_true (by kernel_rfl)) k0 bel lt0) trodAll_mk0), rfl, bel.frame _, fun h => by cases h⟩

theorem over : Rows.deltaRisesRow.holds Try.pinned (OpenSpec.ofChange Rows.deltaRisesSpec) :=
  OpenClaim.holds_of_wide 6 Try.f6 rfl rfl rfl rfl rfl rfl rfl ⟨rfl, rfl, rfl, rfl, rfl⟩ rfl rfl rfl rfl rfl (by kernel_rfl) Try.func6 (by kernel_rfl)
    (of_decide_eq_true (by kernel_rfl)) (by unfold Func.isWrapper; first | (rw [if_pos (by decide +kernel)]; kernel_rfl) | (rw [if_neg (by decide +kernel)]; exact ⟨rfl, rfl⟩))
    (fun os started H enc _ => lifted os started H enc)

theorem proved : Rows.DeltaRisesSaid :=
  over
#print axioms proved

end Go.Proofs.Ytmgcdfndmokgnaa.deltaRises
