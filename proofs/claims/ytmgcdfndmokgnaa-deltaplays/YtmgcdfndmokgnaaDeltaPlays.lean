/-
  DeltaPlays: for every list of calls the statement's function answers true: in every order of calls the clocks run, and are over, as the document says. No condition.
-/
import Derived.Test.YtmgcdfndmokgnaaDe13
import Derived.Test.YtmgcdfndmokgnaaRel6
import Derived.ProofKit
import Derived.OpenShut
import Derived.ShutString
import Derived.HandedShaped
import Derived.BigRegion
import Derived.Deep.RegionWith
import Derived.Deep.DeepCutAuto
namespace Go.Proofs.Ytmgcdfndmokgnaa.deltaPlays
open Go Go.ChangeShapes Go.WideShapes Go.ChangeAt Go.RowKit
open Go.ChangeMaps (open_string shut_string)
set_option linter.unusedVariables false

set_option maxRecDepth 100000 in
set_option maxHeartbeats 16000000 in
theorem walk_long {w : World} (ao : Option Addr) (cap : Nat) (l : List (Int × Int × Int)) (hl : 300 < l.length) : Calls Try.prog 3 #[.slice ao l.length cap] w fun e w' => e = .returned (.bool true) ∧ Below w.heap.size w w' := by
  have HA := Lib.hid awake15_any
  have hd : decide ((300 : Int) < (l.length : Int)) = true := by simp <;> omega
  go_enter Try.func3, Try.ntmps3
  go_wp2_with fail
  refine (HA.out w).mono ?_
  rintro e w1 ⟨rfl, h⟩
  have B1 := Lib.hid h
  clear h
  go_wp2_with fail
  refine (HA.out w1).mono ?_
  rintro e w2 ⟨rfl, h⟩
  have B2 := Lib.hid (below_on B1.out h)
  clear h
  go_wp2_with fail
  go_ret
  exact ⟨rfl, B2.out⟩

set_option maxRecDepth 100000 in
set_option maxHeartbeats 16000000 in
theorem walk_short {w : World} (ao : Option Addr) (cap : Nat) (l : List (Int × Int × Int)) (hs : SeenOp w ao cap l) (hok : ∀ o ∈ l, (Lit.int .i64 o.1).wf = true ∧ (Lit.int .i64 o.2.1).wf = true ∧ (Lit.int .i64 o.2.2).wf = true) (hl : l.length ≤ 300) : Calls Try.prog 3 #[.slice ao l.length cap] w fun e w' => e = .returned (.bool true) ∧ Below w.heap.size w w' := by
  have HA := Lib.hid (awake15_any w)
  have hd : decide ((300 : Int) < (l.length : Int)) = false := by simp <;> omega
  have HS := Lib.hid hs
  clear hs hok
  obtain ⟨M, hM⟩ : ∃ M, l.length = M := ⟨_, rfl⟩
  rw [hM] at hl hd
  simp only [hM]
  have HM := Lib.hid hM
  clear hM
  go_enter Try.func3, Try.ntmps3
  go_wp2_with fail
  refine HA.out.mono ?_
  rintro e w1 ⟨rfl, h⟩
  have B1 := Lib.hid h
  clear h
  obtain ⟨w2, e2⟩ : ∃ w2, w2 = w1.alloc (.cells #[.slice none 0 0] 26) := ⟨_, rfl⟩
  obtain ⟨w3, e3⟩ : ∃ w3, w3 = w2.alloc (.cells #[.slice none 0 0] 30) := ⟨_, rfl⟩
  obtain ⟨D, hD⟩ : ∃ D, w1.heap.size = D := ⟨_, rfl⟩
  obtain ⟨E, hE⟩ : ∃ E, D + 1 = E := ⟨_, rfl⟩
  have hT3 := two_new e2 e3
  rw [hD, hE] at hT3
  have T3 := Lib.hid hT3
  have HD := Lib.hid hD
  have HE := Lib.hid hE
  clear hT3 hD hE
  go_upto_region 5 with fail
  rw [← e2, ← e3, HD.out, HE.out]
  clear e2 e3
  go_wp2_with fail
  go_loopw [21] (fun i wr => ∃ (j : Nat) (r : List Ck), j ≤ M ∧ i = .int .i64 j ∧ TwoD w1 wr D E r r) (fun i _ => M - (intOf i).toNat)
  case atStart => exact ⟨0, _, Nat.zero_le _, rfl, T3.out⟩
  case round =>
    clear T3
    obtain ⟨j, r, hj, rfl, hT3⟩ := hrel
    have T3 := Lib.hid hT3
    clear hT3
    by_cases hlt : j < M
    · obtain ⟨b0, off, rfl, hb0, c0, c1, c2⟩ := seenOp_at (SeenR.below HS.out (below_on B1.out T3.out.bel)) j (by rw [HM.out]; exact hlt)
      generalize (l[j]'(by rw [HM.out]; exact hlt)).1 = kd at *
      generalize (l[j]'(by rw [HM.out]; exact hlt)).2.1 = id at *
      generalize (l[j]'(by rw [HM.out]; exact hlt)).2.2 = t at *
      obtain ⟨w4, e4⟩ : ∃ w4, w4 = wr.alloc (.cells #[.int .i64 kd, .int .i64 id, .int .i64 t] 32) := ⟨_, rfl⟩
      obtain ⟨s4, n4, b4⟩ := new_size e4
      obtain ⟨F, hF⟩ : ∃ F, wr.heap.size = F := ⟨_, rfl⟩
      rw [hF] at n4
      have T4 := Lib.hid (T3.out.kept b4)
      have H4 := Lib.hid n4
      have HF := Lib.hid hF
      obtain ⟨o0, o1, o2⟩ := op_cells n4
      clear s4 n4 b4 hF T3
      go_upto_region 8 with fail
      rw [← e4, HF.out]
      clear e4 c0 c1 c2
      rcases (show kd = 1 ∨ kd = 2 ∨ kd = 3 ∨ (kd ≠ 1 ∧ kd ≠ 2 ∧ kd ≠ 3) from by omega) with hkd | hkd | hkd | hkd
      · subst hkd
        have KP := Lib.hid (tw_put T4.out id t)
        obtain ⟨r', hX⟩ : ∃ r', putD r id t = r' := ⟨_, rfl⟩
        rw [hX] at KP
        cases hz : putK r id t with
        | true =>
          simp only [hz, if_true] at KP
          go_wp2_with fail
          refine KP.out.mono ?_
          rintro e w5 ⟨rfl, t5, p5⟩
          have KQ := Lib.hid (tw_rput t5 id t)
          have HN5 := p5 F _ _ H4.out (by decide) (by decide) (by decide) (by decide)
          have H5 := Lib.hid HN5
          obtain ⟨x0, x1, x2⟩ := op_cells HN5
          clear t5 p5 o0 o1 o2 HN5
          rw [hz] at KQ
          go_wp2_with fail
          refine KQ.out.mono ?_
          rintro e w6 ⟨rfl, t6, p6⟩
          rw [hX] at t6
          have T6 := Lib.hid t6
          have HN6 := p6 F _ _ H5.out (by decide) (by decide) (by decide) (by decide)
          have H6 := Lib.hid HN6
          obtain ⟨y0, y1, y2⟩ := op_cells HN6
          clear t6 p6 x0 x1 x2 HN6 KP KQ hz hX
          have hk6 : r'.length ≤ 1000000 := by
            obtain ⟨v9, u9, h9, -⟩ := T6.out
            have := h9.ok.len
            omega
          have KDu := Lib.hid (fun u (hb : Below w6.heap.size w6 u) => tw_dues (T6.out.kept hb))
          have KRd := Lib.hid (fun u (hb : Below w6.heap.size w6 u) => tw_rdues (T6.out.kept hb))
          have KLf := Lib.hid (fun u (hb : Below w6.heap.size w6 u) => tw_left (T6.out.kept hb) id)
          have KRl := Lib.hid (fun u (hb : Below w6.heap.size w6 u) => tw_rleft (T6.out.kept hb) id)
          have KFr := Lib.hid (fun u (hb : Below w6.heap.size w6 u) => tw_from (T6.out.kept hb) id)
          have KRf := Lib.hid (fun u (hb : Below w6.heap.size w6 u) => tw_rfrom (T6.out.kept hb) id)
          generalize leftS r' id = lf at *
          generalize fromS r' id = fr at *
          obtain ⟨k, hk⟩ : ∃ k, r'.length = k := ⟨_, rfl⟩
          rw [hk] at hk6 KDu KRd
          clear hk
          go_upto_region 23 with fail
          refine wp_region_rel [.has (fun v u => ∃ bo bc B, v = .slice bo k bc ∧ OwnD u B (.slice bo k bc) (srt r')) (by rintro v u u' hb ⟨bo, bc, B, hv, hO⟩; exact ⟨bo, bc, B, hv, hO.below hb⟩), .is (Value.pointer (some ⟨E, 0, none⟩)), .has (fun v u => ∃ bo bc B, v = .slice bo k bc ∧ OwnD u B (.slice bo k bc) (srt r')) (by rintro v u u' hb ⟨bo, bc, B, hv, hO⟩; exact ⟨bo, bc, B, hv, hO.below hb⟩), .is (.bool true), .is (.bool false), .is (.bool false), .is (Value.pointer (some ⟨F, 1, none⟩)), .is (Value.int .i64 id), .is (.int .i64 (lf : Int)), .is (Value.pointer (some ⟨E, 0, none⟩)), .is (Value.pointer (some ⟨F, 1, none⟩)), .is (Value.int .i64 id), .is (.int .i64 (lf : Int)), .is (.bool false), .is (.bool false), .is (.bool false), .is (Value.pointer (some ⟨F, 1, none⟩)), .is (Value.int .i64 id), .is (.int .i64 (fr : Int)), .is (Value.pointer (some ⟨E, 0, none⟩)), .is (Value.pointer (some ⟨F, 1, none⟩)), .is (Value.int .i64 id), .is (.int .i64 (fr : Int)), .is (.bool false), .is (.bool false)]
            (fun u => Below w6.heap.size w6 u) [(0, 76), (1, 77), (2, 78), (3, 79), (4, 80), (5, 81), (6, 82), (7, 83), (8, 84), (9, 85), (10, 86), (11, 87), (12, 88), (13, 89), (14, 90), (15, 91), (16, 92), (17, 93), (18, 94), (19, 95), (20, 96), (21, 97), (22, 98), (23, 99), (24, 100)] 25 (by kernel_rfl) (by kernel_rfl) (by kernel_rfl) (by kernel_rfl) ?hC ?hs ?hf
          case hC => exact below_drew (Below.refl _ _)
          case hs =>
            refine stepsOk_succ ?s24 (stepsOk_succ ?s23 (stepsOk_succ ?s22 (stepsOk_succ ?s21 (stepsOk_succ ?s20 (stepsOk_succ ?s19 (stepsOk_succ ?s18 (stepsOk_succ ?s17 (stepsOk_succ ?s16 (stepsOk_succ ?s15 (stepsOk_succ ?s14 (stepsOk_succ ?s13 (stepsOk_succ ?s12 (stepsOk_succ ?s11 (stepsOk_succ ?s10 (stepsOk_succ ?s9 (stepsOk_succ ?s8 (stepsOk_succ ?s7 (stepsOk_succ ?s6 (stepsOk_succ ?s5 (stepsOk_succ ?s4 (stepsOk_succ ?s3 (stepsOk_succ ?s2 (stepsOk_succ ?s1 (stepsOk_succ ?s0 (stepsOk_zero)))))))))))))))))))))))))
            case s0 =>
              refine stepOk0 rfl (by kernel_rfl) ?_
              rintro w' hC
              intro K hK
              go_simp
              refine (KDu.out w' hC).mono ?_
              rintro e w2 ⟨bo, bc, rfl, hO, hb⟩
              exact hK _ _ rfl ⟨⟨bo, bc, _, rfl, hO⟩, below_on hC hb, hb⟩
            case s1 =>
              refine stepOk0 rfl (by kernel_rfl) ?_
              rintro w' hC
              intro K hK
              go_simp
              exact hK _ _ rfl ⟨rfl, hC, Below.refl _ _⟩
            case s2 =>
              refine stepOk1 1 77 rfl (by kernel_rfl) ?_
              rintro w' hC v1 rfl
              intro K hK
              go_simp
              refine (KRd.out w' hC).mono ?_
              rintro e w2 ⟨bo, bc, rfl, hO, hb⟩
              exact hK _ _ rfl ⟨⟨bo, bc, _, rfl, hO⟩, below_on hC hb, hb⟩
            case s3 =>
              refine stepOk2 0 76 2 78 rfl (by kernel_rfl) ?_
              rintro w' hC v1 v2 ⟨bo, bc, B, rfl, hO⟩ ⟨bo1, bc1, B1, rfl, hO1⟩
              intro K hK
              have KS := same_own hO hO1 hk6
              rw [show decide (srt r' = srt r') = true from by simp] at KS
              go_simp
              refine KS.mono ?_
              rintro e w2 ⟨rfl, q, rfl⟩
              exact hK _ _ rfl ⟨rfl, below_drewN hC q, below_drewN (Below.refl _ _) q⟩
            case s4 =>
              refine stepOk1 3 79 rfl (by kernel_rfl) ?_
              rintro w' hC v1 rfl
              intro K hK
              go_simp
              exact hK _ _ rfl ⟨rfl, hC, Below.refl _ _⟩
            case s5 =>
              refine stepOk1 4 80 rfl (by kernel_rfl) ?_
              rintro w' hC v1 rfl
              intro K hK
              go_simp
              exact hK _ _ rfl ⟨rfl, hC, Below.refl _ _⟩
            case s6 =>
              refine stepOk1 5 81 rfl (by kernel_rfl) ?_
              rintro w' hC v1 rfl
              intro K hK
              go_simp
              exact hK _ _ rfl ⟨rfl, hC, Below.refl _ _⟩
            case s7 =>
              refine stepOk2 5 81 6 82 rfl (by kernel_rfl) ?_
              rintro w' hC v1 v2 rfl rfl
              intro K hK
              obtain ⟨x0, x1, x2⟩ := op_cells (blk_on hC H6.out)
              go_simp
              exact hK _ _ rfl ⟨rfl, hC, Below.refl _ _⟩
            case s8 =>
              refine stepOk2 5 81 7 83 rfl (by kernel_rfl) ?_
              rintro w' hC v1 v2 rfl rfl
              intro K hK
              go_simp
              refine (KLf.out w' hC).mono ?_
              rintro e w2 ⟨rfl, hb⟩
              exact hK _ _ rfl ⟨rfl, below_on hC hb, hb⟩
            case s9 =>
              refine stepOk1 5 81 rfl (by kernel_rfl) ?_
              rintro w' hC v1 rfl
              intro K hK
              go_simp
              exact hK _ _ rfl ⟨rfl, hC, Below.refl _ _⟩
            case s10 =>
              refine stepOk1 5 81 rfl (by kernel_rfl) ?_
              rintro w' hC v1 rfl
              intro K hK
              go_simp
              exact hK _ _ rfl ⟨rfl, hC, Below.refl _ _⟩
            case s11 =>
              refine stepOk2 5 81 10 86 rfl (by kernel_rfl) ?_
              rintro w' hC v1 v2 rfl rfl
              intro K hK
              obtain ⟨x0, x1, x2⟩ := op_cells (blk_on hC H6.out)
              go_simp
              exact hK _ _ rfl ⟨rfl, hC, Below.refl _ _⟩
            case s12 =>
              refine stepOk3 5 81 9 85 11 87 rfl (by kernel_rfl) ?_
              rintro w' hC v1 v2 v3 rfl rfl rfl
              intro K hK
              go_simp
              refine (KRl.out w' hC).mono ?_
              rintro e w2 ⟨rfl, rfl⟩
              exact hK _ _ rfl ⟨rfl, hC, Below.refl _ _⟩
            case s13 =>
              refine stepOk3 5 81 8 84 12 88 rfl (by kernel_rfl) ?_
              rintro w' hC v1 v2 v3 rfl rfl rfl
              intro K hK
              go_simp
              exact hK _ _ rfl ⟨rfl, hC, Below.refl _ _⟩
            case s14 =>
              refine stepOk2 5 81 13 89 rfl (by kernel_rfl) ?_
              rintro w' hC v1 v2 rfl rfl
              intro K hK
              go_simp
              exact hK _ _ rfl ⟨rfl, hC, Below.refl _ _⟩
            case s15 =>
              refine stepOk1 14 90 rfl (by kernel_rfl) ?_
              rintro w' hC v1 rfl
              intro K hK
              go_simp
              exact hK _ _ rfl ⟨rfl, hC, Below.refl _ _⟩
            case s16 =>
              refine stepOk1 15 91 rfl (by kernel_rfl) ?_
              rintro w' hC v1 rfl
              intro K hK
              go_simp
              exact hK _ _ rfl ⟨rfl, hC, Below.refl _ _⟩
            case s17 =>
              refine stepOk2 15 91 16 92 rfl (by kernel_rfl) ?_
              rintro w' hC v1 v2 rfl rfl
              intro K hK
              obtain ⟨x0, x1, x2⟩ := op_cells (blk_on hC H6.out)
              go_simp
              exact hK _ _ rfl ⟨rfl, hC, Below.refl _ _⟩
            case s18 =>
              refine stepOk2 15 91 17 93 rfl (by kernel_rfl) ?_
              rintro w' hC v1 v2 rfl rfl
              intro K hK
              go_simp
              refine (KFr.out w' hC).mono ?_
              rintro e w2 ⟨rfl, hb⟩
              exact hK _ _ rfl ⟨rfl, below_on hC hb, hb⟩
            case s19 =>
              refine stepOk1 15 91 rfl (by kernel_rfl) ?_
              rintro w' hC v1 rfl
              intro K hK
              go_simp
              exact hK _ _ rfl ⟨rfl, hC, Below.refl _ _⟩
            case s20 =>
              refine stepOk1 15 91 rfl (by kernel_rfl) ?_
              rintro w' hC v1 rfl
              intro K hK
              go_simp
              exact hK _ _ rfl ⟨rfl, hC, Below.refl _ _⟩
            case s21 =>
              refine stepOk2 15 91 20 96 rfl (by kernel_rfl) ?_
              rintro w' hC v1 v2 rfl rfl
              intro K hK
              obtain ⟨x0, x1, x2⟩ := op_cells (blk_on hC H6.out)
              go_simp
              exact hK _ _ rfl ⟨rfl, hC, Below.refl _ _⟩
            case s22 =>
              refine stepOk3 15 91 19 95 21 97 rfl (by kernel_rfl) ?_
              rintro w' hC v1 v2 v3 rfl rfl rfl
              intro K hK
              go_simp
              refine (KRf.out w' hC).mono ?_
              rintro e w2 ⟨rfl, rfl⟩
              exact hK _ _ rfl ⟨rfl, hC, Below.refl _ _⟩
            case s23 =>
              refine stepOk3 15 91 18 94 22 98 rfl (by kernel_rfl) ?_
              rintro w' hC v1 v2 v3 rfl rfl rfl
              intro K hK
              go_simp
              exact hK _ _ rfl ⟨rfl, hC, Below.refl _ _⟩
            case s24 =>
              refine stepOk2 15 91 23 99 rfl (by kernel_rfl) ?_
              rintro w' hC v1 v2 rfl rfl
              intro K hK
              go_simp
              exact hK _ _ rfl ⟨rfl, hC, Below.refl _ _⟩
          case hf =>
            intro w7 hC x_ hx
            obtain ⟨bo0, bc0, B0, e0, -⟩ : ∃ bo bc B, x_ 76 = .slice bo k bc ∧ OwnD w7 B (.slice bo k bc) (srt r') := hx (0, 76) (by simp)
            have e1 : x_ 77 = (Value.pointer (some ⟨E, 0, none⟩)) := hx (1, 77) (by simp)
            obtain ⟨bo2, bc2, B2, e2, -⟩ : ∃ bo bc B, x_ 78 = .slice bo k bc ∧ OwnD w7 B (.slice bo k bc) (srt r') := hx (2, 78) (by simp)
            have e3 : x_ 79 = (.bool true) := hx (3, 79) (by simp)
            have e4 : x_ 80 = (.bool false) := hx (4, 80) (by simp)
            have e5 : x_ 81 = (.bool false) := hx (5, 81) (by simp)
            have e6 : x_ 82 = (Value.pointer (some ⟨F, 1, none⟩)) := hx (6, 82) (by simp)
            have e7 : x_ 83 = (Value.int .i64 id) := hx (7, 83) (by simp)
            have e8 : x_ 84 = (.int .i64 (lf : Int)) := hx (8, 84) (by simp)
            have e9 : x_ 85 = (Value.pointer (some ⟨E, 0, none⟩)) := hx (9, 85) (by simp)
            have e10 : x_ 86 = (Value.pointer (some ⟨F, 1, none⟩)) := hx (10, 86) (by simp)
            have e11 : x_ 87 = (Value.int .i64 id) := hx (11, 87) (by simp)
            have e12 : x_ 88 = (.int .i64 (lf : Int)) := hx (12, 88) (by simp)
            have e13 : x_ 89 = (.bool false) := hx (13, 89) (by simp)
            have e14 : x_ 90 = (.bool false) := hx (14, 90) (by simp)
            have e15 : x_ 91 = (.bool false) := hx (15, 91) (by simp)
            have e16 : x_ 92 = (Value.pointer (some ⟨F, 1, none⟩)) := hx (16, 92) (by simp)
            have e17 : x_ 93 = (Value.int .i64 id) := hx (17, 93) (by simp)
            have e18 : x_ 94 = (.int .i64 (fr : Int)) := hx (18, 94) (by simp)
            have e19 : x_ 95 = (Value.pointer (some ⟨E, 0, none⟩)) := hx (19, 95) (by simp)
            have e20 : x_ 96 = (Value.pointer (some ⟨F, 1, none⟩)) := hx (20, 96) (by simp)
            have e21 : x_ 97 = (Value.int .i64 id) := hx (21, 97) (by simp)
            have e22 : x_ 98 = (.int .i64 (fr : Int)) := hx (22, 98) (by simp)
            have e23 : x_ 99 = (.bool false) := hx (23, 99) (by simp)
            have e24 : x_ 100 = (.bool false) := hx (24, 100) (by simp)
            simp only [putAll, List.foldl_cons, List.foldl_nil, e0, e1, e2, e3, e4, e5, e6, e7, e8, e9, e10, e11, e12, e13, e14, e15, e16, e17, e18, e19, e20, e21, e22, e23, e24, Act.put, List.setIfInBounds_toArray, List.set_cons_succ, List.set_cons_zero]
            have T7 := Lib.hid (T6.out.kept hC)
            clear hx hC e0 e1 e2 e3 e4 e5 e6 e7 e8 e9 e10 e11 e12 e13 e14 e15 e16 e17 e18 e19 e20 e21 e22 e23 e24 KDu KRd KLf KRl KFr KRf
            go_wp2_with fail
            go_roundw
            case rel =>
              first
                | exact ⟨j + 1, r', hlt, by go_num, T7.out⟩
                | ((repeat apply Exists.intro); exact ⟨⟨j + 1, r', hlt, by go_num, T7.out⟩, rfl⟩)
            case measure => simp [intOf]; omega
        | false =>
          simp only [hz, Bool.false_eq_true, if_false] at KP
          go_wp2_with fail
          refine KP.out.mono ?_
          rintro e w5 ⟨rfl, t5, p5⟩
          have KQ := Lib.hid (tw_rput t5 id t)
          have HN5 := p5 F _ _ H4.out (by decide) (by decide) (by decide) (by decide)
          have H5 := Lib.hid HN5
          obtain ⟨x0, x1, x2⟩ := op_cells HN5
          clear t5 p5 o0 o1 o2 HN5
          rw [hz] at KQ
          go_wp2_with fail
          refine KQ.out.mono ?_
          rintro e w6 ⟨rfl, t6, p6⟩
          rw [hX] at t6
          have T6 := Lib.hid t6
          have HN6 := p6 F _ _ H5.out (by decide) (by decide) (by decide) (by decide)
          have H6 := Lib.hid HN6
          obtain ⟨y0, y1, y2⟩ := op_cells HN6
          clear t6 p6 x0 x1 x2 HN6 KP KQ hz hX
          have hk6 : r'.length ≤ 1000000 := by
            obtain ⟨v9, u9, h9, -⟩ := T6.out
            have := h9.ok.len
            omega
          have KDu := Lib.hid (fun u (hb : Below w6.heap.size w6 u) => tw_dues (T6.out.kept hb))
          have KRd := Lib.hid (fun u (hb : Below w6.heap.size w6 u) => tw_rdues (T6.out.kept hb))
          have KLf := Lib.hid (fun u (hb : Below w6.heap.size w6 u) => tw_left (T6.out.kept hb) id)
          have KRl := Lib.hid (fun u (hb : Below w6.heap.size w6 u) => tw_rleft (T6.out.kept hb) id)
          have KFr := Lib.hid (fun u (hb : Below w6.heap.size w6 u) => tw_from (T6.out.kept hb) id)
          have KRf := Lib.hid (fun u (hb : Below w6.heap.size w6 u) => tw_rfrom (T6.out.kept hb) id)
          generalize leftS r' id = lf at *
          generalize fromS r' id = fr at *
          obtain ⟨k, hk⟩ : ∃ k, r'.length = k := ⟨_, rfl⟩
          rw [hk] at hk6 KDu KRd
          clear hk
          go_upto_region 23 with fail
          refine wp_region_rel [.has (fun v u => ∃ bo bc B, v = .slice bo k bc ∧ OwnD u B (.slice bo k bc) (srt r')) (by rintro v u u' hb ⟨bo, bc, B, hv, hO⟩; exact ⟨bo, bc, B, hv, hO.below hb⟩), .is (Value.pointer (some ⟨E, 0, none⟩)), .has (fun v u => ∃ bo bc B, v = .slice bo k bc ∧ OwnD u B (.slice bo k bc) (srt r')) (by rintro v u u' hb ⟨bo, bc, B, hv, hO⟩; exact ⟨bo, bc, B, hv, hO.below hb⟩), .is (.bool true), .is (.bool false), .is (.bool false), .is (Value.pointer (some ⟨F, 1, none⟩)), .is (Value.int .i64 id), .is (.int .i64 (lf : Int)), .is (Value.pointer (some ⟨E, 0, none⟩)), .is (Value.pointer (some ⟨F, 1, none⟩)), .is (Value.int .i64 id), .is (.int .i64 (lf : Int)), .is (.bool false), .is (.bool false), .is (.bool false), .is (Value.pointer (some ⟨F, 1, none⟩)), .is (Value.int .i64 id), .is (.int .i64 (fr : Int)), .is (Value.pointer (some ⟨E, 0, none⟩)), .is (Value.pointer (some ⟨F, 1, none⟩)), .is (Value.int .i64 id), .is (.int .i64 (fr : Int)), .is (.bool false), .is (.bool false)]
            (fun u => Below w6.heap.size w6 u) [(0, 76), (1, 77), (2, 78), (3, 79), (4, 80), (5, 81), (6, 82), (7, 83), (8, 84), (9, 85), (10, 86), (11, 87), (12, 88), (13, 89), (14, 90), (15, 91), (16, 92), (17, 93), (18, 94), (19, 95), (20, 96), (21, 97), (22, 98), (23, 99), (24, 100)] 25 (by kernel_rfl) (by kernel_rfl) (by kernel_rfl) (by kernel_rfl) ?hC ?hs ?hf
          case hC => exact below_drew (Below.refl _ _)
          case hs =>
            refine stepsOk_succ ?s24 (stepsOk_succ ?s23 (stepsOk_succ ?s22 (stepsOk_succ ?s21 (stepsOk_succ ?s20 (stepsOk_succ ?s19 (stepsOk_succ ?s18 (stepsOk_succ ?s17 (stepsOk_succ ?s16 (stepsOk_succ ?s15 (stepsOk_succ ?s14 (stepsOk_succ ?s13 (stepsOk_succ ?s12 (stepsOk_succ ?s11 (stepsOk_succ ?s10 (stepsOk_succ ?s9 (stepsOk_succ ?s8 (stepsOk_succ ?s7 (stepsOk_succ ?s6 (stepsOk_succ ?s5 (stepsOk_succ ?s4 (stepsOk_succ ?s3 (stepsOk_succ ?s2 (stepsOk_succ ?s1 (stepsOk_succ ?s0 (stepsOk_zero)))))))))))))))))))))))))
            case s0 =>
              refine stepOk0 rfl (by kernel_rfl) ?_
              rintro w' hC
              intro K hK
              go_simp
              refine (KDu.out w' hC).mono ?_
              rintro e w2 ⟨bo, bc, rfl, hO, hb⟩
              exact hK _ _ rfl ⟨⟨bo, bc, _, rfl, hO⟩, below_on hC hb, hb⟩
            case s1 =>
              refine stepOk0 rfl (by kernel_rfl) ?_
              rintro w' hC
              intro K hK
              go_simp
              exact hK _ _ rfl ⟨rfl, hC, Below.refl _ _⟩
            case s2 =>
              refine stepOk1 1 77 rfl (by kernel_rfl) ?_
              rintro w' hC v1 rfl
              intro K hK
              go_simp
              refine (KRd.out w' hC).mono ?_
              rintro e w2 ⟨bo, bc, rfl, hO, hb⟩
              exact hK _ _ rfl ⟨⟨bo, bc, _, rfl, hO⟩, below_on hC hb, hb⟩
            case s3 =>
              refine stepOk2 0 76 2 78 rfl (by kernel_rfl) ?_
              rintro w' hC v1 v2 ⟨bo, bc, B, rfl, hO⟩ ⟨bo1, bc1, B1, rfl, hO1⟩
              intro K hK
              have KS := same_own hO hO1 hk6
              rw [show decide (srt r' = srt r') = true from by simp] at KS
              go_simp
              refine KS.mono ?_
              rintro e w2 ⟨rfl, q, rfl⟩
              exact hK _ _ rfl ⟨rfl, below_drewN hC q, below_drewN (Below.refl _ _) q⟩
            case s4 =>
              refine stepOk1 3 79 rfl (by kernel_rfl) ?_
              rintro w' hC v1 rfl
              intro K hK
              go_simp
              exact hK _ _ rfl ⟨rfl, hC, Below.refl _ _⟩
            case s5 =>
              refine stepOk1 4 80 rfl (by kernel_rfl) ?_
              rintro w' hC v1 rfl
              intro K hK
              go_simp
              exact hK _ _ rfl ⟨rfl, hC, Below.refl _ _⟩
            case s6 =>
              refine stepOk1 5 81 rfl (by kernel_rfl) ?_
              rintro w' hC v1 rfl
              intro K hK
              go_simp
              exact hK _ _ rfl ⟨rfl, hC, Below.refl _ _⟩
            case s7 =>
              refine stepOk2 5 81 6 82 rfl (by kernel_rfl) ?_
              rintro w' hC v1 v2 rfl rfl
              intro K hK
              obtain ⟨x0, x1, x2⟩ := op_cells (blk_on hC H6.out)
              go_simp
              exact hK _ _ rfl ⟨rfl, hC, Below.refl _ _⟩
            case s8 =>
              refine stepOk2 5 81 7 83 rfl (by kernel_rfl) ?_
              rintro w' hC v1 v2 rfl rfl
              intro K hK
              go_simp
              refine (KLf.out w' hC).mono ?_
              rintro e w2 ⟨rfl, hb⟩
              exact hK _ _ rfl ⟨rfl, below_on hC hb, hb⟩
            case s9 =>
              refine stepOk1 5 81 rfl (by kernel_rfl) ?_
              rintro w' hC v1 rfl
              intro K hK
              go_simp
              exact hK _ _ rfl ⟨rfl, hC, Below.refl _ _⟩
            case s10 =>
              refine stepOk1 5 81 rfl (by kernel_rfl) ?_
              rintro w' hC v1 rfl
              intro K hK
              go_simp
              exact hK _ _ rfl ⟨rfl, hC, Below.refl _ _⟩
            case s11 =>
              refine stepOk2 5 81 10 86 rfl (by kernel_rfl) ?_
              rintro w' hC v1 v2 rfl rfl
              intro K hK
              obtain ⟨x0, x1, x2⟩ := op_cells (blk_on hC H6.out)
              go_simp
              exact hK _ _ rfl ⟨rfl, hC, Below.refl _ _⟩
            case s12 =>
              refine stepOk3 5 81 9 85 11 87 rfl (by kernel_rfl) ?_
              rintro w' hC v1 v2 v3 rfl rfl rfl
              intro K hK
              go_simp
              refine (KRl.out w' hC).mono ?_
              rintro e w2 ⟨rfl, rfl⟩
              exact hK _ _ rfl ⟨rfl, hC, Below.refl _ _⟩
            case s13 =>
              refine stepOk3 5 81 8 84 12 88 rfl (by kernel_rfl) ?_
              rintro w' hC v1 v2 v3 rfl rfl rfl
              intro K hK
              go_simp
              exact hK _ _ rfl ⟨rfl, hC, Below.refl _ _⟩
            case s14 =>
              refine stepOk2 5 81 13 89 rfl (by kernel_rfl) ?_
              rintro w' hC v1 v2 rfl rfl
              intro K hK
              go_simp
              exact hK _ _ rfl ⟨rfl, hC, Below.refl _ _⟩
            case s15 =>
              refine stepOk1 14 90 rfl (by kernel_rfl) ?_
              rintro w' hC v1 rfl
              intro K hK
              go_simp
              exact hK _ _ rfl ⟨rfl, hC, Below.refl _ _⟩
            case s16 =>
              refine stepOk1 15 91 rfl (by kernel_rfl) ?_
              rintro w' hC v1 rfl
              intro K hK
              go_simp
              exact hK _ _ rfl ⟨rfl, hC, Below.refl _ _⟩
            case s17 =>
              refine stepOk2 15 91 16 92 rfl (by kernel_rfl) ?_
              rintro w' hC v1 v2 rfl rfl
              intro K hK
              obtain ⟨x0, x1, x2⟩ := op_cells (blk_on hC H6.out)
              go_simp
              exact hK _ _ rfl ⟨rfl, hC, Below.refl _ _⟩
            case s18 =>
              refine stepOk2 15 91 17 93 rfl (by kernel_rfl) ?_
              rintro w' hC v1 v2 rfl rfl
              intro K hK
              go_simp
              refine (KFr.out w' hC).mono ?_
              rintro e w2 ⟨rfl, hb⟩
              exact hK _ _ rfl ⟨rfl, below_on hC hb, hb⟩
            case s19 =>
              refine stepOk1 15 91 rfl (by kernel_rfl) ?_
              rintro w' hC v1 rfl
              intro K hK
              go_simp
              exact hK _ _ rfl ⟨rfl, hC, Below.refl _ _⟩
            case s20 =>
              refine stepOk1 15 91 rfl (by kernel_rfl) ?_
              rintro w' hC v1 rfl
              intro K hK
              go_simp
              exact hK _ _ rfl ⟨rfl, hC, Below.refl _ _⟩
            case s21 =>
              refine stepOk2 15 91 20 96 rfl (by kernel_rfl) ?_
              rintro w' hC v1 v2 rfl rfl
              intro K hK
              obtain ⟨x0, x1, x2⟩ := op_cells (blk_on hC H6.out)
              go_simp
              exact hK _ _ rfl ⟨rfl, hC, Below.refl _ _⟩
            case s22 =>
              refine stepOk3 15 91 19 95 21 97 rfl (by kernel_rfl) ?_
              rintro w' hC v1 v2 v3 rfl rfl rfl
              intro K hK
              go_simp
              refine (KRf.out w' hC).mono ?_
              rintro e w2 ⟨rfl, rfl⟩
              exact hK _ _ rfl ⟨rfl, hC, Below.refl _ _⟩
            case s23 =>
              refine stepOk3 15 91 18 94 22 98 rfl (by kernel_rfl) ?_
              rintro w' hC v1 v2 v3 rfl rfl rfl
              intro K hK
              go_simp
              exact hK _ _ rfl ⟨rfl, hC, Below.refl _ _⟩
            case s24 =>
              refine stepOk2 15 91 23 99 rfl (by kernel_rfl) ?_
              rintro w' hC v1 v2 rfl rfl
              intro K hK
              go_simp
              exact hK _ _ rfl ⟨rfl, hC, Below.refl _ _⟩
          case hf =>
            intro w7 hC x_ hx
            obtain ⟨bo0, bc0, B0, e0, -⟩ : ∃ bo bc B, x_ 76 = .slice bo k bc ∧ OwnD w7 B (.slice bo k bc) (srt r') := hx (0, 76) (by simp)
            have e1 : x_ 77 = (Value.pointer (some ⟨E, 0, none⟩)) := hx (1, 77) (by simp)
            obtain ⟨bo2, bc2, B2, e2, -⟩ : ∃ bo bc B, x_ 78 = .slice bo k bc ∧ OwnD w7 B (.slice bo k bc) (srt r') := hx (2, 78) (by simp)
            have e3 : x_ 79 = (.bool true) := hx (3, 79) (by simp)
            have e4 : x_ 80 = (.bool false) := hx (4, 80) (by simp)
            have e5 : x_ 81 = (.bool false) := hx (5, 81) (by simp)
            have e6 : x_ 82 = (Value.pointer (some ⟨F, 1, none⟩)) := hx (6, 82) (by simp)
            have e7 : x_ 83 = (Value.int .i64 id) := hx (7, 83) (by simp)
            have e8 : x_ 84 = (.int .i64 (lf : Int)) := hx (8, 84) (by simp)
            have e9 : x_ 85 = (Value.pointer (some ⟨E, 0, none⟩)) := hx (9, 85) (by simp)
            have e10 : x_ 86 = (Value.pointer (some ⟨F, 1, none⟩)) := hx (10, 86) (by simp)
            have e11 : x_ 87 = (Value.int .i64 id) := hx (11, 87) (by simp)
            have e12 : x_ 88 = (.int .i64 (lf : Int)) := hx (12, 88) (by simp)
            have e13 : x_ 89 = (.bool false) := hx (13, 89) (by simp)
            have e14 : x_ 90 = (.bool false) := hx (14, 90) (by simp)
            have e15 : x_ 91 = (.bool false) := hx (15, 91) (by simp)
            have e16 : x_ 92 = (Value.pointer (some ⟨F, 1, none⟩)) := hx (16, 92) (by simp)
            have e17 : x_ 93 = (Value.int .i64 id) := hx (17, 93) (by simp)
            have e18 : x_ 94 = (.int .i64 (fr : Int)) := hx (18, 94) (by simp)
            have e19 : x_ 95 = (Value.pointer (some ⟨E, 0, none⟩)) := hx (19, 95) (by simp)
            have e20 : x_ 96 = (Value.pointer (some ⟨F, 1, none⟩)) := hx (20, 96) (by simp)
            have e21 : x_ 97 = (Value.int .i64 id) := hx (21, 97) (by simp)
            have e22 : x_ 98 = (.int .i64 (fr : Int)) := hx (22, 98) (by simp)
            have e23 : x_ 99 = (.bool false) := hx (23, 99) (by simp)
            have e24 : x_ 100 = (.bool false) := hx (24, 100) (by simp)
            simp only [putAll, List.foldl_cons, List.foldl_nil, e0, e1, e2, e3, e4, e5, e6, e7, e8, e9, e10, e11, e12, e13, e14, e15, e16, e17, e18, e19, e20, e21, e22, e23, e24, Act.put, List.setIfInBounds_toArray, List.set_cons_succ, List.set_cons_zero]
            have T7 := Lib.hid (T6.out.kept hC)
            clear hx hC e0 e1 e2 e3 e4 e5 e6 e7 e8 e9 e10 e11 e12 e13 e14 e15 e16 e17 e18 e19 e20 e21 e22 e23 e24 KDu KRd KLf KRl KFr KRf
            go_wp2_with fail
            go_roundw
            case rel =>
              first
                | exact ⟨j + 1, r', hlt, by go_num, T7.out⟩
                | ((repeat apply Exists.intro); exact ⟨⟨j + 1, r', hlt, by go_num, T7.out⟩, rfl⟩)
            case measure => simp [intOf]; omega
      · subst hkd
        have KC : ∀ u, (∃ a' b', TwoD w1 u D E a' b' ∧ u.heap[F]? = some (.cells #[.int .i64 2, .int .i64 id, .int .i64 t] 32 (0, 0))) → Calls Try.prog 11 #[.pointer (some ⟨D, 0, none⟩), .int .i64 id] u fun e w5 => ∃ q, e = .returned (.bool q) ∧ (∃ a' b', TwoD w1 w5 D E a' b' ∧ w5.heap[F]? = some (.cells #[.int .i64 2, .int .i64 id, .int .i64 t] 32 (0, 0))) ∧ (TwoD w1 u D E r r → q = runsK r id ∧ TwoD w1 w5 D E (offD r id) r) := by
          rintro u ⟨a', b', hu, hn⟩
          by_cases h0 : TwoD w1 u D E r r
          · exact (tw_cancel h0 id).mono fun e w5 ⟨h1, h2, h3⟩ => ⟨_, h1, ⟨_, _, h2, h3 F _ _ hn (by decide) (by decide) (by decide) (by decide)⟩, fun _ => ⟨rfl, h2⟩⟩
          · exact (tw_cancel hu id).mono fun e w5 ⟨h1, h2, h3⟩ => ⟨_, h1, ⟨_, _, h2, h3 F _ _ hn (by decide) (by decide) (by decide) (by decide)⟩, fun h => absurd h h0⟩
        have KD : ∀ u, (∃ a' b', TwoD w1 u D E a' b' ∧ u.heap[F]? = some (.cells #[.int .i64 2, .int .i64 id, .int .i64 t] 32 (0, 0))) → Calls Try.prog 12 #[.pointer (some ⟨E, 0, none⟩), .int .i64 id] u fun e w6 => ∃ q, e = .returned (.bool q) ∧ (∃ a' b', TwoD w1 w6 D E a' b' ∧ w6.heap[F]? = some (.cells #[.int .i64 2, .int .i64 id, .int .i64 t] 32 (0, 0))) ∧ (TwoD w1 u D E (offD r id) r → q = runsK r id ∧ TwoD w1 w6 D E (offD r id) (offD r id)) := by
          rintro u ⟨a', b', hu, hn⟩
          by_cases h0 : TwoD w1 u D E (offD r id) r
          · exact (tw_rcancel h0 id).mono fun e w6 ⟨h1, h2, h3⟩ => ⟨_, h1, ⟨_, _, h2, h3 F _ _ hn (by decide) (by decide) (by decide) (by decide)⟩, fun _ => ⟨rfl, h2⟩⟩
          · exact (tw_rcancel hu id).mono fun e w6 ⟨h1, h2, h3⟩ => ⟨_, h1, ⟨_, _, h2, h3 F _ _ hn (by decide) (by decide) (by decide) (by decide)⟩, fun h => absurd h h0⟩
        have HKC := Lib.hid KC
        have HKD := Lib.hid KD
        clear KC KD
        generalize offD r id = r' at *
        generalize runsK r id = z at *
        go_upto_region 15 with fail
        go_cut [61] (fun c wx => c = .bool false ∧ TwoD w1 wx D E r' r' ∧ wx.heap[F]? = some (.cells #[.int .i64 2, .int .i64 id, .int .i64 t] 32 (0, 0)))
        case first =>
          refine wp_region_inv [fun v _ => v = Value.pointer (some ⟨F, 1, none⟩), fun v _ => v = Value.int .i64 id, fun v _ => ∃ q, v = .bool q, fun v _ => v = Value.pointer (some ⟨E, 0, none⟩), fun v _ => v = Value.pointer (some ⟨F, 1, none⟩), fun v _ => v = Value.int .i64 id, fun v _ => ∃ q, v = .bool q, fun v _ => ∃ q, v = .bool q]
            (fun u => ∃ a' b', TwoD w1 u D E a' b' ∧ u.heap[F]? = some (.cells #[.int .i64 2, .int .i64 id, .int .i64 t] 32 (0, 0))) (fun _ _ => True) (fun _ _ _ => True) (fun l sv u => TwoC (fun u => TwoD w1 u D E r r) (fun u => TwoD w1 u D E r' r) (fun u => TwoD w1 u D E r' r') z 2 6 7 56 60 61 l sv u) [(0, 54), (1, 55), (2, 56), (3, 57), (4, 58), (5, 59), (6, 60), (7, 61)] 8 (by kernel_rfl) (by kernel_rfl) (by kernel_rfl) (by kernel_rfl) ?hC ?hI ?hR ?hF ?hloc ?hs ?hf
          case hC => exact ⟨r, r, T4.out.drewN 1, H4.out⟩
          case hI => exact TwoC.start _ _ (T4.out.drewN 1)
          case hR =>
            intro i v w1' w2' _ _ h
            match i, h with
            | 0, h => exact h
            | 1, h => exact h
            | 2, h => exact h
            | 3, h => exact h
            | 4, h => exact h
            | 5, h => exact h
            | 6, h => exact h
            | 7, h => exact h
            | _ + 8, h => exact h
          case hF => exact fun _ _ _ _ _ _ _ => trivial
          case hloc => exact fun _ _ _ _ _ _ _ _ => trivial
          case hs =>
            refine stepsI_succ ?s7 (stepsI_succ ?s6 (stepsI_succ ?s5 (stepsI_succ ?s4 (stepsI_succ ?s3 (stepsI_succ ?s2 (stepsI_succ ?s1 (stepsI_succ ?s0 (stepsI_zero))))))))
            case s0 =>
              refine stepI0 rfl (by kernel_rfl) ?_
              rintro w' hC sv
              intro K hK
              go_simp
              exact hK _ _ rfl ⟨rfl, hC, trivial, trivial, fun l hl hn hdn hde hi => hl.pure 0 54 _ (by rw [hn]; decide) (by decide) (by decide)⟩
            case s1 =>
              refine stepI1 0 54 rfl (by kernel_rfl) ?_
              rintro w' hC sv v1 - rfl
              intro K hK
              have hC9 := hC
              obtain ⟨_, _, _, hn9⟩ := hC9
              obtain ⟨x0, x1, x2⟩ := op_cells hn9
              go_simp
              exact hK _ _ rfl ⟨rfl, hC, trivial, trivial, fun l hl hn hdn hde hi => hl.pure 1 55 _ (by rw [hn]; decide) (by decide) (by decide)⟩
            case s2 =>
              refine stepI1 1 55 rfl (by kernel_rfl) ?_
              rintro w' hC sv v1 - rfl
              intro K hK
              go_simp
              refine (HKC.out w' hC).mono ?_
              rintro e w2 ⟨q, rfl, hc2, hp2⟩
              exact hK _ _ rfl ⟨⟨_, rfl⟩, hc2, trivial, trivial, fun l hl hn hdn hde hi => hl.first q (by rw [hn]; decide) (by decide) (by decide) (by rw [getD_bool l 2 (by rw [hn]; decide) false true]; exact hi) (by
                cases hq : l.getD 6 false with
                | false => rfl
                | true =>
                  have := down_of hdn 6 2 (by kernel_rfl) (by rw [getD_bool l 6 (by rw [hn]; decide) true false]; exact hq)
                  rw [getD_bool l 2 (by rw [hn]; decide) false true, hi] at this
                  cases this) (by
                cases hq : l.getD 7 false with
                | false => rfl
                | true =>
                  have := down_of hdn 7 2 (by kernel_rfl) (by rw [getD_bool l 7 (by rw [hn]; decide) true false]; exact hq)
                  rw [getD_bool l 2 (by rw [hn]; decide) false true, hi] at this
                  cases this) hp2⟩
            case s3 =>
              refine stepI0 rfl (by kernel_rfl) ?_
              rintro w' hC sv
              intro K hK
              go_simp
              exact hK _ _ rfl ⟨rfl, hC, trivial, trivial, fun l hl hn hdn hde hi => hl.pure 3 57 _ (by rw [hn]; decide) (by decide) (by decide)⟩
            case s4 =>
              refine stepI0 rfl (by kernel_rfl) ?_
              rintro w' hC sv
              intro K hK
              go_simp
              exact hK _ _ rfl ⟨rfl, hC, trivial, trivial, fun l hl hn hdn hde hi => hl.pure 4 58 _ (by rw [hn]; decide) (by decide) (by decide)⟩
            case s5 =>
              refine stepI1 4 58 rfl (by kernel_rfl) ?_
              rintro w' hC sv v1 - rfl
              intro K hK
              have hC9 := hC
              obtain ⟨_, _, _, hn9⟩ := hC9
              obtain ⟨x0, x1, x2⟩ := op_cells hn9
              go_simp
              exact hK _ _ rfl ⟨rfl, hC, trivial, trivial, fun l hl hn hdn hde hi => hl.pure 5 59 _ (by rw [hn]; decide) (by decide) (by decide)⟩
            case s6 =>
              refine stepI2 3 57 5 59 rfl (by kernel_rfl) ?_
              rintro w' hC sv v1 v2 - - rfl rfl
              intro K hK
              go_simp
              refine (HKD.out w' hC).mono ?_
              rintro e w2 ⟨q, rfl, hc2, hp2⟩
              exact hK _ _ rfl ⟨⟨_, rfl⟩, hc2, trivial, trivial, fun l hl hn hdn hde hi => hl.second q (by rw [hn]; decide) (by decide) (by decide) (deps_of hde 2 (by kernel_rfl)) (by rw [getD_bool l 6 (by rw [hn]; decide) false true]; exact hi) (by
                cases hq : l.getD 7 false with
                | false => rfl
                | true =>
                  have := down_of hdn 7 6 (by kernel_rfl) (by rw [getD_bool l 7 (by rw [hn]; decide) true false]; exact hq)
                  rw [getD_bool l 6 (by rw [hn]; decide) false true, hi] at this
                  cases this) hp2⟩
            case s7 =>
              refine stepI2 2 56 6 60 rfl (by kernel_rfl) ?_
              rintro w' hC sv v1 v2 e1 e2 ⟨z1, rfl⟩ ⟨z2, rfl⟩
              intro K hK
              have E1 := Lib.hid e1
              have E2 := Lib.hid e2
              clear e1 e2
              cases z1 <;> cases z2
              all_goals
                go_simp
                exact hK _ _ rfl ⟨⟨_, rfl⟩, hC, trivial, trivial, fun l hl hn hdn hde hi => hl.third _ _ _ (by rw [hn]; decide) (by decide) (by decide) (deps_of hde 2 (by kernel_rfl)) (deps_of hde 6 (by kernel_rfl)) E1.out.symm E2.out.symm (by decide)⟩
          case hf =>
            intro w' hC sv hx _ hI
            obtain ⟨l', hl, hn, hj⟩ := hI
            obtain ⟨hP2, ea, eb, ec⟩ := hj.done hl (by rw [hn]; decide) (by rw [hn]; decide)
            have e0 : sv 54 = Value.pointer (some ⟨F, 1, none⟩) := hx (0, 54) (by simp)
            have e1 : sv 55 = Value.int .i64 id := hx (1, 55) (by simp)
            have e3 : sv 57 = Value.pointer (some ⟨E, 0, none⟩) := hx (3, 57) (by simp)
            have e4 : sv 58 = Value.pointer (some ⟨F, 1, none⟩) := hx (4, 58) (by simp)
            have e5 : sv 59 = Value.int .i64 id := hx (5, 59) (by simp)
            simp only [putAll, List.foldl_cons, List.foldl_nil, ea, eb, ec, e0, e1, e3, e4, e5, Act.put, List.setIfInBounds_toArray, List.set_cons_succ, List.set_cons_zero]
            clear hx hl hn hj ea eb ec e0 e1 e3 e4 e5
            obtain ⟨_, _, _, hn6⟩ := hC
            have T6 := Lib.hid hP2
            have H6 := Lib.hid hn6
            clear hP2 hn6
            go_wp2_with fail
            go_meet
            exact ⟨rfl, T6.out, H6.out⟩
        case rest =>
        obtain ⟨rfl, t6, n6⟩ := hcut
        have T6 := Lib.hid t6
        have H6 := Lib.hid n6
        obtain ⟨y0, y1, y2⟩ := op_cells n6
        clear t6 n6 o0 o1 o2 HKC HKD
        have hk6 : r'.length ≤ 1000000 := by
          obtain ⟨v9, u9, h9, -⟩ := T6.out
          have := h9.ok.len
          omega
        have KDu := Lib.hid (fun u (hb : Below wc.heap.size wc u) => tw_dues (T6.out.kept hb))
        have KRd := Lib.hid (fun u (hb : Below wc.heap.size wc u) => tw_rdues (T6.out.kept hb))
        have KLf := Lib.hid (fun u (hb : Below wc.heap.size wc u) => tw_left (T6.out.kept hb) id)
        have KRl := Lib.hid (fun u (hb : Below wc.heap.size wc u) => tw_rleft (T6.out.kept hb) id)
        have KFr := Lib.hid (fun u (hb : Below wc.heap.size wc u) => tw_from (T6.out.kept hb) id)
        have KRf := Lib.hid (fun u (hb : Below wc.heap.size wc u) => tw_rfrom (T6.out.kept hb) id)
        generalize leftS r' id = lf at *
        generalize fromS r' id = fr at *
        obtain ⟨k, hk⟩ : ∃ k, r'.length = k := ⟨_, rfl⟩
        rw [hk] at hk6 KDu KRd
        clear hk
        go_upto_region 23 with fail
        refine wp_region_rel [.has (fun v u => ∃ bo bc B, v = .slice bo k bc ∧ OwnD u B (.slice bo k bc) (srt r')) (by rintro v u u' hb ⟨bo, bc, B, hv, hO⟩; exact ⟨bo, bc, B, hv, hO.below hb⟩), .is (Value.pointer (some ⟨E, 0, none⟩)), .has (fun v u => ∃ bo bc B, v = .slice bo k bc ∧ OwnD u B (.slice bo k bc) (srt r')) (by rintro v u u' hb ⟨bo, bc, B, hv, hO⟩; exact ⟨bo, bc, B, hv, hO.below hb⟩), .is (.bool true), .is (.bool false), .is (.bool false), .is (Value.pointer (some ⟨F, 1, none⟩)), .is (Value.int .i64 id), .is (.int .i64 (lf : Int)), .is (Value.pointer (some ⟨E, 0, none⟩)), .is (Value.pointer (some ⟨F, 1, none⟩)), .is (Value.int .i64 id), .is (.int .i64 (lf : Int)), .is (.bool false), .is (.bool false), .is (.bool false), .is (Value.pointer (some ⟨F, 1, none⟩)), .is (Value.int .i64 id), .is (.int .i64 (fr : Int)), .is (Value.pointer (some ⟨E, 0, none⟩)), .is (Value.pointer (some ⟨F, 1, none⟩)), .is (Value.int .i64 id), .is (.int .i64 (fr : Int)), .is (.bool false), .is (.bool false)]
          (fun u => Below wc.heap.size wc u) [(0, 76), (1, 77), (2, 78), (3, 79), (4, 80), (5, 81), (6, 82), (7, 83), (8, 84), (9, 85), (10, 86), (11, 87), (12, 88), (13, 89), (14, 90), (15, 91), (16, 92), (17, 93), (18, 94), (19, 95), (20, 96), (21, 97), (22, 98), (23, 99), (24, 100)] 25 (by kernel_rfl) (by kernel_rfl) (by kernel_rfl) (by kernel_rfl) ?hC ?hs ?hf
        case hC => exact below_drew (Below.refl _ _)
        case hs =>
          refine stepsOk_succ ?s24 (stepsOk_succ ?s23 (stepsOk_succ ?s22 (stepsOk_succ ?s21 (stepsOk_succ ?s20 (stepsOk_succ ?s19 (stepsOk_succ ?s18 (stepsOk_succ ?s17 (stepsOk_succ ?s16 (stepsOk_succ ?s15 (stepsOk_succ ?s14 (stepsOk_succ ?s13 (stepsOk_succ ?s12 (stepsOk_succ ?s11 (stepsOk_succ ?s10 (stepsOk_succ ?s9 (stepsOk_succ ?s8 (stepsOk_succ ?s7 (stepsOk_succ ?s6 (stepsOk_succ ?s5 (stepsOk_succ ?s4 (stepsOk_succ ?s3 (stepsOk_succ ?s2 (stepsOk_succ ?s1 (stepsOk_succ ?s0 (stepsOk_zero)))))))))))))))))))))))))
          case s0 =>
            refine stepOk0 rfl (by kernel_rfl) ?_
            rintro w' hC
            intro K hK
            go_simp
            refine (KDu.out w' hC).mono ?_
            rintro e w2 ⟨bo, bc, rfl, hO, hb⟩
            exact hK _ _ rfl ⟨⟨bo, bc, _, rfl, hO⟩, below_on hC hb, hb⟩
          case s1 =>
            refine stepOk0 rfl (by kernel_rfl) ?_
            rintro w' hC
            intro K hK
            go_simp
            exact hK _ _ rfl ⟨rfl, hC, Below.refl _ _⟩
          case s2 =>
            refine stepOk1 1 77 rfl (by kernel_rfl) ?_
            rintro w' hC v1 rfl
            intro K hK
            go_simp
            refine (KRd.out w' hC).mono ?_
            rintro e w2 ⟨bo, bc, rfl, hO, hb⟩
            exact hK _ _ rfl ⟨⟨bo, bc, _, rfl, hO⟩, below_on hC hb, hb⟩
          case s3 =>
            refine stepOk2 0 76 2 78 rfl (by kernel_rfl) ?_
            rintro w' hC v1 v2 ⟨bo, bc, B, rfl, hO⟩ ⟨bo1, bc1, B1, rfl, hO1⟩
            intro K hK
            have KS := same_own hO hO1 hk6
            rw [show decide (srt r' = srt r') = true from by simp] at KS
            go_simp
            refine KS.mono ?_
            rintro e w2 ⟨rfl, q, rfl⟩
            exact hK _ _ rfl ⟨rfl, below_drewN hC q, below_drewN (Below.refl _ _) q⟩
          case s4 =>
            refine stepOk1 3 79 rfl (by kernel_rfl) ?_
            rintro w' hC v1 rfl
            intro K hK
            go_simp
            exact hK _ _ rfl ⟨rfl, hC, Below.refl _ _⟩
          case s5 =>
            refine stepOk1 4 80 rfl (by kernel_rfl) ?_
            rintro w' hC v1 rfl
            intro K hK
            go_simp
            exact hK _ _ rfl ⟨rfl, hC, Below.refl _ _⟩
          case s6 =>
            refine stepOk1 5 81 rfl (by kernel_rfl) ?_
            rintro w' hC v1 rfl
            intro K hK
            go_simp
            exact hK _ _ rfl ⟨rfl, hC, Below.refl _ _⟩
          case s7 =>
            refine stepOk2 5 81 6 82 rfl (by kernel_rfl) ?_
            rintro w' hC v1 v2 rfl rfl
            intro K hK
            obtain ⟨x0, x1, x2⟩ := op_cells (blk_on hC H6.out)
            go_simp
            exact hK _ _ rfl ⟨rfl, hC, Below.refl _ _⟩
          case s8 =>
            refine stepOk2 5 81 7 83 rfl (by kernel_rfl) ?_
            rintro w' hC v1 v2 rfl rfl
            intro K hK
            go_simp
            refine (KLf.out w' hC).mono ?_
            rintro e w2 ⟨rfl, hb⟩
            exact hK _ _ rfl ⟨rfl, below_on hC hb, hb⟩
          case s9 =>
            refine stepOk1 5 81 rfl (by kernel_rfl) ?_
            rintro w' hC v1 rfl
            intro K hK
            go_simp
            exact hK _ _ rfl ⟨rfl, hC, Below.refl _ _⟩
          case s10 =>
            refine stepOk1 5 81 rfl (by kernel_rfl) ?_
            rintro w' hC v1 rfl
            intro K hK
            go_simp
            exact hK _ _ rfl ⟨rfl, hC, Below.refl _ _⟩
          case s11 =>
            refine stepOk2 5 81 10 86 rfl (by kernel_rfl) ?_
            rintro w' hC v1 v2 rfl rfl
            intro K hK
            obtain ⟨x0, x1, x2⟩ := op_cells (blk_on hC H6.out)
            go_simp
            exact hK _ _ rfl ⟨rfl, hC, Below.refl _ _⟩
          case s12 =>
            refine stepOk3 5 81 9 85 11 87 rfl (by kernel_rfl) ?_
            rintro w' hC v1 v2 v3 rfl rfl rfl
            intro K hK
            go_simp
            refine (KRl.out w' hC).mono ?_
            rintro e w2 ⟨rfl, rfl⟩
            exact hK _ _ rfl ⟨rfl, hC, Below.refl _ _⟩
          case s13 =>
            refine stepOk3 5 81 8 84 12 88 rfl (by kernel_rfl) ?_
            rintro w' hC v1 v2 v3 rfl rfl rfl
            intro K hK
            go_simp
            exact hK _ _ rfl ⟨rfl, hC, Below.refl _ _⟩
          case s14 =>
            refine stepOk2 5 81 13 89 rfl (by kernel_rfl) ?_
            rintro w' hC v1 v2 rfl rfl
            intro K hK
            go_simp
            exact hK _ _ rfl ⟨rfl, hC, Below.refl _ _⟩
          case s15 =>
            refine stepOk1 14 90 rfl (by kernel_rfl) ?_
            rintro w' hC v1 rfl
            intro K hK
            go_simp
            exact hK _ _ rfl ⟨rfl, hC, Below.refl _ _⟩
          case s16 =>
            refine stepOk1 15 91 rfl (by kernel_rfl) ?_
            rintro w' hC v1 rfl
            intro K hK
            go_simp
            exact hK _ _ rfl ⟨rfl, hC, Below.refl _ _⟩
          case s17 =>
            refine stepOk2 15 91 16 92 rfl (by kernel_rfl) ?_
            rintro w' hC v1 v2 rfl rfl
            intro K hK
            obtain ⟨x0, x1, x2⟩ := op_cells (blk_on hC H6.out)
            go_simp
            exact hK _ _ rfl ⟨rfl, hC, Below.refl _ _⟩
          case s18 =>
            refine stepOk2 15 91 17 93 rfl (by kernel_rfl) ?_
            rintro w' hC v1 v2 rfl rfl
            intro K hK
            go_simp
            refine (KFr.out w' hC).mono ?_
            rintro e w2 ⟨rfl, hb⟩
            exact hK _ _ rfl ⟨rfl, below_on hC hb, hb⟩
          case s19 =>
            refine stepOk1 15 91 rfl (by kernel_rfl) ?_
            rintro w' hC v1 rfl
            intro K hK
            go_simp
            exact hK _ _ rfl ⟨rfl, hC, Below.refl _ _⟩
          case s20 =>
            refine stepOk1 15 91 rfl (by kernel_rfl) ?_
            rintro w' hC v1 rfl
            intro K hK
            go_simp
            exact hK _ _ rfl ⟨rfl, hC, Below.refl _ _⟩
          case s21 =>
            refine stepOk2 15 91 20 96 rfl (by kernel_rfl) ?_
            rintro w' hC v1 v2 rfl rfl
            intro K hK
            obtain ⟨x0, x1, x2⟩ := op_cells (blk_on hC H6.out)
            go_simp
            exact hK _ _ rfl ⟨rfl, hC, Below.refl _ _⟩
          case s22 =>
            refine stepOk3 15 91 19 95 21 97 rfl (by kernel_rfl) ?_
            rintro w' hC v1 v2 v3 rfl rfl rfl
            intro K hK
            go_simp
            refine (KRf.out w' hC).mono ?_
            rintro e w2 ⟨rfl, rfl⟩
            exact hK _ _ rfl ⟨rfl, hC, Below.refl _ _⟩
          case s23 =>
            refine stepOk3 15 91 18 94 22 98 rfl (by kernel_rfl) ?_
            rintro w' hC v1 v2 v3 rfl rfl rfl
            intro K hK
            go_simp
            exact hK _ _ rfl ⟨rfl, hC, Below.refl _ _⟩
          case s24 =>
            refine stepOk2 15 91 23 99 rfl (by kernel_rfl) ?_
            rintro w' hC v1 v2 rfl rfl
            intro K hK
            go_simp
            exact hK _ _ rfl ⟨rfl, hC, Below.refl _ _⟩
        case hf =>
          intro w7 hC x_ hx
          obtain ⟨bo0, bc0, B0, e0, -⟩ : ∃ bo bc B, x_ 76 = .slice bo k bc ∧ OwnD w7 B (.slice bo k bc) (srt r') := hx (0, 76) (by simp)
          have e1 : x_ 77 = (Value.pointer (some ⟨E, 0, none⟩)) := hx (1, 77) (by simp)
          obtain ⟨bo2, bc2, B2, e2, -⟩ : ∃ bo bc B, x_ 78 = .slice bo k bc ∧ OwnD w7 B (.slice bo k bc) (srt r') := hx (2, 78) (by simp)
          have e3 : x_ 79 = (.bool true) := hx (3, 79) (by simp)
          have e4 : x_ 80 = (.bool false) := hx (4, 80) (by simp)
          have e5 : x_ 81 = (.bool false) := hx (5, 81) (by simp)
          have e6 : x_ 82 = (Value.pointer (some ⟨F, 1, none⟩)) := hx (6, 82) (by simp)
          have e7 : x_ 83 = (Value.int .i64 id) := hx (7, 83) (by simp)
          have e8 : x_ 84 = (.int .i64 (lf : Int)) := hx (8, 84) (by simp)
          have e9 : x_ 85 = (Value.pointer (some ⟨E, 0, none⟩)) := hx (9, 85) (by simp)
          have e10 : x_ 86 = (Value.pointer (some ⟨F, 1, none⟩)) := hx (10, 86) (by simp)
          have e11 : x_ 87 = (Value.int .i64 id) := hx (11, 87) (by simp)
          have e12 : x_ 88 = (.int .i64 (lf : Int)) := hx (12, 88) (by simp)
          have e13 : x_ 89 = (.bool false) := hx (13, 89) (by simp)
          have e14 : x_ 90 = (.bool false) := hx (14, 90) (by simp)
          have e15 : x_ 91 = (.bool false) := hx (15, 91) (by simp)
          have e16 : x_ 92 = (Value.pointer (some ⟨F, 1, none⟩)) := hx (16, 92) (by simp)
          have e17 : x_ 93 = (Value.int .i64 id) := hx (17, 93) (by simp)
          have e18 : x_ 94 = (.int .i64 (fr : Int)) := hx (18, 94) (by simp)
          have e19 : x_ 95 = (Value.pointer (some ⟨E, 0, none⟩)) := hx (19, 95) (by simp)
          have e20 : x_ 96 = (Value.pointer (some ⟨F, 1, none⟩)) := hx (20, 96) (by simp)
          have e21 : x_ 97 = (Value.int .i64 id) := hx (21, 97) (by simp)
          have e22 : x_ 98 = (.int .i64 (fr : Int)) := hx (22, 98) (by simp)
          have e23 : x_ 99 = (.bool false) := hx (23, 99) (by simp)
          have e24 : x_ 100 = (.bool false) := hx (24, 100) (by simp)
          simp only [putAll, List.foldl_cons, List.foldl_nil, e0, e1, e2, e3, e4, e5, e6, e7, e8, e9, e10, e11, e12, e13, e14, e15, e16, e17, e18, e19, e20, e21, e22, e23, e24, Act.put, List.setIfInBounds_toArray, List.set_cons_succ, List.set_cons_zero]
          have T7 := Lib.hid (T6.out.kept hC)
          clear hx hC e0 e1 e2 e3 e4 e5 e6 e7 e8 e9 e10 e11 e12 e13 e14 e15 e16 e17 e18 e19 e20 e21 e22 e23 e24 KDu KRd KLf KRl KFr KRf
          go_wp2_with fail
          go_roundw
          case rel =>
            first
              | exact ⟨j + 1, r', hlt, by go_num, T7.out⟩
              | ((repeat apply Exists.intro); exact ⟨⟨j + 1, r', hlt, by go_num, T7.out⟩, rfl⟩)
          case measure => simp [intOf]; omega
      · subst hkd
        go_upto_region 18 with fail
        go_cut [67, 68] (fun c i wx => (∃ R : Nat, c = .int .i64 R ∧ R ≤ 20) ∧ i = .int .i64 0 ∧ wx = w4)
        case first =>
          rcases (show t < 0 ∨ (0 ≤ t ∧ t ≤ 20) ∨ 20 < t from by omega) with ht | ht | ht
          · have m1 : (if t < 0 then (0 : Int) else t) = 0 := if_pos ht
            have m2 : min (0 : Int) 20 = 0 := by omega
            have m3 : max t 0 = 0 := by omega
            go_wp2_with fail
            go_meet
            exact ⟨⟨0, rfl, by omega⟩, rfl, rfl⟩
          · obtain ⟨n, rfl⟩ := Int.eq_ofNat_of_zero_le ht.1
            have hn := ht.2
            clear ht
            have m1 : (if (n : Int) < 0 then (0 : Int) else (n : Int)) = n := if_neg (by omega)
            have m2 : min (n : Int) 20 = n := by omega
            have m3 : max (n : Int) 0 = n := by omega
            go_wp2_with fail
            go_meet
            exact ⟨⟨n, rfl, by omega⟩, rfl, rfl⟩
          · have m1 : (if t < 0 then (0 : Int) else t) = t := if_neg (by omega)
            have m2 : min t 20 = 20 := by omega
            have m3 : max t 0 = t := by omega
            have m4 : ¬ (t ≤ 20) := by omega
            have m5 : (if t ≤ 20 then t else (20 : Int)) = 20 := if_neg m4
            have m6 : ¬ (t < 0) := by omega
            have m7 : ¬ (t < 20) := by omega
            have m8 : 0 ≤ t := by omega
            go_wp2_with fail
            go_meet
            exact ⟨⟨20, rfl, by omega⟩, rfl, rfl⟩
        case rest =>
        obtain ⟨⟨R, rfl, hR⟩, rfl, rfl⟩ := hcut
        go_wp2_with fail
        go_loopw [68] (fun i wr => ∃ (p : Nat) (X : List Ck), p ≤ R ∧ i = .int .i64 p ∧ TwoD w1 wr D E X X ∧ wr.heap[F]? = some (.cells #[.int .i64 3, .int .i64 id, .int .i64 t] 32 (0, 0))) (fun i _ => R - (intOf i).toNat)
        case atStart => exact ⟨0, r, Nat.zero_le _, rfl, T4.out, H4.out⟩
        case round =>
          clear T4 H4 o0 o1 o2
          obtain ⟨p, X, hp, rfl, hT5, hH5⟩ := hrel
          have T5 := Lib.hid hT5
          have H5 := Lib.hid hH5
          clear hT5 hH5
          by_cases hlp : p < R
          · have K5 := Lib.hid (tw_tick T5.out)
            have hov : (overD X).length ≤ 1000000 := by
              obtain ⟨v9, u9, h9, -⟩ := T5.out
              have := h9.ok.len
              have := overD_le X
              omega
            obtain ⟨q0, hq0⟩ : ∃ q0, (overD X).length = q0 := ⟨_, rfl⟩
            rw [hq0] at K5 hov
            have HQ0 := Lib.hid hq0
            clear hq0
            go_wp2_with fail
            refine K5.out.mono ?_
            rintro e w6 ⟨a6, c6, rfl, r6, t6, p6⟩
            have K6 := Lib.hid (tw_rtick t6)
            rw [HQ0.out] at K6
            have R6 := Lib.hid r6
            have H6 := Lib.hid (p6 F _ _ H5.out (by decide) (by decide) (by decide) (by decide))
            clear r6 t6 p6 K5
            go_wp2_with fail
            refine K6.out.mono ?_
            rintro e w7 ⟨a7, c7, rfl, r7, t7, p7⟩
            have K7 := ints_own (p7.row R6.out (by decide) (by decide) (by decide) (by decide)) r7 hov
            rw [show decide (overD X = overD X) = true from by simp] at K7
            have HK7 := Lib.hid K7
            have T7 := Lib.hid t7
            have H7 := Lib.hid (p7 F _ _ H6.out (by decide) (by decide) (by decide) (by decide))
            clear r7 t7 p7 K6 K7 R6 H6
            go_wp2_with fail
            refine HK7.out.mono ?_
            rintro e w8 ⟨rfl, q, rfl⟩
            have T8 := Lib.hid (T7.out.drewN q)
            have H8 := Lib.hid (show (w7.drewN q).heap[F]? = some (.cells #[.int .i64 3, .int .i64 id, .int .i64 t] 32 (0, 0)) from H7.out)
            clear HK7 T7 H7
            go_wp2_with fail
            go_roundw
            case rel => exact ⟨p + 1, _, hlp, by go_num, T8.out, H8.out⟩
            case measure => simp [intOf]; omega
          · obtain rfl : p = R := by omega
            obtain ⟨y0, y1, y2⟩ := op_cells H5.out
            have hk6 : X.length ≤ 1000000 := by
              obtain ⟨v9, u9, h9, -⟩ := T5.out
              have := h9.ok.len
              omega
            have KDu := Lib.hid (fun u (hb : Below wr.heap.size wr u) => tw_dues (T5.out.kept hb))
            have KRd := Lib.hid (fun u (hb : Below wr.heap.size wr u) => tw_rdues (T5.out.kept hb))
            have KLf := Lib.hid (fun u (hb : Below wr.heap.size wr u) => tw_left (T5.out.kept hb) id)
            have KRl := Lib.hid (fun u (hb : Below wr.heap.size wr u) => tw_rleft (T5.out.kept hb) id)
            have KFr := Lib.hid (fun u (hb : Below wr.heap.size wr u) => tw_from (T5.out.kept hb) id)
            have KRf := Lib.hid (fun u (hb : Below wr.heap.size wr u) => tw_rfrom (T5.out.kept hb) id)
            generalize leftS X id = lf at *
            generalize fromS X id = fr at *
            obtain ⟨k, hk⟩ : ∃ k, X.length = k := ⟨_, rfl⟩
            rw [hk] at hk6 KDu KRd
            clear hk
            go_upto_region 23 with fail
            refine wp_region_rel [.has (fun v u => ∃ bo bc B, v = .slice bo k bc ∧ OwnD u B (.slice bo k bc) (srt X)) (by rintro v u u' hb ⟨bo, bc, B, hv, hO⟩; exact ⟨bo, bc, B, hv, hO.below hb⟩), .is (Value.pointer (some ⟨E, 0, none⟩)), .has (fun v u => ∃ bo bc B, v = .slice bo k bc ∧ OwnD u B (.slice bo k bc) (srt X)) (by rintro v u u' hb ⟨bo, bc, B, hv, hO⟩; exact ⟨bo, bc, B, hv, hO.below hb⟩), .is (.bool true), .is (.bool false), .is (.bool false), .is (Value.pointer (some ⟨F, 1, none⟩)), .is (Value.int .i64 id), .is (.int .i64 (lf : Int)), .is (Value.pointer (some ⟨E, 0, none⟩)), .is (Value.pointer (some ⟨F, 1, none⟩)), .is (Value.int .i64 id), .is (.int .i64 (lf : Int)), .is (.bool false), .is (.bool false), .is (.bool false), .is (Value.pointer (some ⟨F, 1, none⟩)), .is (Value.int .i64 id), .is (.int .i64 (fr : Int)), .is (Value.pointer (some ⟨E, 0, none⟩)), .is (Value.pointer (some ⟨F, 1, none⟩)), .is (Value.int .i64 id), .is (.int .i64 (fr : Int)), .is (.bool false), .is (.bool false)]
              (fun u => Below wr.heap.size wr u) [(0, 76), (1, 77), (2, 78), (3, 79), (4, 80), (5, 81), (6, 82), (7, 83), (8, 84), (9, 85), (10, 86), (11, 87), (12, 88), (13, 89), (14, 90), (15, 91), (16, 92), (17, 93), (18, 94), (19, 95), (20, 96), (21, 97), (22, 98), (23, 99), (24, 100)] 25 (by kernel_rfl) (by kernel_rfl) (by kernel_rfl) (by kernel_rfl) ?hC ?hs ?hf
            case hC => exact below_drew (Below.refl _ _)
            case hs =>
              refine stepsOk_succ ?s24 (stepsOk_succ ?s23 (stepsOk_succ ?s22 (stepsOk_succ ?s21 (stepsOk_succ ?s20 (stepsOk_succ ?s19 (stepsOk_succ ?s18 (stepsOk_succ ?s17 (stepsOk_succ ?s16 (stepsOk_succ ?s15 (stepsOk_succ ?s14 (stepsOk_succ ?s13 (stepsOk_succ ?s12 (stepsOk_succ ?s11 (stepsOk_succ ?s10 (stepsOk_succ ?s9 (stepsOk_succ ?s8 (stepsOk_succ ?s7 (stepsOk_succ ?s6 (stepsOk_succ ?s5 (stepsOk_succ ?s4 (stepsOk_succ ?s3 (stepsOk_succ ?s2 (stepsOk_succ ?s1 (stepsOk_succ ?s0 (stepsOk_zero)))))))))))))))))))))))))
              case s0 =>
                refine stepOk0 rfl (by kernel_rfl) ?_
                rintro w' hC
                intro K hK
                go_simp
                refine (KDu.out w' hC).mono ?_
                rintro e w2 ⟨bo, bc, rfl, hO, hb⟩
                exact hK _ _ rfl ⟨⟨bo, bc, _, rfl, hO⟩, below_on hC hb, hb⟩
              case s1 =>
                refine stepOk0 rfl (by kernel_rfl) ?_
                rintro w' hC
                intro K hK
                go_simp
                exact hK _ _ rfl ⟨rfl, hC, Below.refl _ _⟩
              case s2 =>
                refine stepOk1 1 77 rfl (by kernel_rfl) ?_
                rintro w' hC v1 rfl
                intro K hK
                go_simp
                refine (KRd.out w' hC).mono ?_
                rintro e w2 ⟨bo, bc, rfl, hO, hb⟩
                exact hK _ _ rfl ⟨⟨bo, bc, _, rfl, hO⟩, below_on hC hb, hb⟩
              case s3 =>
                refine stepOk2 0 76 2 78 rfl (by kernel_rfl) ?_
                rintro w' hC v1 v2 ⟨bo, bc, B, rfl, hO⟩ ⟨bo1, bc1, B1, rfl, hO1⟩
                intro K hK
                have KS := same_own hO hO1 hk6
                rw [show decide (srt X = srt X) = true from by simp] at KS
                go_simp
                refine KS.mono ?_
                rintro e w2 ⟨rfl, q, rfl⟩
                exact hK _ _ rfl ⟨rfl, below_drewN hC q, below_drewN (Below.refl _ _) q⟩
              case s4 =>
                refine stepOk1 3 79 rfl (by kernel_rfl) ?_
                rintro w' hC v1 rfl
                intro K hK
                go_simp
                exact hK _ _ rfl ⟨rfl, hC, Below.refl _ _⟩
              case s5 =>
                refine stepOk1 4 80 rfl (by kernel_rfl) ?_
                rintro w' hC v1 rfl
                intro K hK
                go_simp
                exact hK _ _ rfl ⟨rfl, hC, Below.refl _ _⟩
              case s6 =>
                refine stepOk1 5 81 rfl (by kernel_rfl) ?_
                rintro w' hC v1 rfl
                intro K hK
                go_simp
                exact hK _ _ rfl ⟨rfl, hC, Below.refl _ _⟩
              case s7 =>
                refine stepOk2 5 81 6 82 rfl (by kernel_rfl) ?_
                rintro w' hC v1 v2 rfl rfl
                intro K hK
                obtain ⟨x0, x1, x2⟩ := op_cells (blk_on hC H5.out)
                go_simp
                exact hK _ _ rfl ⟨rfl, hC, Below.refl _ _⟩
              case s8 =>
                refine stepOk2 5 81 7 83 rfl (by kernel_rfl) ?_
                rintro w' hC v1 v2 rfl rfl
                intro K hK
                go_simp
                refine (KLf.out w' hC).mono ?_
                rintro e w2 ⟨rfl, hb⟩
                exact hK _ _ rfl ⟨rfl, below_on hC hb, hb⟩
              case s9 =>
                refine stepOk1 5 81 rfl (by kernel_rfl) ?_
                rintro w' hC v1 rfl
                intro K hK
                go_simp
                exact hK _ _ rfl ⟨rfl, hC, Below.refl _ _⟩
              case s10 =>
                refine stepOk1 5 81 rfl (by kernel_rfl) ?_
                rintro w' hC v1 rfl
                intro K hK
                go_simp
                exact hK _ _ rfl ⟨rfl, hC, Below.refl _ _⟩
              case s11 =>
                refine stepOk2 5 81 10 86 rfl (by kernel_rfl) ?_
                rintro w' hC v1 v2 rfl rfl
                intro K hK
                obtain ⟨x0, x1, x2⟩ := op_cells (blk_on hC H5.out)
                go_simp
                exact hK _ _ rfl ⟨rfl, hC, Below.refl _ _⟩
              case s12 =>
                refine stepOk3 5 81 9 85 11 87 rfl (by kernel_rfl) ?_
                rintro w' hC v1 v2 v3 rfl rfl rfl
                intro K hK
                go_simp
                refine (KRl.out w' hC).mono ?_
                rintro e w2 ⟨rfl, rfl⟩
                exact hK _ _ rfl ⟨rfl, hC, Below.refl _ _⟩
              case s13 =>
                refine stepOk3 5 81 8 84 12 88 rfl (by kernel_rfl) ?_
                rintro w' hC v1 v2 v3 rfl rfl rfl
                intro K hK
                go_simp
                exact hK _ _ rfl ⟨rfl, hC, Below.refl _ _⟩
              case s14 =>
                refine stepOk2 5 81 13 89 rfl (by kernel_rfl) ?_
                rintro w' hC v1 v2 rfl rfl
                intro K hK
                go_simp
                exact hK _ _ rfl ⟨rfl, hC, Below.refl _ _⟩
              case s15 =>
                refine stepOk1 14 90 rfl (by kernel_rfl) ?_
                rintro w' hC v1 rfl
                intro K hK
                go_simp
                exact hK _ _ rfl ⟨rfl, hC, Below.refl _ _⟩
              case s16 =>
                refine stepOk1 15 91 rfl (by kernel_rfl) ?_
                rintro w' hC v1 rfl
                intro K hK
                go_simp
                exact hK _ _ rfl ⟨rfl, hC, Below.refl _ _⟩
              case s17 =>
                refine stepOk2 15 91 16 92 rfl (by kernel_rfl) ?_
                rintro w' hC v1 v2 rfl rfl
                intro K hK
                obtain ⟨x0, x1, x2⟩ := op_cells (blk_on hC H5.out)
                go_simp
                exact hK _ _ rfl ⟨rfl, hC, Below.refl _ _⟩
              case s18 =>
                refine stepOk2 15 91 17 93 rfl (by kernel_rfl) ?_
                rintro w' hC v1 v2 rfl rfl
                intro K hK
                go_simp
                refine (KFr.out w' hC).mono ?_
                rintro e w2 ⟨rfl, hb⟩
                exact hK _ _ rfl ⟨rfl, below_on hC hb, hb⟩
              case s19 =>
                refine stepOk1 15 91 rfl (by kernel_rfl) ?_
                rintro w' hC v1 rfl
                intro K hK
                go_simp
                exact hK _ _ rfl ⟨rfl, hC, Below.refl _ _⟩
              case s20 =>
                refine stepOk1 15 91 rfl (by kernel_rfl) ?_
                rintro w' hC v1 rfl
                intro K hK
                go_simp
                exact hK _ _ rfl ⟨rfl, hC, Below.refl _ _⟩
              case s21 =>
                refine stepOk2 15 91 20 96 rfl (by kernel_rfl) ?_
                rintro w' hC v1 v2 rfl rfl
                intro K hK
                obtain ⟨x0, x1, x2⟩ := op_cells (blk_on hC H5.out)
                go_simp
                exact hK _ _ rfl ⟨rfl, hC, Below.refl _ _⟩
              case s22 =>
                refine stepOk3 15 91 19 95 21 97 rfl (by kernel_rfl) ?_
                rintro w' hC v1 v2 v3 rfl rfl rfl
                intro K hK
                go_simp
                refine (KRf.out w' hC).mono ?_
                rintro e w2 ⟨rfl, rfl⟩
                exact hK _ _ rfl ⟨rfl, hC, Below.refl _ _⟩
              case s23 =>
                refine stepOk3 15 91 18 94 22 98 rfl (by kernel_rfl) ?_
                rintro w' hC v1 v2 v3 rfl rfl rfl
                intro K hK
                go_simp
                exact hK _ _ rfl ⟨rfl, hC, Below.refl _ _⟩
              case s24 =>
                refine stepOk2 15 91 23 99 rfl (by kernel_rfl) ?_
                rintro w' hC v1 v2 rfl rfl
                intro K hK
                go_simp
                exact hK _ _ rfl ⟨rfl, hC, Below.refl _ _⟩
            case hf =>
              intro w7 hC x_ hx
              obtain ⟨bo0, bc0, B0, e0, -⟩ : ∃ bo bc B, x_ 76 = .slice bo k bc ∧ OwnD w7 B (.slice bo k bc) (srt X) := hx (0, 76) (by simp)
              have e1 : x_ 77 = (Value.pointer (some ⟨E, 0, none⟩)) := hx (1, 77) (by simp)
              obtain ⟨bo2, bc2, B2, e2, -⟩ : ∃ bo bc B, x_ 78 = .slice bo k bc ∧ OwnD w7 B (.slice bo k bc) (srt X) := hx (2, 78) (by simp)
              have e3 : x_ 79 = (.bool true) := hx (3, 79) (by simp)
              have e4 : x_ 80 = (.bool false) := hx (4, 80) (by simp)
              have e5 : x_ 81 = (.bool false) := hx (5, 81) (by simp)
              have e6 : x_ 82 = (Value.pointer (some ⟨F, 1, none⟩)) := hx (6, 82) (by simp)
              have e7 : x_ 83 = (Value.int .i64 id) := hx (7, 83) (by simp)
              have e8 : x_ 84 = (.int .i64 (lf : Int)) := hx (8, 84) (by simp)
              have e9 : x_ 85 = (Value.pointer (some ⟨E, 0, none⟩)) := hx (9, 85) (by simp)
              have e10 : x_ 86 = (Value.pointer (some ⟨F, 1, none⟩)) := hx (10, 86) (by simp)
              have e11 : x_ 87 = (Value.int .i64 id) := hx (11, 87) (by simp)
              have e12 : x_ 88 = (.int .i64 (lf : Int)) := hx (12, 88) (by simp)
              have e13 : x_ 89 = (.bool false) := hx (13, 89) (by simp)
              have e14 : x_ 90 = (.bool false) := hx (14, 90) (by simp)
              have e15 : x_ 91 = (.bool false) := hx (15, 91) (by simp)
              have e16 : x_ 92 = (Value.pointer (some ⟨F, 1, none⟩)) := hx (16, 92) (by simp)
              have e17 : x_ 93 = (Value.int .i64 id) := hx (17, 93) (by simp)
              have e18 : x_ 94 = (.int .i64 (fr : Int)) := hx (18, 94) (by simp)
              have e19 : x_ 95 = (Value.pointer (some ⟨E, 0, none⟩)) := hx (19, 95) (by simp)
              have e20 : x_ 96 = (Value.pointer (some ⟨F, 1, none⟩)) := hx (20, 96) (by simp)
              have e21 : x_ 97 = (Value.int .i64 id) := hx (21, 97) (by simp)
              have e22 : x_ 98 = (.int .i64 (fr : Int)) := hx (22, 98) (by simp)
              have e23 : x_ 99 = (.bool false) := hx (23, 99) (by simp)
              have e24 : x_ 100 = (.bool false) := hx (24, 100) (by simp)
              simp only [putAll, List.foldl_cons, List.foldl_nil, e0, e1, e2, e3, e4, e5, e6, e7, e8, e9, e10, e11, e12, e13, e14, e15, e16, e17, e18, e19, e20, e21, e22, e23, e24, Act.put, List.setIfInBounds_toArray, List.set_cons_succ, List.set_cons_zero]
              have T7 := Lib.hid (T5.out.kept hC)
              clear hx hC e0 e1 e2 e3 e4 e5 e6 e7 e8 e9 e10 e11 e12 e13 e14 e15 e16 e17 e18 e19 e20 e21 e22 e23 e24 KDu KRd KLf KRl KFr KRf
              go_wp2_with fail
              go_roundw
              case rel =>
                first
                  | exact ⟨j + 1, X, hlt, by go_num, T7.out⟩
                  | ((repeat apply Exists.intro); exact ⟨⟨j + 1, X, hlt, by go_num, T7.out⟩, rfl⟩)
              case measure => simp [intOf]; omega
      · have d1 : (kd == 1) = false := by simp; omega
        have d2 : (kd == 2) = false := by simp; omega
        have d3 : (kd == 3) = false := by simp; omega
        clear hkd
        have hk6 : r.length ≤ 1000000 := by
          obtain ⟨v9, u9, h9, -⟩ := T4.out
          have := h9.ok.len
          omega
        have KDu := Lib.hid (fun u (hb : Below w4.heap.size w4 u) => tw_dues (T4.out.kept hb))
        have KRd := Lib.hid (fun u (hb : Below w4.heap.size w4 u) => tw_rdues (T4.out.kept hb))
        have KLf := Lib.hid (fun u (hb : Below w4.heap.size w4 u) => tw_left (T4.out.kept hb) id)
        have KRl := Lib.hid (fun u (hb : Below w4.heap.size w4 u) => tw_rleft (T4.out.kept hb) id)
        have KFr := Lib.hid (fun u (hb : Below w4.heap.size w4 u) => tw_from (T4.out.kept hb) id)
        have KRf := Lib.hid (fun u (hb : Below w4.heap.size w4 u) => tw_rfrom (T4.out.kept hb) id)
        generalize leftS r id = lf at *
        generalize fromS r id = fr at *
        obtain ⟨k, hk⟩ : ∃ k, r.length = k := ⟨_, rfl⟩
        rw [hk] at hk6 KDu KRd
        clear hk
        go_upto_region 23 with fail
        refine wp_region_rel [.has (fun v u => ∃ bo bc B, v = .slice bo k bc ∧ OwnD u B (.slice bo k bc) (srt r)) (by rintro v u u' hb ⟨bo, bc, B, hv, hO⟩; exact ⟨bo, bc, B, hv, hO.below hb⟩), .is (Value.pointer (some ⟨E, 0, none⟩)), .has (fun v u => ∃ bo bc B, v = .slice bo k bc ∧ OwnD u B (.slice bo k bc) (srt r)) (by rintro v u u' hb ⟨bo, bc, B, hv, hO⟩; exact ⟨bo, bc, B, hv, hO.below hb⟩), .is (.bool true), .is (.bool false), .is (.bool false), .is (Value.pointer (some ⟨F, 1, none⟩)), .is (Value.int .i64 id), .is (.int .i64 (lf : Int)), .is (Value.pointer (some ⟨E, 0, none⟩)), .is (Value.pointer (some ⟨F, 1, none⟩)), .is (Value.int .i64 id), .is (.int .i64 (lf : Int)), .is (.bool false), .is (.bool false), .is (.bool false), .is (Value.pointer (some ⟨F, 1, none⟩)), .is (Value.int .i64 id), .is (.int .i64 (fr : Int)), .is (Value.pointer (some ⟨E, 0, none⟩)), .is (Value.pointer (some ⟨F, 1, none⟩)), .is (Value.int .i64 id), .is (.int .i64 (fr : Int)), .is (.bool false), .is (.bool false)]
          (fun u => Below w4.heap.size w4 u) [(0, 76), (1, 77), (2, 78), (3, 79), (4, 80), (5, 81), (6, 82), (7, 83), (8, 84), (9, 85), (10, 86), (11, 87), (12, 88), (13, 89), (14, 90), (15, 91), (16, 92), (17, 93), (18, 94), (19, 95), (20, 96), (21, 97), (22, 98), (23, 99), (24, 100)] 25 (by kernel_rfl) (by kernel_rfl) (by kernel_rfl) (by kernel_rfl) ?hC ?hs ?hf
        case hC => exact below_drew (Below.refl _ _)
        case hs =>
          refine stepsOk_succ ?s24 (stepsOk_succ ?s23 (stepsOk_succ ?s22 (stepsOk_succ ?s21 (stepsOk_succ ?s20 (stepsOk_succ ?s19 (stepsOk_succ ?s18 (stepsOk_succ ?s17 (stepsOk_succ ?s16 (stepsOk_succ ?s15 (stepsOk_succ ?s14 (stepsOk_succ ?s13 (stepsOk_succ ?s12 (stepsOk_succ ?s11 (stepsOk_succ ?s10 (stepsOk_succ ?s9 (stepsOk_succ ?s8 (stepsOk_succ ?s7 (stepsOk_succ ?s6 (stepsOk_succ ?s5 (stepsOk_succ ?s4 (stepsOk_succ ?s3 (stepsOk_succ ?s2 (stepsOk_succ ?s1 (stepsOk_succ ?s0 (stepsOk_zero)))))))))))))))))))))))))
          case s0 =>
            refine stepOk0 rfl (by kernel_rfl) ?_
            rintro w' hC
            intro K hK
            go_simp
            refine (KDu.out w' hC).mono ?_
            rintro e w2 ⟨bo, bc, rfl, hO, hb⟩
            exact hK _ _ rfl ⟨⟨bo, bc, _, rfl, hO⟩, below_on hC hb, hb⟩
          case s1 =>
            refine stepOk0 rfl (by kernel_rfl) ?_
            rintro w' hC
            intro K hK
            go_simp
            exact hK _ _ rfl ⟨rfl, hC, Below.refl _ _⟩
          case s2 =>
            refine stepOk1 1 77 rfl (by kernel_rfl) ?_
            rintro w' hC v1 rfl
            intro K hK
            go_simp
            refine (KRd.out w' hC).mono ?_
            rintro e w2 ⟨bo, bc, rfl, hO, hb⟩
            exact hK _ _ rfl ⟨⟨bo, bc, _, rfl, hO⟩, below_on hC hb, hb⟩
          case s3 =>
            refine stepOk2 0 76 2 78 rfl (by kernel_rfl) ?_
            rintro w' hC v1 v2 ⟨bo, bc, B, rfl, hO⟩ ⟨bo1, bc1, B1, rfl, hO1⟩
            intro K hK
            have KS := same_own hO hO1 hk6
            rw [show decide (srt r = srt r) = true from by simp] at KS
            go_simp
            refine KS.mono ?_
            rintro e w2 ⟨rfl, q, rfl⟩
            exact hK _ _ rfl ⟨rfl, below_drewN hC q, below_drewN (Below.refl _ _) q⟩
          case s4 =>
            refine stepOk1 3 79 rfl (by kernel_rfl) ?_
            rintro w' hC v1 rfl
            intro K hK
            go_simp
            exact hK _ _ rfl ⟨rfl, hC, Below.refl _ _⟩
          case s5 =>
            refine stepOk1 4 80 rfl (by kernel_rfl) ?_
            rintro w' hC v1 rfl
            intro K hK
            go_simp
            exact hK _ _ rfl ⟨rfl, hC, Below.refl _ _⟩
          case s6 =>
            refine stepOk1 5 81 rfl (by kernel_rfl) ?_
            rintro w' hC v1 rfl
            intro K hK
            go_simp
            exact hK _ _ rfl ⟨rfl, hC, Below.refl _ _⟩
          case s7 =>
            refine stepOk2 5 81 6 82 rfl (by kernel_rfl) ?_
            rintro w' hC v1 v2 rfl rfl
            intro K hK
            obtain ⟨x0, x1, x2⟩ := op_cells (blk_on hC H4.out)
            go_simp
            exact hK _ _ rfl ⟨rfl, hC, Below.refl _ _⟩
          case s8 =>
            refine stepOk2 5 81 7 83 rfl (by kernel_rfl) ?_
            rintro w' hC v1 v2 rfl rfl
            intro K hK
            go_simp
            refine (KLf.out w' hC).mono ?_
            rintro e w2 ⟨rfl, hb⟩
            exact hK _ _ rfl ⟨rfl, below_on hC hb, hb⟩
          case s9 =>
            refine stepOk1 5 81 rfl (by kernel_rfl) ?_
            rintro w' hC v1 rfl
            intro K hK
            go_simp
            exact hK _ _ rfl ⟨rfl, hC, Below.refl _ _⟩
          case s10 =>
            refine stepOk1 5 81 rfl (by kernel_rfl) ?_
            rintro w' hC v1 rfl
            intro K hK
            go_simp
            exact hK _ _ rfl ⟨rfl, hC, Below.refl _ _⟩
          case s11 =>
            refine stepOk2 5 81 10 86 rfl (by kernel_rfl) ?_
            rintro w' hC v1 v2 rfl rfl
            intro K hK
            obtain ⟨x0, x1, x2⟩ := op_cells (blk_on hC H4.out)
            go_simp
            exact hK _ _ rfl ⟨rfl, hC, Below.refl _ _⟩
          case s12 =>
            refine stepOk3 5 81 9 85 11 87 rfl (by kernel_rfl) ?_
            rintro w' hC v1 v2 v3 rfl rfl rfl
            intro K hK
            go_simp
            refine (KRl.out w' hC).mono ?_
            rintro e w2 ⟨rfl, rfl⟩
            exact hK _ _ rfl ⟨rfl, hC, Below.refl _ _⟩
          case s13 =>
            refine stepOk3 5 81 8 84 12 88 rfl (by kernel_rfl) ?_
            rintro w' hC v1 v2 v3 rfl rfl rfl
            intro K hK
            go_simp
            exact hK _ _ rfl ⟨rfl, hC, Below.refl _ _⟩
          case s14 =>
            refine stepOk2 5 81 13 89 rfl (by kernel_rfl) ?_
            rintro w' hC v1 v2 rfl rfl
            intro K hK
            go_simp
            exact hK _ _ rfl ⟨rfl, hC, Below.refl _ _⟩
          case s15 =>
            refine stepOk1 14 90 rfl (by kernel_rfl) ?_
            rintro w' hC v1 rfl
            intro K hK
            go_simp
            exact hK _ _ rfl ⟨rfl, hC, Below.refl _ _⟩
          case s16 =>
            refine stepOk1 15 91 rfl (by kernel_rfl) ?_
            rintro w' hC v1 rfl
            intro K hK
            go_simp
            exact hK _ _ rfl ⟨rfl, hC, Below.refl _ _⟩
          case s17 =>
            refine stepOk2 15 91 16 92 rfl (by kernel_rfl) ?_
            rintro w' hC v1 v2 rfl rfl
            intro K hK
            obtain ⟨x0, x1, x2⟩ := op_cells (blk_on hC H4.out)
            go_simp
            exact hK _ _ rfl ⟨rfl, hC, Below.refl _ _⟩
          case s18 =>
            refine stepOk2 15 91 17 93 rfl (by kernel_rfl) ?_
            rintro w' hC v1 v2 rfl rfl
            intro K hK
            go_simp
            refine (KFr.out w' hC).mono ?_
            rintro e w2 ⟨rfl, hb⟩
            exact hK _ _ rfl ⟨rfl, below_on hC hb, hb⟩
          case s19 =>
            refine stepOk1 15 91 rfl (by kernel_rfl) ?_
            rintro w' hC v1 rfl
            intro K hK
            go_simp
            exact hK _ _ rfl ⟨rfl, hC, Below.refl _ _⟩
          case s20 =>
            refine stepOk1 15 91 rfl (by kernel_rfl) ?_
            rintro w' hC v1 rfl
            intro K hK
            go_simp
            exact hK _ _ rfl ⟨rfl, hC, Below.refl _ _⟩
          case s21 =>
            refine stepOk2 15 91 20 96 rfl (by kernel_rfl) ?_
            rintro w' hC v1 v2 rfl rfl
            intro K hK
            obtain ⟨x0, x1, x2⟩ := op_cells (blk_on hC H4.out)
            go_simp
            exact hK _ _ rfl ⟨rfl, hC, Below.refl _ _⟩
          case s22 =>
            refine stepOk3 15 91 19 95 21 97 rfl (by kernel_rfl) ?_
            rintro w' hC v1 v2 v3 rfl rfl rfl
            intro K hK
            go_simp
            refine (KRf.out w' hC).mono ?_
            rintro e w2 ⟨rfl, rfl⟩
            exact hK _ _ rfl ⟨rfl, hC, Below.refl _ _⟩
          case s23 =>
            refine stepOk3 15 91 18 94 22 98 rfl (by kernel_rfl) ?_
            rintro w' hC v1 v2 v3 rfl rfl rfl
            intro K hK
            go_simp
            exact hK _ _ rfl ⟨rfl, hC, Below.refl _ _⟩
          case s24 =>
            refine stepOk2 15 91 23 99 rfl (by kernel_rfl) ?_
            rintro w' hC v1 v2 rfl rfl
            intro K hK
            go_simp
            exact hK _ _ rfl ⟨rfl, hC, Below.refl _ _⟩
        case hf =>
          intro w7 hC x_ hx
          obtain ⟨bo0, bc0, B0, e0, -⟩ : ∃ bo bc B, x_ 76 = .slice bo k bc ∧ OwnD w7 B (.slice bo k bc) (srt r) := hx (0, 76) (by simp)
          have e1 : x_ 77 = (Value.pointer (some ⟨E, 0, none⟩)) := hx (1, 77) (by simp)
          obtain ⟨bo2, bc2, B2, e2, -⟩ : ∃ bo bc B, x_ 78 = .slice bo k bc ∧ OwnD w7 B (.slice bo k bc) (srt r) := hx (2, 78) (by simp)
          have e3 : x_ 79 = (.bool true) := hx (3, 79) (by simp)
          have e4 : x_ 80 = (.bool false) := hx (4, 80) (by simp)
          have e5 : x_ 81 = (.bool false) := hx (5, 81) (by simp)
          have e6 : x_ 82 = (Value.pointer (some ⟨F, 1, none⟩)) := hx (6, 82) (by simp)
          have e7 : x_ 83 = (Value.int .i64 id) := hx (7, 83) (by simp)
          have e8 : x_ 84 = (.int .i64 (lf : Int)) := hx (8, 84) (by simp)
          have e9 : x_ 85 = (Value.pointer (some ⟨E, 0, none⟩)) := hx (9, 85) (by simp)
          have e10 : x_ 86 = (Value.pointer (some ⟨F, 1, none⟩)) := hx (10, 86) (by simp)
          have e11 : x_ 87 = (Value.int .i64 id) := hx (11, 87) (by simp)
          have e12 : x_ 88 = (.int .i64 (lf : Int)) := hx (12, 88) (by simp)
          have e13 : x_ 89 = (.bool false) := hx (13, 89) (by simp)
          have e14 : x_ 90 = (.bool false) := hx (14, 90) (by simp)
          have e15 : x_ 91 = (.bool false) := hx (15, 91) (by simp)
          have e16 : x_ 92 = (Value.pointer (some ⟨F, 1, none⟩)) := hx (16, 92) (by simp)
          have e17 : x_ 93 = (Value.int .i64 id) := hx (17, 93) (by simp)
          have e18 : x_ 94 = (.int .i64 (fr : Int)) := hx (18, 94) (by simp)
          have e19 : x_ 95 = (Value.pointer (some ⟨E, 0, none⟩)) := hx (19, 95) (by simp)
          have e20 : x_ 96 = (Value.pointer (some ⟨F, 1, none⟩)) := hx (20, 96) (by simp)
          have e21 : x_ 97 = (Value.int .i64 id) := hx (21, 97) (by simp)
          have e22 : x_ 98 = (.int .i64 (fr : Int)) := hx (22, 98) (by simp)
          have e23 : x_ 99 = (.bool false) := hx (23, 99) (by simp)
          have e24 : x_ 100 = (.bool false) := hx (24, 100) (by simp)
          simp only [putAll, List.foldl_cons, List.foldl_nil, e0, e1, e2, e3, e4, e5, e6, e7, e8, e9, e10, e11, e12, e13, e14, e15, e16, e17, e18, e19, e20, e21, e22, e23, e24, Act.put, List.setIfInBounds_toArray, List.set_cons_succ, List.set_cons_zero]
          have T7 := Lib.hid (T4.out.kept hC)
          clear hx hC e0 e1 e2 e3 e4 e5 e6 e7 e8 e9 e10 e11 e12 e13 e14 e15 e16 e17 e18 e19 e20 e21 e22 e23 e24 KDu KRd KLf KRl KFr KRf
          go_wp2_with fail
          go_roundw
          case rel =>
            first
              | exact ⟨j + 1, r, hlt, by go_num, T7.out⟩
              | ((repeat apply Exists.intro); exact ⟨⟨j + 1, r, hlt, by go_num, T7.out⟩, rfl⟩)
          case measure => simp [intOf]; omega
    · obtain rfl : j = M := by omega
      have BF := Lib.hid (below_on B1.out T3.out.bel)
      go_wp2_with fail
      go_ret
      exact ⟨rfl, BF.out⟩

theorem walk {w : World} (ao : Option Addr) (len cap : Nat) (l : List (Int × Int × Int)) (hs : l.length = len ∧ SeenOp w ao cap l ∧ ∀ o ∈ l, (fun o => (Lit.int .i64 o.1).wf = true ∧ (Lit.int .i64 o.2.1).wf = true ∧ (Lit.int .i64 o.2.2).wf = true) o) : Calls Try.prog 3 #[.slice ao len cap] w fun e w' => e = .returned (.bool true) ∧ Below w.heap.size w w' := by
  obtain ⟨rfl, hs, hok⟩ := hs
  rcases Nat.lt_or_ge 300 l.length with h | h
  · exact walk_long ao cap l h
  · exact walk_short ao cap l hs hok h

theorem own : ownKnob Try.prog.godebug = none := by kernel_rfl
theorem laidOut : laidOutB Try.prog = true := by kernel_rfl

set_option maxRecDepth 100000 in
theorem lifted (os : Os) (started : os.Started) (H : Type) (enc : TypeId × Value → H) :
    ReturnsInHanded {} Try.checked os 3 .any (Rows.deltaPlaysSpec.pre6 enc Try.prog Try.f3 Rows.deltaPlaysRow.domain false) (Rows.deltaPlaysSpec.post enc Try.prog Try.f3 false true false false) := by
  refine returnsInHanded_of_change_shaped (C := Try.checked) own started (by kernel_rfl) Try.func3
    (ChangeSpec.witness6 (enc := enc) (C := Try.checked) false ⟨#[], #[.slice none 0 0], []⟩ 8 (by kernel_rfl) (by kernel_rfl) (by kernel_rfl) (by kernel_rfl)) ?_
  intro W base args ds gs before hval0 hW hcnd hsz0 hsh _
  have hval : ∀ (j : Nat) t v, Try.f3.params[j]? = some t → args[j]? = some v → Value.okWide Try.prog W .any base t v := hval0
  have hsz : (DataW.weightsEach Try.prog (Try.f3.params.toList ++ Rows.deltaPlaysSpec.plain.varTypes Try.prog) (ds ++ gs)).all (· ≤ reachBytes) = true := hsz0
  have hW' := hW
  obtain ⟨p, q, hA0, hV, rfl, hfz, hnd⟩ := hW
  have hA : DataW.TrodAll enc Try.prog W 0 (fun _ => true) true Try.f3.params.toList args.toList ds p := hA0
  rw [Try.params3] at hA hval hsz
  obtain ⟨v0, vs0, d0, ds0, p0, q0, hargs, rfl, rfl, h0, r0⟩ := trodAll_cons hA
  obtain ⟨rfl, rfl, rfl⟩ := trodAll_nil r0
  obtain rfl : args = #[v0] := by cases args; simp_all
  obtain ⟨rfl, rfl⟩ := trodVars_none hV
  have k0 := h0
  have lt0 : ∀ x ∈ p0, x.block < W.heap.size := by obtain ⟨m, hm⟩ := k0; exact DataW.trod_lt m _ _ _ hm
  obtain ⟨a0, len0, cap0, rfl⟩ := okWide_slice Try.underlying22 (hval 0 22 v0 rfl rfl)
  obtain ⟨z0, w0⟩ := open_ops h0
  clear hA0 hval0
  refine (walk a0 len0 cap0 z0 w0 ).mono fun e W' ⟨he, bel⟩ => ?_
  subst he
  exact ⟨_, rfl, _, _, _, [], _, [], hW', trodAll_mk1 (shut_bool Try.underlying4 _), (trodAll_cons_mk (Below.trod laidOut (by kernel_rfl) (of_decide_eq_true (by kernel_rfl)) k0 bel lt0) trodAll_mk0), rfl, bel.frame _, fun h => by cases h⟩

theorem over : Rows.deltaPlaysRow.holds Try.pinned (OpenSpec.ofChange Rows.deltaPlaysSpec) :=
  OpenClaim.holds_of_wide 3 Try.f3 rfl rfl rfl rfl rfl rfl rfl ⟨rfl, rfl, rfl, rfl, rfl⟩ rfl rfl rfl rfl rfl (by kernel_rfl) Try.func3 (by kernel_rfl)
    (of_decide_eq_true (by kernel_rfl)) (by unfold Func.isWrapper; first | (rw [if_pos (by decide +kernel)]; kernel_rfl) | (rw [if_neg (by decide +kernel)]; exact ⟨rfl, rfl⟩))
    (fun os started H enc _ => lifted os started H enc)

theorem proved : Rows.DeltaPlaysSaid :=
  over
#print axioms proved

end Go.Proofs.Ytmgcdfndmokgnaa.deltaPlays
