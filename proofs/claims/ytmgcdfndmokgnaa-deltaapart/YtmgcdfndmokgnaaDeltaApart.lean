/-
  DeltaApart: for every list of calls and every number the statement's function answers true: a clock that is cancelled leaves the others' ticks and order as they were, as if it had never run. No condition.
-/
import Derived.Test.YtmgcdfndmokgnaaDe14
import Derived.ProofKit
import Derived.OpenShut
import Derived.ShutString
import Derived.HandedShaped
import Derived.BigRegion
import Derived.Deep.RegionWith
import Derived.Deep.DeepCutAuto
namespace Go.Proofs.Ytmgcdfndmokgnaa.deltaApart
open Go Go.ChangeShapes Go.WideShapes Go.ChangeAt Go.RowKit
open Go.ChangeMaps (open_string shut_string)
set_option linter.unusedVariables false

set_option maxRecDepth 100000 in
set_option maxHeartbeats 16000000 in
theorem walk_long {w : World} (ao : Option Addr) (cap : Nat) (l : List (Int × Int × Int)) (hl : 200 < l.length) (id : Int) : Calls Try.prog 5 #[.slice ao l.length cap, .int .i64 id] w fun e w' => e = .returned (.bool true) ∧ Below w.heap.size w w' := by
  have HA := Lib.hid awake15_any
  have hd : decide ((200 : Int) < (l.length : Int)) = true := by simp <;> omega
  go_enter Try.func5, Try.ntmps5
  go_wp2_with fail
  refine (HA.out w).mono ?_
  rintro e w1 ⟨rfl, h⟩
  have B1 := Lib.hid h
  clear h
  go_wp2_with fail
  refine (HA.out w1).mono ?_
  rintro e w2 ⟨rfl, h⟩
  have B2 := Lib.hid (below_on B1.out h)
  clear h
  go_wp2_with fail
  go_ret
  exact ⟨rfl, B2.out⟩

set_option maxRecDepth 100000 in
set_option maxHeartbeats 16000000 in
theorem walk_short {w : World} (ao : Option Addr) (cap : Nat) (l : List (Int × Int × Int)) (hs : SeenOp w ao cap l) (hok : ∀ o ∈ l, (Lit.int .i64 o.1).wf = true ∧ (Lit.int .i64 o.2.1).wf = true ∧ (Lit.int .i64 o.2.2).wf = true) (hl : l.length ≤ 200) (id : Int) : Calls Try.prog 5 #[.slice ao l.length cap, .int .i64 id] w fun e w' => e = .returned (.bool true) ∧ Below w.heap.size w w' := by
  have HA := Lib.hid (awake15_any w)
  have hd : decide ((200 : Int) < (l.length : Int)) = false := by simp <;> omega
  have HS := Lib.hid hs
  clear hs hok
  obtain ⟨M, hM⟩ : ∃ M, l.length = M := ⟨_, rfl⟩
  rw [hM] at hl hd
  simp only [hM]
  have HM := Lib.hid hM
  clear hM
  go_enter Try.func5, Try.ntmps5
  go_wp2_with fail
  refine HA.out.mono ?_
  rintro e w1 ⟨rfl, h⟩
  have B1 := Lib.hid h
  clear h
  obtain ⟨w2, e2⟩ : ∃ w2, w2 = w1.alloc (.cells #[.slice none 0 0] 26) := ⟨_, rfl⟩
  obtain ⟨w3, e3⟩ : ∃ w3, w3 = w2.alloc (.cells #[.slice none 0 0] 26) := ⟨_, rfl⟩
  obtain ⟨D, hD⟩ : ∃ D, w1.heap.size = D := ⟨_, rfl⟩
  obtain ⟨E, hE⟩ : ∃ E, D + 1 = E := ⟨_, rfl⟩
  have hT3 := twop_new e2 e3
  rw [hD, hE] at hT3
  have T3 := Lib.hid hT3
  have HD := Lib.hid hD
  have HE := Lib.hid hE
  clear hT3 hD hE
  go_upto_region 4 with fail
  rw [← e2, ← e3, HD.out, HE.out]
  clear e2 e3
  go_wp2_with fail
  go_loopw [19] (fun i wr => ∃ (j : Nat) (r : List Ck), j ≤ M ∧ i = .int .i64 j ∧ TwoP w1 wr D E (offD r id) r) (fun i _ => M - (intOf i).toNat)
  case atStart => exact ⟨0, [], Nat.zero_le _, rfl, T3.out⟩
  case round =>
    clear T3
    obtain ⟨j, r, hj, rfl, hT3⟩ := hrel
    have T3 := Lib.hid hT3
    clear hT3
    by_cases hlt : j < M
    · obtain ⟨b0, off, rfl, hb0, c0, c1, c2⟩ := seenOp_at (SeenR.below HS.out (below_on B1.out T3.out.bel)) j (by rw [HM.out]; exact hlt)
      generalize (l[j]'(by rw [HM.out]; exact hlt)).1 = kd at *
      generalize (l[j]'(by rw [HM.out]; exact hlt)).2.1 = o at *
      generalize (l[j]'(by rw [HM.out]; exact hlt)).2.2 = t at *
      obtain ⟨w4, e4⟩ : ∃ w4, w4 = wr.alloc (.cells #[.int .i64 kd, .int .i64 o, .int .i64 t] 32) := ⟨_, rfl⟩
      obtain ⟨s4, n4, b4⟩ := new_size e4
      obtain ⟨F, hF⟩ : ∃ F, wr.heap.size = F := ⟨_, rfl⟩
      rw [hF] at n4
      have T4 := Lib.hid (T3.out.kept b4)
      have H4 := Lib.hid n4
      have HF := Lib.hid hF
      obtain ⟨o0, o1, o2⟩ := op_cells n4
      clear s4 n4 b4 hF T3
      go_upto_region 7 with fail
      rw [← e4, HF.out]
      clear e4 c0 c1 c2
      rcases (show kd = 1 ∨ kd = 2 ∨ kd = 3 ∨ (kd ≠ 1 ∧ kd ≠ 2 ∧ kd ≠ 3) from by omega) with hkd | hkd | hkd | hkd
      · subst hkd
        have K5 := Lib.hid (tp_put2 T4.out o t)
        generalize (if putK r o t then (0 : Int) else 1) = z0 at *
        go_wp2_with fail
        refine K5.out.mono ?_
        rintro e w5 ⟨rfl, t_, p_⟩
        have T5 := Lib.hid t_
        have HN_ := p_ F _ _ H4.out (by decide) (by decide) (by decide) (by decide)
        have H5 := Lib.hid HN_
        obtain ⟨y0, y1, y2⟩ := op_cells HN_
        clear t_ p_ HN_
        clear o0 o1 o2 K5
        by_cases ho : o = id
        · subst ho
          have hb : (o != o) = false := by simp
          have T6 := Lib.hid (show TwoP w1 w5 D E (offD (putD r o t) o) (putD r o t) by rw [offD_put_same]; exact T5.out)
          go_wp2_with fail
          go_roundw
          case rel =>
            first
              | exact ⟨j + 1, _, hlt, by go_num, T6.out⟩
              | ((repeat apply Exists.intro); exact ⟨⟨j + 1, _, hlt, by go_num, T6.out⟩, rfl⟩)
          case measure => simp [intOf]; omega
        · have hb : (o != id) = true := by simpa using ho
          have K6 := Lib.hid (tp_put T5.out o t)
          rw [← offD_put r id o t ho] at K6
          generalize (if putK (offD r id) o t then (0 : Int) else 1) = z1 at *
          go_wp2_with fail
          refine K6.out.mono ?_
          rintro e w6 ⟨rfl, t_, p_⟩
          have T6 := Lib.hid t_
          have HN_ := p_ F _ _ H5.out (by decide) (by decide) (by decide) (by decide)
          have H6 := Lib.hid HN_
          obtain ⟨y0, y1, y2⟩ := op_cells HN_
          clear t_ p_ HN_
          clear K6
          go_wp2_with fail
          go_roundw
          case rel =>
            first
              | exact ⟨j + 1, _, hlt, by go_num, T6.out⟩
              | ((repeat apply Exists.intro); exact ⟨⟨j + 1, _, hlt, by go_num, T6.out⟩, rfl⟩)
          case measure => simp [intOf]; omega
      · subst hkd
        have K5 := Lib.hid (tp_cancel2 T4.out o)
        generalize runsK r o = z0 at *
        go_wp2_with fail
        refine K5.out.mono ?_
        rintro e w5 ⟨rfl, t_, p_⟩
        have T5 := Lib.hid t_
        have HN_ := p_ F _ _ H4.out (by decide) (by decide) (by decide) (by decide)
        have H5 := Lib.hid HN_
        obtain ⟨y0, y1, y2⟩ := op_cells HN_
        clear t_ p_ HN_
        clear o0 o1 o2 K5
        by_cases ho : o = id
        · subst ho
          have hb : (o != o) = false := by simp
          have T6 := Lib.hid (show TwoP w1 w5 D E (offD (offD r o) o) (offD r o) by rw [offD_same]; exact T5.out)
          go_wp2_with fail
          go_roundw
          case rel =>
            first
              | exact ⟨j + 1, _, hlt, by go_num, T6.out⟩
              | ((repeat apply Exists.intro); exact ⟨⟨j + 1, _, hlt, by go_num, T6.out⟩, rfl⟩)
          case measure => simp [intOf]; omega
        · have hb : (o != id) = true := by simpa using ho
          have K6 := Lib.hid (tp_cancel T5.out o)
          rw [← offD_off r id o] at K6
          generalize runsK (offD r id) o = z1 at *
          go_wp2_with fail
          refine K6.out.mono ?_
          rintro e w6 ⟨rfl, t_, p_⟩
          have T6 := Lib.hid t_
          have HN_ := p_ F _ _ H5.out (by decide) (by decide) (by decide) (by decide)
          have H6 := Lib.hid HN_
          obtain ⟨y0, y1, y2⟩ := op_cells HN_
          clear t_ p_ HN_
          clear K6
          go_wp2_with fail
          go_roundw
          case rel =>
            first
              | exact ⟨j + 1, _, hlt, by go_num, T6.out⟩
              | ((repeat apply Exists.intro); exact ⟨⟨j + 1, _, hlt, by go_num, T6.out⟩, rfl⟩)
          case measure => simp [intOf]; omega
      · subst hkd
        go_upto_region 17 with fail
        go_cut [58, 59] (fun c i wx => (∃ R : Nat, c = .int .i64 R ∧ R ≤ 5) ∧ i = .int .i64 0 ∧ wx = w4)
        case first =>
          rcases (show t < 0 ∨ (0 ≤ t ∧ t ≤ 5) ∨ 5 < t from by omega) with ht | ht | ht
          · have m1 : (if t < 0 then (0 : Int) else t) = 0 := if_pos ht
            have m2 : min (0 : Int) 5 = 0 := by omega
            have m3 : max t 0 = 0 := by omega
            go_wp2_with fail
            go_meet
            exact ⟨⟨0, rfl, by omega⟩, rfl, rfl⟩
          · obtain ⟨n, rfl⟩ := Int.eq_ofNat_of_zero_le ht.1
            have hn := ht.2
            clear ht
            have m1 : (if (n : Int) < 0 then (0 : Int) else (n : Int)) = n := if_neg (by omega)
            have m2 : min (n : Int) 5 = n := by omega
            have m3 : max (n : Int) 0 = n := by omega
            go_wp2_with fail
            go_meet
            exact ⟨⟨n, rfl, by omega⟩, rfl, rfl⟩
          · have m1 : (if t < 0 then (0 : Int) else t) = t := if_neg (by omega)
            have m2 : min t 5 = 5 := by omega
            have m3 : max t 0 = t := by omega
            have m4 : ¬ (t ≤ 5) := by omega
            have m5 : (if t ≤ 5 then t else (5 : Int)) = 5 := if_neg m4
            have m6 : ¬ (t < 0) := by omega
            have m7 : ¬ (t < 5) := by omega
            have m8 : 0 ≤ t := by omega
            go_wp2_with fail
            go_meet
            exact ⟨⟨5, rfl, by omega⟩, rfl, rfl⟩
        case rest =>
        obtain ⟨⟨R, rfl, hR⟩, rfl, rfl⟩ := hcut
        go_wp2_with fail
        go_loopw [59] (fun i wr => ∃ (p : Nat) (X : List Ck), p ≤ R ∧ i = .int .i64 p ∧ TwoP w1 wr D E (offD X id) X ∧ wr.heap[F]? = some (.cells #[.int .i64 3, .int .i64 o, .int .i64 t] 32 (0, 0))) (fun i _ => R - (intOf i).toNat)
        case atStart => exact ⟨0, r, Nat.zero_le _, rfl, T4.out, H4.out⟩
        case round =>
          clear T4 H4 o0 o1 o2
          obtain ⟨p, X, hp, rfl, hT5, hH5⟩ := hrel
          have T5 := Lib.hid hT5
          have H5 := Lib.hid hH5
          clear hT5 hH5
          by_cases hlp : p < R
          · have K5 := Lib.hid (tp_tick T5.out)
            rw [← offD_tick] at K5
            go_wp2_with fail
            refine K5.out.mono ?_
            rintro e w6 ⟨a6, k6, c6, rfl, t6, p6⟩
            have K6 := Lib.hid (tp_tick2 t6)
            have H6 := Lib.hid (p6 F _ _ H5.out (by decide) (by decide) (by decide) (by decide))
            clear t6 p6 K5
            go_wp2_with fail
            refine K6.out.mono ?_
            rintro e w7 ⟨a7, k7, c7, rfl, t7, p7⟩
            have T7 := Lib.hid t7
            have H7 := Lib.hid (p7 F _ _ H6.out (by decide) (by decide) (by decide) (by decide))
            clear t7 p7 K6 H6
            go_wp2_with fail
            go_roundw
            case rel => exact ⟨p + 1, _, hlp, by go_num, T7.out, H7.out⟩
            case measure => simp [intOf]; omega
          · obtain rfl : p = R := by omega
            go_wp2_with fail
            go_roundw
            case rel =>
              first
                | exact ⟨j + 1, _, hlt, by go_num, T5.out⟩
                | ((repeat apply Exists.intro); exact ⟨⟨j + 1, _, hlt, by go_num, T5.out⟩, rfl⟩)
            case measure => simp [intOf]; omega
      · have d1 : (kd == 1) = false := by simp; omega
        have d2 : (kd == 2) = false := by simp; omega
        have d3 : (kd == 3) = false := by simp; omega
        clear hkd
        go_wp2_with fail
        go_roundw
        case rel =>
          first
            | exact ⟨j + 1, _, hlt, by go_num, T4.out⟩
            | ((repeat apply Exists.intro); exact ⟨⟨j + 1, _, hlt, by go_num, T4.out⟩, rfl⟩)
        case measure => simp [intOf]; omega
    · obtain rfl : j = M := by omega
      have K5 := Lib.hid (tp_cancel2 T3.out id)
      generalize runsK r id = z0 at *
      go_wp2_with fail
      refine K5.out.mono ?_
      rintro e w5 ⟨rfl, t5, -⟩
      have T5 := Lib.hid t5
      have hk6 : (offD r id).length ≤ 1000000 := by
        obtain ⟨-, v9, u9, h9, -⟩ := t5
        have := h9.ok.len
        omega
      have K6 := Lib.hid (tp_dues t5)
      have K7 := Lib.hid (fun w' (hb : Below w5.heap.size w5 w') => tp_dues (t5.kept hb).swap)
      generalize offD r id = X at *
      obtain ⟨k, hk⟩ : ∃ k, X.length = k := ⟨_, rfl⟩
      rw [hk] at K6 K7 hk6
      clear hk t5 K5
      go_wp2_with fail
      refine K6.out.mono ?_
      rintro e w6 ⟨b6, c6, rfl, r6, h6⟩
      have R6 := Lib.hid r6
      have B6 := Lib.hid h6
      have KK := Lib.hid (K7.out w6 h6)
      clear r6 h6 K6 K7
      go_wp2_with fail
      refine KK.out.mono ?_
      rintro e w7 ⟨b7, c7, rfl, r7, h7⟩
      have K8 := same_own (R6.out.below h7) r7 hk6
      rw [show decide (srt X = srt X) = true from by simp] at K8
      have HK8 := Lib.hid K8
      have B7 := Lib.hid (below_on B1.out (T5.out.kept (below_on B6.out h7)).bel)
      clear r7 h7 K8 KK
      go_wp2_with fail
      refine HK8.out.mono ?_
      rintro e w8 ⟨rfl, q, rfl⟩
      have B8 := Lib.hid (below_drewN B7.out q)
      go_wp2_with fail
      go_ret
      exact ⟨rfl, B8.out⟩

theorem walk {w : World} (ao : Option Addr) (len cap : Nat) (l : List (Int × Int × Int)) (hs : l.length = len ∧ SeenOp w ao cap l ∧ ∀ o ∈ l, (fun o => (Lit.int .i64 o.1).wf = true ∧ (Lit.int .i64 o.2.1).wf = true ∧ (Lit.int .i64 o.2.2).wf = true) o) (id : Int) (_w : (Lit.int .i64 id).wf = true) : Calls Try.prog 5 #[.slice ao len cap, .int .i64 id] w fun e w' => e = .returned (.bool true) ∧ Below w.heap.size w w' := by
  obtain ⟨rfl, hs, hok⟩ := hs
  rcases Nat.lt_or_ge 200 l.length with h | h
  · exact walk_long ao cap l h id
  · exact walk_short ao cap l hs hok h id

theorem own : ownKnob Try.prog.godebug = none := by kernel_rfl
theorem laidOut : laidOutB Try.prog = true := by kernel_rfl

set_option maxRecDepth 100000 in
theorem lifted (os : Os) (started : os.Started) (H : Type) (enc : TypeId × Value → H) :
    ReturnsInHanded {} Try.checked os 5 .any (Rows.deltaApartSpec.pre6 enc Try.prog Try.f5 Rows.deltaApartRow.domain false) (Rows.deltaApartSpec.post enc Try.prog Try.f5 false true false false) := by
  refine returnsInHanded_of_change_shaped (C := Try.checked) own started (by kernel_rfl) Try.func5
    (ChangeSpec.witness6 (enc := enc) (C := Try.checked) false ⟨#[], #[.slice none 0 0, .int .i64 0], []⟩ 8 (by kernel_rfl) (by kernel_rfl) (by kernel_rfl) (by kernel_rfl)) ?_
  intro W base args ds gs before hval0 hW hcnd hsz0 hsh _
  have hval : ∀ (j : Nat) t v, Try.f5.params[j]? = some t → args[j]? = some v → Value.okWide Try.prog W .any base t v := hval0
  have hsz : (DataW.weightsEach Try.prog (Try.f5.params.toList ++ Rows.deltaApartSpec.plain.varTypes Try.prog) (ds ++ gs)).all (· ≤ reachBytes) = true := hsz0
  have hW' := hW
  obtain ⟨p, q, hA0, hV, rfl, hfz, hnd⟩ := hW
  have hA : DataW.TrodAll enc Try.prog W 0 (fun _ => true) true Try.f5.params.toList args.toList ds p := hA0
  rw [Try.params5] at hA hval hsz
  obtain ⟨v0, vs0, d0, ds0, p0, q0, hargs, rfl, rfl, h0, r0⟩ := trodAll_cons hA
  obtain ⟨v1, vs1, d1, ds1, p1, q1, rfl, rfl, rfl, h1, r1⟩ := trodAll_cons r0
  obtain ⟨rfl, rfl, rfl⟩ := trodAll_nil r1
  obtain rfl : args = #[v0, v1] := by cases args; simp_all
  obtain ⟨rfl, rfl⟩ := trodVars_none hV
  have k0 := h0
  have lt0 : ∀ x ∈ p0, x.block < W.heap.size := by obtain ⟨m, hm⟩ := k0; exact DataW.trod_lt m _ _ _ hm
  have k1 := h1
  have lt1 : ∀ x ∈ p1, x.block < W.heap.size := by obtain ⟨m, hm⟩ := k1; exact DataW.trod_lt m _ _ _ hm
  obtain ⟨a0, len0, cap0, rfl⟩ := okWide_slice Try.underlying22 (hval 0 22 v0 rfl rfl)
  obtain ⟨z0, w0⟩ := open_ops h0
  obtain ⟨a1, rfl, rfl, rfl, w1⟩ := open_int Try.underlying3 (hval 1 3 v1 rfl rfl) h1
  clear hA0 hval0
  refine (walk a0 len0 cap0 z0 w0 a1 w1 ).mono fun e W' ⟨he, bel⟩ => ?_
  subst he
  exact ⟨_, rfl, _, _, _, [], _, [], hW', trodAll_mk1 (shut_bool Try.underlying4 _), (trodAll_cons_mk (Below.trod laidOut (by kernel_rfl) (of_decide_eq_true (by kernel_rfl)) k0 bel lt0) (trodAll_cons_mk (Below.trod laidOut (by kernel_rfl) (of_decide_eq_true (by kernel_rfl)) k1 bel lt1) trodAll_mk0)), rfl, bel.frame _, fun h => by cases h⟩

theorem over : Rows.deltaApartRow.holds Try.pinned (OpenSpec.ofChange Rows.deltaApartSpec) :=
  OpenClaim.holds_of_wide 5 Try.f5 rfl rfl rfl rfl rfl rfl rfl ⟨rfl, rfl, rfl, rfl, rfl⟩ rfl rfl rfl rfl rfl (by kernel_rfl) Try.func5 (by kernel_rfl)
    (of_decide_eq_true (by kernel_rfl)) (by unfold Func.isWrapper; first | (rw [if_pos (by decide +kernel)]; kernel_rfl) | (rw [if_neg (by decide +kernel)]; exact ⟨rfl, rfl⟩))
    (fun os started H enc _ => lifted os started H enc)

theorem proved : Rows.DeltaApartSaid :=
  over
#print axioms proved

end Go.Proofs.Ytmgcdfndmokgnaa.deltaApart
