/-
  WaitLower: for all lists of tasks and levels and every number the statement's function answers true: with one gone who isn't more urgent it is the same one's turn. No condition.
-/
import Derived.Test.YteglnlhdgfpglaaWa6
import Derived.ProofKit
import Derived.OpenShut
import Derived.ShutString
import Derived.HandedShaped
import Derived.BigRegion
import Derived.Deep.RegionWith
import Derived.Deep.DeepCutAuto
namespace Go.Proofs.Yteglnlhdgfpglaa.waitLower
open Go Go.ChangeShapes Go.WideShapes Go.ChangeAt Go.RowKit
open Go.ChangeMaps (open_string shut_string)
set_option linter.unusedVariables false

set_option maxRecDepth 100000 in
set_option maxHeartbeats 16000000 in
theorem walk_long {w : World} (ao : Option Addr) (cap n : Nat) (bo : Option Addr) (bc k : Nat) (gone : Int) (hl : 100 < n ∨ 100 < k) : Calls Try.prog 5 #[.slice ao n cap, .slice bo k bc, .int .i64 gone] w fun e w' => e = .returned (.bool true) ∧ Below w.heap.size w w' := by
  have HA := Lib.hid awake16_any
  by_cases h1 : 100 < n
  · have hd : decide ((100 : Int) < (n : Int)) = true := by simp <;> omega
    clear hl h1
    go_enter Try.func5, Try.ntmps5
    go_wp2_with fail
    refine (HA.out w).mono ?_
    rintro e w1 ⟨rfl, h⟩
    have B1 := Lib.hid h
    clear h
    go_wp2_with fail
    refine (HA.out w1).mono ?_
    rintro e w2 ⟨rfl, h⟩
    have B2 := Lib.hid (below_on B1.out h)
    clear h
    go_wp2_with fail
    go_ret
    exact ⟨rfl, B2.out⟩
  · have hd : decide ((100 : Int) < (n : Int)) = false := by simp <;> omega
    have hd2 : decide ((100 : Int) < (k : Int)) = true := by simp <;> omega
    clear hl h1
    go_enter Try.func5, Try.ntmps5
    go_wp2_with fail
    refine (HA.out w).mono ?_
    rintro e w1 ⟨rfl, h⟩
    have B1 := Lib.hid h
    clear h
    go_wp2_with fail
    refine (HA.out w1).mono ?_
    rintro e w2 ⟨rfl, h⟩
    have B2 := Lib.hid (below_on B1.out h)
    clear h
    go_wp2_with fail
    go_ret
    exact ⟨rfl, B2.out⟩

set_option maxRecDepth 100000 in
set_option maxHeartbeats 16000000 in
theorem walk_short {w : World} (ao : Option Addr) (cap : Nat) (lt : List Int) (hs : SeenL w ao cap lt) (hl : lt.length ≤ 100) (bo : Option Addr) (bc : Nat) (lv : List Int) (hs2 : SeenL w bo bc lv) (hl2 : lv.length ≤ 100) (gone : Int) : Calls Try.prog 5 #[.slice ao lt.length cap, .slice bo lv.length bc, .int .i64 gone] w fun e w' => e = .returned (.bool true) ∧ Below w.heap.size w w' := by
  have HA := Lib.hid (awake16_any w)
  have HS := Lib.hid hs
  have HL := Lib.hid hs2
  clear hs hs2
  have KB := Lib.hid (fun (w0 u : World) (m : Nat) (v : Value) (l : List Nat) (hb : Below w.heap.size w w0) (h : OW w0 u m v l) => ow_best h (SeenR.below HL.out (below_on hb h.bel)))
  obtain ⟨M, hM⟩ : ∃ M, lt.length = M := ⟨_, rfl⟩
  obtain ⟨K, hK⟩ : ∃ K, lv.length = K := ⟨_, rfl⟩
  have hd : decide ((100 : Int) < (M : Int)) = false := by simp <;> omega
  have hd2 : decide ((100 : Int) < (K : Int)) = false := by simp <;> omega
  simp only [hM, hK] at hl hl2 KB ⊢
  have HM := Lib.hid hM
  have HK := Lib.hid hK
  clear hM hK
  go_enter Try.func5, Try.ntmps5
  go_wp2_with fail
  refine HA.out.mono ?_
  rintro e w1 ⟨rfl, h⟩
  have B1 := Lib.hid h
  clear h
  obtain ⟨w2, e2⟩ : ∃ w2, w2 = w1.alloc (.cells #[.slice none 0 0] 26) := ⟨_, rfl⟩
  obtain ⟨D, hD⟩ : ∃ D, w1.heap.size = D := ⟨_, rfl⟩
  have hO2 := ow_new e2
  rw [hD] at hO2
  have O2 := Lib.hid hO2
  have HD := Lib.hid hD
  clear hO2 hD
  go_upto_region 4 with fail
  rw [← e2, HD.out]
  clear e2
  go_wp2_with fail
  go_loopw [29] (fun i wr => ∃ (j : Nat) (v : Value) (l : List Nat), j ≤ M ∧ i = .int .i64 j ∧ OW w1 wr D v l) (fun i _ => M - (intOf i).toNat)
  case atStart => exact ⟨0, _, _, Nat.zero_le _, rfl, O2.out⟩
  case round =>
    clear O2
    obtain ⟨j, v, l, hj, rfl, hO3⟩ := hrel
    have O3 := Lib.hid hO3
    clear hO3
    by_cases hlt : j < M
    · obtain ⟨b0, off, rfl, hb0, c0⟩ := seenL_at (SeenR.below HS.out (below_on B1.out O3.out.bel)) j (by rw [HM.out]; exact hlt)
      generalize (lt[j]'(by rw [HM.out]; exact hlt)) = t at *
      have K4 := Lib.hid (ow_add O3.out t)
      generalize (if addK l t then (0 : Int) else 1) = z0 at *
      go_wp2_with fail
      refine K4.out.mono ?_
      rintro e w4 ⟨rfl, v4, o4, -⟩
      have O4 := Lib.hid o4
      clear o4 c0 K4 O3
      go_wp2_with fail
      go_roundw
      case rel =>
        first
          | exact ⟨j + 1, _, _, hlt, by go_num, O4.out⟩
          | ((repeat apply Exists.intro); exact ⟨⟨j + 1, _, _, hlt, by go_num, O4.out⟩, rfl⟩)
      case measure => simp [intOf]; omega
    · obtain rfl : j = M := by omega
      have K4 := Lib.hid (KB.out w1 wr D v l B1.out O3.out)
      cases hb : bestW lv l with
      | none =>
        rw [show bestV lv l = .tuple #[.int .i64 0, .bool false] by unfold bestV; rw [hb]] at K4
        clear hb
        by_cases hg : gone = 0
        · subst hg
          go_wp2_with fail
          refine K4.out.mono ?_
          rintro e w4 ⟨rfl, q, rfl⟩
          have B4 := Lib.hid (below_on B1.out (O3.out.drewN q).bel)
          go_wp2_with fail
          go_ret
          exact ⟨rfl, B4.out⟩
        · have hg2 : (gone == 0) = false := by simpa using hg
          go_wp2_with fail
          refine K4.out.mono ?_
          rintro e w4 ⟨rfl, q, rfl⟩
          have B4 := Lib.hid (below_on B1.out (O3.out.drewN q).bel)
          go_wp2_with fail
          go_ret
          exact ⟨rfl, B4.out⟩
      | some t =>
        rw [show bestV lv l = .tuple #[.int .i64 (t : Int), .bool true] by unfold bestV; rw [hb]] at K4
        by_cases hg : gone = (t : Int)
        · subst hg
          clear hb
          go_wp2_with fail
          refine K4.out.mono ?_
          rintro e w4 ⟨rfl, q, rfl⟩
          have B4 := Lib.hid (below_on B1.out (O3.out.drewN q).bel)
          go_wp2_with fail
          go_ret
          exact ⟨rfl, B4.out⟩
        · have hg2 : (gone == (t : Int)) = false := by simpa using hg
          have hb2 := Lib.hid (best_gone hb gone (fun e => hg e.symm))
          clear hb hg
          go_wp2_with fail
          refine K4.out.mono ?_
          rintro e w4 ⟨rfl, q, rfl⟩
          have O4 := O3.out.drewN q
          generalize wr.drewN q = w4 at *
          have K5 := Lib.hid (ow_remove O4 gone)
          generalize inW l gone = z1 at *
          clear O4 K4
          go_wp2_with fail
          refine K5.out.mono ?_
          rintro e w5 ⟨rfl, v5, o5, -⟩
          have K6 := KB.out w1 w5 D v5 _ B1.out o5
          rw [show bestV lv (remW l gone) = .tuple #[.int .i64 (t : Int), .bool true] by unfold bestV; rw [hb2.out]] at K6
          have KK6 := Lib.hid K6
          have O5 := Lib.hid o5
          clear o5 K6 K5
          go_wp2_with fail
          refine KK6.out.mono ?_
          rintro e w6 ⟨rfl, q, rfl⟩
          have B6 := Lib.hid (below_on B1.out (O5.out.drewN q).bel)
          clear KK6
          go_wp2_with fail
          go_ret
          exact ⟨rfl, B6.out⟩

theorem walk {w : World} (ao : Option Addr) (len cap : Nat) (lt : List Int) (hs : lt.length = len ∧ SeenL w ao cap lt ∧ ∀ z ∈ lt, (Lit.int .i64 z).wf = true) (bo : Option Addr) (len2 bc : Nat) (lv : List Int) (hs2 : lv.length = len2 ∧ SeenL w bo bc lv ∧ ∀ z ∈ lv, (Lit.int .i64 z).wf = true) (gone : Int) (_w : (Lit.int .i64 gone).wf = true) : Calls Try.prog 5 #[.slice ao len cap, .slice bo len2 bc, .int .i64 gone] w fun e w' => e = .returned (.bool true) ∧ Below w.heap.size w w' := by
  obtain ⟨rfl, hs, -⟩ := hs
  obtain ⟨rfl, hs2, -⟩ := hs2
  by_cases h : 100 < lt.length ∨ 100 < lv.length
  · exact walk_long ao cap _ bo bc _ gone h
  · exact walk_short ao cap lt hs (by omega) bo bc lv hs2 (by omega) gone

theorem own : ownKnob Try.prog.godebug = none := by kernel_rfl
theorem laidOut : laidOutB Try.prog = true := by kernel_rfl

set_option maxRecDepth 100000 in
theorem lifted (os : Os) (started : os.Started) (H : Type) (enc : TypeId × Value → H) :
    ReturnsInHanded {} Try.checked os 5 .any (Rows.waitLowerSpec.pre6 enc Try.prog Try.f5 Rows.waitLowerRow.domain false) (Rows.waitLowerSpec.post enc Try.prog Try.f5 false true false false) := by
  refine returnsInHanded_of_change_shaped (C := Try.checked) own started (by kernel_rfl) Try.func5
    (ChangeSpec.witness6 (enc := enc) (C := Try.checked) false ⟨#[], #[.slice none 0 0, .slice none 0 0, .int .i64 0], []⟩ 8 (by kernel_rfl) (by kernel_rfl) (by kernel_rfl) (by kernel_rfl)) ?_
  intro W base args ds gs before hval0 hW hcnd hsz0 hsh _
  have hval : ∀ (j : Nat) t v, Try.f5.params[j]? = some t → args[j]? = some v → Value.okWide Try.prog W .any base t v := hval0
  have hsz : (DataW.weightsEach Try.prog (Try.f5.params.toList ++ Rows.waitLowerSpec.plain.varTypes Try.prog) (ds ++ gs)).all (· ≤ reachBytes) = true := hsz0
  have hW' := hW
  obtain ⟨p, q, hA0, hV, rfl, hfz, hnd⟩ := hW
  have hA : DataW.TrodAll enc Try.prog W 0 (fun _ => true) true Try.f5.params.toList args.toList ds p := hA0
  rw [Try.params5] at hA hval hsz
  obtain ⟨v0, vs0, d0, ds0, p0, q0, hargs, rfl, rfl, h0, r0⟩ := trodAll_cons hA
  obtain ⟨v1, vs1, d1, ds1, p1, q1, rfl, rfl, rfl, h1, r1⟩ := trodAll_cons r0
  obtain ⟨v2, vs2, d2, ds2, p2, q2, rfl, rfl, rfl, h2, r2⟩ := trodAll_cons r1
  obtain ⟨rfl, rfl, rfl⟩ := trodAll_nil r2
  obtain rfl : args = #[v0, v1, v2] := by cases args; simp_all
  obtain ⟨rfl, rfl⟩ := trodVars_none hV
  have k0 := h0
  have lt0 : ∀ x ∈ p0, x.block < W.heap.size := by obtain ⟨m, hm⟩ := k0; exact DataW.trod_lt m _ _ _ hm
  have k1 := h1
  have lt1 : ∀ x ∈ p1, x.block < W.heap.size := by obtain ⟨m, hm⟩ := k1; exact DataW.trod_lt m _ _ _ hm
  have k2 := h2
  have lt2 : ∀ x ∈ p2, x.block < W.heap.size := by obtain ⟨m, hm⟩ := k2; exact DataW.trod_lt m _ _ _ hm
  obtain ⟨a0, len0, cap0, rfl⟩ := okWide_slice Try.underlying23 (hval 0 23 v0 rfl rfl)
  obtain ⟨z0, w0⟩ := open_lvs h0
  obtain ⟨a1, len1, cap1, rfl⟩ := okWide_slice Try.underlying23 (hval 1 23 v1 rfl rfl)
  obtain ⟨z1, w1⟩ := open_lvs h1
  obtain ⟨a2, rfl, rfl, rfl, w2⟩ := open_int Try.underlying3 (hval 2 3 v2 rfl rfl) h2
  clear hA0 hval0
  refine (walk a0 len0 cap0 z0 w0 a1 len1 cap1 z1 w1 a2 w2 ).mono fun e W' ⟨he, bel⟩ => ?_
  subst he
  exact ⟨_, rfl, _, _, _, [], _, [], hW', trodAll_mk1 (shut_bool Try.underlying4 _), (trodAll_cons_mk (Below.trod laidOut (by kernel_rfl) (of_decide_eq_true (by kernel_rfl)) k0 bel lt0) (trodAll_cons_mk (Below.trod laidOut (by kernel_rfl) (of_decide_eq_true (by kernel_rfl)) k1 bel lt1) (trodAll_cons_mk (Below.trod laidOut (by kernel_rfl) (of_decide_eq_true (by kernel_rfl)) k2 bel lt2) trodAll_mk0))), rfl, bel.frame _, fun h => by cases h⟩

theorem over : Rows.waitLowerRow.holds Try.pinned (OpenSpec.ofChange Rows.waitLowerSpec) :=
  OpenClaim.holds_of_wide 5 Try.f5 rfl rfl rfl rfl rfl rfl rfl ⟨rfl, rfl, rfl, rfl, rfl⟩ rfl rfl rfl rfl rfl (by kernel_rfl) Try.func5 (by kernel_rfl)
    (of_decide_eq_true (by kernel_rfl)) (by unfold Func.isWrapper; first | (rw [if_pos (by decide +kernel)]; kernel_rfl) | (rw [if_neg (by decide +kernel)]; exact ⟨rfl, rfl⟩))
    (fun os started H enc _ => lifted os started H enc)

theorem proved : Rows.WaitLowerSaid :=
  over
#print axioms proved

end Go.Proofs.Yteglnlhdgfpglaa.waitLower
