/-
  WaitOwn: for every list of tasks and every number the statement's function answers true: what is answered is the caller's. No condition.
-/
import Derived.Test.YteglnlhdgfpglaaWa6
import Derived.ProofKit
import Derived.OpenShut
import Derived.ShutString
import Derived.HandedShaped
import Derived.BigRegion
import Derived.Deep.RegionWith
import Derived.Deep.DeepCutAuto
namespace Go.Proofs.Yteglnlhdgfpglaa.waitOwn
open Go Go.ChangeShapes Go.WideShapes Go.ChangeAt Go.RowKit
open Go.ChangeMaps (open_string shut_string)
set_option linter.unusedVariables false

set_option maxRecDepth 100000 in
set_option maxHeartbeats 16000000 in
theorem ownI_at {w : World} {B n bc : Nat} {ao : Option Addr} {S : List Nat} (h : OwnI w B (.slice ao n bc) S) (i : Nat) (hi : i < S.length) :
    ∃ g, ao = some ⟨g, 0, none⟩ ∧ w.cell? ⟨g, i, none⟩ = some (.int .i64 ((S[i]) : Int)) := by
  rcases h.2 with ⟨e, e2⟩ | ⟨g, cap, cur, e, -⟩
  · have := h.len; simp at e; omega
  · cases e
    obtain ⟨a', c', e', hsn, -⟩ := OwnR.seen w1i_len h
    cases e'
    obtain ⟨b', off', e', -, c0⟩ := seenN_at hsn i hi
    cases e'
    rw [Nat.zero_add] at c0
    exact ⟨_, rfl, c0⟩
set_option maxRecDepth 100000 in
set_option maxHeartbeats 16000000 in
theorem walk_long {w : World} (ao : Option Addr) (cap k : Nat) (hl : 100 < k) (n : Int) : Calls Try.prog 6 #[.slice ao k cap, .int .i64 n] w fun e w' => e = .returned (.bool true) ∧ Below w.heap.size w w' := by
  have HA := Lib.hid awake16_any
  have hd : decide ((100 : Int) < (k : Int)) = true := by simp <;> omega
  clear hl
  go_enter Try.func6, Try.ntmps6
  go_wp2_with fail
  refine (HA.out w).mono ?_
  rintro e w1 ⟨rfl, h⟩
  have B1 := Lib.hid h
  clear h
  go_wp2_with fail
  refine (HA.out w1).mono ?_
  rintro e w2 ⟨rfl, h⟩
  have B2 := Lib.hid (below_on B1.out h)
  clear h
  go_wp2_with fail
  go_ret
  exact ⟨rfl, B2.out⟩

set_option maxRecDepth 100000 in
set_option maxHeartbeats 16000000 in
theorem walk_short {w : World} (ao : Option Addr) (cap : Nat) (lt : List Int) (hs : SeenL w ao cap lt) (hl : lt.length ≤ 100) (n : Int) : Calls Try.prog 6 #[.slice ao lt.length cap, .int .i64 n] w fun e w' => e = .returned (.bool true) ∧ Below w.heap.size w w' := by
  have HA := Lib.hid (awake16_any w)
  have HS := Lib.hid hs
  clear hs
  obtain ⟨M, hM⟩ : ∃ M, lt.length = M := ⟨_, rfl⟩
  have hd : decide ((100 : Int) < (M : Int)) = false := by simp <;> omega
  simp only [hM] at hl ⊢
  have HM := Lib.hid hM
  clear hM
  go_enter Try.func6, Try.ntmps6
  go_wp2_with fail
  refine HA.out.mono ?_
  rintro e w1 ⟨rfl, h⟩
  have B1 := Lib.hid h
  clear h
  obtain ⟨w2, e2⟩ : ∃ w2, w2 = w1.alloc (.cells #[.slice none 0 0] 26) := ⟨_, rfl⟩
  obtain ⟨D, hD⟩ : ∃ D, w1.heap.size = D := ⟨_, rfl⟩
  have hO2 := ow_new e2
  rw [hD] at hO2
  have O2 := Lib.hid hO2
  have HD := Lib.hid hD
  clear hO2 hD
  go_upto_region 4 with fail
  rw [← e2, HD.out]
  clear e2
  go_wp2_with fail
  go_loopw [20] (fun i wr => ∃ (j : Nat) (v : Value) (l : List Nat), j ≤ M ∧ i = .int .i64 j ∧ OW w1 wr D v l) (fun i _ => M - (intOf i).toNat)
  case atStart => exact ⟨0, _, _, Nat.zero_le _, rfl, O2.out⟩
  case round =>
    clear O2
    obtain ⟨j, v, l, hj, rfl, hO3⟩ := hrel
    have O3 := Lib.hid hO3
    clear hO3
    by_cases hlt : j < M
    · obtain ⟨b0, off, rfl, hb0, c0⟩ := seenL_at (SeenR.below HS.out (below_on B1.out O3.out.bel)) j (by rw [HM.out]; exact hlt)
      generalize (lt[j]'(by rw [HM.out]; exact hlt)) = t at *
      have K4 := Lib.hid (ow_add O3.out t)
      generalize (if addK l t then (0 : Int) else 1) = z0 at *
      go_wp2_with fail
      refine K4.out.mono ?_
      rintro e w4 ⟨rfl, v4, o4, -⟩
      have O4 := Lib.hid o4
      clear o4 c0 K4 O3
      go_wp2_with fail
      go_roundw
      case rel =>
        first
          | exact ⟨j + 1, _, _, hlt, by go_num, O4.out⟩
          | ((repeat apply Exists.intro); exact ⟨⟨j + 1, _, _, hlt, by go_num, O4.out⟩, rfl⟩)
      case measure => simp [intOf]; omega
    · obtain rfl : j = M := by omega
      have hk2 : l.length ≤ 64 := O3.out.ok.len
      have K4 := Lib.hid (ow_all O3.out)
      obtain ⟨k, hk⟩ : ∃ k, l.length = k := ⟨_, rfl⟩
      rw [hk] at K4 hk2
      have HKK := Lib.hid hk
      clear hk
      go_wp2_with fail
      refine K4.out.mono ?_
      rintro e w4 ⟨ba, ca, rfl, r4, b4⟩
      have O4 := Lib.hid (O3.out.kept b4)
      have R4 := Lib.hid r4
      have B4 := Lib.hid b4
      have K5 := ow_all (O3.out.kept b4)
      rw [HKK.out] at K5
      have KK5 := Lib.hid K5
      clear K5 r4 b4 K4
      go_wp2_with fail
      refine KK5.out.mono ?_
      rintro e w5 ⟨bb, cb, rfl, r5, b5⟩
      have O5 := Lib.hid (O4.out.kept b5)
      have R5 := Lib.hid r5
      have Q5 := Lib.hid (OwnR.below R4.out b5)
      have hQ0 : ∀ b, (Value.slice ba k ca).ownBlock = some b → b < w4.heap.size := fun b hb => (OwnR.lt R4.out b hb).2
      clear r5 b5 KK5 R4
      rcases (show n < 0 ∨ (0 ≤ n ∧ (k : Int) ≤ n) ∨ (0 ≤ n ∧ n < (k : Int)) from by omega) with hn | hn | hn
      · have d1 : decide (0 ≤ n) = false := by simp; omega
        clear hn
        have K7 := ow_all O5.out
        rw [HKK.out] at K7
        have KK7 := Lib.hid K7
        clear K7
        go_wp2_with fail
        refine KK7.out.mono ?_
        rintro e w7 ⟨bd, cd, rfl, r7, b7⟩
        have K8 := wints_own r7 (OwnR.below Q5.out b7) (by omega)
        rw [show decide (l = l) = true from by simp] at K8
        have KK8 := Lib.hid K8
        have O7 := Lib.hid (O5.out.kept b7)
        clear K8 r7 b7 KK7
        go_wp2_with fail
        refine KK8.out.mono ?_
        rintro e w8 ⟨rfl, q, rfl⟩
        have B8 := Lib.hid (below_on B1.out (O7.out.drewN q).bel)
        clear KK8
        go_wp2_with fail
        go_ret
        exact ⟨rfl, B8.out⟩
      · have d1 : decide (0 ≤ n) = true := by simp; omega
        have d2 : decide (n < (k : Int)) = false := by simp; omega
        clear hn
        have K7 := ow_all O5.out
        rw [HKK.out] at K7
        have KK7 := Lib.hid K7
        clear K7
        go_wp2_with fail
        refine KK7.out.mono ?_
        rintro e w7 ⟨bd, cd, rfl, r7, b7⟩
        have K8 := wints_own r7 (OwnR.below Q5.out b7) (by omega)
        rw [show decide (l = l) = true from by simp] at K8
        have KK8 := Lib.hid K8
        have O7 := Lib.hid (O5.out.kept b7)
        clear K8 r7 b7 KK7
        go_wp2_with fail
        refine KK8.out.mono ?_
        rintro e w8 ⟨rfl, q, rfl⟩
        have B8 := Lib.hid (below_on B1.out (O7.out.drewN q).bel)
        clear KK8
        go_wp2_with fail
        go_ret
        exact ⟨rfl, B8.out⟩
      · obtain ⟨i, rfl⟩ := Int.eq_ofNat_of_zero_le hn.1
        have hik : i < k := by omega
        clear hn
        obtain ⟨g, rfl, c5⟩ := ownI_at R5.out i (by rw [HKK.out]; exact hik)
        have hg := OwnR.lt R5.out g rfl
        obtain ⟨cs, hcs⟩ := OwnR.kind R5.out (k := g) rfl
        have f5 : w5.frozen? ⟨g, i, none⟩ = false := by simp [World.frozen?, hcs]
        obtain ⟨w6, e6⟩ : ∃ w6, w6 = w5.setCell ⟨g, i, none⟩ (.int .i64 (-1)) := ⟨_, rfl⟩
        have ho : Only w5 w6 (fun b => b = g) := by rw [e6]; exact Only.setCell w5 g i _ _ rfl
        have hO6 : OW w1 w6 D v l := O5.out.only ho (O5.out.bel.trans (ho.below O5.out.bel.size (fun b hb => by subst hb; exact Nat.le_trans O4.out.bel.size hg.1)))
          (fun e => by have := O4.out.lt; omega) (fun b hb e => by have := (OwnR.lt O4.out.st.row b hb).2; omega)
        have O6 := Lib.hid hO6
        have Q6 := Lib.hid (OwnR.only Q5.out ho (fun b hb e => by have := hQ0 b hb; omega))
        have E6 := Lib.hid e6
        clear hg hcs ho hO6 e6
        go_upto_region 12 with fail
        try rw [← E6.out]
        have K7 := ow_all O6.out
        rw [HKK.out] at K7
        have KK7 := Lib.hid K7
        clear K7
        go_wp2_with fail
        refine KK7.out.mono ?_
        rintro e w7 ⟨bd, cd, rfl, r7, b7⟩
        have K8 := wints_own r7 (OwnR.below Q6.out b7) (by omega)
        rw [show decide (l = l) = true from by simp] at K8
        have KK8 := Lib.hid K8
        have O7 := Lib.hid (O6.out.kept b7)
        clear K8 r7 b7 KK7
        go_wp2_with fail
        refine KK8.out.mono ?_
        rintro e w8 ⟨rfl, q, rfl⟩
        have B8 := Lib.hid (below_on B1.out (O7.out.drewN q).bel)
        clear KK8
        go_wp2_with fail
        go_ret
        exact ⟨rfl, B8.out⟩

theorem walk {w : World} (ao : Option Addr) (len cap : Nat) (lt : List Int) (hs : lt.length = len ∧ SeenL w ao cap lt ∧ ∀ z ∈ lt, (Lit.int .i64 z).wf = true) (n : Int) (_w : (Lit.int .i64 n).wf = true) : Calls Try.prog 6 #[.slice ao len cap, .int .i64 n] w fun e w' => e = .returned (.bool true) ∧ Below w.heap.size w w' := by
  obtain ⟨rfl, hs, -⟩ := hs
  rcases Nat.lt_or_ge 100 lt.length with h | h
  · exact walk_long ao cap _ h n
  · exact walk_short ao cap lt hs h n

theorem own : ownKnob Try.prog.godebug = none := by kernel_rfl
theorem laidOut : laidOutB Try.prog = true := by kernel_rfl

set_option maxRecDepth 100000 in
theorem lifted (os : Os) (started : os.Started) (H : Type) (enc : TypeId × Value → H) :
    ReturnsInHanded {} Try.checked os 6 .any (Rows.waitOwnSpec.pre6 enc Try.prog Try.f6 Rows.waitOwnRow.domain false) (Rows.waitOwnSpec.post enc Try.prog Try.f6 false true false false) := by
  refine returnsInHanded_of_change_shaped (C := Try.checked) own started (by kernel_rfl) Try.func6
    (ChangeSpec.witness6 (enc := enc) (C := Try.checked) false ⟨#[], #[.slice none 0 0, .int .i64 0], []⟩ 8 (by kernel_rfl) (by kernel_rfl) (by kernel_rfl) (by kernel_rfl)) ?_
  intro W base args ds gs before hval0 hW hcnd hsz0 hsh _
  have hval : ∀ (j : Nat) t v, Try.f6.params[j]? = some t → args[j]? = some v → Value.okWide Try.prog W .any base t v := hval0
  have hsz : (DataW.weightsEach Try.prog (Try.f6.params.toList ++ Rows.waitOwnSpec.plain.varTypes Try.prog) (ds ++ gs)).all (· ≤ reachBytes) = true := hsz0
  have hW' := hW
  obtain ⟨p, q, hA0, hV, rfl, hfz, hnd⟩ := hW
  have hA : DataW.TrodAll enc Try.prog W 0 (fun _ => true) true Try.f6.params.toList args.toList ds p := hA0
  rw [Try.params6] at hA hval hsz
  obtain ⟨v0, vs0, d0, ds0, p0, q0, hargs, rfl, rfl, h0, r0⟩ := trodAll_cons hA
  obtain ⟨v1, vs1, d1, ds1, p1, q1, rfl, rfl, rfl, h1, r1⟩ := trodAll_cons r0
  obtain ⟨rfl, rfl, rfl⟩ := trodAll_nil r1
  obtain rfl : args = #[v0, v1] := by cases args; simp_all
  obtain ⟨rfl, rfl⟩ := trodVars_none hV
  have k0 := h0
  have lt0 : ∀ x ∈ p0, x.block < W.heap.size := by obtain ⟨m, hm⟩ := k0; exact DataW.trod_lt m _ _ _ hm
  have k1 := h1
  have lt1 : ∀ x ∈ p1, x.block < W.heap.size := by obtain ⟨m, hm⟩ := k1; exact DataW.trod_lt m _ _ _ hm
  obtain ⟨a0, len0, cap0, rfl⟩ := okWide_slice Try.underlying23 (hval 0 23 v0 rfl rfl)
  obtain ⟨z0, w0⟩ := open_lvs h0
  obtain ⟨a1, rfl, rfl, rfl, w1⟩ := open_int Try.underlying3 (hval 1 3 v1 rfl rfl) h1
  clear hA0 hval0
  refine (walk a0 len0 cap0 z0 w0 a1 w1 ).mono fun e W' ⟨he, bel⟩ => ?_
  subst he
  exact ⟨_, rfl, _, _, _, [], _, [], hW', trodAll_mk1 (shut_bool Try.underlying4 _), (trodAll_cons_mk (Below.trod laidOut (by kernel_rfl) (of_decide_eq_true (by kernel_rfl)) k0 bel lt0) (trodAll_cons_mk (Below.trod laidOut (by kernel_rfl) (of_decide_eq_true (by kernel_rfl)) k1 bel lt1) trodAll_mk0)), rfl, bel.frame _, fun h => by cases h⟩

theorem over : Rows.waitOwnRow.holds Try.pinned (OpenSpec.ofChange Rows.waitOwnSpec) :=
  OpenClaim.holds_of_wide 6 Try.f6 rfl rfl rfl rfl rfl rfl rfl ⟨rfl, rfl, rfl, rfl, rfl⟩ rfl rfl rfl rfl rfl (by kernel_rfl) Try.func6 (by kernel_rfl)
    (of_decide_eq_true (by kernel_rfl)) (by unfold Func.isWrapper; first | (rw [if_pos (by decide +kernel)]; kernel_rfl) | (rw [if_neg (by decide +kernel)]; exact ⟨rfl, rfl⟩))
    (fun os started H enc _ => lifted os started H enc)

theorem proved : Rows.WaitOwnSaid :=
  over
#print axioms proved

end Go.Proofs.Yteglnlhdgfpglaa.waitOwn
