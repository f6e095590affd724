/-
  WaitDrains: for all lists of tasks and levels the statement's function answers true: taken by turns tasks come by rising levels, those of one level in the order in which they came. No condition.
-/
import Derived.Test.YteglnlhdgfpglaaWa7
import Derived.ProofKit
import Derived.OpenShut
import Derived.ShutString
import Derived.HandedShaped
import Derived.BigRegion
import Derived.Deep.RegionWith
import Derived.Deep.DeepCutAuto
namespace Go.Proofs.Yteglnlhdgfpglaa.waitDrains
open Go Go.ChangeShapes Go.WideShapes Go.ChangeAt Go.RowKit
open Go.ChangeMaps (open_string shut_string)
set_option linter.unusedVariables false

set_option maxRecDepth 100000 in
set_option maxHeartbeats 16000000 in
theorem walk_long {w : World} (ao : Option Addr) (cap n : Nat) (bo : Option Addr) (bc k : Nat) (hl : 100 < n ∨ 100 < k) : Calls Try.prog 4 #[.slice ao n cap, .slice bo k bc] w fun e w' => e = .returned (.bool true) ∧ Below w.heap.size w w' := by
  have HA := Lib.hid awake16_any
  by_cases h1 : 100 < n
  · have hd : decide ((100 : Int) < (n : Int)) = true := by simp <;> omega
    clear hl h1
    go_enter Try.func4, Try.ntmps4
    go_wp2_with fail
    refine (HA.out w).mono ?_
    rintro e w1 ⟨rfl, h⟩
    have B1 := Lib.hid h
    clear h
    go_wp2_with fail
    refine (HA.out w1).mono ?_
    rintro e w2 ⟨rfl, h⟩
    have B2 := Lib.hid (below_on B1.out h)
    clear h
    go_wp2_with fail
    go_ret
    exact ⟨rfl, B2.out⟩
  · have hd : decide ((100 : Int) < (n : Int)) = false := by simp <;> omega
    have hd2 : decide ((100 : Int) < (k : Int)) = true := by simp <;> omega
    clear hl h1
    go_enter Try.func4, Try.ntmps4
    go_wp2_with fail
    refine (HA.out w).mono ?_
    rintro e w1 ⟨rfl, h⟩
    have B1 := Lib.hid h
    clear h
    go_wp2_with fail
    refine (HA.out w1).mono ?_
    rintro e w2 ⟨rfl, h⟩
    have B2 := Lib.hid (below_on B1.out h)
    clear h
    go_wp2_with fail
    go_ret
    exact ⟨rfl, B2.out⟩

set_option maxRecDepth 100000 in
set_option maxHeartbeats 16000000 in
theorem walk_short {w : World} (ao : Option Addr) (cap : Nat) (lt : List Int) (hs : SeenL w ao cap lt) (hl : lt.length ≤ 100) (bo : Option Addr) (bc : Nat) (lv : List Int) (hs2 : SeenL w bo bc lv) (hl2 : lv.length ≤ 100) : Calls Try.prog 4 #[.slice ao lt.length cap, .slice bo lv.length bc] w fun e w' => e = .returned (.bool true) ∧ Below w.heap.size w w' := by
  have HA := Lib.hid (awake16_any w)
  have HS := Lib.hid hs
  have HL := Lib.hid hs2
  clear hs hs2
  have KB := Lib.hid (fun (w0 u : World) (m : Nat) (v : Value) (l : List Nat) (hb : Below w.heap.size w w0) (h : OW w0 u m v l) => ow_best h (SeenR.below HL.out (below_on hb h.bel)))
  obtain ⟨M, hM⟩ : ∃ M, lt.length = M := ⟨_, rfl⟩
  obtain ⟨K, hK⟩ : ∃ K, lv.length = K := ⟨_, rfl⟩
  have hd : decide ((100 : Int) < (M : Int)) = false := by simp <;> omega
  have hd2 : decide ((100 : Int) < (K : Int)) = false := by simp <;> omega
  simp only [hM, hK] at hl hl2 KB ⊢
  have HM := Lib.hid hM
  have HK := Lib.hid hK
  clear hM hK
  go_enter Try.func4, Try.ntmps4
  go_wp2_with fail
  refine HA.out.mono ?_
  rintro e w1 ⟨rfl, h⟩
  have B1 := Lib.hid h
  clear h
  obtain ⟨w2, e2⟩ : ∃ w2, w2 = w1.alloc (.cells #[.slice none 0 0] 26) := ⟨_, rfl⟩
  obtain ⟨D, hD⟩ : ∃ D, w1.heap.size = D := ⟨_, rfl⟩
  have hO2 := ow_new e2
  rw [hD] at hO2
  have O2 := Lib.hid hO2
  have HD := Lib.hid hD
  clear hO2 hD
  go_upto_region 4 with fail
  rw [← e2, HD.out]
  clear e2
  go_wp2_with fail
  go_loopw [33] (fun i wr => ∃ (j : Nat) (v : Value) (l : List Nat), j ≤ M ∧ i = .int .i64 j ∧ OW w1 wr D v l) (fun i _ => M - (intOf i).toNat)
  case atStart => exact ⟨0, _, _, Nat.zero_le _, rfl, O2.out⟩
  case round =>
    clear O2
    obtain ⟨j, v, l, hj, rfl, hO3⟩ := hrel
    have O3 := Lib.hid hO3
    clear hO3
    by_cases hlt : j < M
    · obtain ⟨b0, off, rfl, hb0, c0⟩ := seenL_at (SeenR.below HS.out (below_on B1.out O3.out.bel)) j (by rw [HM.out]; exact hlt)
      generalize (lt[j]'(by rw [HM.out]; exact hlt)) = t at *
      have K4 := Lib.hid (ow_add O3.out t)
      generalize (if addK l t then (0 : Int) else 1) = z0 at *
      go_wp2_with fail
      refine K4.out.mono ?_
      rintro e w4 ⟨rfl, v4, o4, -⟩
      have O4 := Lib.hid o4
      clear o4 c0 K4 O3
      go_wp2_with fail
      go_roundw
      case rel =>
        first
          | exact ⟨j + 1, _, _, hlt, by go_num, O4.out⟩
          | ((repeat apply Exists.intro); exact ⟨⟨j + 1, _, _, hlt, by go_num, O4.out⟩, rfl⟩)
      case measure => simp [intOf]; omega
    · obtain rfl : j = M := by omega
      have hk2 : l.length ≤ 64 := O3.out.ok.len
      have K4 := Lib.hid (ow_all O3.out)
      obtain ⟨k, hk⟩ : ∃ k, l.length = k := ⟨_, rfl⟩
      rw [hk] at K4 hk2
      have HKK := Lib.hid hk
      have HND := Lib.hid O3.out.ok.nd
      clear hk
      go_wp2_with fail
      refine K4.out.mono ?_
      rintro e w4 ⟨ba, ca, rfl, r4, b4⟩
      have T4 := Lib.hid (Two.fresh (n := 0) O3.out b4 r4)
      clear r4 b4 K4 O3
      go_wp2_with fail
      go_loopw [9, 43] (fun la i wr => ∃ (j : Nat) (v : Value) (r : List Nat), j ≤ k ∧ i = .int .i64 j ∧ Two w1 wr D v r (.slice ba k ca) l ∧ r.length + j = k ∧ r.Sublist l ∧ (la = .int .i64 (-1) ∨ ∃ (p : Nat) (r0 : List Nat), la = .int .i64 p ∧ r0.Sublist l ∧ bestW lv r0 = some p ∧ r = remW r0 (p : Int))) (fun _ i _ => k - (intOf i).toNat)
      case atStart => exact ⟨0, _, _, Nat.zero_le _, rfl, T4.out, HKK.out, List.Sublist.refl _, .inl rfl⟩
      case round =>
        clear T4
        obtain ⟨j, v, r, hj, rfl, hT5, hrl, hsub, hla⟩ := hrel
        have T5 := Lib.hid hT5
        have HSr := Lib.hid hsub
        clear hT5 hsub
        by_cases hlt : j < k
        · obtain ⟨t, hbt, htm⟩ := best_some (lv := lv) (l := r) (by rintro rfl; simp at hrl; omega)
          have K5 := KB.out w1 wr D v r B1.out T5.out.ow
          rw [show bestV lv r = .tuple #[.int .i64 (t : Int), .bool true] by unfold bestV; rw [hbt]] at K5
          have KK5 := Lib.hid K5
          have hin : inW r (t : Int) = true := inW_nat.2 htm
          have hrm := remW_len (T5.out.ow.ok.nd) hin
          have HBs := Lib.hid hbt
          have HSub := Lib.hid ((remW_sub r (t : Int)).trans HSr.out)
          clear K5 htm
          go_wp2_with fail
          refine KK5.out.mono ?_
          rintro e w5 ⟨rfl, q, rfl⟩
          have K6 := tw_remove (T5.out.drewN q) (t : Int)
          rw [hin] at K6
          have KK6 := Lib.hid K6
          generalize wr.drewN q = w5 at *
          clear K6 KK5 T5 hin
          go_wp2_with fail
          refine KK6.out.mono ?_
          rintro e w6 ⟨rfl, v6, t6, -⟩
          have T5 := Lib.hid t6
          clear KK6
          rcases hla with rfl | ⟨p, r0, rfl, hs0, hb0, rfl⟩
          · clear hbt t6
            go_wp2_with fail
            have T6 := Lib.hid T5.out
            go_wp2_with fail
            go_roundw
            case rel =>
              first
                | exact ⟨j + 1, _, _, hlt, by go_num, T6.out, by omega, HSub.out, .inr ⟨t, _, rfl, HSr.out, HBs.out, rfl⟩⟩
                | ((repeat apply Exists.intro); exact ⟨⟨j + 1, _, _, hlt, by go_num, T6.out, by omega, HSub.out, .inr ⟨t, _, rfl, HSr.out, HBs.out, rfl⟩⟩, rfl⟩)
            case measure => simp [intOf]; omega
          · obtain ⟨n1, n2⟩ := best_next hs0 HND.out hb0 hbt
            have n1 : ¬ (t < K ∧ (¬ p < K ∨ lv.getD t 0 < lv.getD p 0)) := by rw [← HK.out]; exact n1
            have n2 : (p < K ∧ (¬ t < K ∨ lv.getD p 0 < lv.getD t 0)) ∨ idxW l (p : Int) < idxW l (t : Int) := by rw [← HK.out]; exact n2
            have KP := Lib.hid (windex_own t6.doc (by omega) (p : Int))
            have KT := Lib.hid (windex_own t6.doc (by omega) (t : Int))
            have hcell : ∀ s : Nat, s < K → ∃ b off, bo = some ⟨b, off, none⟩ ∧ w6.cell? ⟨b, off + s, none⟩ = some (.int .i64 (lv.getD s 0)) := fun s hs => by
              have hs' : s < lv.length := by rw [HK.out]; exact hs
              obtain ⟨b, off, e, -, c⟩ := seenL_at (SeenR.below HL.out (below_on B1.out t6.bel)) s hs'
              exact ⟨b, off, e, by rw [getD_at hs']; exact c⟩
            generalize idxW l (p : Int) = a at *
            generalize idxW l (t : Int) = b at *
            clear hbt hs0 hb0 t6
            by_cases hp : p < K
            · obtain ⟨bb, off, rfl, cp⟩ := hcell p hp
              by_cases ht : t < K
              · obtain ⟨bb2, off2, e2, ct⟩ := hcell t ht
                cases e2
                clear hcell
                generalize lv.getD t 0 = x at *
                generalize lv.getD p 0 = y at *
                have hxy : y ≤ x := by
                  apply Classical.byContradiction
                  intro h
                  exact n1 ⟨ht, .inr (by omega)⟩
                have g3 : decide (x < y) = false := by simp; omega
                have d1 : decide ((p : Int) < (K : Int)) = true := by simp; omega
                have d2 : decide ((t : Int) < (K : Int)) = true := by simp; omega
                rcases Int.lt_or_eq_of_le hxy with h | h
                · have g1 : (x == y) = false := by simp; omega
                  clear n1 n2 hxy h
                  go_wp2_with fail
                  refine KP.out.mono ?_
                  rintro e w7 ⟨rfl, rfl⟩
                  go_wp2_with fail
                  refine KT.out.mono ?_
                  rintro e w7 ⟨rfl, rfl⟩
                  go_upto_region 19 with fail
                  go_quiet (fail)
                  have T6 := Lib.hid (T5.out.drewN nq)
                  go_wp2_with fail
                  go_roundw
                  case rel =>
                    first
                      | exact ⟨j + 1, _, _, hlt, by go_num, T6.out, by omega, HSub.out, .inr ⟨t, _, rfl, HSr.out, HBs.out, rfl⟩⟩
                      | ((repeat apply Exists.intro); exact ⟨⟨j + 1, _, _, hlt, by go_num, T6.out, by omega, HSub.out, .inr ⟨t, _, rfl, HSr.out, HBs.out, rfl⟩⟩, rfl⟩)
                  case measure => simp [intOf]; omega
                · subst h
                  have g2 : decide (b < a) = false := by
                    simp
                    rcases n2 with ⟨-, h | h⟩ | h
                    · exact absurd ht h
                    · omega
                    · omega
                  clear n1 n2 hxy
                  go_wp2_with fail
                  refine KP.out.mono ?_
                  rintro e w7 ⟨rfl, rfl⟩
                  go_wp2_with fail
                  refine KT.out.mono ?_
                  rintro e w7 ⟨rfl, rfl⟩
                  go_upto_region 19 with fail
                  go_quiet (fail)
                  have T6 := Lib.hid (T5.out.drewN nq)
                  go_wp2_with fail
                  go_roundw
                  case rel =>
                    first
                      | exact ⟨j + 1, _, _, hlt, by go_num, T6.out, by omega, HSub.out, .inr ⟨t, _, rfl, HSr.out, HBs.out, rfl⟩⟩
                      | ((repeat apply Exists.intro); exact ⟨⟨j + 1, _, _, hlt, by go_num, T6.out, by omega, HSub.out, .inr ⟨t, _, rfl, HSr.out, HBs.out, rfl⟩⟩, rfl⟩)
                  case measure => simp [intOf]; omega
              · clear hcell cp
                have d1 : decide ((p : Int) < (K : Int)) = true := by simp; omega
                have d2 : decide ((t : Int) < (K : Int)) = false := by simp; omega
                clear n1 n2
                go_wp2_with fail
                refine KP.out.mono ?_
                rintro e w7 ⟨rfl, rfl⟩
                go_wp2_with fail
                refine KT.out.mono ?_
                rintro e w7 ⟨rfl, rfl⟩
                go_upto_region 19 with fail
                go_quiet (fail)
                have T6 := Lib.hid (T5.out.drewN nq)
                go_wp2_with fail
                go_roundw
                case rel =>
                  first
                    | exact ⟨j + 1, _, _, hlt, by go_num, T6.out, by omega, HSub.out, .inr ⟨t, _, rfl, HSr.out, HBs.out, rfl⟩⟩
                    | ((repeat apply Exists.intro); exact ⟨⟨j + 1, _, _, hlt, by go_num, T6.out, by omega, HSub.out, .inr ⟨t, _, rfl, HSr.out, HBs.out, rfl⟩⟩, rfl⟩)
                case measure => simp [intOf]; omega
            · have ht : ¬ t < K := fun h => n1 ⟨h, .inl hp⟩
              have g2 : decide (b < a) = false := by
                simp
                rcases n2 with ⟨h, -⟩ | h
                · exact absurd h hp
                · omega
              have d1 : decide ((p : Int) < (K : Int)) = false := by simp; omega
              have d2 : decide ((t : Int) < (K : Int)) = false := by simp; omega
              clear hcell n1 n2
              go_wp2_with fail
              refine KP.out.mono ?_
              rintro e w7 ⟨rfl, rfl⟩
              go_wp2_with fail
              refine KT.out.mono ?_
              rintro e w7 ⟨rfl, rfl⟩
              go_upto_region 19 with fail
              go_quiet (fail)
              have T6 := Lib.hid (T5.out.drewN nq)
              go_wp2_with fail
              go_roundw
              case rel =>
                first
                  | exact ⟨j + 1, _, _, hlt, by go_num, T6.out, by omega, HSub.out, .inr ⟨t, _, rfl, HSr.out, HBs.out, rfl⟩⟩
                  | ((repeat apply Exists.intro); exact ⟨⟨j + 1, _, _, hlt, by go_num, T6.out, by omega, HSub.out, .inr ⟨t, _, rfl, HSr.out, HBs.out, rfl⟩⟩, rfl⟩)
              case measure => simp [intOf]; omega
        · obtain rfl : j = k := by omega
          have hr0 : r = [] := List.length_eq_zero_iff.1 (by omega)
          subst hr0
          have K5 := Lib.hid (KB.out w1 wr D v [] B1.out T5.out.ow)
          rw [show bestV lv [] = .tuple #[.int .i64 0, .bool false] from rfl] at K5
          have KA := Lib.hid (fun q => ow_all (T5.out.ow.drewN q))
          have HBl := Lib.hid (fun q => (T5.out.ow.drewN q).bel)
          clear T5
          go_wp2_with fail
          refine K5.out.mono ?_
          rintro e w5 ⟨rfl, q, rfl⟩
          have K6 := Lib.hid (KA.out q)
          go_wp2_with fail
          refine K6.out.mono ?_
          rintro e w6 ⟨bo6, bc6, rfl, -, b6⟩
          have B6 := Lib.hid (below_on B1.out (below_on (HBl.out q) b6))
          clear K6 b6
          go_wp2_with fail
          go_ret
          exact ⟨rfl, B6.out⟩

theorem walk {w : World} (ao : Option Addr) (len cap : Nat) (lt : List Int) (hs : lt.length = len ∧ SeenL w ao cap lt ∧ ∀ z ∈ lt, (Lit.int .i64 z).wf = true) (bo : Option Addr) (len2 bc : Nat) (lv : List Int) (hs2 : lv.length = len2 ∧ SeenL w bo bc lv ∧ ∀ z ∈ lv, (Lit.int .i64 z).wf = true) : Calls Try.prog 4 #[.slice ao len cap, .slice bo len2 bc] w fun e w' => e = .returned (.bool true) ∧ Below w.heap.size w w' := by
  obtain ⟨rfl, hs, -⟩ := hs
  obtain ⟨rfl, hs2, -⟩ := hs2
  by_cases h : 100 < lt.length ∨ 100 < lv.length
  · exact walk_long ao cap _ bo bc _ h
  · exact walk_short ao cap lt hs (by omega) bo bc lv hs2 (by omega)

theorem own : ownKnob Try.prog.godebug = none := by kernel_rfl
theorem laidOut : laidOutB Try.prog = true := by kernel_rfl

set_option maxRecDepth 100000 in
theorem lifted (os : Os) (started : os.Started) (H : Type) (enc : TypeId × Value → H) :
    ReturnsInHanded {} Try.checked os 4 .any (Rows.waitDrainsSpec.pre6 enc Try.prog Try.f4 Rows.waitDrainsRow.domain false) (Rows.waitDrainsSpec.post enc Try.prog Try.f4 false true false false) := by
  refine returnsInHanded_of_change_shaped (C := Try.checked) own started (by kernel_rfl) Try.func4
    (ChangeSpec.witness6 (enc := enc) (C := Try.checked) false ⟨#[], #[.slice none 0 0, .slice none 0 0], []⟩ 8 (by kernel_rfl) (by kernel_rfl) (by kernel_rfl) (by kernel_rfl)) ?_
  intro W base args ds gs before hval0 hW hcnd hsz0 hsh _
  have hval : ∀ (j : Nat) t v, Try.f4.params[j]? = some t → args[j]? = some v → Value.okWide Try.prog W .any base t v := hval0
  have hsz : (DataW.weightsEach Try.prog (Try.f4.params.toList ++ Rows.waitDrainsSpec.plain.varTypes Try.prog) (ds ++ gs)).all (· ≤ reachBytes) = true := hsz0
  have hW' := hW
  obtain ⟨p, q, hA0, hV, rfl, hfz, hnd⟩ := hW
  have hA : DataW.TrodAll enc Try.prog W 0 (fun _ => true) true Try.f4.params.toList args.toList ds p := hA0
  rw [Try.params4] at hA hval hsz
  obtain ⟨v0, vs0, d0, ds0, p0, q0, hargs, rfl, rfl, h0, r0⟩ := trodAll_cons hA
  obtain ⟨v1, vs1, d1, ds1, p1, q1, rfl, rfl, rfl, h1, r1⟩ := trodAll_cons r0
  obtain ⟨rfl, rfl, rfl⟩ := trodAll_nil r1
  obtain rfl : args = #[v0, v1] := by cases args; simp_all
  obtain ⟨rfl, rfl⟩ := trodVars_none hV
  have k0 := h0
  have lt0 : ∀ x ∈ p0, x.block < W.heap.size := by obtain ⟨m, hm⟩ := k0; exact DataW.trod_lt m _ _ _ hm
  have k1 := h1
  have lt1 : ∀ x ∈ p1, x.block < W.heap.size := by obtain ⟨m, hm⟩ := k1; exact DataW.trod_lt m _ _ _ hm
  obtain ⟨a0, len0, cap0, rfl⟩ := okWide_slice Try.underlying23 (hval 0 23 v0 rfl rfl)
  obtain ⟨z0, w0⟩ := open_lvs h0
  obtain ⟨a1, len1, cap1, rfl⟩ := okWide_slice Try.underlying23 (hval 1 23 v1 rfl rfl)
  obtain ⟨z1, w1⟩ := open_lvs h1
  clear hA0 hval0
  refine (walk a0 len0 cap0 z0 w0 a1 len1 cap1 z1 w1 ).mono fun e W' ⟨he, bel⟩ => ?_
  subst he
  exact ⟨_, rfl, _, _, _, [], _, [], hW', trodAll_mk1 (shut_bool Try.underlying4 _), (trodAll_cons_mk (Below.trod laidOut (by kernel_rfl) (of_decide_eq_true (by kernel_rfl)) k0 bel lt0) (trodAll_cons_mk (Below.trod laidOut (by kernel_rfl) (of_decide_eq_true (by kernel_rfl)) k1 bel lt1) trodAll_mk0)), rfl, bel.frame _, fun h => by cases h⟩

theorem over : Rows.waitDrainsRow.holds Try.pinned (OpenSpec.ofChange Rows.waitDrainsSpec) :=
  OpenClaim.holds_of_wide 4 Try.f4 rfl rfl rfl rfl rfl rfl rfl ⟨rfl, rfl, rfl, rfl, rfl⟩ rfl rfl rfl rfl rfl (by kernel_rfl) Try.func4 (by kernel_rfl)
    (of_decide_eq_true (by kernel_rfl)) (by unfold Func.isWrapper; first | (rw [if_pos (by decide +kernel)]; kernel_rfl) | (rw [if_neg (by decide +kernel)]; exact ⟨rfl, rfl⟩))
    (fun os started H enc _ => lifted os started H enc)

theorem proved : Rows.WaitDrainsSaid :=
  over
#print axioms proved

end Go.Proofs.Yteglnlhdgfpglaa.waitDrains
