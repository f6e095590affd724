/-
  ReadyTurns: for every list of tasks and every level the statement's function answers true: turned as often as there are tasks of its level, front by front, a level is as it was. Conditions: none beyond the card's own: the listed package variables start as the program's text lays them, which the card ties to that text.
-/
import Derived.Test.YtdcadiphebcmbaaDoorRy15
import Derived.Test.YtdcadiphebcmbaaDoorRy16
import Derived.Test.YtdcadiphebcmbaaDoorTie
import Derived.Test.YtdcadiphebcmbaaDoorCards
import Derived.ProofKit
import Derived.OpenShut
import Derived.ShutString
import Derived.LaidMore
import Derived.Lay
import Derived.SevenTiedAt
import Derived.Stop.Joined
import Derived.Deep.DeepHandedRow
import Derived.BigRegion
import Derived.Deep.RegionWith
import Derived.Deep.DeepCutAuto
namespace Go.Proofs.YtdcadiphebcmbaaDoor.ReadyTurns
open Go.ChangeShapes Go.WideShapes Go.ChangeAt Go.RowKit
open Go.ChangeMaps (open_string shut_string)
set_option linter.unusedVariables false
set_option linter.unusedSimpArgs false

set_option maxRecDepth 100000 in
set_option maxHeartbeats 16000000 in
theorem walk_long {w : World} (ao : Option Addr) (cap : Nat) (l : List Int) (x : Int) (hl : 100 < l.length) (hT : TabL w) : Calls Tryd.prog 5 #[.slice ao l.length cap, .int .i64 x] w fun e w' => e = .returned (.bool true) ∧ Below w.heap.size w w' := by
  have HA := Lib.hid (fun w' h => awake14_any w' (hT.below h))
  have hd : decide ((100 : Int) < (l.length : Int)) = true := by simp <;> omega
  clear hT
  go_enter Tryd.func5, Tryd.ntmps5
  go_wp2_with fail
  refine (HA.out w (Below.refl _ _)).mono ?_
  rintro e w1 ⟨rfl, h⟩
  have B1 := Lib.hid h
  clear h
  go_wp2_with fail
  refine (HA.out w1 B1.out).mono ?_
  rintro e w2 ⟨rfl, h⟩
  have B2 := Lib.hid (below_on B1.out h)
  clear h
  go_wp2_with fail
  go_ret
  exact ⟨rfl, B2.out⟩

set_option maxRecDepth 100000 in
set_option maxHeartbeats 16000000 in
theorem walk_short {w : World} (ao : Option Addr) (cap : Nat) (l : List Int) (hs : SeenZ w ao cap l) (lv : Int) (hl : l.length ≤ 100) (hT : TabL w) : Calls Tryd.prog 5 #[.slice ao l.length cap, .int .i64 lv] w fun e w' => e = .returned (.bool true) ∧ Below w.heap.size w w' := by
  have HA := Lib.hid (awake14_any w hT)
  have hd : decide ((100 : Int) < (l.length : Int)) = false := by simp <;> omega
  have HS := Lib.hid hs
  have HT := Lib.hid hT
  obtain ⟨Z, hZ, hz⟩ := zero_q
  have HZ := Lib.hid hZ
  have hlv : lev lv < 32 := by unfold lev; split <;> omega
  clear hs hT hZ
  obtain ⟨M, hM⟩ : ∃ M, l.length = M := ⟨_, rfl⟩
  rw [hM] at hl hd
  simp only [hM]
  have HM := Lib.hid hM
  clear hM
  go_enter Tryd.func5, Tryd.ntmps5
  go_wp2_with fail
  refine HA.out.mono ?_
  rintro e w1 ⟨rfl, h⟩
  have B1 := Lib.hid h
  clear h
  obtain ⟨w2, e2⟩ : ∃ w2, w2 = w1.alloc (.cells Z 31) := ⟨_, rfl⟩
  obtain ⟨D, hD⟩ : ∃ D, w1.heap.size = D := ⟨_, rfl⟩
  have hQ2 := oq_new (HT.out.below B1.out) e2 (HZ.out w1)
  rw [hD] at hQ2
  have Q2 := Lib.hid hQ2
  have HD := Lib.hid hD
  clear hQ2 hD
  go_upto_region 4 with fail
  rw [← e2, HD.out]
  clear e2 hz
  go_wp2_with fail
  go_loopw [21] (fun i wr => ∃ (j : Nat) (X : List Nat), j ≤ M ∧ i = .int .i64 j ∧ (¬ (0 ≤ lv ∧ lv < 32) → X = []) ∧ OQ w1 wr D (oneR (lev lv) X)) (fun i _ => M - (intOf i).toNat)
  case atStart => exact ⟨0, [], Nat.zero_le _, rfl, fun _ => rfl, by rw [oneR_nil]; exact Q2.out⟩
  case round =>
    clear Q2 HZ
    obtain ⟨j, X, hj, rfl, hX, hQ⟩ := hrel
    have Q3 := Lib.hid hQ
    have HX := Lib.hid hX
    clear hQ hX
    by_cases hlt : j < M
    · obtain ⟨b0, off, rfl, hb0, c0⟩ := seenZ_at (HS.out.below (below_on B1.out Q3.out.bel)) j (by rw [HM.out]; exact hlt)
      generalize (l[j]'(by rw [HM.out]; exact hlt)) = t at *
      obtain ⟨Y, hY, hY2⟩ := oneR_put lv X HX.out t
      have KP := Lib.hid (put_any Q3.out.q t lv)
      rw [hY] at KP
      generalize (if (rput (oneR (lev lv) X) t lv).isSome then (0 : Int) else 1) = z at *
      have HY2 := Lib.hid hY2
      clear hY hY2
      go_wp2_with fail
      refine KP.out.mono ?_
      rintro e w5 ⟨rfl, q5, f5⟩
      have Q5 := Lib.hid (Q3.out.turn q5 f5)
      clear q5 f5 KP
      go_wp2_with fail
      go_roundw
      case rel => exact ⟨j + 1, Y, hlt, by go_num, HY2.out, Q5.out⟩
      case measure => simp [intOf]; omega
    · obtain rfl : j = M := by omega
      have KA := Lib.hid (at_any Q3.out.q lv)
      rw [rowAt_one lv X HX.out] at KA
      obtain ⟨n, hn⟩ : ∃ n, X.length = n := ⟨_, rfl⟩
      have HN := Lib.hid hn
      have hrow := Q3.out.q.ok.row_le (lev lv)
      rw [oneR_same] at hrow
      have hDlt := Q3.out.q.lt
      rw [hn] at KA hrow
      clear hn
      go_wp2_with fail
      refine KA.out.mono ?_
      rintro e w4 ⟨a4, k4, rfl, h4, b4⟩
      obtain ⟨C, hC⟩ : ∃ C, wr.heap.size = C := ⟨_, rfl⟩
      rw [hC] at h4 hDlt
      have W4 := Lib.hid h4
      have Q4 := Lib.hid (show OQ w1 w4 D (oneR (lev lv) (X.drop 0 ++ X.take 0)) by simp only [List.drop_zero, List.take_zero, List.append_nil]; exact Q3.out.kept b4)
      clear h4 b4 hC KA
      go_wp2_with fail
      go_loopw [33] (fun i wr => ∃ j : Nat, j ≤ n ∧ i = .int .i64 j ∧ OQ w1 wr D (oneR (lev lv) (X.drop j ++ X.take j)) ∧ OwnI wr C (.slice a4 n k4) X) (fun i _ => n - (intOf i).toNat)
      case atStart => exact ⟨0, Nat.zero_le _, rfl, Q4.out, W4.out⟩
      case round =>
        clear Q4 W4
        obtain ⟨i, hi, rfl, hQ, hW⟩ := hrel
        have Q5 := Lib.hid hQ
        have W5 := Lib.hid hW
        clear hQ hW
        by_cases hlt2 : i < n
        · have hix : i < X.length := by rw [HN.out]; exact hlt2
          obtain ⟨t1, t2⟩ := turn_round hix
          have HQ5 := Q5.out
          rw [t1] at HQ5
          have F1 := Lib.hid (first_any HQ5.q HQ5.t)
          rw [show firstV (oneR (lev lv) (X[i] :: (X.drop (i + 1) ++ X.take i))) = .tuple #[.int .i64 (X[i] : Int), .bool true] by unfold firstV; rw [oneR_first _ hlv]] at F1
          have hR : ∀ q, Calls Tryd.prog 13 #[.pointer (some ⟨D, 0, none⟩), .int .i64 (X[i] : Int)] (wr.drewN q) fun e w' => e = .returned (.bool true) ∧ OQ w1 w' D (oneR (lev lv) (X.drop (i + 1) ++ X.take (i + 1))) ∧ OwnI w' C (.slice a4 n k4) X := by
            intro q
            refine (turn_any (HQ5.drewN q).q (X[i] : Int)).mono ?_
            rw [oneR_turn _ hlv _ _ HQ5.q.ok, t2]
            rintro e w' ⟨rfl, h2, h3⟩
            refine ⟨rfl, (HQ5.drewN q).turn h2 h3, (OwnR.below W5.out (below_drewN (Below.refl _ _) q)).only h3 fun k hk e => ?_⟩
            have := (W5.out.lt k hk).1
            omega
          have HR := Lib.hid hR
          generalize X[i] = x at *
          clear t1 t2 hR HQ5
          go_wp2_with fail
          refine F1.out.mono ?_
          rintro e w6 ⟨rfl, q, rfl⟩
          go_wp2_with fail
          refine (HR.out q).mono ?_
          rintro e w7 ⟨rfl, h7, o7⟩
          have Q7 := Lib.hid h7
          have W7 := Lib.hid o7
          clear h7 o7
          go_wp2_with fail
          go_roundw
          case rel => exact ⟨i + 1, hlt2, by go_num, Q7.out, W7.out⟩
          case measure => simp [intOf]; omega
        · obtain rfl : i = n := by omega
          have Q6 := Lib.hid (show OQ w1 wr D (oneR (lev lv) X) by
            have := Q5.out
            rw [List.drop_of_length_le (by rw [HN.out]; exact Nat.le_refl _), List.take_of_length_le (by rw [HN.out]; exact Nat.le_refl _), List.nil_append] at this
            exact this)
          have KA := Lib.hid (at_any Q6.out.q lv)
          rw [rowAt_one lv X HX.out, HN.out] at KA
          have HLn := Lib.hid (oneR_len (lev lv) hlv X)
          go_wp2_with fail
          refine KA.out.mono ?_
          rintro e w6 ⟨a6, k6, rfl, h6, b6⟩
          have Q7 := Lib.hid (Q6.out.kept b6)
          have KI : Calls Tryd.prog 21 #[.slice a6 i k6, .slice a4 i k4] w6 fun e w' => e = .returned (.bool true) ∧ ∃ q, w' = w6.drewN q := by
            obtain ⟨a8, k8, e8, s8, -⟩ := h6.seen w1i_len
            obtain ⟨a9, k9, e9, s9, -⟩ := (OwnR.below W5.out b6).seen w1i_len
            rw [HN.out] at e8 e9
            cases e8
            cases e9
            have := ints_any a6 k6 X s8 a4 k4 X s9 (by rw [HN.out]; omega)
            rw [HN.out, show decide (X = X) = true by simp] at this
            exact this
          have HKI := Lib.hid KI
          clear h6 b6 KA KI
          go_wp2_with fail
          refine HKI.out.mono ?_
          rintro e w7 ⟨rfl, q, rfl⟩
          have Q8 := Lib.hid (Q7.out.drewN q)
          have KL := Lib.hid (len_any Q8.out.q)
          rw [HLn.out, HN.out] at KL
          go_wp2_with fail
          refine KL.out.mono ?_
          rintro e w8 ⟨rfl, rfl⟩
          have BF := Lib.hid (below_on B1.out Q8.out.bel)
          go_wp2_with fail
          go_ret
          exact ⟨by simp, BF.out⟩

theorem walk {w : World} (ao : Option Addr) (cap : Nat) (l : List Int) (hs : SeenZ w ao cap l) (_ok : ∀ z ∈ l, (Lit.int .i64 z).wf = true) (lv : Int) (_wl : (Lit.int .i64 lv).wf = true) (hT : TabL w) : Calls Tryd.prog 5 #[.slice ao l.length cap, .int .i64 lv] w fun e w' => e = .returned (.bool true) ∧ Below w.heap.size w w' := by
  rcases Nat.lt_or_ge 100 l.length with h | h
  · exact walk_long ao cap l lv h hT
  · exact walk_short ao cap l hs lv h hT

theorem own : ownKnob Tryd.prog.godebug = none := by kernel_rfl
theorem laidOut : laidOutB Tryd.prog = true := by kernel_rfl

set_option maxRecDepth 100000 in
theorem lifted (os : Os) (started : os.Started) (H : Type) (enc : TypeId × Value → H) :
    ReturnsInHanded {} Tryd.checked os 5 .any (fun w args => (Rows.readyTurnsSpec.pre enc Tryd.prog Tryd.f5 Rows.readyTurnsRow.domain false w args ∧ laidMetH Tryd.prog laidL w) ∧ sizedMet enc Tryd.prog Tryd.f5 (OpenSpec.ofChange Rows.readyTurnsSpec) false w args) (Rows.readyTurnsSpec.post enc Tryd.prog Tryd.f5 false true false false) := by
  refine returnsInHanded_of_row (s := OpenSpec.ofChange Rows.readyTurnsSpec) (F := fun _ _ _ => 0) (laid := laidL) (C := Tryd.checked) own started (by kernel_rfl) Tryd.func5
    (ChangeSpec.witness_shaped (enc := enc) (C := Tryd.checked) (os := os) (s := Rows.readyTurnsSpec) (X := fun w _ => laidMetH Tryd.prog laidL w) false (World.laidAll Tryd.prog os laidL) #[.slice none 0 0, .int .i64 0] 8 (World.laidAll_os _ _ _)
      (World.shaped_of_ZipB (by kernel_rfl) (by kernel_rfl)) (by kernel_rfl) (by kernel_rfl) (by kernel_rfl)
      (by rw [MakeChecks.laidMetH_plain _ _ _ (by kernel_rfl)]; exact laidMet_laidAll _ (by kernel_rfl) (by kernel_rfl))) ?_
  intro W base args ds gs before hval0 hW hcnd _ hsz0 hL hsh _
  have hval : ∀ (j : Nat) t v, Tryd.f5.params[j]? = some t → args[j]? = some v → Value.okWide Tryd.prog W .any base t v := hval0
  have hW' := hW
  obtain ⟨p, q, hA0, hV, rfl, hfz, hnd⟩ := hW
  have hA : DataW.TrodAll enc Tryd.prog W 0 (fun _ => true) true Tryd.f5.params.toList args.toList ds p := hA0
  rw [Tryd.params5] at hA hval
  obtain ⟨v0, vs0, d0, ds0, p0, q0, hargs, rfl, rfl, h0, r0⟩ := trodAll_cons hA
  obtain ⟨v1, vs1, d1, ds1, p1, q1, rfl, rfl, rfl, h1, r1⟩ := trodAll_cons r0
  obtain ⟨rfl, rfl, rfl⟩ := trodAll_nil r1
  obtain rfl : args = #[v0, v1] := by cases args; simp_all
  obtain ⟨rfl, rfl⟩ := trodVars_none hV
  have k0 := h0
  have lt0 : ∀ x ∈ p0, x.block < W.heap.size := by obtain ⟨m, hm⟩ := k0; exact DataW.trod_lt m _ _ _ hm
  have k1 := h1
  have lt1 : ∀ x ∈ p1, x.block < W.heap.size := by obtain ⟨m, hm⟩ := k1; exact DataW.trod_lt m _ _ _ hm
  obtain ⟨a0, len0, cap0, rfl⟩ := okWide_slice Tryd.underlying33 (hval 0 33 v0 rfl rfl)
  obtain ⟨l0, rfl, w0, ok0⟩ := open_zs h0
  obtain ⟨a1, rfl, rfl, rfl, w1⟩ := open_int Tryd.underlying3 (hval 1 3 v1 rfl rfl) h1
  clear hA0 hval0
  refine (walk a0 cap0 l0 w0 ok0 a1 w1 (of_laid hL hsh)).mono fun e W' ⟨he, bel⟩ => ?_
  subst he
  exact ⟨_, rfl, _, _, _, [], _, [], hW', trodAll_mk1 (shut_bool Tryd.underlying4 _), (trodAll_cons_mk (Below.trod laidOut (by kernel_rfl) (of_decide_eq_true (by kernel_rfl)) k0 bel lt0) (trodAll_cons_mk (Below.trod laidOut (by kernel_rfl) (of_decide_eq_true (by kernel_rfl)) k1 bel lt1) trodAll_mk0)), rfl, bel.frame _, fun h => by cases h⟩

theorem over : Rows.ReadyTurnsSaid :=
  OpenClaim.holds_of_wide 5 Tryd.f5 rfl rfl rfl rfl rfl rfl rfl ⟨rfl, rfl, rfl, rfl, rfl⟩ rfl rfl rfl rfl rfl (by kernel_rfl) Tryd.func5 (by kernel_rfl)
    (of_decide_eq_true (by kernel_rfl)) (by unfold Func.isWrapper; first | (rw [if_pos (by decide +kernel)]; kernel_rfl) | (rw [if_neg (by decide +kernel)]; exact ⟨rfl, rfl⟩))
    (fun os started H enc _ => lifted os started H enc)

theorem proved : Rows.ReadyTurnsCardSaid :=
  Claim7.holds_tied_plain_at .later [] _ true _ false over (fun _ h => by cases h) (by kernel_rfl) (fun _ h => by cases h) readyTurns_row_tie rfl ⟨rfl, rfl⟩ (by kernel_rfl) rfl
    (fun f fn hf hfn => by
      obtain rfl : f = 5 := Option.some.inj ((show Tryd.prog.funcNamed "taffrail/taffraillaw14.ReadyTurns" = some 5 by kernel_rfl).symm.trans hf) |>.symm
      obtain rfl : fn = Tryd.f5 := (Option.some.inj (Tryd.func5.symm.trans hfn)).symm
      refine ⟨by kernel_rfl, fun j t ht => ?_⟩
      rw [Tryd.params5] at ht
      have hm : t ∈ [33, 3] := by simpa using Array.mem_of_getElem? ht
      have hall : ([33, 3].all fun u => !Tryd.prog.wantsStandIn u) = true := by kernel_rfl
      exact (show Tryd.prog.wantsStandIn t = false by simpa using List.all_eq_true.1 hall t hm))
    (by kernel_rfl)
#print axioms proved

end Go.Proofs.YtdcadiphebcmbaaDoor.ReadyTurns
