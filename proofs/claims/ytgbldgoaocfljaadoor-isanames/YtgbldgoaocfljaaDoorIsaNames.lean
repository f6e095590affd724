/-
  IsaNames: for every number and text the statement's function answers true: names are those that the document says, and lead back; no other text leads anywhere. Conditions: none beyond the card's own: the listed package variables start as the program's text lays them, which the card ties to that text.
-/
import Derived.Test.YtgbldgoaocfljaaDoorIsR3
import Derived.Test.YtgbldgoaocfljaaDoorIsAw
import Derived.Test.YtgbldgoaocfljaaDoorIsLw
import Derived.Test.YtgbldgoaocfljaaDoorTie
import Derived.Test.YtgbldgoaocfljaaDoorCards
import Derived.ProofKit
import Derived.OpenShut
import Derived.ShutString
import Derived.LaidMore
import Derived.Lay
import Derived.SevenTiedAt
import Derived.Stop.Joined
import Derived.Deep.DeepHandedRow
import Derived.BigRegion
import Derived.Deep.RegionWith
import Derived.Deep.DeepCutAuto
namespace Go.Proofs.YtgbldgoaocfljaaDoor.IsaNames
open Go.ChangeShapes Go.WideShapes Go.ChangeAt Go.RowKit
open Go.ChangeMaps (open_string shut_string)
set_option linter.unusedVariables false
set_option linter.unusedSimpArgs false

set_option maxRecDepth 100000 in
set_option maxHeartbeats 2000000 in
theorem walk_at (op : Int) (q : Bool) (n : Nat) (want s : ByteArray) (kn : Nat) (w : World) (hL : IsL w) (hq : Hid (opB op = q))
    (hn : Hid (q = true → op = n ∧ 1 ≤ n ∧ n ≤ 38 ∧ inameB n = want ∧ ¬ want.toList = [])) (hn' : Hid (q = false → want = ⟨#[]⟩))
    (HN : Hid (∀ w', IsL w' → Calls Tryd.prog 20 #[.int .i64 op] w' fun r w'' => r = .returned (.string want) ∧ w' = w''))
    (HO : Hid (q = true → ∀ w', IsL w' → Calls Tryd.prog 19 #[.string want] w' fun r w'' => r = .returned (.int .i64 op) ∧ w' = w''))
    (HQ : Hid (∀ w', IsL w' → Calls Tryd.prog 19 #[.string s] w' fun r w'' => r = .returned (.int .i64 (kn : Int)) ∧ w' = w''))
    (hkn : kn ≤ 38) (hs : Hid (kn ≠ 0 → inameB kn = s)) (hall : Hid (∀ j, 1 ≤ j → j ≤ 38 → inameB j = s → kn = j)) :
    Calls Tryd.prog 6 #[.int .i64 op, .string s] w fun r w' => r = .returned (.bool true) ∧ Below w.heap.size w w' := by
  have AW := Lib.hid (fun w' (h' : IsL w') => awake10_any w' h')
  have RN := Lib.hid (fun w' => rinames_any w')
  have L0 := Lib.hid hL
  have k0 : (0 : Int) ≤ kn := by omega
  have k1 : (kn : Int) ≤ 38 := by omega
  have k1' : (kn : Int) < 39 := by omega
  clear hL hkn
  go_enter Tryd.func6, Tryd.ntmps6
  go_upto_region 2 with fail
  go_cut [13] (fun x wx => x = .bool q ∧ wx = w)
  case first =>
    clear k0 k1 k1'
    go_wp2_with fail
    all_goals
      go_meet
      refine ⟨congrArg Value.bool ?_, rfl⟩
      rw [← hq.out]
      go_light
      refine bool_eq ?_
      simp [opB, *] <;> omega
  case rest =>
  obtain ⟨rfl, hcw⟩ := hcut
  obtain rfl := hcw.symm
  clear hcw
  go_upto_if 13 with fail
  go_cut [5] (fun x wx => x = .string want ∧ Hid (Below w.heap.size w wx))
  case first =>
    cases q
    · have hw := hn'.out rfl
      subst hw
      clear k0 k1 k1'
      go_wp2_with fail
      go_meet
      exact ⟨rfl, Lib.hid (Below.refl _ _)⟩
    · obtain ⟨hop, n1, n2, hw, -⟩ := hn.out rfl
      subst hop
      have d0 : (0 : Int) ≤ n := by omega
      have d3 : (n : Int) < 39 := by omega
      clear k0 k1 k1'
      go_wp2_with fail
      refine (RN.out _).mono ?_
      rintro r w2 ⟨rfl, h2, hc⟩
      have cn := hc n (by omega)
      rw [hw] at cn
      have B2 := Lib.hid h2
      clear h2 hc hw
      go_wp2_with fail
      go_meet
      exact ⟨rfl, B2⟩
  case rest =>
  obtain ⟨rfl, B1⟩ := hcut
  have L1 := Lib.hid (L0.out.below B1.out)
  clear L0
  go_wp2_with fail
  refine (AW.out _ L1.out).mono ?_
  rintro r w2 ⟨rfl, h2⟩
  have L2 := Lib.hid (L1.out.below h2)
  have B2 := Lib.hid (below_on B1.out h2)
  clear h2 L1 B1
  by_cases hl : (100 : Int) < (s.size : Int)
  · go_wp2_with fail
    refine (AW.out w2 L2.out).mono ?_
    rintro r w3 ⟨rfl, h3⟩
    have B3 := Lib.hid (below_on B2.out h3)
    clear h3
    go_wp2_with fail
    go_ret
    exact ⟨rfl, B3.out⟩
  have hl' : decide ((100 : Int) < (s.size : Int)) = false := by simp; omega
  clear hl
  go_wp2_with fail
  refine (HQ.out w2 L2.out).mono ?_
  rintro r w3 ⟨rfl, rfl⟩
  go_upto_region 7 with fail
  go_cut [61] (fun x wx => x = .bool false ∧ Hid (Below w2.heap.size w2 wx))
  case first =>
    go_wp2_with fail
    refine (HN.out w2 L2.out).mono ?_
    rintro r w3 ⟨rfl, rfl⟩
    obtain ⟨z, hz⟩ : ∃ z : Bool, (kn == 0) = z := ⟨_, rfl⟩
    have hz1 : ((kn : Int) != 0) = !z := by
      rw [← hz]
      refine bool_eq ?_
      simp
    have HZ := Lib.hid hz
    clear hz
    have hlt0 : decide ((kn : Int) < 0) = false := by simp
    have hgt38 : decide ((38 : Int) < (kn : Int)) = false := by simp; omega
    cases q
    · have hw := hn'.out rfl
      subst hw
      cases z
      · have hs' := hs.out (by have := HZ.out; simpa using this)
        clear HZ
        go_wp2_with fail
        refine (RN.out w2).mono ?_
        rintro r w4 ⟨rfl, h4, hc⟩
        have cn := hc kn (by omega)
        rw [hs'] at cn
        have B4 := Lib.hid h4
        clear h4 hc hs'
        go_wp2_with fail
        go_meet
        exact ⟨rfl, B4⟩
      · go_wp2_with fail
        go_meet
        exact ⟨rfl, Lib.hid (Below.refl _ _)⟩
    · obtain ⟨-, -, -, -, hne⟩ := hn.out rfl
      have HO' := Lib.hid (HO.out rfl)
      have hoo : (op != op) = false := by simp
      cases z
      · have hs' := hs.out (by have := HZ.out; simpa using this)
        clear HZ
        go_wp2_with fail
        refine (HO'.out w2 L2.out).mono ?_
        rintro r w3 ⟨rfl, rfl⟩
        go_wp2_with fail
        refine (RN.out w2).mono ?_
        rintro r w4 ⟨rfl, h4, hc⟩
        have cn := hc kn (by omega)
        rw [hs'] at cn
        have B4 := Lib.hid h4
        clear h4 hc hs'
        go_wp2_with fail
        go_meet
        exact ⟨rfl, B4⟩
      · go_wp2_with fail
        refine (HO'.out w2 L2.out).mono ?_
        rintro r w3 ⟨rfl, rfl⟩
        go_wp2_with fail
        go_meet
        exact ⟨rfl, Lib.hid (Below.refl _ _)⟩
  case rest =>
  obtain ⟨rfl, B3⟩ := hcut
  have B4 := Lib.hid (below_on B2.out B3.out)
  clear B2 B3 L2 HN HO HQ AW hn hn' hq hs
  go_wp2_with fail
  go_loopw [7] (fun x wr => ∃ j : Nat, x = .int .i64 (j : Int) ∧ 1 ≤ j ∧ j ≤ 39 ∧ Hid (Below w.heap.size w wr)) (fun x _ => ((39 : Int) - intOf x).toNat)
  case atStart => exact ⟨1, rfl, by omega, by omega, B4⟩
  case round =>
    obtain ⟨j, rfl, j1, j2, B5⟩ := hrel
    by_cases hj : j = 39
    · subst hj
      go_wp2
      go_ret
      exact ⟨rfl, B5.out⟩
    · have g1 : (j : Int) ≤ 38 := by omega
      have g2 : (j : Int) < 39 := by omega
      have g3 : (0 : Int) ≤ j := by omega
      go_wp2_with fail
      refine (RN.out wr).mono ?_
      rintro r w4 ⟨rfl, h4, hc⟩
      have cn := hc j (by omega)
      have B6 := Lib.hid (below_on B5.out h4)
      have hb := beq_bytes (inameB j) s
      by_cases he : inameB j = s
      · have e : kn = j := hall.out j j1 (by omega) he
        have hne : ((kn : Int) != (j : Int)) = false := by simp [e]
        rw [he] at hb cn
        rw [decide_eq_true rfl] at hb
        clear h4 hc he e
        go_wp2
        go_roundw
        case rel => exact ⟨j + 1, by go_num, by omega, by omega, B6⟩
        case measure => simp [intOf]; omega
      · have hne : ¬ (inameB j).data.toList = s.data.toList := fun h => he (by rw [← bytesOf_list (inameB j), h, bytesOf_list])
        rw [decide_eq_false hne] at hb
        clear h4 hc he hne
        generalize inameB j = nb at *
        go_wp2
        go_roundw
        case rel => exact ⟨j + 1, by go_num, by omega, by omega, B6⟩
        case measure => simp [intOf]; omega

theorem walk (op : Int) (w0 : (Lit.int .i64 op).wf = true) (s : ByteArray) (w1 : s.size ≤ maxLen) (w : World) (hL : IsL w) :
    Calls Tryd.prog 6 #[.int .i64 op, .string s] w fun r w' => r = .returned (.bool true) ∧ Below w.heap.size w w' := by
  refine walk_at op (opB op) op.toNat (if opB op = true then inameB op.toNat else ⟨#[]⟩) s (opOf s.data.toList) w hL (Lib.hid rfl) (Lib.hid (fun h => ?_)) (Lib.hid (fun h => by rw [h]; rfl)) (Lib.hid (fun w' h' => iname_any op w' h')) (Lib.hid (fun h w' h' => ?_)) (Lib.hid (fun w' h' => iop_any s w' h')) (opOf_le _)
    (Lib.hid (fun h => by unfold inameB; rw [opOf_name h, bytesOf_list])) (Lib.hid (fun j h1 h2 h => ?_))
  · obtain ⟨n, hn, n1, n2⟩ := op_nat h
    subst hn
    refine ⟨by simp, by simpa using n1, by simpa using n2, by rw [if_pos h], ?_⟩
    rw [if_pos h, ByteArray.toList_eq, show (inameB (n : Int).toNat).data.toList = inameL n from bytesOf_data _]
    have := inames_some ⟨n - 1, by omega⟩
    simpa only [show n - 1 + 1 = n by omega] using this
  · obtain ⟨n, hn, n1, n2⟩ := op_nat h
    subst hn
    rw [if_pos h]
    have := iop_any (inameB (n : Int).toNat) w' h'
    rw [show opOf (inameB (n : Int).toNat).data.toList = n from opOf_is n1 n2 (bytesOf_data _).symm] at this
    exact this
  · refine opOf_is h1 h2 ?_
    rw [← h]
    exact (bytesOf_data _).symm

theorem own : ownKnob Tryd.prog.godebug = none := by kernel_rfl
theorem laidOut : laidOutB Tryd.prog = true := by kernel_rfl

set_option maxRecDepth 100000 in
theorem lifted (os : Os) (started : os.Started) (H : Type) (enc : TypeId × Value → H) :
    ReturnsInHanded {} Tryd.checked os 6 .any (fun w args => (Rows.isaNamesSpec.pre enc Tryd.prog Tryd.f6 Rows.isaNamesRow.domain false w args ∧ laidMetH Tryd.prog laidL w) ∧ sizedMet enc Tryd.prog Tryd.f6 (OpenSpec.ofChange Rows.isaNamesSpec) false w args) (Rows.isaNamesSpec.post enc Tryd.prog Tryd.f6 false true false false) := by
  refine returnsInHanded_of_row (s := OpenSpec.ofChange Rows.isaNamesSpec) (F := fun _ _ _ => 0) (laid := laidL) (C := Tryd.checked) own started (by kernel_rfl) Tryd.func6
    (ChangeSpec.witness_shaped (enc := enc) (C := Tryd.checked) (os := os) (s := Rows.isaNamesSpec) (X := fun w _ => laidMetH Tryd.prog laidL w) false (World.laidAll Tryd.prog os laidL) #[.int .i64 0, .string ByteArray.empty] 8 (World.laidAll_os _ _ _)
      (World.shaped_of_ZipB (by kernel_rfl) (by kernel_rfl)) (by kernel_rfl) (by kernel_rfl) (by kernel_rfl)
      (by rw [MakeChecks.laidMetH_plain _ _ _ (by kernel_rfl)]; exact laidMet_laidAll _ (by kernel_rfl) (by kernel_rfl))) ?_
  intro W base args ds gs before hval0 hW hcnd _ hsz0 hL hsh _
  have hval : ∀ (j : Nat) t v, Tryd.f6.params[j]? = some t → args[j]? = some v → Value.okWide Tryd.prog W .any base t v := hval0
  have hW' := hW
  obtain ⟨p, q, hA0, hV, rfl, hfz, hnd⟩ := hW
  have hA : DataW.TrodAll enc Tryd.prog W 0 (fun _ => true) true Tryd.f6.params.toList args.toList ds p := hA0
  rw [Tryd.params6] at hA hval
  obtain ⟨v0, vs0, d0, ds0, p0, q0, hargs, rfl, rfl, h0, r0⟩ := trodAll_cons hA
  obtain ⟨v1, vs1, d1, ds1, p1, q1, rfl, rfl, rfl, h1, r1⟩ := trodAll_cons r0
  obtain ⟨rfl, rfl, rfl⟩ := trodAll_nil r1
  obtain rfl : args = #[v0, v1] := by cases args; simp_all
  obtain ⟨rfl, rfl⟩ := trodVars_none hV
  have k0 := h0
  have lt0 : ∀ x ∈ p0, x.block < W.heap.size := by obtain ⟨m, hm⟩ := k0; exact DataW.trod_lt m _ _ _ hm
  have k1 := h1
  have lt1 : ∀ x ∈ p1, x.block < W.heap.size := by obtain ⟨m, hm⟩ := k1; exact DataW.trod_lt m _ _ _ hm
  obtain ⟨a0, rfl, rfl, rfl, w0⟩ := open_int Tryd.underlying3 (hval 0 3 v0 rfl rfl) h0
  obtain ⟨a1, rfl, rfl, rfl, w1⟩ := open_string Tryd.underlying9 (hval 1 9 v1 rfl rfl) h1
  clear hA0 hval0
  refine (walk a0 w0 a1 w1 W (of_laid hL hsh)).mono fun e W' ⟨he, bel⟩ => ?_
  subst he
  exact ⟨_, rfl, _, _, _, [], _, [], hW', trodAll_mk1 (shut_bool Tryd.underlying4 _), (trodAll_cons_mk (Below.trod laidOut (by kernel_rfl) (of_decide_eq_true (by kernel_rfl)) k0 bel lt0) (trodAll_cons_mk (Below.trod laidOut (by kernel_rfl) (of_decide_eq_true (by kernel_rfl)) k1 bel lt1) trodAll_mk0)), rfl, bel.frame _, fun h => by cases h⟩

theorem over : Rows.IsaNamesSaid :=
  OpenClaim.holds_of_wide 6 Tryd.f6 rfl rfl rfl rfl rfl rfl rfl ⟨rfl, rfl, rfl, rfl, rfl⟩ rfl rfl rfl rfl rfl (by kernel_rfl) Tryd.func6 (by kernel_rfl)
    (of_decide_eq_true (by kernel_rfl)) (by unfold Func.isWrapper; first | (rw [if_pos (by decide +kernel)]; kernel_rfl) | (rw [if_neg (by decide +kernel)]; exact ⟨rfl, rfl⟩))
    (fun os started H enc _ => lifted os started H enc)

theorem proved : Rows.IsaNamesCardSaid :=
  Claim7.holds_tied_plain_at .later [] _ true _ false over (fun _ h => by cases h) (by kernel_rfl) (fun _ h => by cases h) isaNames_row_tie rfl ⟨rfl, rfl⟩ (by kernel_rfl) rfl
    (fun f fn hf hfn => by
      obtain rfl : f = 6 := Option.some.inj ((show Tryd.prog.funcNamed "taffrail/taffraillaw10.IsaNames" = some 6 by kernel_rfl).symm.trans hf) |>.symm
      obtain rfl : fn = Tryd.f6 := (Option.some.inj (Tryd.func6.symm.trans hfn)).symm
      refine ⟨by kernel_rfl, fun j t ht => ?_⟩
      rw [Tryd.params6] at ht
      have hm : t ∈ [3, 9] := by simpa using Array.mem_of_getElem? ht
      have hall : ([3, 9].all fun u => !Tryd.prog.wantsStandIn u) = true := by kernel_rfl
      exact (show Tryd.prog.wantsStandIn t = false by simpa using List.all_eq_true.1 hall t hm))
    (by kernel_rfl)
#print axioms proved

end Go.Proofs.YtgbldgoaocfljaaDoor.IsaNames
