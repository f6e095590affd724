/-
  ConfFewer: for every system the statement's function answers true: one that may run may run without its last task, and with a line less, if the mask lets none through (systems beyond the statement's own bound are let go by the statement itself). Conditions: none beyond the card's own: the listed package variables start as the program's text lays them, which the card ties to that text.
-/
import Derived.Test.YtbhnehacgkhpbaaDoorCfAw
import Derived.Test.YtbhnehacgkhpbaaDoorCfM
import Derived.Test.YtbhnehacgkhpbaaDoorCfG
import Derived.Test.YtbhnehacgkhpbaaDoorIsLw
import Derived.Test.YtbhnehacgkhpbaaDoorRel
import Derived.Test.YtbhnehacgkhpbaaDoorTie
import Derived.Test.YtbhnehacgkhpbaaDoorCards
import Derived.ProofKit
import Derived.OpenShut
import Derived.ShutString
import Derived.LaidMore
import Derived.Lay
import Derived.SevenTiedAt
import Derived.Stop.Joined
import Derived.Deep.DeepHandedRow
import Derived.BigRegion
import Derived.Deep.RegionWith
import Derived.Deep.DeepCutAuto
namespace Go.Proofs.YtbhnehacgkhpbaaDoor.ConfFewer
open Go.ChangeShapes Go.WideShapes Go.ChangeAt Go.RowKit
open Go.ChangeMaps (open_string shut_string)
set_option linter.unusedVariables false
set_option linter.unusedSimpArgs false

set_option maxRecDepth 100000 in
set_option maxHeartbeats 16000000 in
theorem walk_at (cx : CfgV) (z : Bool) (R1 R2 R3 R4 : Int) {w : World}
    (HA : Hid (∀ w', IsL w' → Calls Tryd.prog 8 #[] w' fun r w'' => r = .returned (.bool true) ∧ Below w'.heap.size w' w''))
    (HG : Hid (∀ w', SeenC w' cx → Calls Tryd.prog 9 #[cfV cx] w' fun r w'' => r = .returned (.bool z) ∧ Below w'.heap.size w' w''))
    (H1 : Hid (∀ w', SeenC w' cx → IsL w' → Calls Tryd.prog 10 #[cfV cx] w' fun r w'' => r = .returned (.agg #[.int .i64 R1, .int .i64 R2, .int .i64 R3, .int .i64 R4]) ∧ Below w'.heap.size w' w''))
    (HSm : Hid (z = false → Small cx))
    (HK : Hid (R1 = 0 → ∀ wr y, SeenC wr y → y.c = fewerC cx.c → IsL wr → Calls Tryd.prog 10 #[cfV y] wr fun r w'' => r = .returned (.agg #[.int .i64 0, .int .i64 0, .int .i64 0, .int .i64 0]) ∧ Below wr.heap.size wr w''))
    (hs : SeenC w cx) (hL : IsL w) : Calls Tryd.prog 6 #[cfV cx] w fun r w' => r = .returned (.bool true) ∧ Below w.heap.size w w' := by
  obtain ⟨w2, e1⟩ : ∃ w1, w1 = w.alloc (cfO cx) := ⟨_, rfl⟩
  obtain ⟨s1, n1, b1⟩ := new_size e1
  obtain ⟨D, hD⟩ : ∃ D, w.heap.size = D := ⟨_, rfl⟩
  rw [hD] at n1
  have N1 := Lib.hid n1
  have B2 := Lib.hid b1
  have HD := Lib.hid hD
  have S1 := Lib.hid (hs.below b1)
  have L1 := Lib.hid (hL.below b1)
  have KA : Hid (∀ w', Below w2.heap.size w2 w' → Calls Tryd.prog 8 #[] w' fun r w'' => r = .returned (.bool true) ∧ Below w'.heap.size w' w'') := Lib.hid (fun w' h => HA.out w' (L1.out.below h))
  have KG : Hid (∀ w', Below w2.heap.size w2 w' → Calls Tryd.prog 9 #[cfV cx] w' fun r w'' => r = .returned (.bool z) ∧ Below w'.heap.size w' w'') := Lib.hid (fun w' h => HG.out w' (S1.out.below h))
  have K1 : Hid (∀ w', Below w2.heap.size w2 w' → Calls Tryd.prog 10 #[cfV cx] w' fun r w'' => r = .returned (.agg #[.int .i64 R1, .int .i64 R2, .int .i64 R3, .int .i64 R4]) ∧ Below w'.heap.size w' w'') := Lib.hid (fun w' h => H1.out w' (S1.out.below h) (L1.out.below h))
  have KC : Hid (z = false → ∀ w', Below w2.heap.size w2 w' → Calls Tryd.prog 12 #[cfV cx] w' fun r w'' => ∃ y : CfgV, r = .returned (cfV y) ∧ y.c = cx.c ∧ OwnC w'' w'.heap.size y ∧ Below w'.heap.size w' w'') := Lib.hid (fun hz w' h => copy_walk cx w' (S1.out.below h) (HSm.out hz))
  clear HA HG H1 hs hL s1 n1 b1 hD HSm
  unfold cfV cfCells at KG K1 KC
  unfold cfO cfCells at e1
  unfold cfV cfCells
  have BR : Hid (Below w2.heap.size w2 w2) := Lib.hid (Below.refl _ _)
  go_enter Tryd.func6, Tryd.ntmps6
  go_upto_region 1 with fail
  rw [← e1, HD.out]
  clear e1
  go_wp2_with fail
  refine (KA.out w2 BR.out).mono ?_
  rintro r w3 ⟨rfl, h⟩
  have B3 := Lib.hid (below_on BR.out h)
  clear h
  obtain ⟨c0, c1, c2, c3, c4, c5, c6, c7, c8, c9, c10, c11⟩ := cfcells (blk_on B3.out N1.out)
  go_wp2_with fail
  refine (KG.out w3 B3.out).mono ?_
  rintro r w4 ⟨rfl, h⟩
  have B4 := Lib.hid (below_on B3.out h)
  clear h c0 c1 c2 c3 c4 c5 c6 c7 c8 c9 c10 c11 KG
  cases z
  case true =>
    clear K1 KC HK
    go_wp2_with fail
    refine (KA.out w4 B4.out).mono ?_
    rintro r wz ⟨rfl, hz⟩
    have BZ := Lib.hid (below_on B2.out (below_on B4.out hz))
    clear hz
    go_wp2_with fail
    go_ret
    exact ⟨rfl, BZ.out⟩
  replace KC := Lib.hid (KC.out rfl)
  obtain ⟨c0, c1, c2, c3, c4, c5, c6, c7, c8, c9, c10, c11⟩ := cfcells (blk_on B4.out N1.out)
  have hfd : ∀ W, (Instr.field 33 (.agg #[.int .i64 R1, .int .i64 R2, .int .i64 R3, .int .i64 R4]) 0).run Tryd.prog W = .ok (.int .i64 R1) W := fun _ => by kernel_rfl
  go_wp2_with fail
  refine (K1.out w4 B4.out).mono ?_
  rintro r w5 ⟨rfl, h⟩
  have B5 := Lib.hid (below_on B4.out h)
  clear h c0 c1 c2 c3 c4 c5 c6 c7 c8 c9 c10 c11 K1
  by_cases hR : R1 = 0
  case neg =>
    have hR' : (R1 != 0) = true := by simp [hR]
    clear KC HK hR
    go_wp2_with fail
    refine (KA.out w5 B5.out).mono ?_
    rintro r wz ⟨rfl, hz⟩
    have BZ := Lib.hid (below_on B2.out (below_on B5.out hz))
    clear hz
    go_wp2_with fail
    go_ret
    exact ⟨rfl, BZ.out⟩
  have HK' := Lib.hid (HK.out hR)
  subst hR
  clear HK
  obtain ⟨c0, c1, c2, c3, c4, c5, c6, c7, c8, c9, c10, c11⟩ := cfcells (blk_on B5.out N1.out)
  go_wp2_with fail
  refine (KC.out w5 B5.out).mono ?_
  rintro r w7 ⟨y, rfl, hyc, hyo, h⟩
  obtain ⟨w8, e8⟩ : ∃ w8, w8 = w7.alloc (cfO y) := ⟨_, rfl⟩
  obtain ⟨s8, n8, b8⟩ := new_size e8
  obtain ⟨G, hG⟩ : ∃ G, w7.heap.size = G := ⟨_, rfl⟩
  rw [hG] at n8
  have N8 := Lib.hid n8
  have B8 := Lib.hid (below_on (below_on B5.out h) b8)
  have OY := Lib.hid (hyo.below b8)
  have YC := Lib.hid hyc
  have HG := Lib.hid hG
  have HGD := Lib.hid (show w2.heap.size ≤ G by rw [← hG]; exact (below_on B5.out h).size)
  have mt := (hyo.below b8).seen.ts.row.mx
  have ml := (hyo.below b8).seen.ls.row.mx
  unfold maxLen at mt ml
  have TA := Lib.hid (fun (ht : 0 < y.tasks.length) => own_some OY.out.ts ht)
  have TL := Lib.hid (fun (ht : 0 < y.lines.length) => own_some OY.out.ls ht)
  have ct := Lib.hid (OY.out.seen.ts.row.lc)
  have cl := Lib.hid (OY.out.seen.ls.row.lc)
  clear h hyc hyo s8 n8 b8 hG c0 c1 c2 c3 c4 c5 c6 c7 c8 c9 c10 c11 KC
  unfold cfO cfCells at e8
  go_upto_region 4 with fail
  rw [← e8, HG.out]
  clear e8
  have X0 : Hid (BoxS w8 w8 G y) := Lib.hid ⟨Only.refl _ _, N8.out⟩
  obtain ⟨c0, c1, c2, c3, c4, c5, c6, c7, c8, c9, c10, c11⟩ := cfcells X0.out.box
  have fz := froz12 X0.out.box 0
  go_upto_if 22 with fail
  go_cut [] (fun wx => Hid (BoxS w8 wx G (fw1 y)))
  case first =>
    by_cases hp : 0 < y.tasks.length
    · have Y := Lib.hid (X0.out.store (fw1_at y (y.tasks.length - 1) rfl))
      obtain ⟨gT, hgT⟩ := TA.out hp
      have hcap := ct.out
      have hs1 : ((y.tasks.length : Int) - 1).toNat = y.tasks.length - 1 := by omega
      have hs2 : (0 : Int) ≤ (y.tasks.length : Int) - 1 := by omega
      have hs3 : ((y.tasks.length : Int) - 1) ≤ (y.tcap : Int) := by omega
      rw [hgT] at Y
      go_wp2_with fail
      go_meet
      exact Y
    · have Y := Lib.hid (X0.out.as (fw1_not y (by omega)))
      have dp : decide (0 < y.tasks.length) = false := decide_eq_false hp
      go_wp2_with fail
      go_meet
      exact Y
  case rest =>
  have X1 := hcut
  clear hcut X0 c0 c1 c2 c3 c4 c5 c6 c7 c8 c9 c10 c11 fz
  have c1 : wc.cell? ⟨G, 1, none⟩ = some (.slice y.lao y.lines.length y.lcap) := (cfcells X1.out.box).c1
  have c7 : wc.cell? ⟨G, 7, none⟩ = some (.int .u32 (y.mask : Int)) := (cfcells X1.out.box).c7
  have fz := froz12 X1.out.box 1
  have tail : ∀ wd, Hid (BoxS w8 wd G (fw2 y)) → Hid (Below w.heap.size w wd ∧ (∃ v0 v1 v2 v3 v4 v5 v6 v7 v8 v9 v10 v11, (wd.cell? ⟨G, 0, none⟩ = some v0 ∧ wd.cell? ⟨G, 1, none⟩ = some v1 ∧ wd.cell? ⟨G, 2, none⟩ = some v2 ∧ wd.cell? ⟨G, 3, none⟩ = some v3 ∧ wd.cell? ⟨G, 4, none⟩ = some v4 ∧ wd.cell? ⟨G, 5, none⟩ = some v5 ∧
      wd.cell? ⟨G, 6, none⟩ = some v6 ∧ wd.cell? ⟨G, 7, none⟩ = some v7 ∧ wd.cell? ⟨G, 8, none⟩ = some v8 ∧ wd.cell? ⟨G, 9, none⟩ = some v9 ∧ wd.cell? ⟨G, 10, none⟩ = some v10 ∧ wd.cell? ⟨G, 11, none⟩ = some v11) ∧
      Calls Tryd.prog 10 #[.agg #[v0, v1, v2, v3, v4, v5, v6, v7, v8, v9, v10, v11]] wd fun r w'' => r = .returned (.agg #[.int .i64 0, .int .i64 0, .int .i64 0, .int .i64 0]) ∧ Below wd.heap.size wd w'')) := fun wd X2 => by
    have TS := fw2_seen (X2.out.own OY.out ⟨_, N8.out⟩).seen
    have BW := X2.out.below B8.out HGD.out
    obtain ⟨c0, c1, c2, c3, c4, c5, c6, c7, c8, c9, c10, c11⟩ := cfcells X2.out.box
    exact Lib.hid ⟨below_on B2.out BW, _, _, _, _, _, _, _, _, _, _, _, _, ⟨c0, c1, c2, c3, c4, c5, c6, c7, c8, c9, c10, c11⟩, HK'.out wd (fw2 y) TS (by rw [fw_c, YC.out]) (L1.out.below BW)⟩
  have TAIL := Lib.hid tail
  clear tail
  by_cases hp : 0 < y.lines.length
  case neg =>
    have Y := X1.out.as (fw2_not y (fun _ => by omega))
    have dp : decide (0 < y.lines.length) = false := decide_eq_false hp
    have Q := TAIL.out wc (Lib.hid Y)
    clear Y TAIL HK' YC OY N8 B8 HGD S1 L1 KA TA TL ct cl X1
    go_upto_region 8 with fail
    obtain ⟨BZ, v0, v1, v2, v3, v4, v5, v6, v7, v8, v9, v10, v11, ⟨d0, d1, d2, d3, d4, d5, d6, d7, d8, d9, d10, d11⟩, HCk⟩ := Q.out
    have HB := Lib.hid BZ
    have HC := Lib.hid HCk
    clear BZ HCk Q c1 c7 fz
    go_wp2_with fail
    refine HC.out.mono ?_
    rintro r wz ⟨rfl, h⟩
    have BF := Lib.hid (below_on HB.out h)
    clear h d0 d1 d2 d3 d4 d5 d6 d7 d8 d9 d10 d11 HC
    go_wp2_with fail
    go_ret
    exact ⟨rfl, BF.out⟩
  by_cases hm : y.mask = 0
  case neg =>
    have Y := X1.out.as (fw2_not y (fun h => absurd h hm))
    have q : ((y.mask : Int) == 0) = false := by simpa using hm
    have Q := TAIL.out wc (Lib.hid Y)
    clear Y TAIL HK' YC OY N8 B8 HGD S1 L1 KA TA TL ct cl X1
    go_upto_region 8 with fail
    obtain ⟨BZ, v0, v1, v2, v3, v4, v5, v6, v7, v8, v9, v10, v11, ⟨d0, d1, d2, d3, d4, d5, d6, d7, d8, d9, d10, d11⟩, HCk⟩ := Q.out
    have HB := Lib.hid BZ
    have HC := Lib.hid HCk
    clear BZ HCk Q c1 c7 fz
    go_wp2_with fail
    refine HC.out.mono ?_
    rintro r wz ⟨rfl, h⟩
    have BF := Lib.hid (below_on HB.out h)
    clear h d0 d1 d2 d3 d4 d5 d6 d7 d8 d9 d10 d11 HC
    go_wp2_with fail
    go_ret
    exact ⟨rfl, BF.out⟩
  obtain ⟨gT, hgT⟩ := TL.out hp
  obtain ⟨wd, ed⟩ : ∃ wd, wd = wc.setCell ⟨G, 1, none⟩ (.slice y.lao (y.lines.length - 1) y.lcap) := ⟨_, rfl⟩
  have Y : BoxS w8 wd G (fw2 y) := by rw [ed]; exact X1.out.store (fw2_at y (y.lines.length - 1) rfl hm)
  have hcap := cl.out
  have hs1 : ((y.lines.length : Int) - 1).toNat = y.lines.length - 1 := by omega
  have hs2 : (0 : Int) ≤ (y.lines.length : Int) - 1 := by omega
  have hs3 : ((y.lines.length : Int) - 1) ≤ (y.lcap : Int) := by omega
  have q : ((y.mask : Int) == 0) = true := by rw [hm]; rfl
  have Q := TAIL.out wd (Lib.hid Y)
  rw [hgT] at ed
  clear Y TAIL HK' YC OY N8 B8 HGD S1 L1 KA TA TL ct cl X1
  go_upto_region 8 with fail
  rw [← ed]
  clear ed
  obtain ⟨BZ, v0, v1, v2, v3, v4, v5, v6, v7, v8, v9, v10, v11, ⟨d0, d1, d2, d3, d4, d5, d6, d7, d8, d9, d10, d11⟩, HCk⟩ := Q.out
  have HB := Lib.hid BZ
  have HC := Lib.hid HCk
  clear BZ HCk Q c1 c7 fz
  go_wp2_with fail
  refine HC.out.mono ?_
  rintro r wz ⟨rfl, h⟩
  have BF := Lib.hid (below_on HB.out h)
  clear h d0 d1 d2 d3 d4 d5 d6 d7 d8 d9 d10 d11 HC
  go_wp2_with fail
  go_ret
  exact ⟨rfl, BF.out⟩

theorem walk {w : World} (cx : CfgV) (hw : SeenC w cx ∧ CfFits cx) (hL : IsL w) : Calls Tryd.prog 6 #[cfV cx] w fun r w' => r = .returned (.bool true) ∧ Below w.heap.size w w' := by
  have hk : CfK cx := ⟨hw.2.tk, hw.2.lk, hw.2.ma⟩
  refine walk_at cx _ _ _ _ _ (Lib.hid fun w' h => awake12_any w' h) (Lib.hid fun w' h => great_cf_any cx w' h) (Lib.hid fun w' h h' => ccheck_any cx w' h h' hk) (Lib.hid fun h => small_of h) (Lib.hid fun hR wr y hs hc hl => ?_) hw.1 hL
  have := ccheck_any y wr hs hl (CfK.of_fw hk hc)
  rw [hc, fewer_check hR] at this
  exact this

theorem own : ownKnob Tryd.prog.godebug = none := by kernel_rfl
theorem laidOut : laidOutB Tryd.prog = true := by kernel_rfl

set_option maxRecDepth 100000 in
theorem lifted (os : Os) (started : os.Started) (H : Type) (enc : TypeId × Value → H) :
    ReturnsInHanded {} Tryd.checked os 6 .any (fun w args => (Rows.confFewerSpec.pre enc Tryd.prog Tryd.f6 Rows.confFewerRow.domain false w args ∧ laidMetH Tryd.prog laidL w) ∧ sizedMet enc Tryd.prog Tryd.f6 (OpenSpec.ofChange Rows.confFewerSpec) false w args) (Rows.confFewerSpec.post enc Tryd.prog Tryd.f6 false true false false) := by
  refine returnsInHanded_of_row (s := OpenSpec.ofChange Rows.confFewerSpec) (F := fun _ _ _ => 0) (laid := laidL) (C := Tryd.checked) own started (by kernel_rfl) Tryd.func6
    (ChangeSpec.witness_shaped (enc := enc) (C := Tryd.checked) (os := os) (s := Rows.confFewerSpec) (X := fun w _ => laidMetH Tryd.prog laidL w) false (World.laidAll Tryd.prog os laidL) #[.agg #[.slice none 0 0, .slice none 0 0, .int .i64 0, .slice none 0 0, .slice none 0 0, .slice none 0 0, .int .i64 0, .int .u32 0, .int .u32 0, .int .i64 0, .int .u64 0, .int .u64 0]] 8 (World.laidAll_os _ _ _)
      (World.shaped_of_ZipB (by kernel_rfl) (by kernel_rfl)) (by kernel_rfl) (by kernel_rfl) (by kernel_rfl)
      (by rw [MakeChecks.laidMetH_plain _ _ _ (by kernel_rfl)]; exact laidMet_laidAll _ (by kernel_rfl) (by kernel_rfl))) ?_
  intro W base args ds gs before hval0 hW hcnd _ hsz0 hL hsh _
  have hval : ∀ (j : Nat) t v, Tryd.f6.params[j]? = some t → args[j]? = some v → Value.okWide Tryd.prog W .any base t v := hval0
  have hW' := hW
  obtain ⟨p, q, hA0, hV, rfl, hfz, hnd⟩ := hW
  have hA : DataW.TrodAll enc Tryd.prog W 0 (fun _ => true) true Tryd.f6.params.toList args.toList ds p := hA0
  rw [Tryd.params6] at hA hval
  obtain ⟨v0, vs0, d0, ds0, p0, q0, hargs, rfl, rfl, h0, r0⟩ := trodAll_cons hA
  obtain ⟨rfl, rfl, rfl⟩ := trodAll_nil r0
  obtain rfl : args = #[v0] := by cases args; simp_all
  obtain ⟨rfl, rfl⟩ := trodVars_none hV
  have k0 := h0
  have lt0 : ∀ x ∈ p0, x.block < W.heap.size := by obtain ⟨m, hm⟩ := k0; exact DataW.trod_lt m _ _ _ hm
  obtain ⟨a0, rfl, w0⟩ := open_cfg (hval 0 28 v0 rfl rfl) h0
  clear hA0 hval0
  refine (walk a0 w0 (of_laid hL hsh)).mono fun e W' ⟨he, bel⟩ => ?_
  subst he
  exact ⟨_, rfl, _, _, _, [], _, [], hW', trodAll_mk1 (shut_bool Tryd.underlying4 _), (trodAll_cons_mk (Below.trod laidOut (by kernel_rfl) (of_decide_eq_true (by kernel_rfl)) k0 bel lt0) trodAll_mk0), rfl, bel.frame _, fun h => by cases h⟩

theorem over : Rows.ConfFewerSaid :=
  OpenClaim.holds_of_wide 6 Tryd.f6 rfl rfl rfl rfl rfl rfl rfl ⟨rfl, rfl, rfl, rfl, rfl⟩ rfl rfl rfl rfl rfl (by kernel_rfl) Tryd.func6 (by kernel_rfl)
    (of_decide_eq_true (by kernel_rfl)) (by unfold Func.isWrapper; first | (rw [if_pos (by decide +kernel)]; kernel_rfl) | (rw [if_neg (by decide +kernel)]; exact ⟨rfl, rfl⟩))
    (fun os started H enc _ => lifted os started H enc)

theorem proved : Rows.ConfFewerCardSaid :=
  Claim7.holds_tied_plain_at .later [] _ true _ false over (fun _ h => by cases h) (by kernel_rfl) (fun _ h => by cases h) confFewer_row_tie rfl ⟨rfl, rfl⟩ (by kernel_rfl) rfl
    (fun f fn hf hfn => by
      obtain rfl : f = 6 := Option.some.inj ((show Tryd.prog.funcNamed "taffrail/taffraillaw12.ConfFewer" = some 6 by kernel_rfl).symm.trans hf) |>.symm
      obtain rfl : fn = Tryd.f6 := (Option.some.inj (Tryd.func6.symm.trans hfn)).symm
      refine ⟨by kernel_rfl, fun j t ht => ?_⟩
      rw [Tryd.params6] at ht
      have hm : t ∈ [28] := by simpa using Array.mem_of_getElem? ht
      have hall : ([28].all fun u => !Tryd.prog.wantsStandIn u) = true := by kernel_rfl
      exact (show Tryd.prog.wantsStandIn t = false by simpa using List.all_eq_true.1 hall t hm))
    (by kernel_rfl)
#print axioms proved

end Go.Proofs.YtbhnehacgkhpbaaDoor.ConfFewer
