/-
  CoilReads: for all stamps and every text the statement's function answers true: Read answers as the document's own does. Conditions: none beyond the card's own: the listed package variables start as the program's text lays them, which the card ties to that text.
-/
import Derived.Test.YtobljhgiibpmkaaDoorCoilAwake
import Derived.Test.YtobljhgiibpmkaaDoorCoil11
import Derived.Test.YtobljhgiibpmkaaDoorTie
import Derived.Test.YtobljhgiibpmkaaDoorCards
import Derived.ProofKit
import Derived.OpenShut
import Derived.ShutString
import Derived.LaidMore
import Derived.Lay
import Derived.SevenTiedAt
import Derived.Stop.Joined
import Derived.Deep.DeepHandedRow
namespace Go.Proofs.YtobljhgiibpmkaaDoor.CoilReads
open Go.ChangeShapes Go.WideShapes Go.ChangeAt Go.RowKit
open Go.ChangeMaps (open_string shut_string)
set_option linter.unusedVariables false
set_option linter.unusedSimpArgs false

set_option maxRecDepth 100000 in
set_option maxHeartbeats 2000000 in
theorem walk_long (cyc cnt : Nat) (s : ByteArray) (hl : (1000 : Int) < (s.size : Int)) (w : World) (hL : EvL w) :
    Calls Tryd.prog 4 #[.int .u64 cyc, .int .u64 cnt, .string s] w fun r w' => r = .returned (.bool true) ∧ Below w.heap.size w w' := by
  have HA := Lib.hid (awake6_any w hL)
  have HL := Lib.hid hL
  clear hL
  go_enter Tryd.func4, Tryd.ntmps4
  go_wp2_with fail
  refine HA.out.mono ?_
  rintro r w2 ⟨rfl, h2⟩
  have L2 := Lib.hid (HL.out.below h2)
  have B2 := Lib.hid h2
  clear h2 HA HL
  go_wp2_with fail
  refine (awake6_any w2 L2.out).mono ?_
  rintro r w3 ⟨rfl, h3⟩
  have B3 := Lib.hid (B2.out.trans (h3.mono B2.out.size))
  clear h3
  go_wp2_with fail
  go_ret
  exact ⟨rfl, B3.out⟩

set_option maxRecDepth 100000 in
set_option maxHeartbeats 4000000 in
theorem walk_few (cyc cnt : Nat) (hy : cyc < 18446744073709551616) (hc : cnt < 18446744073709551616) (s : ByteArray) (hl : decide ((1000 : Int) < (s.size : Int)) = false) (w : World) (hL : EvL w) :
    Calls Tryd.prog 4 #[.int .u64 cyc, .int .u64 cnt, .string s] w fun r w' => r = .returned (.bool true) ∧ Below w.heap.size w w' := by
  have hn : s.size ≤ 1000000 := by simp at hl; omega
  have HA := Lib.hid (awake6_any w hL)
  have HL := Lib.hid hL
  have HR := Lib.hid (fun w' h' => read_any' cyc cnt s hn hy hc w' h')
  have HQ := Lib.hid (fun w' => rread_any cyc cnt s hn hy hc w')
  generalize readL cyc cnt s.data.toList = R at *
  obtain ⟨l, c⟩ := R
  simp only at HR HQ
  clear hL hn hy hc
  go_enter Tryd.func4, Tryd.ntmps4
  go_wp2_with fail
  refine HA.out.mono ?_
  rintro r w2 ⟨rfl, h2⟩
  have B2 := Lib.hid h2
  clear h2 HA
  go_wp2_with fail
  refine (HR.out w2 (HL.out.below B2.out)).mono ?_
  rintro r w3 ⟨ao, cap, rfl, s3, h3⟩
  have B3 := Lib.hid (B2.out.trans (h3.mono B2.out.size))
  have S3 := Lib.hid s3
  clear h3 B2 HR s3
  go_wp2_with fail
  refine (HQ.out w3).mono ?_
  rintro r w4 ⟨bo, cbp, rfl, s4, h4⟩
  have B4 := Lib.hid (B3.out.trans (h4.mono B3.out.size))
  have HS := Lib.hid (same_any ao bo cap cbp l w4 (S3.out.below h4) s4)
  clear h4 B3 HQ s4 S3
  go_wp2_with fail
  refine HS.out.mono ?_
  rintro r w5 ⟨rfl, h5⟩
  have B5 := Lib.hid (below_drawn B4.out h5)
  clear h5 B4 HS
  go_wp2_with fail
  go_ret
  exact ⟨by simp, B5.out⟩

theorem walk (cyc : Int) (h0 : (Lit.int .u64 cyc).wf = true) (cnt : Int) (h1 : (Lit.int .u64 cnt).wf = true) (s : ByteArray) (h2 : s.size ≤ maxLen) (w : World) (hL : EvL w) :
    Calls Tryd.prog 4 #[.int .u64 cyc, .int .u64 cnt, .string s] w fun r w' => r = .returned (.bool true) ∧ Below w.heap.size w w' := by
  obtain ⟨cyc, rfl, hy⟩ := wf_u64 h0
  obtain ⟨cnt, rfl, hc⟩ := wf_u64 h1
  by_cases hl : (1000 : Int) < (s.size : Int)
  · exact walk_long cyc cnt s hl w hL
  · exact walk_few cyc cnt hy hc s (by rw [decide_eq_false_iff_not]; exact hl) w hL

theorem own : ownKnob Tryd.prog.godebug = none := by kernel_rfl
theorem laidOut : laidOutB Tryd.prog = true := by kernel_rfl

set_option maxRecDepth 100000 in
theorem lifted (os : Os) (started : os.Started) (H : Type) (enc : TypeId × Value → H) :
    ReturnsInHanded {} Tryd.checked os 4 .any (fun w args => (Rows.coilReadsSpec.pre enc Tryd.prog Tryd.f4 Rows.coilReadsRow.domain false w args ∧ laidMetH Tryd.prog laidL w) ∧ sizedMet enc Tryd.prog Tryd.f4 (OpenSpec.ofChange Rows.coilReadsSpec) false w args) (Rows.coilReadsSpec.post enc Tryd.prog Tryd.f4 false true false false) := by
  refine returnsInHanded_of_row (s := OpenSpec.ofChange Rows.coilReadsSpec) (F := fun _ _ _ => 0) (laid := laidL) (C := Tryd.checked) own started (by kernel_rfl) Tryd.func4
    (ChangeSpec.witness_shaped (enc := enc) (C := Tryd.checked) (os := os) (s := Rows.coilReadsSpec) (X := fun w _ => laidMetH Tryd.prog laidL w) false (World.laidAll Tryd.prog os laidL) #[.int .u64 0, .int .u64 0, .string ByteArray.empty] 8 (World.laidAll_os _ _ _)
      (World.shaped_of_ZipB (by kernel_rfl) (by kernel_rfl)) (by kernel_rfl) (by kernel_rfl) (by kernel_rfl)
      (by rw [MakeChecks.laidMetH_plain _ _ _ (by kernel_rfl)]; exact laidMet_laidAll _ (by kernel_rfl) (by kernel_rfl))) ?_
  intro W base args ds gs before hval0 hW hcnd _ hsz0 hL hsh _
  have hval : ∀ (j : Nat) t v, Tryd.f4.params[j]? = some t → args[j]? = some v → Value.okWide Tryd.prog W .any base t v := hval0
  have hW' := hW
  obtain ⟨p, q, hA0, hV, rfl, hfz, hnd⟩ := hW
  have hA : DataW.TrodAll enc Tryd.prog W 0 (fun _ => true) true Tryd.f4.params.toList args.toList ds p := hA0
  rw [Tryd.params4] at hA hval
  obtain ⟨v0, vs0, d0, ds0, p0, q0, hargs, rfl, rfl, h0, r0⟩ := trodAll_cons hA
  obtain ⟨v1, vs1, d1, ds1, p1, q1, rfl, rfl, rfl, h1, r1⟩ := trodAll_cons r0
  obtain ⟨v2, vs2, d2, ds2, p2, q2, rfl, rfl, rfl, h2, r2⟩ := trodAll_cons r1
  obtain ⟨rfl, rfl, rfl⟩ := trodAll_nil r2
  obtain rfl : args = #[v0, v1, v2] := by cases args; simp_all
  obtain ⟨rfl, rfl⟩ := trodVars_none hV
  have k0 := h0
  have lt0 : ∀ x ∈ p0, x.block < W.heap.size := by obtain ⟨m, hm⟩ := k0; exact DataW.trod_lt m _ _ _ hm
  have k1 := h1
  have lt1 : ∀ x ∈ p1, x.block < W.heap.size := by obtain ⟨m, hm⟩ := k1; exact DataW.trod_lt m _ _ _ hm
  have k2 := h2
  have lt2 : ∀ x ∈ p2, x.block < W.heap.size := by obtain ⟨m, hm⟩ := k2; exact DataW.trod_lt m _ _ _ hm
  obtain ⟨a0, rfl, rfl, rfl, w0⟩ := open_int Tryd.underlying30 (hval 0 30 v0 rfl rfl) h0
  obtain ⟨a1, rfl, rfl, rfl, w1⟩ := open_int Tryd.underlying30 (hval 1 30 v1 rfl rfl) h1
  obtain ⟨a2, rfl, rfl, rfl, w2⟩ := open_string Tryd.underlying9 (hval 2 9 v2 rfl rfl) h2
  clear hA0 hval0
  refine (walk a0 w0 a1 w1 a2 w2 W (of_laid hL hsh)).mono fun e W' ⟨he, bel⟩ => ?_
  subst he
  exact ⟨_, rfl, _, _, _, [], _, [], hW', trodAll_mk1 (shut_bool Tryd.underlying4 _), (trodAll_cons_mk (Below.trod laidOut (by kernel_rfl) (of_decide_eq_true (by kernel_rfl)) k0 bel lt0) (trodAll_cons_mk (Below.trod laidOut (by kernel_rfl) (of_decide_eq_true (by kernel_rfl)) k1 bel lt1) (trodAll_cons_mk (Below.trod laidOut (by kernel_rfl) (of_decide_eq_true (by kernel_rfl)) k2 bel lt2) trodAll_mk0))), rfl, bel.frame _, fun h => by cases h⟩

theorem over : Rows.CoilReadsSaid :=
  OpenClaim.holds_of_wide 4 Tryd.f4 rfl rfl rfl rfl rfl rfl rfl ⟨rfl, rfl, rfl, rfl, rfl⟩ rfl rfl rfl rfl rfl (by kernel_rfl) Tryd.func4 (by kernel_rfl)
    (of_decide_eq_true (by kernel_rfl)) (by unfold Func.isWrapper; first | (rw [if_pos (by decide +kernel)]; kernel_rfl) | (rw [if_neg (by decide +kernel)]; exact ⟨rfl, rfl⟩))
    (fun os started H enc _ => lifted os started H enc)

theorem proved : Rows.CoilReadsCardSaid :=
  Claim7.holds_tied_plain_at .later [] _ true _ false over (fun _ h => by cases h) (by kernel_rfl) (fun _ h => by cases h) coilReads_row_tie rfl ⟨rfl, rfl⟩ (by kernel_rfl) rfl
    (fun f fn hf hfn => by
      obtain rfl : f = 4 := Option.some.inj ((show Tryd.prog.funcNamed "taffrail/taffraillaw06.CoilReads" = some 4 by kernel_rfl).symm.trans hf) |>.symm
      obtain rfl : fn = Tryd.f4 := (Option.some.inj (Tryd.func4.symm.trans hfn)).symm
      refine ⟨by kernel_rfl, fun j t ht => ?_⟩
      rw [Tryd.params4] at ht
      have hm : t ∈ [30, 30, 9] := by simpa using Array.mem_of_getElem? ht
      have hall : ([30, 30, 9].all fun u => !Tryd.prog.wantsStandIn u) = true := by kernel_rfl
      exact (show Tryd.prog.wantsStandIn t = false by simpa using List.all_eq_true.1 hall t hm))
    (by kernel_rfl)
#print axioms proved

end Go.Proofs.YtobljhgiibpmkaaDoor.CoilReads
