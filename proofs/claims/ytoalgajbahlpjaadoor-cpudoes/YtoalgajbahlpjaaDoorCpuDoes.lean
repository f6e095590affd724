/-
  CpuDoes: for every context and every instruction the statement's function answers true: the instruction does just what the document says, or is refused, and then nothing has changed (contexts beyond the statement's own bound are let go by the statement itself). Conditions: none beyond the card's own: the listed package variables start as the program's text lays them, which the card ties to that text.
-/
import Derived.Test.YtoalgajbahlpjaaDoorCpAw
import Derived.Test.YtoalgajbahlpjaaDoorCp14
import Derived.Test.YtoalgajbahlpjaaDoorCpO
import Derived.Test.YtoalgajbahlpjaaDoorIsLw
import Derived.Test.YtoalgajbahlpjaaDoorTie
import Derived.Test.YtoalgajbahlpjaaDoorCards
import Derived.ProofKit
import Derived.OpenShut
import Derived.ShutString
import Derived.LaidMore
import Derived.Lay
import Derived.SevenTiedAt
import Derived.Stop.Joined
import Derived.Deep.DeepHandedRow
import Derived.BigRegion
import Derived.Deep.RegionWith
import Derived.Deep.DeepCutAuto
namespace Go.Proofs.YtoalgajbahlpjaaDoor.CpuDoes
open Go.ChangeShapes Go.WideShapes Go.ChangeAt Go.RowKit
open Go.ChangeMaps (open_string shut_string)
set_option linter.unusedVariables false
set_option linter.unusedSimpArgs false

set_option maxRecDepth 100000 in
set_option maxHeartbeats 16000000 in
theorem walk_at (p : Int) (r0 r1 r2 r3 r4 r5 r6 r7 : Nat) (ao : Option Addr) (cap : Nat) (l : List Nat) (i : Ins) (z : Bool) (e : Int) (yp : Int) (q0 q1 q2 q3 q4 q5 q6 q7 : Nat) (ym : List Nat) {w : World}
    (HA : Hid (∀ w', IsL w' → Calls Tryd.prog 8 #[] w' fun r w'' => r = .returned (.bool true) ∧ Below w'.heap.size w' w''))
    (HG : Hid (∀ w', SeenW w' ao cap l → Calls Tryd.prog 9 #[.agg (cx10 p r0 r1 r2 r3 r4 r5 r6 r7 (.slice ao l.length cap))] w' fun r w'' => r = .returned (.bool z) ∧ Below w'.heap.size w' w''))
    (HSm : Hid (z = false → l.length ≤ 300)) (HFit : Hid (CtxFits ⟨p, [r0, r1, r2, r3, r4, r5, r6, r7], l⟩))
    (HDo : Hid (∀ w' B b bo bc, IsL w' → Cx w' B b bo bc ⟨p, [r0, r1, r2, r3, r4, r5, r6, r7], l⟩ → Calls Tryd.prog 11 #[.pointer (some ⟨b, 0, none⟩), insV i] w' fun r w'' => r = .returned (.int .i64 e) ∧ Cx w'' B b bo bc ⟨yp, [q0, q1, q2, q3, q4, q5, q6, q7], ym⟩ ∧ Only w' w'' (cxS b bo)))
    (HR : Hid (∀ w', SeenW w' ao cap l → l.length ≤ 1000000 → Calls Tryd.prog 12 #[.agg (cx10 p r0 r1 r2 r3 r4 r5 r6 r7 (.slice ao l.length cap)), insV i] w' fun r w'' => ∃ bo bc, r = .returned (.tuple #[.agg (cx10 yp q0 q1 q2 q3 q4 q5 q6 q7 (.slice bo ym.length bc)), .int .i64 e]) ∧ SeenW w'' bo bc ym ∧ Below w'.heap.size w' w''))
    (hs : SeenW w ao cap l) (hL : IsL w) : Calls Tryd.prog 3 #[.agg (cx10 p r0 r1 r2 r3 r4 r5 r6 r7 (.slice ao l.length cap)), insV i] w fun r w' => r = .returned (.bool true) ∧ Below w.heap.size w w' := by
  obtain ⟨w1, e1⟩ : ∃ w1, w1 = w.alloc (.cells (cx10 p r0 r1 r2 r3 r4 r5 r6 r7 (.slice ao l.length cap)) 26) := ⟨_, rfl⟩
  obtain ⟨s1, n1, b1⟩ := new_size e1
  obtain ⟨w2, e2⟩ : ∃ w2, w2 = w1.alloc (insO i) := ⟨_, rfl⟩
  obtain ⟨s2, n2, b2⟩ := new_size e2
  have n1' := blk_on b2 n1
  obtain ⟨D, hD⟩ : ∃ D, w.heap.size = D := ⟨_, rfl⟩
  obtain ⟨E, hE⟩ : ∃ E, D + 1 = E := ⟨_, rfl⟩
  rw [hD] at n1'
  rw [s1, hD, hE] at n2
  have B2 := Lib.hid (below_on b1 b2)
  have N1 := Lib.hid n1'
  have N2 := Lib.hid n2
  have HD := Lib.hid hD
  have HE := Lib.hid hE
  have HL := Lib.hid hL
  have HS0 := Lib.hid hs
  have ZZ := Lib.hid (show w.heap.size = D ∧ D + 1 = E from ⟨hD, hE⟩)
  have KA : Hid (∀ w', Below w.heap.size w w' → Calls Tryd.prog 8 #[] w' fun r w'' => r = .returned (.bool true) ∧ Below w'.heap.size w' w'') := Lib.hid (fun w' h => HA.out w' (HL.out.below h))
  have HC := Lib.hid (fun hz w' h' => rcopy_walk p r0 r1 r2 r3 r4 r5 r6 r7 ao cap l w' h' (by have := HSm.out hz; omega))
  have HSame := Lib.hid (fun ao bo cap cbp w' h1 h2 => rsame_walk yp q0 q1 q2 q3 q4 q5 q6 q7 ao bo cap cbp ym w' h1 h2)
  clear s1 n1 b1 s2 n2 b2 n1' hD hE hL hs HA
  unfold cx10 at HR HSame
  obtain ⟨op, a, b, c, d, k⟩ := i
  unfold insO at e2
  unfold insV at *
  unfold cx10 at e1 HG HC
  unfold cx10
  simp only at *
  go_enter Tryd.func3, Tryd.ntmps3
  go_upto_region 1 with fail
  rw [← e1, HD.out, ← e2, HE.out]
  clear e1 e2
  go_wp2_with fail
  refine (KA.out w2 B2.out).mono ?_
  rintro r w3 ⟨rfl, h⟩
  have B3 := Lib.hid (below_on B2.out h)
  have M1 := Lib.hid (blk_on h N1.out)
  have M2 := Lib.hid (blk_on h N2.out)
  clear h N1 N2
  obtain ⟨c0, c1, c2, c3, c4, c5, c6, c7, c8, c9⟩ := cells10 M1.out
  go_wp2_with fail
  refine (HG.out w3 (HS0.out.below B3.out)).mono ?_
  rintro r w4 ⟨rfl, h⟩
  have B4 := Lib.hid (below_on B3.out h)
  have P1 := Lib.hid (blk_on h M1.out)
  have P2 := Lib.hid (blk_on h M2.out)
  clear h M1 M2 c0 c1 c2 c3 c4 c5 c6 c7 c8 c9
  cases z
  case true =>
    go_wp2_with fail
    refine (KA.out w4 B4.out).mono ?_
    rintro r wz ⟨rfl, h⟩
    have BZ := Lib.hid (below_on B4.out h)
    clear h
    go_wp2_with fail
    go_ret
    exact ⟨rfl, BZ.out⟩
  case false =>
  replace HC := Lib.hid (HC.out rfl)
  replace HSm := Lib.hid (HSm.out rfl)
  obtain ⟨c0, c1, c2, c3, c4, c5, c6, c7, c8, c9⟩ := cells10 P1.out
  go_wp2_with fail
  refine (HC.out w4 (HS0.out.below B4.out)).mono ?_
  rintro r w5 ⟨bo, bc, rfl, o5, h5⟩
  obtain ⟨w6, e6⟩ : ∃ w6, w6 = w5.alloc (.cells (cx10 p r0 r1 r2 r3 r4 r5 r6 r7 (.slice bo l.length bc)) 26) := ⟨_, rfl⟩
  obtain ⟨s6, n6, b6⟩ := new_size e6
  obtain ⟨G, hG⟩ : ∃ G, w5.heap.size = G := ⟨_, rfl⟩
  rw [hG] at n6
  have b46 := below_on h5 b6
  have Q1 := Lib.hid (blk_on b46 P1.out)
  have Q2 := Lib.hid (blk_on b46 P2.out)
  have B6 := Lib.hid (below_on B4.out b46)
  have OF := Lib.hid (show w4.heap.size ≤ G ∧ ∀ q, bo = some q → w4.heap.size ≤ q.block from ⟨by rw [← hG]; exact h5.size, fun q hq => by
    subst hq
    exact (o5.lt q.block rfl).1⟩)
  have X6 : Hid (Cx w6 w.heap.size G bo bc ⟨p, [r0, r1, r2, r3, r4, r5, r6, r7], l⟩) := Lib.hid ⟨HFit.out, n6, Nat.le_trans B4.out.size OF.out.1, (o5.below b6).mono B4.out.size, fun q hq e => by
    subst hq
    have := (o5.lt q.block rfl).2
    omega⟩
  have HG' := Lib.hid hG
  clear s6 n6 b6 hG b46 o5 h5 c0 c1 c2 c3 c4 c5 c6 c7 c8 c9 HC
  unfold cx10 at e6
  go_upto_region 4 with fail
  rw [← e6, HG'.out]
  clear e6
  obtain ⟨i0, i1, i2, i3, i4, i5⟩ := inscells Q2.out
  simp only at i0 i1 i2 i3 i4 i5
  go_wp2_with fail
  refine (HDo.out w6 w.heap.size G bo bc (HL.out.below B6.out) X6.out).mono ?_
  rintro r w7 ⟨rfl, hx, ho⟩
  have nD : ¬ cxS G bo D := by
    have h1 := blk_lt P1.out
    have h2 := OF.out
    rintro (h | ⟨q, hq, h⟩)
    · have := h2.1; omega
    · have := h2.2 q hq; omega
  have nE : ¬ cxS G bo E := by
    have h1 := blk_lt P2.out
    have h2 := OF.out
    rintro (h | ⟨q, hq, h⟩)
    · have := h2.1; omega
    · have := h2.2 q hq; omega
  have T1 := Lib.hid ((ho.block D (blk_lt Q1.out) nD).trans Q1.out)
  have T2 := Lib.hid ((ho.block E (blk_lt Q2.out) nE).trans Q2.out)
  have X7 := Lib.hid hx
  have B7 := Lib.hid (B6.out.trans (X6.out.belowB ho))
  clear hx ho nD nE Q1 Q2 P1 P2 i0 i1 i2 i3 i4 i5
  obtain ⟨c0, c1, c2, c3, c4, c5, c6, c7, c8, c9⟩ := cells10 T1.out
  obtain ⟨i0, i1, i2, i3, i4, i5⟩ := inscells T2.out
  simp only at i0 i1 i2 i3 i4 i5
  go_wp2_with fail
  refine (HR.out w7 (HS0.out.below B7.out) (by have := HSm.out; omega)).mono ?_
  rintro r w8 ⟨co, cc, rfl, hs8, h8⟩
  obtain ⟨w9, e9⟩ : ∃ w9, w9 = w8.alloc (.cells (cx10 yp q0 q1 q2 q3 q4 q5 q6 q7 (.slice co ym.length cc)) 26) := ⟨_, rfl⟩
  obtain ⟨s9, n9, b9⟩ := new_size e9
  obtain ⟨F, hF⟩ : ∃ F, w8.heap.size = F := ⟨_, rfl⟩
  rw [hF] at n9
  have X9 := Lib.hid (X7.out.below (below_on h8 b9))
  have B9 := Lib.hid (below_on B7.out (below_on h8 b9))
  have S9 := Lib.hid (hs8.below b9)
  have N9 := Lib.hid n9
  have HF := Lib.hid hF
  clear s9 n9 b9 hF hs8 h8 c0 c1 c2 c3 c4 c5 c6 c7 c8 c9 i0 i1 i2 i3 i4 i5
  unfold cx10 at e9
  go_upto_region 6 with fail
  rw [← e9, HF.out]
  clear e9
  obtain ⟨d0, d1, d2, d3, d4, d5, d6, d7, d8, d9⟩ := cells10 (show w9.heap[G]? = some (.cells (cx10 yp q0 q1 q2 q3 q4 q5 q6 q7 (.slice bo ym.length bc)) 26) from X9.out.box)
  obtain ⟨c0, c1, c2, c3, c4, c5, c6, c7, c8, c9⟩ := cells10 N9.out
  go_wp2_with fail
  refine (HSame.out bo co bc cc w9 X9.out.seen S9.out).mono ?_
  rintro r w10 ⟨rfl, h⟩
  have BZ := Lib.hid (below_on B9.out h)
  clear h
  go_wp2_with fail
  go_ret
  exact ⟨rfl, BZ.out⟩

theorem walk {w : World} (x : Ctx) (ao : Option Addr) (cap : Nat) (hw : SeenW w ao cap x.mem ∧ CtxFits x) (i : Ins) (hi : InsFits i) (hL : IsL w) : Calls Tryd.prog 3 #[cxV x (.slice ao x.mem.length cap), insV i] w fun r w' => r = .returned (.bool true) ∧ Below w.heap.size w w' := by
  obtain ⟨hs, hf⟩ := hw
  have hYr := (hf.does (i := i) hi.k).rl
  have hR := fun w' h' hn => rdo_any x i hi.k ao cap w' h' hn hf
  have hD := fun w' B b bo bc l' x' => cdo_any i hi.k w' l' B b bc bo x x'
  have hG := fun w' h' => great13_any x hf.rl ao cap w' h'
  have hz : greatB x = false → x.mem.length ≤ 300 := fun h => (greatB_no h).1
  unfold RDo at hR
  generalize greatB x = z at *
  generalize doE x i = e at *
  generalize doC x i = y at *
  obtain ⟨p, regs, l⟩ := x
  obtain ⟨r0, r1, r2, r3, r4, r5, r6, r7, rfl⟩ := eight hf.rl
  obtain ⟨yp, yr, ym⟩ := y
  obtain ⟨q0, q1, q2, q3, q4, q5, q6, q7, rfl⟩ := eight hYr
  exact walk_at p r0 r1 r2 r3 r4 r5 r6 r7 ao cap l i z e yp q0 q1 q2 q3 q4 q5 q6 q7 ym (Lib.hid fun w' h => awake13_any w' h) (Lib.hid hG) (Lib.hid hz) (Lib.hid hf) (Lib.hid hD) (Lib.hid hR) hs hL

theorem own : ownKnob Tryd.prog.godebug = none := by kernel_rfl
theorem laidOut : laidOutB Tryd.prog = true := by kernel_rfl

set_option maxRecDepth 100000 in
theorem lifted (os : Os) (started : os.Started) (H : Type) (enc : TypeId × Value → H) :
    ReturnsInHanded {} Tryd.checked os 3 .any (fun w args => (Rows.cpuDoesSpec.pre enc Tryd.prog Tryd.f3 Rows.cpuDoesRow.domain false w args ∧ laidMetH Tryd.prog laidL w) ∧ sizedMet enc Tryd.prog Tryd.f3 (OpenSpec.ofChange Rows.cpuDoesSpec) false w args) (Rows.cpuDoesSpec.post enc Tryd.prog Tryd.f3 false true false false) := by
  refine returnsInHanded_of_row (s := OpenSpec.ofChange Rows.cpuDoesSpec) (F := fun _ _ _ => 0) (laid := laidL) (C := Tryd.checked) own started (by kernel_rfl) Tryd.func3
    (ChangeSpec.witness_shaped (enc := enc) (C := Tryd.checked) (os := os) (s := Rows.cpuDoesSpec) (X := fun w _ => laidMetH Tryd.prog laidL w) false (World.laidAll Tryd.prog os laidL) #[.agg #[.int .i64 0, .int .u32 0, .int .u32 0, .int .u32 0, .int .u32 0, .int .u32 0, .int .u32 0, .int .u32 0, .int .u32 0, .slice none 0 0], .agg #[.int .i64 0, .int .i64 0, .int .i64 0, .int .i64 0, .int .i64 0, .int .u32 0]] 8 (World.laidAll_os _ _ _)
      (World.shaped_of_ZipB (by kernel_rfl) (by kernel_rfl)) (by kernel_rfl) (by kernel_rfl) (by kernel_rfl)
      (by rw [MakeChecks.laidMetH_plain _ _ _ (by kernel_rfl)]; exact laidMet_laidAll _ (by kernel_rfl) (by kernel_rfl))) ?_
  intro W base args ds gs before hval0 hW hcnd _ hsz0 hL hsh _
  have hval : ∀ (j : Nat) t v, Tryd.f3.params[j]? = some t → args[j]? = some v → Value.okWide Tryd.prog W .any base t v := hval0
  have hW' := hW
  obtain ⟨p, q, hA0, hV, rfl, hfz, hnd⟩ := hW
  have hA : DataW.TrodAll enc Tryd.prog W 0 (fun _ => true) true Tryd.f3.params.toList args.toList ds p := hA0
  rw [Tryd.params3] at hA hval
  obtain ⟨v0, vs0, d0, ds0, p0, q0, hargs, rfl, rfl, h0, r0⟩ := trodAll_cons hA
  obtain ⟨v1, vs1, d1, ds1, p1, q1, rfl, rfl, rfl, h1, r1⟩ := trodAll_cons r0
  obtain ⟨rfl, rfl, rfl⟩ := trodAll_nil r1
  obtain rfl : args = #[v0, v1] := by cases args; simp_all
  obtain ⟨rfl, rfl⟩ := trodVars_none hV
  have k0 := h0
  have lt0 : ∀ x ∈ p0, x.block < W.heap.size := by obtain ⟨m, hm⟩ := k0; exact DataW.trod_lt m _ _ _ hm
  have k1 := h1
  have lt1 : ∀ x ∈ p1, x.block < W.heap.size := by obtain ⟨m, hm⟩ := k1; exact DataW.trod_lt m _ _ _ hm
  obtain ⟨a0, ao0, cap0, rfl, w0⟩ := open_ctx (hval 0 26 v0 rfl rfl) h0
  obtain ⟨a1, rfl, w1⟩ := open_ins (hval 1 28 v1 rfl rfl) h1
  clear hA0 hval0
  refine (walk a0 ao0 cap0 w0 a1 w1 (of_laid hL hsh)).mono fun e W' ⟨he, bel⟩ => ?_
  subst he
  exact ⟨_, rfl, _, _, _, [], _, [], hW', trodAll_mk1 (shut_bool Tryd.underlying4 _), (trodAll_cons_mk (Below.trod laidOut (by kernel_rfl) (of_decide_eq_true (by kernel_rfl)) k0 bel lt0) (trodAll_cons_mk (Below.trod laidOut (by kernel_rfl) (of_decide_eq_true (by kernel_rfl)) k1 bel lt1) trodAll_mk0)), rfl, bel.frame _, fun h => by cases h⟩

theorem over : Rows.CpuDoesSaid :=
  OpenClaim.holds_of_wide 3 Tryd.f3 rfl rfl rfl rfl rfl rfl rfl ⟨rfl, rfl, rfl, rfl, rfl⟩ rfl rfl rfl rfl rfl (by kernel_rfl) Tryd.func3 (by kernel_rfl)
    (of_decide_eq_true (by kernel_rfl)) (by unfold Func.isWrapper; first | (rw [if_pos (by decide +kernel)]; kernel_rfl) | (rw [if_neg (by decide +kernel)]; exact ⟨rfl, rfl⟩))
    (fun os started H enc _ => lifted os started H enc)

theorem proved : Rows.CpuDoesCardSaid :=
  Claim7.holds_tied_plain_at .later [] _ true _ false over (fun _ h => by cases h) (by kernel_rfl) (fun _ h => by cases h) cpuDoes_row_tie rfl ⟨rfl, rfl⟩ (by kernel_rfl) rfl
    (fun f fn hf hfn => by
      obtain rfl : f = 3 := Option.some.inj ((show Tryd.prog.funcNamed "taffrail/taffraillaw13.CpuDoes" = some 3 by kernel_rfl).symm.trans hf) |>.symm
      obtain rfl : fn = Tryd.f3 := (Option.some.inj (Tryd.func3.symm.trans hfn)).symm
      refine ⟨by kernel_rfl, fun j t ht => ?_⟩
      rw [Tryd.params3] at ht
      have hm : t ∈ [26, 28] := by simpa using Array.mem_of_getElem? ht
      have hall : ([26, 28].all fun u => !Tryd.prog.wantsStandIn u) = true := by kernel_rfl
      exact (show Tryd.prog.wantsStandIn t = false by simpa using List.all_eq_true.1 hall t hm))
    (by kernel_rfl)
#print axioms proved

end Go.Proofs.YtoalgajbahlpjaaDoor.CpuDoes
