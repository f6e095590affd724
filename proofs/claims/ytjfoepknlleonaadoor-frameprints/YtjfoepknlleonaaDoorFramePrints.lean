/-
  FramePrints: for every frame the statement's function answers true: Print answers as the document's own does, and no frame is longer than MaxFrame. Conditions: none beyond the card's own: the listed package variables start as the program's text lays them, which the card ties to that text.
-/
import Derived.Test.YtjfoepknlleonaaDoorFrZ
import Derived.Test.YtjfoepknlleonaaDoorTie
import Derived.Test.YtjfoepknlleonaaDoorCards
import Derived.ProofKit
import Derived.OpenShut
import Derived.ShutString
import Derived.LaidMore
import Derived.Lay
import Derived.SevenTiedAt
import Derived.Stop.Joined
import Derived.Deep.DeepHandedRow
namespace Go.Proofs.YtjfoepknlleonaaDoor.FramePrints
open Go.ChangeShapes Go.WideShapes Go.ChangeAt Go.RowKit
open Go.ChangeMaps (open_string shut_string)
set_option linter.unusedVariables false
set_option linter.unusedSimpArgs false

theorem print_len (q : Nat) (l : List Ev) : (frameP q l).1.length ≤ 179 := by
  unfold frameP
  split
  · simp
  · split
    · split
      · simp only [frameB_len]; omega
      · simp
    · simp

set_option maxRecDepth 100000 in
set_option maxHeartbeats 4000000 in
theorem walk_out (q : Nat) (ao : Option Addr) (len cap : Nat) (hl : decide ((100 : Int) < (len : Int)) = true) (w : World) (hL : EvL w) :
    Calls Tryd.prog 3 #[.agg #[.int .u32 (q : Int), .slice ao len cap]] w fun r w' => r = .returned (.bool true) ∧ Below w.heap.size w w' := by
  obtain ⟨w1, x1⟩ : ∃ w1, w1 = w.alloc (frO q ao len cap) := ⟨_, rfl⟩
  obtain ⟨s1, n1, b1⟩ := new_size x1
  have HA := Lib.hid (awake7_any w1 (hL.below b1))
  have HL := Lib.hid hL
  have N1 := Lib.hid n1
  have B1 := Lib.hid b1
  obtain ⟨D, hD⟩ : ∃ D, w.heap.size = D := ⟨_, rfl⟩
  rw [hD] at N1 B1
  have HD := Lib.hid hD
  have hDw : D ≤ w1.heap.size := by omega
  have HDw := Lib.hid hDw
  unfold frO at x1
  clear s1 n1 b1 hD hDw hL
  go_enter Tryd.func3, Tryd.ntmps3
  go_wp2_with fail
  rw [← x1, HD.out]
  clear x1
  refine HA.out.mono ?_
  rintro r w2 ⟨rfl, h2⟩
  have N2 := Lib.hid ((h2.block _ (blk_lt N1.out)).trans N1.out)
  have B2 := Lib.hid (B1.out.trans (h2.mono HDw.out))
  have D2 := Lib.hid (Nat.le_trans HDw.out h2.size)
  have hDl : D < w2.heap.size := blk_lt N2.out
  clear h2 HA N1 B1 HDw
  obtain ⟨c0, c1, -, -⟩ := frcells N2.out
  go_wp2_with fail
  refine (awake7_any w2 (HL.out.below (by rw [HD.out]; exact B2.out))).mono ?_
  rintro r w3 ⟨rfl, h3⟩
  have B3 := Lib.hid (B2.out.trans (h3.mono D2.out))
  clear h3
  go_wp2_with fail
  go_ret
  exact ⟨rfl, by rw [HD.out]; exact B3.out⟩

set_option maxRecDepth 100000 in
set_option maxHeartbeats 4000000 in
theorem walk_few (q : Nat) (hq : q < 4294967296) (ao : Option Addr) (cap : Nat) (l : List Ev) (hl : decide ((100 : Int) < (l.length : Int)) = false) (w : World) (hs : SeenE w ao cap l) (hf : ∀ e ∈ l, EvFits e) (hL : EvL w) :
    Calls Tryd.prog 3 #[.agg #[.int .u32 (q : Int), .slice ao l.length cap]] w fun r w' => r = .returned (.bool true) ∧ Below w.heap.size w w' := by
  have hn' : l.length ≤ 1000000 := by rw [decide_eq_false_iff_not] at hl; omega
  have Hn := Lib.hid hn'
  have HS := Lib.hid hs
  obtain ⟨S, hS⟩ : ∃ S : ByteArray, S = ⟨(frameP q l).1.toArray⟩ := ⟨_, rfl⟩
  obtain ⟨c, hc⟩ : ∃ c : Int, c = (frameP q l).2 := ⟨_, rfl⟩
  have HP : Hid (∀ t bo bc w', TabK w' t 256 → SeenE w' bo bc l → EvL w' → Calls Tryd.prog 12 #[.pointer (some ⟨t, 0, none⟩), .agg #[.int .u32 (q : Int), .slice bo l.length bc]] w' fun r w'' => r = .returned (.tuple #[.string S, .int .i64 c]) ∧ Below w'.heap.size w' w'') :=
    Lib.hid (by rw [hS, hc]; exact fun t bo bc w' h1 h2 h3 => fprint_any t q hq bo bc l w' h1 h2 h3 hf Hn.out)
  have hSl : S.data.toList = (frameP q l).1 := by rw [hS]
  have hSz : S.size ≤ 179 := by
    rw [hS, mk_size]
    exact print_len q l
  have HQ : Hid (∀ w', SeenE w' ao cap l → Calls Tryd.prog 15 #[.agg #[.int .u32 (q : Int), .slice ao l.length cap]] w' fun r w'' => r = .returned (.tuple #[.string S, .int .i64 c]) ∧ Below w'.heap.size w' w'') :=
    Lib.hid (by rw [hS, hc]; exact fun w' h1 => rfprint_any q hq ao cap l w' h1 hf Hn.out)
  have hd179 : decide ((S.size : Int) ≤ 179) = true := by rw [decide_eq_true_iff]; omega
  clear hs hf hSl hS hc hn' hq
  obtain ⟨w1, x1⟩ : ∃ w1, w1 = w.alloc (frO q ao l.length cap) := ⟨_, rfl⟩
  obtain ⟨s1, n1, b1⟩ := new_size x1
  have HA := Lib.hid (awake7_any w1 (hL.below b1))
  have HL := Lib.hid hL
  have N1 := Lib.hid n1
  have B1 := Lib.hid b1
  obtain ⟨D, hD⟩ : ∃ D, w.heap.size = D := ⟨_, rfl⟩
  rw [hD] at N1 B1
  have HD := Lib.hid hD
  have hDw : D ≤ w1.heap.size := by omega
  have HDw := Lib.hid hDw
  unfold frO at x1
  clear s1 n1 b1 hD hDw hL
  go_enter Tryd.func3, Tryd.ntmps3
  go_wp2_with fail
  rw [← x1, HD.out]
  clear x1
  refine HA.out.mono ?_
  rintro r w2 ⟨rfl, h2⟩
  have N2 := Lib.hid ((h2.block _ (blk_lt N1.out)).trans N1.out)
  have B2 := Lib.hid (B1.out.trans (h2.mono HDw.out))
  have D2 := Lib.hid (Nat.le_trans HDw.out h2.size)
  have hDl : D < w2.heap.size := blk_lt N2.out
  clear h2 HA N1 B1 HDw
  obtain ⟨c0, c1, -, -⟩ := frcells N2.out
  go_wp2_with fail
  clear c0 c1
  refine wp_region_rel [.has (fun v w => ∃ b, v = .pointer (some ⟨b, 0, none⟩) ∧ TabK w b 256) (fun v w w' hb ⟨b, h1, h2⟩ => ⟨b, h1, h2.below hb h2.lt⟩), .is (.agg #[.int .u32 (q : Int), .slice ao l.length cap]), .has (fun v w => ∃ bo bc, v = .agg #[.int .u32 (q : Int), .slice bo l.length bc] ∧ SeenE w bo bc l) (fun v w w' hb ⟨bo, bc, h1, h2⟩ => ⟨bo, bc, h1, h2.below hb⟩), .is (.tuple #[.string S, .int .i64 c]), .is (.tuple #[.string S, .int .i64 c]), .is (.string S), .is (.int .i64 c), .is (.string S), .is (.int .i64 c)]
    (fun w' => Below w2.heap.size w2 w') [(0, 17), (1, 18), (2, 19), (3, 20), (4, 16), (5, 21), (6, 22), (7, 3), (8, 4)] 9 (by kernel_rfl) (by kernel_rfl) (by kernel_rfl) (by kernel_rfl) ?hC ?hs ?hf
  case hC => exact below_drew (Below.refl _ _)
  case hs =>
    refine stepsOk_succ ?s8 (stepsOk_succ ?s7 (stepsOk_succ ?s6 (stepsOk_succ ?s5 (stepsOk_succ ?s4 (stepsOk_succ ?s3 (stepsOk_succ ?s2 (stepsOk_succ ?s1 (stepsOk_succ ?s0 (stepsOk_zero)))))))))
    case s0 =>
      refine stepOk0 rfl (by kernel_rfl) ?_
      rintro w' hC
      intro K hK
      go_simp
      refine (make_any w').mono ?_
      rintro r w3 ⟨rfl, t3, h3⟩
      exact hK _ _ rfl ⟨⟨_, rfl, t3⟩, hC.trans (h3.mono hC.size), h3⟩
    case s1 =>
      refine stepOk0 rfl (by kernel_rfl) ?_
      rintro w' hC
      intro K hK
      obtain ⟨c0, c1, -, -⟩ := frcells ((hC.block _ hDl).trans N2.out)
      go_simp
      exact hK _ _ rfl ⟨rfl, hC, Below.refl _ _⟩
    case s2 =>
      refine stepOk1 1 18 rfl (by kernel_rfl) ?_
      rintro w' hC v1 rfl
      intro K hK
      go_simp
      refine (own_any q ao cap l w' (HS.out.below (by rw [HD.out]; exact B2.out.trans (hC.mono D2.out))) Hn.out).mono ?_
      rintro r w3 ⟨bo, bc, rfl, s3, h3⟩
      exact hK _ _ rfl ⟨⟨bo, bc, rfl, s3⟩, hC.trans (h3.mono hC.size), h3⟩
    case s3 =>
      refine stepOk2 0 17 2 19 rfl (by kernel_rfl) ?_
      rintro w' hC v1 v2 ⟨b, rfl, ht⟩ ⟨bo, bc, rfl, hm⟩
      intro K hK
      go_simp
      refine (HP.out b bo bc w' ht hm (HL.out.below (by rw [HD.out]; exact B2.out.trans (hC.mono D2.out)))).mono ?_
      rintro r w3 ⟨rfl, h3⟩
      exact hK _ _ rfl ⟨rfl, hC.trans (h3.mono hC.size), h3⟩
    case s4 =>
      refine stepOk1 3 20 rfl (by kernel_rfl) ?_
      rintro w' hC v1 rfl
      intro K hK
      go_simp
      exact hK _ _ rfl ⟨rfl, hC, Below.refl _ _⟩
    case s5 =>
      refine stepOk1 4 16 rfl (by kernel_rfl) ?_
      rintro w' hC v1 rfl
      intro K hK
      go_simp
      exact hK _ _ rfl ⟨rfl, hC, Below.refl _ _⟩
    case s6 =>
      refine stepOk1 4 16 rfl (by kernel_rfl) ?_
      rintro w' hC v1 rfl
      intro K hK
      go_simp
      exact hK _ _ rfl ⟨rfl, hC, Below.refl _ _⟩
    case s7 =>
      refine stepOk1 5 21 rfl (by kernel_rfl) ?_
      rintro w' hC v1 rfl
      intro K hK
      go_simp
      exact hK _ _ rfl ⟨rfl, hC, Below.refl _ _⟩
    case s8 =>
      refine stepOk1 6 22 rfl (by kernel_rfl) ?_
      rintro w' hC v1 rfl
      intro K hK
      go_simp
      exact hK _ _ rfl ⟨rfl, hC, Below.refl _ _⟩
  case hf =>
    intro w' hC x hx
    have e1 : x 18 = (.agg #[.int .u32 (q : Int), .slice ao l.length cap]) := hx (1, 18) (by simp)
    have e3 : x 20 = (.tuple #[.string S, .int .i64 c]) := hx (3, 20) (by simp)
    have e4 : x 16 = (.tuple #[.string S, .int .i64 c]) := hx (4, 16) (by simp)
    have e5 : x 21 = (.string S) := hx (5, 21) (by simp)
    have e6 : x 22 = (.int .i64 c) := hx (6, 22) (by simp)
    have e7 : x 3 = (.string S) := hx (7, 3) (by simp)
    have e8 : x 4 = (.int .i64 c) := hx (8, 4) (by simp)
    simp only [putAll, List.foldl_cons, List.foldl_nil, e1, e3, e4, e5, e6, e7, e8, Act.put, List.setIfInBounds_toArray, List.set_cons_succ, List.set_cons_zero]
    clear hx e1 e3 e4 e5 e6 e7 e8
    have N5 := Lib.hid ((hC.block _ hDl).trans N2.out)
    have B5 := Lib.hid (B2.out.trans (hC.mono D2.out))
    have D5 := Lib.hid (Nat.le_trans D2.out hC.size)
    clear hC N2 B2 D2 hDl
    generalize w' = w5 at *
    generalize x 17 = v17 at *
    generalize x 19 = v19 at *
    obtain ⟨c0, c1, -, -⟩ := frcells N5.out
    go_wp2_with fail
    refine (HQ.out w5 (HS.out.below (by rw [HD.out]; exact B5.out))).mono ?_
    rintro r w6 ⟨rfl, h6⟩
    have B6 := Lib.hid (B5.out.trans (h6.mono D5.out))
    clear h6
    go_wp2_with fail
    go_ret
    exact ⟨by simp, by rw [HD.out]; exact B6.out⟩

theorem walk {w : World} (q : Nat) (ao : Option Addr) (cap : Nat) (l : List Ev) (h : q < 4294967296 ∧ SeenE w ao cap l ∧ ∀ e ∈ l, EvFits e) (hL : EvL w) :
    Calls Tryd.prog 3 #[.agg #[.int .u32 (q : Int), .slice ao l.length cap]] w fun r w' => r = .returned (.bool true) ∧ Below w.heap.size w w' := by
  by_cases hl : (100 : Int) < (l.length : Int)
  · exact walk_out q ao _ cap (by rw [decide_eq_true_iff]; exact hl) w hL
  · exact walk_few q h.1 ao cap l (by rw [decide_eq_false_iff_not]; exact hl) w h.2.1 h.2.2 hL

theorem own : ownKnob Tryd.prog.godebug = none := by kernel_rfl
theorem laidOut : laidOutB Tryd.prog = true := by kernel_rfl

set_option maxRecDepth 100000 in
theorem lifted (os : Os) (started : os.Started) (H : Type) (enc : TypeId × Value → H) :
    ReturnsInHanded {} Tryd.checked os 3 .any (fun w args => (Rows.framePrintsSpec.pre enc Tryd.prog Tryd.f3 Rows.framePrintsRow.domain false w args ∧ laidMetH Tryd.prog laidL w) ∧ sizedMet enc Tryd.prog Tryd.f3 (OpenSpec.ofChange Rows.framePrintsSpec) false w args) (Rows.framePrintsSpec.post enc Tryd.prog Tryd.f3 false true false false) := by
  refine returnsInHanded_of_row (s := OpenSpec.ofChange Rows.framePrintsSpec) (F := fun _ _ _ => 0) (laid := laidL) (C := Tryd.checked) own started (by kernel_rfl) Tryd.func3
    (ChangeSpec.witness_shaped (enc := enc) (C := Tryd.checked) (os := os) (s := Rows.framePrintsSpec) (X := fun w _ => laidMetH Tryd.prog laidL w) false (World.laidAll Tryd.prog os laidL) #[.agg #[.int .u32 0, .slice none 0 0]] 8 (World.laidAll_os _ _ _)
      (World.shaped_of_ZipB (by kernel_rfl) (by kernel_rfl)) (by kernel_rfl) (by kernel_rfl) (by kernel_rfl)
      (by rw [MakeChecks.laidMetH_plain _ _ _ (by kernel_rfl)]; exact laidMet_laidAll _ (by kernel_rfl) (by kernel_rfl))) ?_
  intro W base args ds gs before hval0 hW hcnd _ hsz0 hL hsh _
  have hval : ∀ (j : Nat) t v, Tryd.f3.params[j]? = some t → args[j]? = some v → Value.okWide Tryd.prog W .any base t v := hval0
  have hW' := hW
  obtain ⟨p, q, hA0, hV, rfl, hfz, hnd⟩ := hW
  have hA : DataW.TrodAll enc Tryd.prog W 0 (fun _ => true) true Tryd.f3.params.toList args.toList ds p := hA0
  rw [Tryd.params3] at hA hval
  obtain ⟨v0, vs0, d0, ds0, p0, q0, hargs, rfl, rfl, h0, r0⟩ := trodAll_cons hA
  obtain ⟨rfl, rfl, rfl⟩ := trodAll_nil r0
  obtain rfl : args = #[v0] := by cases args; simp_all
  obtain ⟨rfl, rfl⟩ := trodVars_none hV
  have k0 := h0
  have lt0 : ∀ x ∈ p0, x.block < W.heap.size := by obtain ⟨m, hm⟩ := k0; exact DataW.trod_lt m _ _ _ hm
  obtain ⟨a0, ao0, cap0, z0, rfl, w0⟩ := open_frame (hval 0 25 v0 rfl rfl) h0
  clear hA0 hval0
  refine (walk (w := W) a0 ao0 cap0 z0 w0 (of_laid hL hsh)).mono fun e W' ⟨he, bel⟩ => ?_
  subst he
  exact ⟨_, rfl, _, _, _, [], _, [], hW', trodAll_mk1 (shut_bool Tryd.underlying4 _), (trodAll_cons_mk (Below.trod laidOut (by kernel_rfl) (of_decide_eq_true (by kernel_rfl)) k0 bel lt0) trodAll_mk0), rfl, bel.frame _, fun h => by cases h⟩

theorem over : Rows.FramePrintsSaid :=
  OpenClaim.holds_of_wide 3 Tryd.f3 rfl rfl rfl rfl rfl rfl rfl ⟨rfl, rfl, rfl, rfl, rfl⟩ rfl rfl rfl rfl rfl (by kernel_rfl) Tryd.func3 (by kernel_rfl)
    (of_decide_eq_true (by kernel_rfl)) (by unfold Func.isWrapper; first | (rw [if_pos (by decide +kernel)]; kernel_rfl) | (rw [if_neg (by decide +kernel)]; exact ⟨rfl, rfl⟩))
    (fun os started H enc _ => lifted os started H enc)

theorem proved : Rows.FramePrintsCardSaid :=
  Claim7.holds_tied_plain_at .later [] _ true _ false over (fun _ h => by cases h) (by kernel_rfl) (fun _ h => by cases h) framePrints_row_tie rfl ⟨rfl, rfl⟩ (by kernel_rfl) rfl
    (fun f fn hf hfn => by
      obtain rfl : f = 3 := Option.some.inj ((show Tryd.prog.funcNamed "taffrail/taffraillaw07.FramePrints" = some 3 by kernel_rfl).symm.trans hf) |>.symm
      obtain rfl : fn = Tryd.f3 := (Option.some.inj (Tryd.func3.symm.trans hfn)).symm
      refine ⟨by kernel_rfl, fun j t ht => ?_⟩
      rw [Tryd.params3] at ht
      have hm : t ∈ [25] := by simpa using Array.mem_of_getElem? ht
      have hall : ([25].all fun u => !Tryd.prog.wantsStandIn u) = true := by kernel_rfl
      exact (show Tryd.prog.wantsStandIn t = false by simpa using List.all_eq_true.1 hall t hm))
    (by kernel_rfl)
#print axioms proved

end Go.Proofs.YtjfoepknlleonaaDoor.FramePrints
