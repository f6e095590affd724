/-
  FrameNil: for every frame, text and place the statement's function answers true: without a table there is no frame. Conditions: none beyond the card's own: the listed package variables start as the program's text lays them, which the card ties to that text.
-/
import Derived.Test.YtjfoepknlleonaaDoorFrZ
import Derived.Test.YtjfoepknlleonaaDoorTie
import Derived.Test.YtjfoepknlleonaaDoorCards
import Derived.ProofKit
import Derived.OpenShut
import Derived.ShutString
import Derived.LaidMore
import Derived.Lay
import Derived.SevenTiedAt
import Derived.Stop.Joined
import Derived.Deep.DeepHandedRow
namespace Go.Proofs.YtjfoepknlleonaaDoor.FrameNil
open Go.ChangeShapes Go.WideShapes Go.ChangeAt Go.RowKit
open Go.ChangeMaps (open_string shut_string)
set_option linter.unusedVariables false
set_option linter.unusedSimpArgs false

set_option maxRecDepth 100000 in
set_option maxHeartbeats 4000000 in
theorem walk_out (q : Nat) (ao : Option Addr) (len cap : Nat) (s : ByteArray) (k : Int) (hl : decide ((100 : Int) < (len : Int)) = true) (w : World) (hL : EvL w) :
    Calls Tryd.prog 10 #[.agg #[.int .u32 (q : Int), .slice ao len cap], .string s, .int .i64 k] w fun r w' => r = .returned (.bool true) ∧ Below w.heap.size w w' := by
  obtain ⟨w1, x1⟩ : ∃ w1, w1 = w.alloc (frO q ao len cap) := ⟨_, rfl⟩
  obtain ⟨s1, n1, b1⟩ := new_size x1
  have HA := Lib.hid (awake7_any w1 (hL.below b1))
  have HL := Lib.hid hL
  have N1 := Lib.hid n1
  have B1 := Lib.hid b1
  obtain ⟨D, hD⟩ : ∃ D, w.heap.size = D := ⟨_, rfl⟩
  rw [hD] at N1 B1
  have HD := Lib.hid hD
  have hDw : D ≤ w1.heap.size := by omega
  have HDw := Lib.hid hDw
  unfold frO at x1
  clear s1 n1 b1 hD hDw hL
  go_enter Tryd.func10, Tryd.ntmps10
  go_wp2_with fail
  rw [← x1, HD.out]
  clear x1
  refine HA.out.mono ?_
  rintro r w2 ⟨rfl, h2⟩
  have N2 := Lib.hid ((h2.block _ (blk_lt N1.out)).trans N1.out)
  have B2 := Lib.hid (B1.out.trans (h2.mono HDw.out))
  have D2 := Lib.hid (Nat.le_trans HDw.out h2.size)
  have hDl : D < w2.heap.size := blk_lt N2.out
  clear h2 HA N1 B1 HDw
  obtain ⟨c0, c1, -, -⟩ := frcells N2.out
  go_wp2_with fail
  refine (awake7_any w2 (HL.out.below (by rw [HD.out]; exact B2.out))).mono ?_
  rintro r w3 ⟨rfl, h3⟩
  have B3 := Lib.hid (B2.out.trans (h3.mono D2.out))
  clear h3
  go_wp2_with fail
  go_ret
  exact ⟨rfl, by rw [HD.out]; exact B3.out⟩

set_option maxRecDepth 100000 in
set_option maxHeartbeats 4000000 in
theorem walk_few (q : Nat) (ao : Option Addr) (cap : Nat) (l : List Ev) (s : ByteArray) (k : Int) (hl : decide ((100 : Int) < (l.length : Int)) = false) (w : World) (hs : SeenE w ao cap l) (hL : EvL w) :
    Calls Tryd.prog 10 #[.agg #[.int .u32 (q : Int), .slice ao l.length cap], .string s, .int .i64 k] w fun r w' => r = .returned (.bool true) ∧ Below w.heap.size w w' := by
  have hn' : l.length ≤ 1000000 := by rw [decide_eq_false_iff_not] at hl; omega
  have Hn := Lib.hid hn'
  have HS := Lib.hid hs
  clear hs hn'
  obtain ⟨w1, x1⟩ : ∃ w1, w1 = w.alloc (frO q ao l.length cap) := ⟨_, rfl⟩
  obtain ⟨s1, n1, b1⟩ := new_size x1
  have HA := Lib.hid (awake7_any w1 (hL.below b1))
  have HL := Lib.hid hL
  have N1 := Lib.hid n1
  have B1 := Lib.hid b1
  obtain ⟨D, hD⟩ : ∃ D, w.heap.size = D := ⟨_, rfl⟩
  rw [hD] at N1 B1
  have HD := Lib.hid hD
  have hDw : D ≤ w1.heap.size := by omega
  have HDw := Lib.hid hDw
  unfold frO at x1
  clear s1 n1 b1 hD hDw hL
  go_enter Tryd.func10, Tryd.ntmps10
  go_wp2_with fail
  rw [← x1, HD.out]
  clear x1
  refine HA.out.mono ?_
  rintro r w2 ⟨rfl, h2⟩
  have N2 := Lib.hid ((h2.block _ (blk_lt N1.out)).trans N1.out)
  have B2 := Lib.hid (B1.out.trans (h2.mono HDw.out))
  have D2 := Lib.hid (Nat.le_trans HDw.out h2.size)
  have hDl : D < w2.heap.size := blk_lt N2.out
  clear h2 HA N1 B1 HDw
  obtain ⟨c0, c1, -, -⟩ := frcells N2.out
  go_wp2_with fail
  refine (own_any q ao cap l w2 (HS.out.below (by rw [HD.out]; exact B2.out)) Hn.out).mono ?_
  rintro r w4 ⟨bo, bc, rfl, s4, h4⟩
  have B4 := Lib.hid (B2.out.trans (h4.mono D2.out))
  have D4 := Lib.hid (Nat.le_trans D2.out h4.size)
  clear h4 s4 N2 B2 D2 c0 c1 hDl
  go_wp2_with fail
  refine (fprint_nil q (.slice bo l.length bc) w4).mono ?_
  rintro r w5 ⟨rfl, h5⟩
  have B5 := Lib.hid (B4.out.trans (h5.mono D4.out))
  have D5 := Lib.hid (Nat.le_trans D4.out h5.size)
  clear h5 B4 D4
  go_wp2_with fail
  refine (fread_nil s k w5).mono ?_
  rintro r w6 ⟨rfl, h6⟩
  have B6 := Lib.hid ((B5.out.trans (h6.mono D5.out)).alloc (Nat.le_trans D5.out h6.size) (.cells #[.int .u32 0, .slice none 0 0] 25))
  clear h6
  go_wp2_with fail
  go_ret
  exact ⟨rfl, by rw [HD.out]; exact B6.out⟩

theorem walk {w : World} (q : Nat) (ao : Option Addr) (cap : Nat) (l : List Ev) (h : q < 4294967296 ∧ SeenE w ao cap l ∧ ∀ e ∈ l, EvFits e) (s : ByteArray) (h1 : s.size ≤ maxLen) (k : Int) (h2 : (Lit.int .i64 k).wf = true) (hL : EvL w) :
    Calls Tryd.prog 10 #[.agg #[.int .u32 (q : Int), .slice ao l.length cap], .string s, .int .i64 k] w fun r w' => r = .returned (.bool true) ∧ Below w.heap.size w w' := by
  by_cases hl : (100 : Int) < (l.length : Int)
  · exact walk_out q ao _ cap s k (by rw [decide_eq_true_iff]; exact hl) w hL
  · exact walk_few q ao cap l s k (by rw [decide_eq_false_iff_not]; exact hl) w h.2.1 hL

theorem own : ownKnob Tryd.prog.godebug = none := by kernel_rfl
theorem laidOut : laidOutB Tryd.prog = true := by kernel_rfl

set_option maxRecDepth 100000 in
theorem lifted (os : Os) (started : os.Started) (H : Type) (enc : TypeId × Value → H) :
    ReturnsInHanded {} Tryd.checked os 10 .any (fun w args => (Rows.frameNilSpec.pre enc Tryd.prog Tryd.f10 Rows.frameNilRow.domain false w args ∧ laidMetH Tryd.prog laidL w) ∧ sizedMet enc Tryd.prog Tryd.f10 (OpenSpec.ofChange Rows.frameNilSpec) false w args) (Rows.frameNilSpec.post enc Tryd.prog Tryd.f10 false true false false) := by
  refine returnsInHanded_of_row (s := OpenSpec.ofChange Rows.frameNilSpec) (F := fun _ _ _ => 0) (laid := laidL) (C := Tryd.checked) own started (by kernel_rfl) Tryd.func10
    (ChangeSpec.witness_shaped (enc := enc) (C := Tryd.checked) (os := os) (s := Rows.frameNilSpec) (X := fun w _ => laidMetH Tryd.prog laidL w) false (World.laidAll Tryd.prog os laidL) #[.agg #[.int .u32 0, .slice none 0 0], .string ByteArray.empty, .int .i64 0] 8 (World.laidAll_os _ _ _)
      (World.shaped_of_ZipB (by kernel_rfl) (by kernel_rfl)) (by kernel_rfl) (by kernel_rfl) (by kernel_rfl)
      (by rw [MakeChecks.laidMetH_plain _ _ _ (by kernel_rfl)]; exact laidMet_laidAll _ (by kernel_rfl) (by kernel_rfl))) ?_
  intro W base args ds gs before hval0 hW hcnd _ hsz0 hL hsh _
  have hval : ∀ (j : Nat) t v, Tryd.f10.params[j]? = some t → args[j]? = some v → Value.okWide Tryd.prog W .any base t v := hval0
  have hW' := hW
  obtain ⟨p, q, hA0, hV, rfl, hfz, hnd⟩ := hW
  have hA : DataW.TrodAll enc Tryd.prog W 0 (fun _ => true) true Tryd.f10.params.toList args.toList ds p := hA0
  rw [Tryd.params10] at hA hval
  obtain ⟨v0, vs0, d0, ds0, p0, q0, hargs, rfl, rfl, h0, r0⟩ := trodAll_cons hA
  obtain ⟨v1, vs1, d1, ds1, p1, q1, rfl, rfl, rfl, h1, r1⟩ := trodAll_cons r0
  obtain ⟨v2, vs2, d2, ds2, p2, q2, rfl, rfl, rfl, h2, r2⟩ := trodAll_cons r1
  obtain ⟨rfl, rfl, rfl⟩ := trodAll_nil r2
  obtain rfl : args = #[v0, v1, v2] := by cases args; simp_all
  obtain ⟨rfl, rfl⟩ := trodVars_none hV
  have k0 := h0
  have lt0 : ∀ x ∈ p0, x.block < W.heap.size := by obtain ⟨m, hm⟩ := k0; exact DataW.trod_lt m _ _ _ hm
  have k1 := h1
  have lt1 : ∀ x ∈ p1, x.block < W.heap.size := by obtain ⟨m, hm⟩ := k1; exact DataW.trod_lt m _ _ _ hm
  have k2 := h2
  have lt2 : ∀ x ∈ p2, x.block < W.heap.size := by obtain ⟨m, hm⟩ := k2; exact DataW.trod_lt m _ _ _ hm
  obtain ⟨a0, ao0, cap0, z0, rfl, w0⟩ := open_frame (hval 0 25 v0 rfl rfl) h0
  obtain ⟨a1, rfl, rfl, rfl, w1⟩ := open_string Tryd.underlying9 (hval 1 9 v1 rfl rfl) h1
  obtain ⟨a2, rfl, rfl, rfl, w2⟩ := open_int Tryd.underlying3 (hval 2 3 v2 rfl rfl) h2
  clear hA0 hval0
  refine (walk (w := W) a0 ao0 cap0 z0 w0 a1 w1 a2 w2 (of_laid hL hsh)).mono fun e W' ⟨he, bel⟩ => ?_
  subst he
  exact ⟨_, rfl, _, _, _, [], _, [], hW', trodAll_mk1 (shut_bool Tryd.underlying4 _), (trodAll_cons_mk (Below.trod laidOut (by kernel_rfl) (of_decide_eq_true (by kernel_rfl)) k0 bel lt0) (trodAll_cons_mk (Below.trod laidOut (by kernel_rfl) (of_decide_eq_true (by kernel_rfl)) k1 bel lt1) (trodAll_cons_mk (Below.trod laidOut (by kernel_rfl) (of_decide_eq_true (by kernel_rfl)) k2 bel lt2) trodAll_mk0))), rfl, bel.frame _, fun h => by cases h⟩

theorem over : Rows.FrameNilSaid :=
  OpenClaim.holds_of_wide 10 Tryd.f10 rfl rfl rfl rfl rfl rfl rfl ⟨rfl, rfl, rfl, rfl, rfl⟩ rfl rfl rfl rfl rfl (by kernel_rfl) Tryd.func10 (by kernel_rfl)
    (of_decide_eq_true (by kernel_rfl)) (by unfold Func.isWrapper; first | (rw [if_pos (by decide +kernel)]; kernel_rfl) | (rw [if_neg (by decide +kernel)]; exact ⟨rfl, rfl⟩))
    (fun os started H enc _ => lifted os started H enc)

theorem proved : Rows.FrameNilCardSaid :=
  Claim7.holds_tied_plain_at .later [] _ true _ false over (fun _ h => by cases h) (by kernel_rfl) (fun _ h => by cases h) frameNil_row_tie rfl ⟨rfl, rfl⟩ (by kernel_rfl) rfl
    (fun f fn hf hfn => by
      obtain rfl : f = 10 := Option.some.inj ((show Tryd.prog.funcNamed "taffrail/taffraillaw07.FrameNil" = some 10 by kernel_rfl).symm.trans hf) |>.symm
      obtain rfl : fn = Tryd.f10 := (Option.some.inj (Tryd.func10.symm.trans hfn)).symm
      refine ⟨by kernel_rfl, fun j t ht => ?_⟩
      rw [Tryd.params10] at ht
      have hm : t ∈ [25, 9, 3] := by simpa using Array.mem_of_getElem? ht
      have hall : ([25, 9, 3].all fun u => !Tryd.prog.wantsStandIn u) = true := by kernel_rfl
      exact (show Tryd.prog.wantsStandIn t = false by simpa using List.all_eq_true.1 hall t hm))
    (by kernel_rfl)
#print axioms proved

end Go.Proofs.YtjfoepknlleonaaDoor.FrameNil
