/-
  CoilPrints: for every slice of events the statement's function answers true: Print answers as the document's own does. Conditions: none beyond the card's own: the listed package variables start as the program's text lays them, which the card ties to that text.
-/
import Derived.Test.YtobljhgiibpmkaaDoorCoilKit
import Derived.Test.YtobljhgiibpmkaaDoorCoil9
import Derived.Test.YtobljhgiibpmkaaDoorTie
import Derived.Test.YtobljhgiibpmkaaDoorCards
import Derived.ProofKit
import Derived.OpenShut
import Derived.ShutString
import Derived.LaidMore
import Derived.Lay
import Derived.SevenTiedAt
import Derived.Stop.Joined
import Derived.Deep.DeepHandedRow
namespace Go.Proofs.YtobljhgiibpmkaaDoor.CoilPrints
open Go.ChangeShapes Go.WideShapes Go.ChangeAt Go.RowKit
open Go.ChangeMaps (open_string shut_string)
set_option linter.unusedVariables false
set_option linter.unusedSimpArgs false

set_option maxRecDepth 100000 in
set_option maxHeartbeats 2000000 in
theorem walk_long (ao : Option Addr) (len cap : Nat) (hl : (100 : Int) < (len : Int)) (w : World) (hL : EvL w) :
    Calls Tryd.prog 3 #[.slice ao len cap] w fun r w' => r = .returned (.bool true) ∧ Below w.heap.size w w' := by
  have HA := Lib.hid (awake6_any w hL)
  have HL := Lib.hid hL
  clear hL
  go_enter Tryd.func3, Tryd.ntmps3
  go_wp2_with fail
  refine HA.out.mono ?_
  rintro r w2 ⟨rfl, h2⟩
  have L2 := Lib.hid (HL.out.below h2)
  have B2 := Lib.hid h2
  clear h2 HA HL
  go_wp2_with fail
  refine (awake6_any w2 L2.out).mono ?_
  rintro r w3 ⟨rfl, h3⟩
  have B3 := Lib.hid (B2.out.trans (h3.mono B2.out.size))
  clear h3
  go_wp2_with fail
  go_ret
  exact ⟨rfl, B3.out⟩

set_option maxRecDepth 100000 in
set_option maxHeartbeats 4000000 in
theorem walk_few (ao : Option Addr) (cap : Nat) (l : List Ev) (hl : decide ((100 : Int) < (l.length : Int)) = false) (w : World) (hs : SeenE w ao cap l) (hf : ∀ e ∈ l, EvFits e) (hL : EvL w) :
    Calls Tryd.prog 3 #[.slice ao l.length cap] w fun r w' => r = .returned (.bool true) ∧ Below w.heap.size w w' := by
  have hn : l.length ≤ 100 := by simp at hl; omega
  have Hn := Lib.hid (show l.length ≤ 1000000 by omega)
  have HA := Lib.hid (awake6_any w hL)
  have HL := Lib.hid hL
  have HS := Lib.hid hs
  have Hf := Lib.hid hf
  obtain ⟨S, hS⟩ : ∃ S : ByteArray, S = ⟨(coilL l).1.toArray⟩ := ⟨_, rfl⟩
  obtain ⟨c, hc⟩ : ∃ c : Int, c = (coilL l).2 := ⟨_, rfl⟩
  have HP : Hid (∀ ao cap w', SeenE w' ao cap l → EvL w' → Calls Tryd.prog 10 #[.slice ao l.length cap] w' fun r w'' => r = .returned (.tuple #[.string S, .int .i64 c]) ∧ Below w'.heap.size w' w'') :=
    Lib.hid (by rw [hS, hc]; exact fun ao cap w' h1 h2 => print_any ao cap l w' h1 h2 hf Hn.out)
  have HQ : Hid (∀ ao cap w', SeenE w' ao cap l → Calls Tryd.prog 11 #[.slice ao l.length cap] w' fun r w'' => r = .returned (.tuple #[.string S, .int .i64 c]) ∧ Below w'.heap.size w' w'') :=
    Lib.hid (by rw [hS, hc]; exact fun ao cap w' h1 => rprint_all ao cap l w' h1 hf Hn.out)
  clear hL hs hf hn hS hc
  go_enter Tryd.func3, Tryd.ntmps3
  go_wp2_with fail
  refine HA.out.mono ?_
  rintro r w2 ⟨rfl, h2⟩
  have B2 := Lib.hid h2
  obtain ⟨w3, e3⟩ : ∃ w3, w3 = w2.alloc (.cells #[] 39) := ⟨_, rfl⟩
  obtain ⟨s3, -, b3⟩ := new_size e3
  have O3 : Hid (w3.ownsRow w2.heap.size 39 6 (.slice (some ⟨w2.heap.size, 0, none⟩) 0 0) 0 []) := Lib.hid (by rw [e3]; exact World.ownsRow_lit w2 #[] 0 (Nat.le_refl _) (by decide) rfl)
  have B3 := Lib.hid (B2.out.trans (b3.mono B2.out.size))
  have Hsz := Lib.hid s3
  have Hgt := Lib.hid (show w.heap.size ≤ w2.heap.size from h2.size)
  obtain ⟨D, hD⟩ : ∃ D, w2.heap.size = D := ⟨_, rfl⟩
  rw [hD] at O3 Hsz Hgt
  have HD := Lib.hid hD
  clear h2 HA B2 s3 b3 hD
  go_wp2_with (at_builtin; rw [← e3, HD.out]; refine wpList_copy rfl _ _ rfl D _ rfl O3.out ao cap l rfl (HS.out.below B3.out) Hn.out (by have := Hsz.out; omega) ?_)
  intro v' w4 h4 g4
  rw [← e3] at g4
  have B4 := Lib.hid (below_grown B3.out (by have := Hsz.out; have := Hgt.out; omega) Hgt.out g4)
  obtain ⟨ao4, cap4, rfl, s4, -⟩ := h4.seen
  have S4 := Lib.hid s4
  clear h4 g4 s4 e3 O3 B3 Hsz Hgt HD
  go_wp2_with fail
  refine (HP.out _ _ w4 S4.out (HL.out.below B4.out)).mono ?_
  rintro r w5 ⟨rfl, h5⟩
  have B5 := Lib.hid (B4.out.trans (h5.mono B4.out.size))
  clear h5 B4 S4 HP
  go_wp2_with fail
  refine (HQ.out _ _ w5 (HS.out.below B5.out)).mono ?_
  rintro r w6 ⟨rfl, h6⟩
  have B6 := Lib.hid (B5.out.trans (h6.mono B5.out.size))
  clear h6 B5 HQ
  go_wp2_with fail
  go_ret
  exact ⟨by simp, B6.out⟩

theorem walk {W : World} (ao : Option Addr) (len cap : Nat) (l : List Ev) (h : l.length = len ∧ SeenE W ao cap l ∧ ∀ e ∈ l, EvFits e) (hL : EvL W) :
    Calls Tryd.prog 3 #[.slice ao len cap] W fun r w' => r = .returned (.bool true) ∧ Below W.heap.size W w' := by
  obtain ⟨rfl, h1, h2⟩ := h
  by_cases hl : (100 : Int) < (l.length : Int)
  · exact walk_long ao _ cap hl W hL
  · exact walk_few ao cap l (by rw [decide_eq_false_iff_not]; exact hl) W h1 h2 hL

theorem own : ownKnob Tryd.prog.godebug = none := by kernel_rfl
theorem laidOut : laidOutB Tryd.prog = true := by kernel_rfl

set_option maxRecDepth 100000 in
theorem lifted (os : Os) (started : os.Started) (H : Type) (enc : TypeId × Value → H) :
    ReturnsInHanded {} Tryd.checked os 3 .any (fun w args => (Rows.coilPrintsSpec.pre enc Tryd.prog Tryd.f3 Rows.coilPrintsRow.domain false w args ∧ laidMetH Tryd.prog laidL w) ∧ sizedMet enc Tryd.prog Tryd.f3 (OpenSpec.ofChange Rows.coilPrintsSpec) false w args) (Rows.coilPrintsSpec.post enc Tryd.prog Tryd.f3 false true false false) := by
  refine returnsInHanded_of_row (s := OpenSpec.ofChange Rows.coilPrintsSpec) (F := fun _ _ _ => 0) (laid := laidL) (C := Tryd.checked) own started (by kernel_rfl) Tryd.func3
    (ChangeSpec.witness_shaped (enc := enc) (C := Tryd.checked) (os := os) (s := Rows.coilPrintsSpec) (X := fun w _ => laidMetH Tryd.prog laidL w) false (World.laidAll Tryd.prog os laidL) #[.slice none 0 0] 8 (World.laidAll_os _ _ _)
      (World.shaped_of_ZipB (by kernel_rfl) (by kernel_rfl)) (by kernel_rfl) (by kernel_rfl) (by kernel_rfl)
      (by rw [MakeChecks.laidMetH_plain _ _ _ (by kernel_rfl)]; exact laidMet_laidAll _ (by kernel_rfl) (by kernel_rfl))) ?_
  intro W base args ds gs before hval0 hW hcnd _ hsz0 hL hsh _
  have hval : ∀ (j : Nat) t v, Tryd.f3.params[j]? = some t → args[j]? = some v → Value.okWide Tryd.prog W .any base t v := hval0
  have hW' := hW
  obtain ⟨p, q, hA0, hV, rfl, hfz, hnd⟩ := hW
  have hA : DataW.TrodAll enc Tryd.prog W 0 (fun _ => true) true Tryd.f3.params.toList args.toList ds p := hA0
  rw [Tryd.params3] at hA hval
  obtain ⟨v0, vs0, d0, ds0, p0, q0, hargs, rfl, rfl, h0, r0⟩ := trodAll_cons hA
  obtain ⟨rfl, rfl, rfl⟩ := trodAll_nil r0
  obtain rfl : args = #[v0] := by cases args; simp_all
  obtain ⟨rfl, rfl⟩ := trodVars_none hV
  have k0 := h0
  have lt0 : ∀ x ∈ p0, x.block < W.heap.size := by obtain ⟨m, hm⟩ := k0; exact DataW.trod_lt m _ _ _ hm
  obtain ⟨a0, len0, cap0, rfl⟩ := okWide_slice Tryd.underlying22 (hval 0 22 v0 rfl rfl)
  obtain ⟨z0, w0⟩ := open_evs h0
  clear hA0 hval0
  refine (walk a0 len0 cap0 z0 w0 (of_laid hL hsh)).mono fun e W' ⟨he, bel⟩ => ?_
  subst he
  exact ⟨_, rfl, _, _, _, [], _, [], hW', trodAll_mk1 (shut_bool Tryd.underlying4 _), (trodAll_cons_mk (Below.trod laidOut (by kernel_rfl) (of_decide_eq_true (by kernel_rfl)) k0 bel lt0) trodAll_mk0), rfl, bel.frame _, fun h => by cases h⟩

theorem over : Rows.CoilPrintsSaid :=
  OpenClaim.holds_of_wide 3 Tryd.f3 rfl rfl rfl rfl rfl rfl rfl ⟨rfl, rfl, rfl, rfl, rfl⟩ rfl rfl rfl rfl rfl (by kernel_rfl) Tryd.func3 (by kernel_rfl)
    (of_decide_eq_true (by kernel_rfl)) (by unfold Func.isWrapper; first | (rw [if_pos (by decide +kernel)]; kernel_rfl) | (rw [if_neg (by decide +kernel)]; exact ⟨rfl, rfl⟩))
    (fun os started H enc _ => lifted os started H enc)

theorem proved : Rows.CoilPrintsCardSaid :=
  Claim7.holds_tied_plain_at .later [] _ true _ false over (fun _ h => by cases h) (by kernel_rfl) (fun _ h => by cases h) coilPrints_row_tie rfl ⟨rfl, rfl⟩ (by kernel_rfl) rfl
    (fun f fn hf hfn => by
      obtain rfl : f = 3 := Option.some.inj ((show Tryd.prog.funcNamed "taffrail/taffraillaw06.CoilPrints" = some 3 by kernel_rfl).symm.trans hf) |>.symm
      obtain rfl : fn = Tryd.f3 := (Option.some.inj (Tryd.func3.symm.trans hfn)).symm
      refine ⟨by kernel_rfl, fun j t ht => ?_⟩
      rw [Tryd.params3] at ht
      have hm : t ∈ [22] := by simpa using Array.mem_of_getElem? ht
      have hall : ([22].all fun u => !Tryd.prog.wantsStandIn u) = true := by kernel_rfl
      exact (show Tryd.prog.wantsStandIn t = false by simpa using List.all_eq_true.1 hall t hm))
    (by kernel_rfl)
#print axioms proved

end Go.Proofs.YtobljhgiibpmkaaDoor.CoilPrints
