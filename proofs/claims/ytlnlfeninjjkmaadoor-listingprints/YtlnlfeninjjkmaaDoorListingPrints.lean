/-
  ListingPrints: for every program the statement's function answers true: a program has the text that the document says, or is refused as it says (programs of more than 300 instructions are let go by the statement itself). Conditions: none beyond the card's own: the listed package variables start as the program's text lays them, which the card ties to that text.
-/
import Derived.Test.YtlnlfeninjjkmaaDoorLsH
import Derived.Test.YtlnlfeninjjkmaaDoorLsY
import Derived.Test.YtlnlfeninjjkmaaDoorLsG
import Derived.Test.YtlnlfeninjjkmaaDoorLsAw
import Derived.Test.YtlnlfeninjjkmaaDoorTie
import Derived.Test.YtlnlfeninjjkmaaDoorCards
import Derived.ProofKit
import Derived.OpenShut
import Derived.ShutString
import Derived.LaidMore
import Derived.Lay
import Derived.SevenTiedAt
import Derived.Stop.Joined
import Derived.Deep.DeepHandedRow
import Derived.BigRegion
import Derived.Deep.RegionWith
import Derived.Deep.DeepCutAuto
namespace Go.Proofs.YtlnlfeninjjkmaaDoor.ListingPrints
open Go.ChangeShapes Go.WideShapes Go.ChangeAt Go.RowKit
open Go.ChangeMaps (open_string shut_string)
set_option linter.unusedVariables false
set_option linter.unusedSimpArgs false

set_option maxRecDepth 100000 in
set_option maxHeartbeats 4000000 in
theorem walk_at {w : World} (ao : Option Addr) (cap : Nat) (l : List Ins) (hS : SeenI w ao cap l) (T : ByteArray) (e : Int) (hL : LsL w)
    (HP : Hid (l.length ≤ 300 → ∀ ao' cap' w', SeenI w' ao' cap' l → LsL w' → Calls Tryd.prog 18 #[.slice ao' l.length cap'] w' fun r w'' => r = .returned (.tuple #[.string T, .int .i64 e]) ∧ Below w'.heap.size w' w''))
    (HQ : Hid (l.length ≤ 300 → ∀ ao' cap' w', SeenI w' ao' cap' l → Calls Tryd.prog 19 #[.slice ao' l.length cap'] w' fun r w'' => r = .returned (.tuple #[.string T, .int .i64 e]) ∧ Below w'.heap.size w' w'')) :
    Calls Tryd.prog 5 #[.slice ao l.length cap] w fun r w' => r = .returned (.bool true) ∧ Below w.heap.size w w' := by
  have AW := Lib.hid (fun w' (h' : LsL w') => awake11_any w' h')
  have HL := Lib.hid hL
  have HS := Lib.hid hS
  clear hL hS
  go_enter Tryd.func5, Tryd.ntmps5
  go_wp2_with fail
  refine (AW.out _ (HL.out)).mono ?_
  rintro r w2 ⟨rfl, h2⟩
  have B2 := Lib.hid (h2)
  clear h2
  by_cases hs : 300 < l.length
  · have hs1 : decide ((300 : Int) < (l.length : Int)) = true := by simp; omega
    go_wp2_with fail
    refine (AW.out w2 (HL.out.below B2.out)).mono ?_
    rintro r wz ⟨rfl, hz⟩
    have BZ := Lib.hid (below_on B2.out hz)
    clear hz
    go_wp2
    go_ret
    exact ⟨rfl, BZ.out⟩
  have hs1 : decide ((300 : Int) < (l.length : Int)) = false := by simp; omega
  have HP1 := Lib.hid (HP.out (by omega))
  have HQ1 := Lib.hid (HQ.out (by omega))
  have Hn := Lib.hid (show l.length ≤ 1000000 by omega)
  clear hs HP HQ AW
  obtain ⟨w3, e3⟩ : ∃ w3, w3 = w2.alloc (.cells #[] 24) := ⟨_, rfl⟩
  obtain ⟨s3, -, b3⟩ := new_size e3
  have O3 : Hid (w3.ownsRow w2.heap.size 24 6 (.slice (some ⟨w2.heap.size, 0, none⟩) 0 0) 0 []) := Lib.hid (by rw [e3]; exact World.ownsRow_lit w2 #[] 0 (Nat.le_refl _) (by decide) rfl)
  have B3 := Lib.hid (below_on B2.out b3)
  have Hsz := Lib.hid s3
  have Hgt := Lib.hid (show w.heap.size ≤ w2.heap.size from B2.out.size)
  obtain ⟨D, hD⟩ : ∃ D, w2.heap.size = D := ⟨_, rfl⟩
  rw [hD] at O3 Hsz Hgt
  have HD := Lib.hid hD
  clear B2 s3 b3 hD
  go_wp2_with (at_builtin; rw [← e3, HD.out]; refine wpList_copyI rfl _ _ rfl D _ rfl O3.out ao cap l rfl (HS.out.below B3.out) Hn.out (by have := Hsz.out; omega) ?_)
  intro v' w4 h4 g4
  rw [← e3] at g4
  have B4 := Lib.hid (below_grown B3.out (by have := Hsz.out; have := Hgt.out; omega) Hgt.out g4)
  obtain ⟨ao4, cap4, rfl, s4, -⟩ := h4.seen
  have S4 := Lib.hid s4
  clear h4 g4 s4 e3 O3 B3 Hsz Hgt HD
  go_wp2_with fail
  refine (HP1.out _ _ w4 S4.out (HL.out.below B4.out)).mono ?_
  rintro r w5 ⟨rfl, h5⟩
  have B5 := Lib.hid (below_on B4.out h5)
  clear h5 B4 S4 HP1
  go_wp2_with fail
  refine (HQ1.out _ _ w5 (HS.out.below B5.out)).mono ?_
  rintro r w6 ⟨rfl, h6⟩
  have B6 := Lib.hid (below_on B5.out h6)
  clear h6 B5 HQ1
  go_wp2_with fail
  go_ret
  exact ⟨by simp, B6.out⟩

theorem walk {w : World} (ao : Option Addr) (len cap : Nat) (l : List Ins) (h : l.length = len ∧ SeenI w ao cap l ∧ ∀ e ∈ l, InsFits e) (hL : LsL w) :
    Calls Tryd.prog 5 #[.slice ao len cap] w fun r w' => r = .returned (.bool true) ∧ Below w.heap.size w w' := by
  obtain ⟨rfl, hS, hf⟩ := h
  exact walk_at ao cap l hS _ _ hL (Lib.hid (fun h ao' cap' w' h1 h2 => printt_any ao' cap' l (fun i hi => (hf i hi).k) (by omega) w' h2 h1)) (Lib.hid (fun h ao' cap' w' h1 => rdprint_any ao' cap' l (fun i hi => (hf i hi).k) (by omega) w' h1))

theorem own : ownKnob Tryd.prog.godebug = none := by kernel_rfl
theorem laidOut : laidOutB Tryd.prog = true := by kernel_rfl

set_option maxRecDepth 100000 in
theorem lifted (os : Os) (started : os.Started) (H : Type) (enc : TypeId × Value → H) :
    ReturnsInHanded {} Tryd.checked os 5 .any (fun w args => (Rows.listingPrintsSpec.pre enc Tryd.prog Tryd.f5 Rows.listingPrintsRow.domain false w args ∧ laidMetH Tryd.prog laidL w) ∧ sizedMet enc Tryd.prog Tryd.f5 (OpenSpec.ofChange Rows.listingPrintsSpec) false w args) (Rows.listingPrintsSpec.post enc Tryd.prog Tryd.f5 false true false false) := by
  refine returnsInHanded_of_row (s := OpenSpec.ofChange Rows.listingPrintsSpec) (F := fun _ _ _ => 0) (laid := laidL) (C := Tryd.checked) own started (by kernel_rfl) Tryd.func5
    (ChangeSpec.witness_shaped (enc := enc) (C := Tryd.checked) (os := os) (s := Rows.listingPrintsSpec) (X := fun w _ => laidMetH Tryd.prog laidL w) false (World.laidAll Tryd.prog os laidL) #[.slice none 0 0] 8 (World.laidAll_os _ _ _)
      (World.shaped_of_ZipB (by kernel_rfl) (by kernel_rfl)) (by kernel_rfl) (by kernel_rfl) (by kernel_rfl)
      (by rw [MakeChecks.laidMetH_plain _ _ _ (by kernel_rfl)]; exact laidMet_laidAll _ (by kernel_rfl) (by kernel_rfl))) ?_
  intro W base args ds gs before hval0 hW hcnd _ hsz0 hL hsh _
  have hval : ∀ (j : Nat) t v, Tryd.f5.params[j]? = some t → args[j]? = some v → Value.okWide Tryd.prog W .any base t v := hval0
  have hW' := hW
  obtain ⟨p, q, hA0, hV, rfl, hfz, hnd⟩ := hW
  have hA : DataW.TrodAll enc Tryd.prog W 0 (fun _ => true) true Tryd.f5.params.toList args.toList ds p := hA0
  rw [Tryd.params5] at hA hval
  obtain ⟨v0, vs0, d0, ds0, p0, q0, hargs, rfl, rfl, h0, r0⟩ := trodAll_cons hA
  obtain ⟨rfl, rfl, rfl⟩ := trodAll_nil r0
  obtain rfl : args = #[v0] := by cases args; simp_all
  obtain ⟨rfl, rfl⟩ := trodVars_none hV
  have k0 := h0
  have lt0 : ∀ x ∈ p0, x.block < W.heap.size := by obtain ⟨m, hm⟩ := k0; exact DataW.trod_lt m _ _ _ hm
  obtain ⟨a0, len0, cap0, rfl⟩ := okWide_slice Tryd.underlying36 (hval 0 36 v0 rfl rfl)
  obtain ⟨z0, w0⟩ := open_inss h0
  clear hA0 hval0
  refine (walk a0 len0 cap0 z0 w0 (of_laid hL hsh)).mono fun e W' ⟨he, bel⟩ => ?_
  subst he
  exact ⟨_, rfl, _, _, _, [], _, [], hW', trodAll_mk1 (shut_bool Tryd.underlying4 _), (trodAll_cons_mk (Below.trod laidOut (by kernel_rfl) (of_decide_eq_true (by kernel_rfl)) k0 bel lt0) trodAll_mk0), rfl, bel.frame _, fun h => by cases h⟩

theorem over : Rows.ListingPrintsSaid :=
  OpenClaim.holds_of_wide 5 Tryd.f5 rfl rfl rfl rfl rfl rfl rfl ⟨rfl, rfl, rfl, rfl, rfl⟩ rfl rfl rfl rfl rfl (by kernel_rfl) Tryd.func5 (by kernel_rfl)
    (of_decide_eq_true (by kernel_rfl)) (by unfold Func.isWrapper; first | (rw [if_pos (by decide +kernel)]; kernel_rfl) | (rw [if_neg (by decide +kernel)]; exact ⟨rfl, rfl⟩))
    (fun os started H enc _ => lifted os started H enc)

theorem proved : Rows.ListingPrintsCardSaid :=
  Claim7.holds_tied_plain_at .later [] _ true _ true over (fun _ h => by cases h) (by kernel_rfl) (fun _ h => by cases h) listingPrints_row_tie rfl ⟨rfl, rfl⟩ (by kernel_rfl) rfl
    (fun f fn hf hfn => by
      obtain rfl : f = 5 := Option.some.inj ((show Tryd.prog.funcNamed "taffrail/taffraillaw11.ListingPrints" = some 5 by kernel_rfl).symm.trans hf) |>.symm
      obtain rfl : fn = Tryd.f5 := (Option.some.inj (Tryd.func5.symm.trans hfn)).symm
      refine ⟨by kernel_rfl, fun j t ht => ?_⟩
      rw [Tryd.params5] at ht
      have hm : t ∈ [36] := by simpa using Array.mem_of_getElem? ht
      have hall : ([36].all fun u => !Tryd.prog.wantsStandIn u) = true := by kernel_rfl
      exact (show Tryd.prog.wantsStandIn t = false by simpa using List.all_eq_true.1 hall t hm))
    (by kernel_rfl)
#print axioms proved

end Go.Proofs.YtlnlfeninjjkmaaDoor.ListingPrints
