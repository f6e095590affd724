/-
  ListingReads: for every text the statement's function answers true: a text is the program that the document says, or none, at the line, and for the reason, that it says (texts of more than 4000 bytes are let go by the statement itself). Conditions: none beyond the card's own: the listed package variables start as the program's text lays them, which the card ties to that text.
-/
import Derived.Test.YtlnlfeninjjkmaaDoorLsH
import Derived.Test.YtlnlfeninjjkmaaDoorLsY
import Derived.Test.YtlnlfeninjjkmaaDoorLsG
import Derived.Test.YtlnlfeninjjkmaaDoorLsAw
import Derived.Test.YtlnlfeninjjkmaaDoorTie
import Derived.Test.YtlnlfeninjjkmaaDoorCards
import Derived.ProofKit
import Derived.OpenShut
import Derived.ShutString
import Derived.LaidMore
import Derived.Lay
import Derived.SevenTiedAt
import Derived.Stop.Joined
import Derived.Deep.DeepHandedRow
import Derived.BigRegion
import Derived.Deep.RegionWith
import Derived.Deep.DeepCutAuto
namespace Go.Proofs.YtlnlfeninjjkmaaDoor.ListingReads
open Go.ChangeShapes Go.WideShapes Go.ChangeAt Go.RowKit
open Go.ChangeMaps (open_string shut_string)
set_option linter.unusedVariables false
set_option linter.unusedSimpArgs false

set_option maxRecDepth 100000 in
set_option maxHeartbeats 4000000 in
theorem walk {w : World} (s : ByteArray) (w1 : s.size ≤ maxLen) (hL : LsL w) :
    Calls Tryd.prog 4 #[.string s] w fun r w' => r = .returned (.bool true) ∧ Below w.heap.size w w' := by
  have AW := Lib.hid (fun w' (h' : LsL w') => awake11_any w' h')
  have HL := Lib.hid hL
  have HR := Lib.hid (fun (h : s.size ≤ 4000) w' (h' : LsL w') => readt_any s (by omega) w' h')
  have HD := Lib.hid (fun (h : s.size ≤ 4000) w' => rdread_any s (by omega) w')
  generalize (readT s.data.toList).1 = l at *
  generalize (readT s.data.toList).2.1 = m at *
  generalize (readT s.data.toList).2.2 = e at *
  clear hL
  go_enter Tryd.func4, Tryd.ntmps4
  go_wp2_with fail
  refine (AW.out _ (HL.out)).mono ?_
  rintro r w2 ⟨rfl, h2⟩
  have B2 := Lib.hid (h2)
  clear h2
  by_cases hs : 4000 < s.size
  · have hs1 : decide ((4000 : Int) < (s.size : Int)) = true := by simp; omega
    go_wp2_with fail
    refine (AW.out w2 (HL.out.below B2.out)).mono ?_
    rintro r wz ⟨rfl, hz⟩
    have BZ := Lib.hid (below_on B2.out hz)
    clear hz
    go_wp2
    go_ret
    exact ⟨rfl, BZ.out⟩
  have hs1 : decide ((4000 : Int) < (s.size : Int)) = false := by simp; omega
  have HR1 := Lib.hid (HR.out (by omega))
  have HD1 := Lib.hid (HD.out (by omega))
  clear hs HR HD AW
  go_wp2_with fail
  refine (HR1.out w2 (HL.out.below B2.out)).mono ?_
  rintro r w3 ⟨v3, rfl, o3, h3⟩
  have B3 := Lib.hid (below_on B2.out h3)
  obtain ⟨a3, c3, rfl, s3, -⟩ := o3.seen
  have S3 := Lib.hid s3
  clear h3 o3 s3 HR1
  go_wp2_with fail
  refine (HD1.out w3).mono ?_
  rintro r w4 ⟨v4, rfl, o4, h4⟩
  have B4 := Lib.hid (below_on B3.out h4)
  obtain ⟨a4, c4, rfl, s4, -⟩ := o4.seen
  have HS := Lib.hid (isame_any a3 a4 c3 c4 l w4 (S3.out.below h4) s4)
  clear h4 o4 s4 HD1 S3
  go_wp2_with fail
  refine HS.out.mono ?_
  rintro r w5 ⟨rfl, n, rfl⟩
  have B5 := Lib.hid (below_drewN B4.out n)
  clear HS
  go_wp2
  go_ret
  exact ⟨by simp, B5.out⟩

theorem own : ownKnob Tryd.prog.godebug = none := by kernel_rfl
theorem laidOut : laidOutB Tryd.prog = true := by kernel_rfl

set_option maxRecDepth 100000 in
theorem lifted (os : Os) (started : os.Started) (H : Type) (enc : TypeId × Value → H) :
    ReturnsInHanded {} Tryd.checked os 4 .any (fun w args => (Rows.listingReadsSpec.pre enc Tryd.prog Tryd.f4 Rows.listingReadsRow.domain false w args ∧ laidMetH Tryd.prog laidL w) ∧ sizedMet enc Tryd.prog Tryd.f4 (OpenSpec.ofChange Rows.listingReadsSpec) false w args) (Rows.listingReadsSpec.post enc Tryd.prog Tryd.f4 false true false false) := by
  refine returnsInHanded_of_row (s := OpenSpec.ofChange Rows.listingReadsSpec) (F := fun _ _ _ => 0) (laid := laidL) (C := Tryd.checked) own started (by kernel_rfl) Tryd.func4
    (ChangeSpec.witness_shaped (enc := enc) (C := Tryd.checked) (os := os) (s := Rows.listingReadsSpec) (X := fun w _ => laidMetH Tryd.prog laidL w) false (World.laidAll Tryd.prog os laidL) #[.string ByteArray.empty] 8 (World.laidAll_os _ _ _)
      (World.shaped_of_ZipB (by kernel_rfl) (by kernel_rfl)) (by kernel_rfl) (by kernel_rfl) (by kernel_rfl)
      (by rw [MakeChecks.laidMetH_plain _ _ _ (by kernel_rfl)]; exact laidMet_laidAll _ (by kernel_rfl) (by kernel_rfl))) ?_
  intro W base args ds gs before hval0 hW hcnd _ hsz0 hL hsh _
  have hval : ∀ (j : Nat) t v, Tryd.f4.params[j]? = some t → args[j]? = some v → Value.okWide Tryd.prog W .any base t v := hval0
  have hW' := hW
  obtain ⟨p, q, hA0, hV, rfl, hfz, hnd⟩ := hW
  have hA : DataW.TrodAll enc Tryd.prog W 0 (fun _ => true) true Tryd.f4.params.toList args.toList ds p := hA0
  rw [Tryd.params4] at hA hval
  obtain ⟨v0, vs0, d0, ds0, p0, q0, hargs, rfl, rfl, h0, r0⟩ := trodAll_cons hA
  obtain ⟨rfl, rfl, rfl⟩ := trodAll_nil r0
  obtain rfl : args = #[v0] := by cases args; simp_all
  obtain ⟨rfl, rfl⟩ := trodVars_none hV
  have k0 := h0
  have lt0 : ∀ x ∈ p0, x.block < W.heap.size := by obtain ⟨m, hm⟩ := k0; exact DataW.trod_lt m _ _ _ hm
  obtain ⟨a0, rfl, rfl, rfl, w0⟩ := open_string Tryd.underlying9 (hval 0 9 v0 rfl rfl) h0
  clear hA0 hval0
  refine (walk a0 w0 (of_laid hL hsh)).mono fun e W' ⟨he, bel⟩ => ?_
  subst he
  exact ⟨_, rfl, _, _, _, [], _, [], hW', trodAll_mk1 (shut_bool Tryd.underlying4 _), (trodAll_cons_mk (Below.trod laidOut (by kernel_rfl) (of_decide_eq_true (by kernel_rfl)) k0 bel lt0) trodAll_mk0), rfl, bel.frame _, fun h => by cases h⟩

theorem over : Rows.ListingReadsSaid :=
  OpenClaim.holds_of_wide 4 Tryd.f4 rfl rfl rfl rfl rfl rfl rfl ⟨rfl, rfl, rfl, rfl, rfl⟩ rfl rfl rfl rfl rfl (by kernel_rfl) Tryd.func4 (by kernel_rfl)
    (of_decide_eq_true (by kernel_rfl)) (by unfold Func.isWrapper; first | (rw [if_pos (by decide +kernel)]; kernel_rfl) | (rw [if_neg (by decide +kernel)]; exact ⟨rfl, rfl⟩))
    (fun os started H enc _ => lifted os started H enc)

theorem proved : Rows.ListingReadsCardSaid :=
  Claim7.holds_tied_plain_at .later [] _ true _ true over (fun _ h => by cases h) (by kernel_rfl) (fun _ h => by cases h) listingReads_row_tie rfl ⟨rfl, rfl⟩ (by kernel_rfl) rfl
    (fun f fn hf hfn => by
      obtain rfl : f = 4 := Option.some.inj ((show Tryd.prog.funcNamed "taffrail/taffraillaw11.ListingReads" = some 4 by kernel_rfl).symm.trans hf) |>.symm
      obtain rfl : fn = Tryd.f4 := (Option.some.inj (Tryd.func4.symm.trans hfn)).symm
      refine ⟨by kernel_rfl, fun j t ht => ?_⟩
      rw [Tryd.params4] at ht
      have hm : t ∈ [9] := by simpa using Array.mem_of_getElem? ht
      have hall : ([9].all fun u => !Tryd.prog.wantsStandIn u) = true := by kernel_rfl
      exact (show Tryd.prog.wantsStandIn t = false by simpa using List.all_eq_true.1 hall t hm))
    (by kernel_rfl)
#print axioms proved

end Go.Proofs.YtlnlfeninjjkmaaDoor.ListingReads
