/-
  ListingLines: for every instruction and text the statement's function answers true: an instruction has the line that the document says, or is refused; and a line is the instruction that it says, or refused (lines of more than 200 bytes are let go by the statement itself). Conditions: none beyond the card's own: the listed package variables start as the program's text lays them, which the card ties to that text.
-/
import Derived.Test.YtlnlfeninjjkmaaDoorLsH
import Derived.Test.YtlnlfeninjjkmaaDoorLsY
import Derived.Test.YtlnlfeninjjkmaaDoorLsG
import Derived.Test.YtlnlfeninjjkmaaDoorLsAw
import Derived.Test.YtlnlfeninjjkmaaDoorTie
import Derived.Test.YtlnlfeninjjkmaaDoorCards
import Derived.ProofKit
import Derived.OpenShut
import Derived.ShutString
import Derived.LaidMore
import Derived.Lay
import Derived.SevenTiedAt
import Derived.Stop.Joined
import Derived.Deep.DeepHandedRow
import Derived.BigRegion
import Derived.Deep.RegionWith
import Derived.Deep.DeepCutAuto
namespace Go.Proofs.YtlnlfeninjjkmaaDoor.ListingLines
open Go.ChangeShapes Go.WideShapes Go.ChangeAt Go.RowKit
open Go.ChangeMaps (open_string shut_string)
set_option linter.unusedVariables false
set_option linter.unusedSimpArgs false

set_option maxRecDepth 100000 in
set_option maxHeartbeats 4000000 in
theorem walk_at (i : Ins) (s L : ByteArray) (f : Int) (hf : Hid (f ≠ 0 → L = ⟨#[]⟩)) {w : World} (hL : LsL w)
    (HA : Hid (∀ w', LsL w' → Calls Tryd.prog 10 #[insV i] w' fun r w'' => r = .returned (.tuple #[.string L, .int .i64 f]) ∧ Below w'.heap.size w' w''))
    (HB : Hid (∀ w', Calls Tryd.prog 11 #[insV i] w' fun r w'' => r = .returned (.int .i64 f) ∧ Below w'.heap.size w' w''))
    (HC : Hid (f = 0 → ∀ w', Calls Tryd.prog 12 #[insV i] w' fun r w'' => r = .returned (.string L) ∧ Below w'.heap.size w' w''))
    (j : Ins) (e : Int)
    (HP : Hid (s.size ≤ 200 → ∀ w', LsL w' → Calls Tryd.prog 13 #[.string s] w' fun r w'' => r = .returned (.tuple #[insV j, .int .i64 e]) ∧ Below w'.heap.size w' w''))
    (HQ : Hid (s.size ≤ 200 → ∀ w', Calls Tryd.prog 14 #[.string s] w' fun r w'' => r = .returned (.tuple #[insV j, .int .i64 e]) ∧ Below w'.heap.size w' w'')) :
    Calls Tryd.prog 3 #[insV i, .string s] w fun r w' => r = .returned (.bool true) ∧ Below w.heap.size w w' := by
  have AW := Lib.hid (fun w' (h' : LsL w') => awake11_any w' h')
  have HL := Lib.hid hL
  obtain ⟨w1, e1⟩ : ∃ w1, w1 = w.alloc (insO i) := ⟨_, rfl⟩
  obtain ⟨s1, n1, b1⟩ := new_size e1
  obtain ⟨E, eE⟩ : ∃ E, w.heap.size = E := ⟨_, rfl⟩
  rw [eE] at n1
  have N1 := Lib.hid n1
  have B1 := Lib.hid b1
  have HE := Lib.hid eE
  obtain ⟨op, a, b, c, d, k⟩ := i
  unfold insO at e1
  unfold insV at *
  simp only at *
  clear s1 n1 b1 eE hL
  go_enter Tryd.func3, Tryd.ntmps3
  go_wp2_with fail
  rw [← e1, HE.out]
  clear e1
  refine (AW.out _ (HL.out.below B1.out)).mono ?_
  rintro r w2 ⟨rfl, h2⟩
  have B2 := Lib.hid (below_on B1.out h2)
  have N2 := Lib.hid (blk_on h2 N1.out)
  clear h2 N1
  by_cases hs : 200 < s.size
  · have hs1 : decide ((200 : Int) < (s.size : Int)) = true := by simp; omega
    go_wp2_with fail
    refine (AW.out w2 (HL.out.below B2.out)).mono ?_
    rintro r wz ⟨rfl, hz⟩
    have BZ := Lib.hid (below_on B2.out hz)
    clear hz
    go_wp2
    go_ret
    exact ⟨rfl, BZ.out⟩
  have hs1 : decide ((200 : Int) < (s.size : Int)) = false := by simp; omega
  have HP1 := Lib.hid (HP.out (by omega))
  have HQ1 := Lib.hid (HQ.out (by omega))
  obtain ⟨c0, c1, c2, c3, c4, c5⟩ := inscells N2.out
  simp only at c0 c1 c2 c3 c4 c5
  clear hs HP HQ AW
  go_wp2_with fail
  refine (HA.out w2 (HL.out.below B2.out)).mono ?_
  rintro r w3 ⟨rfl, h3⟩
  have B3 := Lib.hid (below_on B2.out h3)
  have N3 := Lib.hid (blk_on h3 N2.out)
  clear c0 c1 c2 c3 c4 c5 h3 HA N2
  obtain ⟨c0, c1, c2, c3, c4, c5⟩ := inscells N3.out
  simp only at c0 c1 c2 c3 c4 c5
  go_wp2_with fail
  refine (HB.out w3).mono ?_
  rintro r w4 ⟨rfl, h4⟩
  have B4 := Lib.hid (below_on B3.out h4)
  have N4 := Lib.hid (blk_on h4 N3.out)
  clear c0 c1 c2 c3 c4 c5 h4 HB N3
  have hff : (f != f) = false := by simp
  go_upto_region 5 with fail
  go_cut [47] (fun x wx => x = .bool false ∧ Hid (Below w.heap.size w wx))
  case first =>
    by_cases hf0 : f = 0
    · subst hf0
      have HC1 := Lib.hid (HC.out rfl)
      obtain ⟨c0, c1, c2, c3, c4, c5⟩ := inscells N4.out
      simp only at c0 c1 c2 c3 c4 c5
      go_wp2_with fail
      refine (HC1.out w4).mono ?_
      rintro r w5 ⟨rfl, h5⟩
      have B5 := Lib.hid (below_on B4.out h5)
      clear c0 c1 c2 c3 c4 c5 h5
      go_wp2_with fail
      go_meet
      exact ⟨by simp, B5⟩
    · obtain rfl := hf.out hf0
      have hf1 : (f != 0) = true := by simp [hf0]
      have hf2 : (f == 0) = false := by simp [hf0]
      clear hf0
      go_wp2_with fail
      go_meet
      exact ⟨rfl, B4⟩
  case rest =>
  obtain ⟨rfl, B5⟩ := hcut
  clear B4 N4 HC hf hff
  obtain ⟨jp, ja, jb, jc, jd, jk⟩ := j
  simp only at HP1 HQ1
  go_wp2_with fail
  refine (HP1.out _ (HL.out.below B5.out)).mono ?_
  rintro r w6 ⟨rfl, h6⟩
  have B6 := Lib.hid (below_on B5.out h6)
  obtain ⟨w7, e7⟩ : ∃ w7, w7 = w6.alloc (insO ⟨jp, ja, jb, jc, jd, jk⟩) := ⟨_, rfl⟩
  obtain ⟨-, n7, b7⟩ := new_size e7
  obtain ⟨F, eF⟩ : ∃ F, w6.heap.size = F := ⟨_, rfl⟩
  rw [eF] at n7
  have N7 := Lib.hid n7
  have B7 := Lib.hid (below_on B6.out b7)
  have HF := Lib.hid eF
  unfold insO at e7
  simp only at e7
  clear h6 HP1 n7 b7 eF B6
  go_wp2_with fail
  rw [← e7, HF.out]
  clear e7
  refine (HQ1.out w7).mono ?_
  rintro r w8 ⟨rfl, h8⟩
  have b8 := below_on B7.out h8
  have n8 := blk_on h8 N7.out
  obtain ⟨w9, e9⟩ : ∃ w9, w9 = w8.alloc (insO ⟨jp, ja, jb, jc, jd, jk⟩) := ⟨_, rfl⟩
  obtain ⟨-, n9, b9⟩ := new_size e9
  have m9 := blk_on b9 n8
  obtain ⟨D, eD⟩ : ∃ D, w8.heap.size = D := ⟨_, rfl⟩
  rw [eD] at n9
  obtain ⟨c0, c1, c2, c3, c4, c5⟩ := inscells n9
  obtain ⟨d0, d1, d2, d3, d4, d5⟩ := inscells m9
  simp only at c0 c1 c2 c3 c4 c5 d0 d1 d2 d3 d4 d5
  have B9 := Lib.hid (below_on b8 b9)
  have HD := Lib.hid eD
  unfold insO at e9
  simp only at e9
  clear h8 b8 n8 n9 b9 m9 eD HQ1 N7 B7
  go_upto_region 9 with fail
  rw [← e9, HD.out]
  clear e9
  go_wp2
  go_ret
  exact ⟨by simp, B9.out⟩

theorem walk {w : World} (i : Ins) (fi : InsFits i) (s : ByteArray) (w1 : s.size ≤ maxLen) (hL : LsL w) :
    Calls Tryd.prog 3 #[insV i, .string s] w fun r w' => r = .returned (.bool true) ∧ Below w.heap.size w w' := by
  refine walk_at i s (lineBy i) (formI i) (Lib.hid (fun h => by unfold lineBy; rw [if_neg h])) hL (Lib.hid (fun w' h' => iline_any i fi.k w' h')) (Lib.hid (fun w' => riform_any i w')) (Lib.hid (fun h w' => ?_)) _ _ (Lib.hid (fun h w' h' => iparse_any s (by omega) w' h')) (Lib.hid (fun h w' => rdparse_any s (by omega) w'))
  have := rdline_any i h fi.k w'
  unfold lineBy
  rw [if_pos h]
  exact this

theorem own : ownKnob Tryd.prog.godebug = none := by kernel_rfl
theorem laidOut : laidOutB Tryd.prog = true := by kernel_rfl

set_option maxRecDepth 100000 in
theorem lifted (os : Os) (started : os.Started) (H : Type) (enc : TypeId × Value → H) :
    ReturnsInHanded {} Tryd.checked os 3 .any (fun w args => (Rows.listingLinesSpec.pre enc Tryd.prog Tryd.f3 Rows.listingLinesRow.domain false w args ∧ laidMetH Tryd.prog laidL w) ∧ sizedMet enc Tryd.prog Tryd.f3 (OpenSpec.ofChange Rows.listingLinesSpec) false w args) (Rows.listingLinesSpec.post enc Tryd.prog Tryd.f3 false true false false) := by
  refine returnsInHanded_of_row (s := OpenSpec.ofChange Rows.listingLinesSpec) (F := fun _ _ _ => 0) (laid := laidL) (C := Tryd.checked) own started (by kernel_rfl) Tryd.func3
    (ChangeSpec.witness_shaped (enc := enc) (C := Tryd.checked) (os := os) (s := Rows.listingLinesSpec) (X := fun w _ => laidMetH Tryd.prog laidL w) false (World.laidAll Tryd.prog os laidL) #[.agg #[.int .i64 0, .int .i64 0, .int .i64 0, .int .i64 0, .int .i64 0, .int .u32 0], .string ByteArray.empty] 8 (World.laidAll_os _ _ _)
      (World.shaped_of_ZipB (by kernel_rfl) (by kernel_rfl)) (by kernel_rfl) (by kernel_rfl) (by kernel_rfl)
      (by rw [MakeChecks.laidMetH_plain _ _ _ (by kernel_rfl)]; exact laidMet_laidAll _ (by kernel_rfl) (by kernel_rfl))) ?_
  intro W base args ds gs before hval0 hW hcnd _ hsz0 hL hsh _
  have hval : ∀ (j : Nat) t v, Tryd.f3.params[j]? = some t → args[j]? = some v → Value.okWide Tryd.prog W .any base t v := hval0
  have hW' := hW
  obtain ⟨p, q, hA0, hV, rfl, hfz, hnd⟩ := hW
  have hA : DataW.TrodAll enc Tryd.prog W 0 (fun _ => true) true Tryd.f3.params.toList args.toList ds p := hA0
  rw [Tryd.params3] at hA hval
  obtain ⟨v0, vs0, d0, ds0, p0, q0, hargs, rfl, rfl, h0, r0⟩ := trodAll_cons hA
  obtain ⟨v1, vs1, d1, ds1, p1, q1, rfl, rfl, rfl, h1, r1⟩ := trodAll_cons r0
  obtain ⟨rfl, rfl, rfl⟩ := trodAll_nil r1
  obtain rfl : args = #[v0, v1] := by cases args; simp_all
  obtain ⟨rfl, rfl⟩ := trodVars_none hV
  have k0 := h0
  have lt0 : ∀ x ∈ p0, x.block < W.heap.size := by obtain ⟨m, hm⟩ := k0; exact DataW.trod_lt m _ _ _ hm
  have k1 := h1
  have lt1 : ∀ x ∈ p1, x.block < W.heap.size := by obtain ⟨m, hm⟩ := k1; exact DataW.trod_lt m _ _ _ hm
  obtain ⟨a0, rfl, w0⟩ := open_ins (hval 0 24 v0 rfl rfl) h0
  obtain ⟨a1, rfl, rfl, rfl, w1⟩ := open_string Tryd.underlying9 (hval 1 9 v1 rfl rfl) h1
  clear hA0 hval0
  refine (walk a0 w0 a1 w1 (of_laid hL hsh)).mono fun e W' ⟨he, bel⟩ => ?_
  subst he
  exact ⟨_, rfl, _, _, _, [], _, [], hW', trodAll_mk1 (shut_bool Tryd.underlying4 _), (trodAll_cons_mk (Below.trod laidOut (by kernel_rfl) (of_decide_eq_true (by kernel_rfl)) k0 bel lt0) (trodAll_cons_mk (Below.trod laidOut (by kernel_rfl) (of_decide_eq_true (by kernel_rfl)) k1 bel lt1) trodAll_mk0)), rfl, bel.frame _, fun h => by cases h⟩

theorem over : Rows.ListingLinesSaid :=
  OpenClaim.holds_of_wide 3 Tryd.f3 rfl rfl rfl rfl rfl rfl rfl ⟨rfl, rfl, rfl, rfl, rfl⟩ rfl rfl rfl rfl rfl (by kernel_rfl) Tryd.func3 (by kernel_rfl)
    (of_decide_eq_true (by kernel_rfl)) (by unfold Func.isWrapper; first | (rw [if_pos (by decide +kernel)]; kernel_rfl) | (rw [if_neg (by decide +kernel)]; exact ⟨rfl, rfl⟩))
    (fun os started H enc _ => lifted os started H enc)

theorem proved : Rows.ListingLinesCardSaid :=
  Claim7.holds_tied_plain_at .later [] _ true _ true over (fun _ h => by cases h) (by kernel_rfl) (fun _ h => by cases h) listingLines_row_tie rfl ⟨rfl, rfl⟩ (by kernel_rfl) rfl
    (fun f fn hf hfn => by
      obtain rfl : f = 3 := Option.some.inj ((show Tryd.prog.funcNamed "taffrail/taffraillaw11.ListingLines" = some 3 by kernel_rfl).symm.trans hf) |>.symm
      obtain rfl : fn = Tryd.f3 := (Option.some.inj (Tryd.func3.symm.trans hfn)).symm
      refine ⟨by kernel_rfl, fun j t ht => ?_⟩
      rw [Tryd.params3] at ht
      have hm : t ∈ [24, 9] := by simpa using Array.mem_of_getElem? ht
      have hall : ([24, 9].all fun u => !Tryd.prog.wantsStandIn u) = true := by kernel_rfl
      exact (show Tryd.prog.wantsStandIn t = false by simpa using List.all_eq_true.1 hall t hm))
    (by kernel_rfl)
#print axioms proved

end Go.Proofs.YtlnlfeninjjkmaaDoor.ListingLines
