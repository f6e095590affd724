/-
  ListingBack: for every program and text the statement's function answers true: a program that is printed is read as it was; a text that is read is printed as it was (programs of more than 300 instructions and texts of more than 4000 bytes are let go by the statement itself). Conditions: none beyond the card's own: the listed package variables start as the program's text lays them, which the card ties to that text.
-/
import Derived.Test.YtlnlfeninjjkmaaDoorLsH
import Derived.Test.YtlnlfeninjjkmaaDoorLsY
import Derived.Test.YtlnlfeninjjkmaaDoorLsG
import Derived.Test.YtlnlfeninjjkmaaDoorLsAw
import Derived.Test.YtlnlfeninjjkmaaDoorTie
import Derived.Test.YtlnlfeninjjkmaaDoorCards
import Derived.ProofKit
import Derived.OpenShut
import Derived.ShutString
import Derived.LaidMore
import Derived.Lay
import Derived.SevenTiedAt
import Derived.Stop.Joined
import Derived.Deep.DeepHandedRow
import Derived.BigRegion
import Derived.Deep.RegionWith
import Derived.Deep.DeepCutAuto
namespace Go.Proofs.YtlnlfeninjjkmaaDoor.ListingBack
open Go.ChangeShapes Go.WideShapes Go.ChangeAt Go.RowKit
open Go.ChangeMaps (open_string shut_string)
set_option linter.unusedVariables false
set_option linter.unusedSimpArgs false

set_option maxRecDepth 100000 in
set_option maxHeartbeats 4000000 in
theorem walk_at {w : World} (ao : Option Addr) (cap : Nat) (l : List Ins) (hS : SeenI w ao cap l) (s T : ByteArray) (e : Int) (l2 : List Ins) (m2 : Nat) (e2 : Int) (hL : LsL w)
    (hr2 : Hid (e2 ≠ 0 → l2 = []))
    (HP : Hid (l.length ≤ 300 → ∀ ao' cap' w', SeenI w' ao' cap' l → LsL w' → Calls Tryd.prog 18 #[.slice ao' l.length cap'] w' fun r w'' => r = .returned (.tuple #[.string T, .int .i64 e]) ∧ Below w'.heap.size w' w''))
    (HR : Hid (e = 0 → ∀ w', LsL w' → Calls Tryd.prog 15 #[.string T] w' fun r w'' => ∃ ao' cap', r = .returned (.tuple #[.slice ao' l.length cap', .int .i64 0, .int .i64 0]) ∧ SeenI w'' ao' cap' l ∧ Below w'.heap.size w' w''))
    (HR2 : Hid (s.size ≤ 4000 → ∀ w', LsL w' → Calls Tryd.prog 15 #[.string s] w' fun r w'' => ∃ ao' cap', r = .returned (.tuple #[.slice ao' l2.length cap', .int .i64 (m2 : Int), .int .i64 e2]) ∧ SeenI w'' ao' cap' l2 ∧ Below w'.heap.size w' w''))
    (HP2 : Hid (e2 = 0 → ∀ ao' cap' w', SeenI w' ao' cap' l2 → LsL w' → Calls Tryd.prog 18 #[.slice ao' l2.length cap'] w' fun r w'' => r = .returned (.tuple #[.string s, .int .i64 0]) ∧ Below w'.heap.size w' w'')) :
    Calls Tryd.prog 6 #[.slice ao l.length cap, .string s] w fun r w' => r = .returned (.bool true) ∧ Below w.heap.size w w' := by
  have AW := Lib.hid (fun w' (h' : LsL w') => awake11_any w' h')
  have HL := Lib.hid hL
  have HS := Lib.hid hS
  clear hL hS
  go_enter Tryd.func6, Tryd.ntmps6
  go_wp2_with fail
  refine (AW.out _ (HL.out)).mono ?_
  rintro r w2 ⟨rfl, h2⟩
  have B2 := Lib.hid (h2)
  clear h2
  by_cases hs : 300 < l.length
  · have hs1 : decide ((300 : Int) < (l.length : Int)) = true := by simp; omega
    go_wp2_with fail
    refine (AW.out w2 (HL.out.below B2.out)).mono ?_
    rintro r wz ⟨rfl, hz⟩
    have BZ := Lib.hid (below_on B2.out hz)
    clear hz
    go_wp2
    go_ret
    exact ⟨rfl, BZ.out⟩
  have hs1 : decide ((300 : Int) < (l.length : Int)) = false := by simp; omega
  by_cases hs4 : 4000 < s.size
  · have hs5 : decide ((4000 : Int) < (s.size : Int)) = true := by simp; omega
    clear hs
    go_wp2_with fail
    refine (AW.out w2 (HL.out.below B2.out)).mono ?_
    rintro r wz ⟨rfl, hz⟩
    have BZ := Lib.hid (below_on B2.out hz)
    clear hz
    go_wp2
    go_ret
    exact ⟨rfl, BZ.out⟩
  have hs5 : decide ((4000 : Int) < (s.size : Int)) = false := by simp; omega
  have HP1 := Lib.hid (HP.out (by omega))
  have HR3 := Lib.hid (HR2.out (by omega))
  have Hn := Lib.hid (show l.length ≤ 1000000 by omega)
  clear hs hs4 HP HR2 AW
  obtain ⟨w3, e3⟩ : ∃ w3, w3 = w2.alloc (.cells #[] 24) := ⟨_, rfl⟩
  obtain ⟨s3, -, b3⟩ := new_size e3
  have O3 : Hid (w3.ownsRow w2.heap.size 24 6 (.slice (some ⟨w2.heap.size, 0, none⟩) 0 0) 0 []) := Lib.hid (by rw [e3]; exact World.ownsRow_lit w2 #[] 0 (Nat.le_refl _) (by decide) rfl)
  have B3 := Lib.hid (below_on B2.out b3)
  have Hsz := Lib.hid s3
  have Hgt := Lib.hid (show w.heap.size ≤ w2.heap.size from B2.out.size)
  obtain ⟨D, hD⟩ : ∃ D, w2.heap.size = D := ⟨_, rfl⟩
  rw [hD] at O3 Hsz Hgt
  have HD := Lib.hid hD
  clear B2 s3 b3 hD
  go_wp2_with (at_builtin; rw [← e3, HD.out]; refine wpList_copyI rfl _ _ rfl D _ rfl O3.out ao cap l rfl (HS.out.below B3.out) Hn.out (by have := Hsz.out; omega) ?_)
  intro v' w4 h4 g4
  rw [← e3] at g4
  have B4 := Lib.hid (below_grown B3.out (by have := Hsz.out; have := Hgt.out; omega) Hgt.out g4)
  obtain ⟨ao4, cap4, rfl, s4, -⟩ := h4.seen
  have S4 := Lib.hid s4
  clear h4 g4 s4 e3 O3 B3 Hsz Hgt HD
  go_wp2_with fail
  refine (HP1.out _ _ w4 S4.out (HL.out.below B4.out)).mono ?_
  rintro r w5 ⟨rfl, h5⟩
  have B5 := Lib.hid (below_on B4.out h5)
  clear h5 B4 S4 HP1
  go_upto_if 36 with fail
  go_cut [] (fun wx => Hid (Below w.heap.size w wx))
  case first =>
    by_cases he : e = 0
    · have hd : (e == 0) = true := by simp [he]
      have HR1 := Lib.hid (HR.out he)
      clear he
      go_wp2_with fail
      refine (HR1.out _ (HL.out.below B5.out)).mono ?_
      rintro r w6 ⟨a6, c6, rfl, s6, h6⟩
      have B6 := Lib.hid (below_on B5.out h6)
      have HM := Lib.hid (isame_any a6 ao c6 cap l w6 s6 (HS.out.below B6.out))
      clear h6 s6 HR1
      go_wp2_with fail
      refine HM.out.mono ?_
      rintro r w7 ⟨rfl, q, rfl⟩
      have B7 := Lib.hid (below_drewN B6.out q)
      clear HM
      go_wp2_with fail
      go_meet
      exact B7
    · have hd : (e == 0) = false := by simp [he]
      clear he
      go_wp2_with fail
      go_meet
      exact B5
  case rest =>
  have B6 := hcut
  clear hcut B5 HR
  go_wp2_with fail
  refine (HR3.out _ (HL.out.below B6.out)).mono ?_
  rintro r w7 ⟨a7, c7, rfl, s7, h7⟩
  have B7 := Lib.hid (below_on B6.out h7)
  have S7 := Lib.hid s7
  clear h7 s7 HR3
  by_cases he : e2 = 0
  · have hd : (e2 != 0) = false := by simp [he]
    have HP3 := Lib.hid (HP2.out he _ _ w7 S7.out (HL.out.below B7.out))
    clear he HP2
    go_wp2_with fail
    refine HP3.out.mono ?_
    rintro r w8 ⟨rfl, h8⟩
    have B8 := Lib.hid (below_on B7.out h8)
    clear h8 HP3
    go_wp2
    go_ret
    exact ⟨by simp, B8.out⟩
  · have hd : (e2 != 0) = true := by simp [he]
    obtain rfl := hr2.out he
    clear he HP2
    go_wp2
    go_ret
    exact ⟨rfl, B7.out⟩

theorem walk {w : World} (ao : Option Addr) (len cap : Nat) (l : List Ins) (h : l.length = len ∧ SeenI w ao cap l ∧ ∀ e ∈ l, InsFits e) (s : ByteArray) (ws : s.size ≤ maxLen) (hL : LsL w) :
    Calls Tryd.prog 6 #[.slice ao len cap, .string s] w fun r w' => r = .returned (.bool true) ∧ Below w.heap.size w w' := by
  obtain ⟨rfl, hS, hf⟩ := h
  refine walk_at ao cap l hS s (bytesOf (printT l).1) (printT l).2 (readT s.data.toList).1 (readT s.data.toList).2.1 (readT s.data.toList).2.2 hL (Lib.hid (fun h => read_err _ _ h)) (Lib.hid (fun h ao' cap' w' h1 h2 => printt_any ao' cap' l (fun i hi => (hf i hi).k) (by omega) w' h2 h1)) (Lib.hid (fun he w' h' => ?_)) (Lib.hid (fun h w' h' => ?_)) (Lib.hid (fun he ao' cap' w' h1 h2 => ?_))
  · have hp : printT l = ((printT l).1, 0) := by rw [← he]
    have hk : ∀ i ∈ l, i.k < 4294967296 := fun i hi => (hf i hi).k
    have hrd := print_read hk hp
    have h1 := read_ok hrd
    have hl := text_len l h1.2.1
    have hr := readt_any (bytesOf (printT l).1) (by rw [bytesOf_size, h1.1]; have := h1.2.2.1; omega) w' h'
    rw [bytesOf_data, hrd] at hr
    refine hr.mono fun r w'' ⟨v, g1, g2, g3⟩ => ?_
    obtain ⟨ao', cap', rfl, s', -⟩ := g2.seen
    exact ⟨ao', cap', g1, s', g3⟩
  · refine (readt_any s (by omega) w' h').mono fun r w'' ⟨v, g1, g2, g3⟩ => ?_
    obtain ⟨ao', cap', rfl, s', -⟩ := g2.seen
    exact ⟨ao', cap', g1, s', g3⟩
  · have hrd : readT s.data.toList = ((readT s.data.toList).1, (readT s.data.toList).2.1, 0) := by rw [← he]
    obtain ⟨g1, g2, g3, -⟩ := read_ok hrd
    have hpr := read_print hrd
    have := printt_any ao' cap' _ (fun i hi => (g2 i hi).2) (by omega) w' h2 h1
    rw [hpr] at this
    simp only at this
    rw [bytesOf_list] at this
    exact this

theorem own : ownKnob Tryd.prog.godebug = none := by kernel_rfl
theorem laidOut : laidOutB Tryd.prog = true := by kernel_rfl

set_option maxRecDepth 100000 in
theorem lifted (os : Os) (started : os.Started) (H : Type) (enc : TypeId × Value → H) :
    ReturnsInHanded {} Tryd.checked os 6 .any (fun w args => (Rows.listingBackSpec.pre enc Tryd.prog Tryd.f6 Rows.listingBackRow.domain false w args ∧ laidMetH Tryd.prog laidL w) ∧ sizedMet enc Tryd.prog Tryd.f6 (OpenSpec.ofChange Rows.listingBackSpec) false w args) (Rows.listingBackSpec.post enc Tryd.prog Tryd.f6 false true false false) := by
  refine returnsInHanded_of_row (s := OpenSpec.ofChange Rows.listingBackSpec) (F := fun _ _ _ => 0) (laid := laidL) (C := Tryd.checked) own started (by kernel_rfl) Tryd.func6
    (ChangeSpec.witness_shaped (enc := enc) (C := Tryd.checked) (os := os) (s := Rows.listingBackSpec) (X := fun w _ => laidMetH Tryd.prog laidL w) false (World.laidAll Tryd.prog os laidL) #[.slice none 0 0, .string ByteArray.empty] 8 (World.laidAll_os _ _ _)
      (World.shaped_of_ZipB (by kernel_rfl) (by kernel_rfl)) (by kernel_rfl) (by kernel_rfl) (by kernel_rfl)
      (by rw [MakeChecks.laidMetH_plain _ _ _ (by kernel_rfl)]; exact laidMet_laidAll _ (by kernel_rfl) (by kernel_rfl))) ?_
  intro W base args ds gs before hval0 hW hcnd _ hsz0 hL hsh _
  have hval : ∀ (j : Nat) t v, Tryd.f6.params[j]? = some t → args[j]? = some v → Value.okWide Tryd.prog W .any base t v := hval0
  have hW' := hW
  obtain ⟨p, q, hA0, hV, rfl, hfz, hnd⟩ := hW
  have hA : DataW.TrodAll enc Tryd.prog W 0 (fun _ => true) true Tryd.f6.params.toList args.toList ds p := hA0
  rw [Tryd.params6] at hA hval
  obtain ⟨v0, vs0, d0, ds0, p0, q0, hargs, rfl, rfl, h0, r0⟩ := trodAll_cons hA
  obtain ⟨v1, vs1, d1, ds1, p1, q1, rfl, rfl, rfl, h1, r1⟩ := trodAll_cons r0
  obtain ⟨rfl, rfl, rfl⟩ := trodAll_nil r1
  obtain rfl : args = #[v0, v1] := by cases args; simp_all
  obtain ⟨rfl, rfl⟩ := trodVars_none hV
  have k0 := h0
  have lt0 : ∀ x ∈ p0, x.block < W.heap.size := by obtain ⟨m, hm⟩ := k0; exact DataW.trod_lt m _ _ _ hm
  have k1 := h1
  have lt1 : ∀ x ∈ p1, x.block < W.heap.size := by obtain ⟨m, hm⟩ := k1; exact DataW.trod_lt m _ _ _ hm
  obtain ⟨a0, len0, cap0, rfl⟩ := okWide_slice Tryd.underlying36 (hval 0 36 v0 rfl rfl)
  obtain ⟨z0, w0⟩ := open_inss h0
  obtain ⟨a1, rfl, rfl, rfl, w1⟩ := open_string Tryd.underlying9 (hval 1 9 v1 rfl rfl) h1
  clear hA0 hval0
  refine (walk a0 len0 cap0 z0 w0 a1 w1 (of_laid hL hsh)).mono fun e W' ⟨he, bel⟩ => ?_
  subst he
  exact ⟨_, rfl, _, _, _, [], _, [], hW', trodAll_mk1 (shut_bool Tryd.underlying4 _), (trodAll_cons_mk (Below.trod laidOut (by kernel_rfl) (of_decide_eq_true (by kernel_rfl)) k0 bel lt0) (trodAll_cons_mk (Below.trod laidOut (by kernel_rfl) (of_decide_eq_true (by kernel_rfl)) k1 bel lt1) trodAll_mk0)), rfl, bel.frame _, fun h => by cases h⟩

theorem over : Rows.ListingBackSaid :=
  OpenClaim.holds_of_wide 6 Tryd.f6 rfl rfl rfl rfl rfl rfl rfl ⟨rfl, rfl, rfl, rfl, rfl⟩ rfl rfl rfl rfl rfl (by kernel_rfl) Tryd.func6 (by kernel_rfl)
    (of_decide_eq_true (by kernel_rfl)) (by unfold Func.isWrapper; first | (rw [if_pos (by decide +kernel)]; kernel_rfl) | (rw [if_neg (by decide +kernel)]; exact ⟨rfl, rfl⟩))
    (fun os started H enc _ => lifted os started H enc)

theorem proved : Rows.ListingBackCardSaid :=
  Claim7.holds_tied_plain_at .later [] _ true _ true over (fun _ h => by cases h) (by kernel_rfl) (fun _ h => by cases h) listingBack_row_tie rfl ⟨rfl, rfl⟩ (by kernel_rfl) rfl
    (fun f fn hf hfn => by
      obtain rfl : f = 6 := Option.some.inj ((show Tryd.prog.funcNamed "taffrail/taffraillaw11.ListingBack" = some 6 by kernel_rfl).symm.trans hf) |>.symm
      obtain rfl : fn = Tryd.f6 := (Option.some.inj (Tryd.func6.symm.trans hfn)).symm
      refine ⟨by kernel_rfl, fun j t ht => ?_⟩
      rw [Tryd.params6] at ht
      have hm : t ∈ [36, 9] := by simpa using Array.mem_of_getElem? ht
      have hall : ([36, 9].all fun u => !Tryd.prog.wantsStandIn u) = true := by kernel_rfl
      exact (show Tryd.prog.wantsStandIn t = false by simpa using List.all_eq_true.1 hall t hm))
    (by kernel_rfl)
#print axioms proved

end Go.Proofs.YtlnlfeninjjkmaaDoor.ListingBack
