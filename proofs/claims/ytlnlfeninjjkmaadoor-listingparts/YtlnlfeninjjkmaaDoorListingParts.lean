/-
  ListingParts: for every two texts the statement's function answers true: two texts that are read are read together, if they aren't too long: the programs of both, one behind the other (texts of more than 2000 bytes are let go by the statement itself). Conditions: none beyond the card's own: the listed package variables start as the program's text lays them, which the card ties to that text.
-/
import Derived.Test.YtlnlfeninjjkmaaDoorLsH
import Derived.Test.YtlnlfeninjjkmaaDoorLsY
import Derived.Test.YtlnlfeninjjkmaaDoorLsG
import Derived.Test.YtlnlfeninjjkmaaDoorLsAw
import Derived.Test.YtlnlfeninjjkmaaDoorLsK
import Derived.Test.YtlnlfeninjjkmaaDoorTie
import Derived.Test.YtlnlfeninjjkmaaDoorCards
import Derived.ProofKit
import Derived.OpenShut
import Derived.ShutString
import Derived.LaidMore
import Derived.Lay
import Derived.SevenTiedAt
import Derived.Stop.Joined
import Derived.Deep.DeepHandedRow
import Derived.BigRegion
import Derived.Deep.RegionWith
import Derived.Deep.DeepCutAuto
namespace Go.Proofs.YtlnlfeninjjkmaaDoor.ListingParts
open Go.ChangeShapes Go.WideShapes Go.ChangeAt Go.RowKit
open Go.ChangeMaps (open_string shut_string)
set_option linter.unusedVariables false
set_option linter.unusedSimpArgs false

set_option maxRecDepth 100000 in
set_option maxHeartbeats 4000000 in
theorem walk_at (s t : ByteArray) (x y Z XY : List Ins) (m n : Nat) (e f : Int) (A : Nat) (X : Int) {w : World} (hL : LsL w)
    (hxy : Hid (e = 0 → f = 0 → x.length ≤ 256 ∧ y.length ≤ 256))
    (hZ : Hid (e = 0 → f = 0 → (256 < x.length + y.length → X = 4 ∧ A = 257) ∧ (x.length + y.length ≤ 256 → X = 0 ∧ Z = XY)))
    (hXY : Hid (XY = x ++ y))
    (HR1 : Hid (s.size ≤ 2000 → ∀ w', LsL w' → Calls Tryd.prog 15 #[.string s] w' fun r w'' => ∃ ao cap, r = .returned (.tuple #[.slice ao x.length cap, .int .i64 (m : Int), .int .i64 e]) ∧ SeenI w'' ao cap x ∧ Below w'.heap.size w' w''))
    (HR2 : Hid (t.size ≤ 2000 → ∀ w', LsL w' → Calls Tryd.prog 15 #[.string t] w' fun r w'' => ∃ ao cap, r = .returned (.tuple #[.slice ao y.length cap, .int .i64 (n : Int), .int .i64 f]) ∧ SeenI w'' ao cap y ∧ Below w'.heap.size w' w''))
    (HR3 : Hid (s.size ≤ 2000 → t.size ≤ 2000 → ∀ w', LsL w' → Calls Tryd.prog 15 #[.string (s ++ t)] w' fun r w'' => ∃ ao cap, r = .returned (.tuple #[.slice ao Z.length cap, .int .i64 (A : Int), .int .i64 X]) ∧ SeenI w'' ao cap Z ∧ Below w'.heap.size w' w'')) :
    Calls Tryd.prog 7 #[.string s, .string t] w fun r w' => r = .returned (.bool true) ∧ Below w.heap.size w w' := by
  have AW := Lib.hid (fun w' (h' : LsL w') => awake11_any w' h')
  have HL := Lib.hid hL
  clear hL
  go_enter Tryd.func7, Tryd.ntmps7
  go_wp2_with fail
  refine (AW.out _ (HL.out)).mono ?_
  rintro r w2 ⟨rfl, h2⟩
  have B2 := Lib.hid (h2)
  clear h2
  by_cases hs : 2000 < s.size
  · have hs1 : decide ((2000 : Int) < (s.size : Int)) = true := by simp; omega
    go_wp2_with fail
    refine (AW.out w2 (HL.out.below B2.out)).mono ?_
    rintro r wz ⟨rfl, hz⟩
    have BZ := Lib.hid (below_on B2.out hz)
    clear hz
    go_wp2
    go_ret
    exact ⟨rfl, BZ.out⟩
  have hs1 : decide ((2000 : Int) < (s.size : Int)) = false := by simp; omega
  by_cases ht : 2000 < t.size
  · have ht1 : decide ((2000 : Int) < (t.size : Int)) = true := by simp; omega
    clear hs
    go_wp2_with fail
    refine (AW.out w2 (HL.out.below B2.out)).mono ?_
    rintro r wz ⟨rfl, hz⟩
    have BZ := Lib.hid (below_on B2.out hz)
    clear hz
    go_wp2
    go_ret
    exact ⟨rfl, BZ.out⟩
  have ht1 : decide ((2000 : Int) < (t.size : Int)) = false := by simp; omega
  have H1 := Lib.hid (HR1.out (by omega))
  have H2 := Lib.hid (HR2.out (by omega))
  have H3 := Lib.hid (HR3.out (by omega) (by omega))
  have g1 : ¬ 9223372036854775807 < s.size + t.size := by omega
  clear hs ht HR1 HR2 HR3 AW
  go_wp2_with fail
  refine (H1.out w2 (HL.out.below B2.out)).mono ?_
  rintro r w3 ⟨a3, c3, rfl, s3, h3⟩
  have B3 := Lib.hid (below_on B2.out h3)
  have S3 := Lib.hid s3
  clear h3 s3 H1
  go_wp2_with fail
  refine (H2.out w3 (HL.out.below B3.out)).mono ?_
  rintro r w4 ⟨a4, c4, rfl, s4, h4⟩
  have B4 := Lib.hid (below_on B3.out h4)
  have S4 := Lib.hid s4
  have T4 := Lib.hid (S3.out.below h4)
  clear h4 s4 H2 S3
  by_cases he : e = 0
  case neg =>
    have hd : (e != 0) = true := by simp [he]
    clear he
    go_wp2
    go_ret
    exact ⟨rfl, B4.out⟩
  have hd : (e != 0) = false := by simp [he]
  by_cases hf : f = 0
  case neg =>
    have hd2 : (f != 0) = true := by simp [hf]
    clear he hf
    go_wp2
    go_ret
    exact ⟨rfl, B4.out⟩
  have hd2 : (f != 0) = false := by simp [hf]
  obtain ⟨k1, k2⟩ := hxy.out he hf
  obtain ⟨z1, z2⟩ := hZ.out he hf
  have Z1 := Lib.hid z1
  have Z2 := Lib.hid z2
  clear he hf hxy hZ z1 z2
  go_wp2_with fail
  refine (H3.out w4 (HL.out.below B4.out)).mono ?_
  rintro r w5 ⟨a5, c5, rfl, s5, h5⟩
  have B5 := Lib.hid (below_on B4.out h5)
  have S5 := Lib.hid s5
  have T5 := Lib.hid (S4.out.below h5)
  have U5 := Lib.hid (T4.out.below h5)
  clear h5 s5 H3 S4 T4 B4
  by_cases h6 : 256 < x.length + y.length
  · obtain ⟨y1, y2⟩ := Z1.out h6
    have h6I : decide ((256 : Int) < (x.length : Int) + (y.length : Int)) = true := by simp; omega
    rw [y1, y2]
    clear Z1 Z2 y1 y2
    go_wp2
    go_ret
    exact ⟨rfl, B5.out⟩
  · obtain ⟨y1, y2⟩ := Z2.out (by omega)
    have h6I : decide ((256 : Int) < (x.length : Int) + (y.length : Int)) = false := by simp; omega
    subst y2
    rw [y1]
    have Hn := Lib.hid (show x.length + y.length ≤ 1000000 by omega)
    clear Z1 Z2 y1
    obtain ⟨w6, e6⟩ : ∃ w6, w6 = w5.alloc (.cells #[] 24) := ⟨_, rfl⟩
    obtain ⟨s6, -, b6⟩ := new_size e6
    obtain ⟨D, hD⟩ : ∃ D, w5.heap.size = D := ⟨_, rfl⟩
    have O6 : Hid (OwnN w6 D (.slice (some ⟨D, 0, none⟩) 0 0) []) := Lib.hid (by rw [e6, ← hD]; exact World.ownsRow_lit w5 #[] 0 (Nat.le_refl _) (by decide) rfl)
    have C6 := Lib.hid b6
    have Hsz := Lib.hid (show w6.heap.size = D + 1 by rw [s6, hD])
    have HD := Lib.hid hD
    clear s6 b6 hD h6
    go_wp2_with (at_builtin; rw [← e6, HD.out]; refine wpList_moreI rfl _ _ rfl D _ [] rfl O6.out a3 c3 x rfl (U5.out.below C6.out) (by have := Hn.out; simp; omega) (by have := Hsz.out; omega) ?_)
    intro v7 w7 o7 g7
    rw [← e6] at g7
    have hC7 : Below w5.heap.size w5 w7 := C6.out.grown g7 (by have := Hsz.out; have := HD.out; omega) (fun kk hk => by simp [Value.ownBlock] at hk; have := HD.out; omega)
    have C7 := Lib.hid hC7
    have hD7 := Lib.hid (show D ≤ w7.heap.size by have := g7.size; have := Hsz.out; omega)
    replace o7 : OwnN w7 D v7 x := o7
    obtain ⟨a7, c7, rfl, hb7⟩ := o7.open
    have O7 := Lib.hid o7
    clear o7 g7 hC7 e6 O6 C6 Hsz
    go_wp2_with (at_builtin; refine wpList_moreI rfl _ _ rfl D _ x rfl O7.out a4 c4 y rfl (T5.out.below C7.out) Hn.out hD7.out ?_)
    intro v8 w8 o8 g8
    have hC8 : Below w5.heap.size w5 w8 := C7.out.grown g8 (by have := hD7.out; have := HD.out; omega) (fun kk hk => by have := hb7 kk hk; have := HD.out; omega)
    have C8 := Lib.hid hC8
    rw [← hXY.out] at o8
    obtain ⟨a8, c8, rfl, s8, -⟩ := o8.seen
    have HM := Lib.hid (isame_any a5 a8 c5 c8 Z w8 (S5.out.below C8.out) s8)
    have B8 := Lib.hid (below_on B5.out C8.out)
    clear o8 g8 hC8 s8 O7 C7 hb7 hD7
    go_wp2_with fail
    refine HM.out.mono ?_
    rintro r w9 ⟨rfl, q, rfl⟩
    have B9 := Lib.hid (below_drewN B8.out q)
    clear HM
    go_wp2
    go_ret
    exact ⟨rfl, B9.out⟩

theorem walk {w : World} (s : ByteArray) (ws : s.size ≤ maxLen) (t : ByteArray) (wt : t.size ≤ maxLen) (hL : LsL w) :
    Calls Tryd.prog 7 #[.string s, .string t] w fun r w' => r = .returned (.bool true) ∧ Below w.heap.size w w' := by
  have rd : ∀ (u : ByteArray), u.size ≤ 100000 → ∀ w', LsL w' → Calls Tryd.prog 15 #[.string u] w' fun r w'' => ∃ ao cap, r = .returned (.tuple #[.slice ao (readT u.data.toList).1.length cap, .int .i64 ((readT u.data.toList).2.1 : Nat), .int .i64 (readT u.data.toList).2.2]) ∧ SeenI w'' ao cap (readT u.data.toList).1 ∧ Below w'.heap.size w' w'' := fun u hu w' h' => by
    refine (readt_any u hu w' h').mono fun r w'' ⟨v, g1, g2, g3⟩ => ?_
    obtain ⟨ao', cap', rfl, s', -⟩ := g2.seen
    exact ⟨ao', cap', g1, s', g3⟩
  refine walk_at s t _ _ _ _ _ _ _ _ _ _ hL (Lib.hid (fun he hf => ?_)) (Lib.hid (fun he hf => ?_)) (Lib.hid rfl) (Lib.hid (fun h w' h' => rd s (by omega) w' h')) (Lib.hid (fun h w' h' => rd t (by omega) w' h')) (Lib.hid (fun h1 h2 w' h' => rd (s ++ t) (by rw [ByteArray.size_append]; omega) w' h'))
  · have e1 : readT s.data.toList = ((readT s.data.toList).1, (readT s.data.toList).2.1, 0) := by rw [← he]
    have e2 : readT t.data.toList = ((readT t.data.toList).1, (readT t.data.toList).2.1, 0) := by rw [← hf]
    exact ⟨(read_ok e1).2.2.1, (read_ok e2).2.2.1⟩
  · have e1 : readT s.data.toList = ((readT s.data.toList).1, (readT s.data.toList).2.1, 0) := by rw [← he]
    have e2 : readT t.data.toList = ((readT t.data.toList).1, (readT t.data.toList).2.1, 0) := by rw [← hf]
    have hp := read_parts e1 e2
    rw [ByteArray.data_append, Array.toList_append, hp]
    exact ⟨fun h => by rw [if_pos h]; exact ⟨rfl, rfl⟩, fun h => by rw [if_neg (by omega)]; exact ⟨rfl, rfl⟩⟩

theorem own : ownKnob Tryd.prog.godebug = none := by kernel_rfl
theorem laidOut : laidOutB Tryd.prog = true := by kernel_rfl

set_option maxRecDepth 100000 in
theorem lifted (os : Os) (started : os.Started) (H : Type) (enc : TypeId × Value → H) :
    ReturnsInHanded {} Tryd.checked os 7 .any (fun w args => (Rows.listingPartsSpec.pre enc Tryd.prog Tryd.f7 Rows.listingPartsRow.domain false w args ∧ laidMetH Tryd.prog laidL w) ∧ sizedMet enc Tryd.prog Tryd.f7 (OpenSpec.ofChange Rows.listingPartsSpec) false w args) (Rows.listingPartsSpec.post enc Tryd.prog Tryd.f7 false true false false) := by
  refine returnsInHanded_of_row (s := OpenSpec.ofChange Rows.listingPartsSpec) (F := fun _ _ _ => 0) (laid := laidL) (C := Tryd.checked) own started (by kernel_rfl) Tryd.func7
    (ChangeSpec.witness_shaped (enc := enc) (C := Tryd.checked) (os := os) (s := Rows.listingPartsSpec) (X := fun w _ => laidMetH Tryd.prog laidL w) false (World.laidAll Tryd.prog os laidL) #[.string ByteArray.empty, .string ByteArray.empty] 8 (World.laidAll_os _ _ _)
      (World.shaped_of_ZipB (by kernel_rfl) (by kernel_rfl)) (by kernel_rfl) (by kernel_rfl) (by kernel_rfl)
      (by rw [MakeChecks.laidMetH_plain _ _ _ (by kernel_rfl)]; exact laidMet_laidAll _ (by kernel_rfl) (by kernel_rfl))) ?_
  intro W base args ds gs before hval0 hW hcnd _ hsz0 hL hsh _
  have hval : ∀ (j : Nat) t v, Tryd.f7.params[j]? = some t → args[j]? = some v → Value.okWide Tryd.prog W .any base t v := hval0
  have hW' := hW
  obtain ⟨p, q, hA0, hV, rfl, hfz, hnd⟩ := hW
  have hA : DataW.TrodAll enc Tryd.prog W 0 (fun _ => true) true Tryd.f7.params.toList args.toList ds p := hA0
  rw [Tryd.params7] at hA hval
  obtain ⟨v0, vs0, d0, ds0, p0, q0, hargs, rfl, rfl, h0, r0⟩ := trodAll_cons hA
  obtain ⟨v1, vs1, d1, ds1, p1, q1, rfl, rfl, rfl, h1, r1⟩ := trodAll_cons r0
  obtain ⟨rfl, rfl, rfl⟩ := trodAll_nil r1
  obtain rfl : args = #[v0, v1] := by cases args; simp_all
  obtain ⟨rfl, rfl⟩ := trodVars_none hV
  have k0 := h0
  have lt0 : ∀ x ∈ p0, x.block < W.heap.size := by obtain ⟨m, hm⟩ := k0; exact DataW.trod_lt m _ _ _ hm
  have k1 := h1
  have lt1 : ∀ x ∈ p1, x.block < W.heap.size := by obtain ⟨m, hm⟩ := k1; exact DataW.trod_lt m _ _ _ hm
  obtain ⟨a0, rfl, rfl, rfl, w0⟩ := open_string Tryd.underlying9 (hval 0 9 v0 rfl rfl) h0
  obtain ⟨a1, rfl, rfl, rfl, w1⟩ := open_string Tryd.underlying9 (hval 1 9 v1 rfl rfl) h1
  clear hA0 hval0
  refine (walk a0 w0 a1 w1 (of_laid hL hsh)).mono fun e W' ⟨he, bel⟩ => ?_
  subst he
  exact ⟨_, rfl, _, _, _, [], _, [], hW', trodAll_mk1 (shut_bool Tryd.underlying4 _), (trodAll_cons_mk (Below.trod laidOut (by kernel_rfl) (of_decide_eq_true (by kernel_rfl)) k0 bel lt0) (trodAll_cons_mk (Below.trod laidOut (by kernel_rfl) (of_decide_eq_true (by kernel_rfl)) k1 bel lt1) trodAll_mk0)), rfl, bel.frame _, fun h => by cases h⟩

theorem over : Rows.ListingPartsSaid :=
  OpenClaim.holds_of_wide 7 Tryd.f7 rfl rfl rfl rfl rfl rfl rfl ⟨rfl, rfl, rfl, rfl, rfl⟩ rfl rfl rfl rfl rfl (by kernel_rfl) Tryd.func7 (by kernel_rfl)
    (of_decide_eq_true (by kernel_rfl)) (by unfold Func.isWrapper; first | (rw [if_pos (by decide +kernel)]; kernel_rfl) | (rw [if_neg (by decide +kernel)]; exact ⟨rfl, rfl⟩))
    (fun os started H enc _ => lifted os started H enc)

theorem proved : Rows.ListingPartsCardSaid :=
  Claim7.holds_tied_plain_at .later [] _ true _ true over (fun _ h => by cases h) (by kernel_rfl) (fun _ h => by cases h) listingParts_row_tie rfl ⟨rfl, rfl⟩ (by kernel_rfl) rfl
    (fun f fn hf hfn => by
      obtain rfl : f = 7 := Option.some.inj ((show Tryd.prog.funcNamed "taffrail/taffraillaw11.ListingParts" = some 7 by kernel_rfl).symm.trans hf) |>.symm
      obtain rfl : fn = Tryd.f7 := (Option.some.inj (Tryd.func7.symm.trans hfn)).symm
      refine ⟨by kernel_rfl, fun j t ht => ?_⟩
      rw [Tryd.params7] at ht
      have hm : t ∈ [9, 9] := by simpa using Array.mem_of_getElem? ht
      have hall : ([9, 9].all fun u => !Tryd.prog.wantsStandIn u) = true := by kernel_rfl
      exact (show Tryd.prog.wantsStandIn t = false by simpa using List.all_eq_true.1 hall t hm))
    (by kernel_rfl)
#print axioms proved

end Go.Proofs.YtlnlfeninjjkmaaDoor.ListingParts
