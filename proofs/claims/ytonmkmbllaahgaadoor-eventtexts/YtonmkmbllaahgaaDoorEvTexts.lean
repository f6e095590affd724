/-
  EventTexts: for every event and line the statement's function answers true: Text and Parse answer as the document's own do. Conditions: none beyond the card's own: the listed package variables start as the program's text lays them, which the card ties to that text.
-/
import Derived.Test.YtonmkmbllaahgaaDoorEvRef8
import Derived.Test.YtonmkmbllaahgaaDoorEvOpen
import Derived.Test.YtonmkmbllaahgaaDoorTie
import Derived.Test.YtonmkmbllaahgaaDoorCards
import Derived.ProofKit
import Derived.OpenShut
import Derived.ShutString
import Derived.LaidMore
import Derived.Lay
import Derived.SevenTiedAt
import Derived.Stop.Joined
import Derived.Deep.DeepHandedRow
namespace Go.Proofs.YtonmkmbllaahgaaDoor.EvTexts
open Go.ChangeShapes Go.WideShapes Go.ChangeAt Go.RowKit
open Go.ChangeMaps (open_string shut_string)
set_option linter.unusedVariables false
set_option linter.unusedSimpArgs false

set_option maxRecDepth 100000 in
set_option maxHeartbeats 2000000 in
theorem walk_long (e : Ev) (s : ByteArray) (hl : (300 : Int) < (s.size : Int)) (w : World) (hL : EvL w) :
    Calls Tryd.prog 7 #[evV e, .string s] w fun r w' => r = .returned (.bool true) ∧ Below w.heap.size w w' := by
  obtain ⟨w1, e1⟩ : ∃ w1, w1 = w.alloc (evO e) := ⟨_, rfl⟩
  obtain ⟨-, -, b1⟩ := new_size e1
  have HA := Lib.hid (awake_any w1 (hL.below b1))
  have HL1 := Lib.hid (hL.below b1)
  have B1 := Lib.hid b1
  clear b1 hL
  unfold evO at e1
  unfold evV
  go_enter Tryd.func7, Tryd.ntmps7
  go_wp2_with fail
  rw [← e1]
  clear e1
  refine HA.out.mono ?_
  rintro r w2 ⟨rfl, h2⟩
  have L2 := Lib.hid (HL1.out.below h2)
  have B2 := Lib.hid (B1.out.trans (h2.mono B1.out.size))
  clear h2 HA HL1 B1
  go_wp2_with fail
  refine (awake_any w2 L2.out).mono ?_
  rintro r w3 ⟨rfl, h3⟩
  have B3 := Lib.hid (B2.out.trans (h3.mono B2.out.size))
  clear h3
  go_wp2_with fail
  go_ret
  exact ⟨rfl, B3.out⟩

set_option maxRecDepth 100000 in
set_option maxHeartbeats 4000000 in
theorem walk_yes (e x : Ev) (s : ByteArray) (hl : decide ((300 : Int) < (s.size : Int)) = false) (g : Int) (t : ByteArray) (HT : Hid (∀ w', EvL w' → Calls Tryd.prog 18 #[evV e] w' fun r w'' => r = .returned (.tuple #[.string t, .int .i64 0]) ∧ Below w'.heap.size w' w'')) (HC : Hid (∀ w', Calls Tryd.prog 11 #[evV e] w' fun r w'' => r = .returned (.int .i64 0) ∧ Below w'.heap.size w' w'')) (HU : Hid (∀ w', Calls Tryd.prog 19 #[evV e] w' fun r w'' => r = .returned (.string t) ∧ Below w'.heap.size w' w'')) (HP : Hid (∀ w', EvL w' → Calls Tryd.prog 20 #[.string s] w' fun r w'' => r = .returned (.tuple #[evV x, .int .i64 g]) ∧ Below w'.heap.size w' w'')) (HQ : Hid (∀ w', Calls Tryd.prog 21 #[.string s] w' fun r w'' => r = .returned (.tuple #[evV x, .int .i64 g]) ∧ Below w'.heap.size w' w'')) (w : World) (hL : EvL w) :
    Calls Tryd.prog 7 #[evV e, .string s] w fun r w' => r = .returned (.bool true) ∧ Below w.heap.size w w' := by
  obtain ⟨w1, e1⟩ : ∃ w1, w1 = w.alloc (evO e) := ⟨_, rfl⟩
  obtain ⟨-, n1, b1⟩ := new_size e1
  have HA := Lib.hid (awake_any w1 (hL.below b1))
  have HL1 := Lib.hid (hL.below b1)
  have B1 := Lib.hid b1
  have N1 := Lib.hid n1
  obtain ⟨D, hD⟩ : ∃ D, w.heap.size = D := ⟨_, rfl⟩
  rw [hD] at N1
  have HD := Lib.hid hD
  clear b1 hL n1 hD
  obtain ⟨k, cyc, cnt, a, b, v⟩ := e
  obtain ⟨k', cyc', cnt', a', b', v'⟩ := x
  unfold evO at e1
  unfold evV at *
  simp only at *
  go_enter Tryd.func7, Tryd.ntmps7
  go_wp2_with fail
  rw [← e1, HD.out]
  clear e1
  refine HA.out.mono ?_
  rintro r w2 ⟨rfl, h2⟩
  have L2 := Lib.hid (HL1.out.below h2)
  have B2 := Lib.hid (B1.out.trans (h2.mono B1.out.size))
  have N2 := (h2.block _ (blk_lt N1.out)).trans N1.out
  obtain ⟨c0, c1, c2, c3, c4, c5⟩ := evcells N2
  simp only at c0 c1 c2 c3 c4 c5
  have HN2 := Lib.hid N2
  clear h2 HA HL1 B1 N1 N2
  go_wp2_with fail
  refine (HT.out w2 L2.out).mono ?_
  rintro r w3 ⟨rfl, h3⟩
  have L3 := Lib.hid (L2.out.below h3)
  have B3 := Lib.hid (B2.out.trans (h3.mono B2.out.size))
  have HN3 := Lib.hid ((h3.block _ (blk_lt HN2.out)).trans HN2.out)
  clear h3 c0 c1 c2 c3 c4 c5 L2 B2 HN2 HT
  obtain ⟨c0, c1, c2, c3, c4, c5⟩ := evcells HN3.out
  simp only at c0 c1 c2 c3 c4 c5
  go_wp2_with fail
  refine (HC.out w3).mono ?_
  rintro r w4 ⟨rfl, h4⟩
  have L4 := Lib.hid (L3.out.below h4)
  have B4 := Lib.hid (B3.out.trans (h4.mono B3.out.size))
  have HN4 := Lib.hid ((h4.block _ (blk_lt HN3.out)).trans HN3.out)
  clear h4 c0 c1 c2 c3 c4 c5 L3 B3 HN3 HC
  obtain ⟨c0, c1, c2, c3, c4, c5⟩ := evcells HN4.out
  simp only at c0 c1 c2 c3 c4 c5
  go_wp2_with fail
  refine (HU.out w4).mono ?_
  rintro r w5 ⟨rfl, h5⟩
  have L5 := Lib.hid (L4.out.below h5)
  have B5 := Lib.hid (B4.out.trans (h5.mono B4.out.size))
  clear h5 c0 c1 c2 c3 c4 c5 L4 B4 HN4 HU
  go_wp2_with fail
  refine (HP.out w5 L5.out).mono ?_
  rintro r w6 ⟨rfl, h6⟩
  have B6 := Lib.hid (B5.out.trans (h6.mono B5.out.size))
  obtain ⟨w7, e7⟩ : ∃ w7, w7 = w6.alloc (evO ⟨k', cyc', cnt', a', b', v'⟩) := ⟨_, rfl⟩
  obtain ⟨-, n7, b7⟩ := new_size e7
  have B7 := Lib.hid (B6.out.trans (b7.mono B6.out.size))
  obtain ⟨X, hX⟩ : ∃ X, w6.heap.size = X := ⟨_, rfl⟩
  rw [hX] at n7
  have N7 := Lib.hid n7
  have HXX := Lib.hid hX
  unfold evO at e7
  simp only at e7
  clear h6 b7 n7 L5 B5 HP hX
  go_wp2_with fail
  rw [← e7, HXX.out]
  clear e7 HXX
  refine (HQ.out w7).mono ?_
  rintro r w8 ⟨rfl, h8⟩
  have B8 := Lib.hid (B7.out.trans (h8.mono B7.out.size))
  have N8 := (h8.block _ (blk_lt N7.out)).trans N7.out
  obtain ⟨w9, e9⟩ : ∃ w9, w9 = w8.alloc (evO ⟨k', cyc', cnt', a', b', v'⟩) := ⟨_, rfl⟩
  obtain ⟨-, n9, b9⟩ := new_size e9
  have B9 := Lib.hid (B8.out.trans (b9.mono B8.out.size))
  have N9 := (b9.block _ (blk_lt N8)).trans N8
  obtain ⟨c0, c1, c2, c3, c4, c5⟩ := evcells N9
  obtain ⟨d0, d1, d2, d3, d4, d5⟩ := evcells n9
  simp only at c0 c1 c2 c3 c4 c5 d0 d1 d2 d3 d4 d5
  unfold evO at e9
  simp only at e9
  subst e9
  clear h8 N8 N9 n9 b9 B8 N7 B7 B6 HQ
  go_wp2_with fail
  go_ret
  exact ⟨by simp, B9.out⟩

set_option maxRecDepth 100000 in
set_option maxHeartbeats 4000000 in
theorem walk_no (e x : Ev) (s : ByteArray) (hl : decide ((300 : Int) < (s.size : Int)) = false) (g : Int) (c : Int) (hc : (c != 0) = true) (hc2 : (c == 0) = false) (HT : Hid (∀ w', EvL w' → Calls Tryd.prog 18 #[evV e] w' fun r w'' => r = .returned (.tuple #[.string ⟨#[]⟩, .int .i64 c]) ∧ Below w'.heap.size w' w'')) (HC : Hid (∀ w', Calls Tryd.prog 11 #[evV e] w' fun r w'' => r = .returned (.int .i64 c) ∧ Below w'.heap.size w' w'')) (HP : Hid (∀ w', EvL w' → Calls Tryd.prog 20 #[.string s] w' fun r w'' => r = .returned (.tuple #[evV x, .int .i64 g]) ∧ Below w'.heap.size w' w'')) (HQ : Hid (∀ w', Calls Tryd.prog 21 #[.string s] w' fun r w'' => r = .returned (.tuple #[evV x, .int .i64 g]) ∧ Below w'.heap.size w' w'')) (w : World) (hL : EvL w) :
    Calls Tryd.prog 7 #[evV e, .string s] w fun r w' => r = .returned (.bool true) ∧ Below w.heap.size w w' := by
  obtain ⟨w1, e1⟩ : ∃ w1, w1 = w.alloc (evO e) := ⟨_, rfl⟩
  obtain ⟨-, n1, b1⟩ := new_size e1
  have HA := Lib.hid (awake_any w1 (hL.below b1))
  have HL1 := Lib.hid (hL.below b1)
  have B1 := Lib.hid b1
  have N1 := Lib.hid n1
  obtain ⟨D, hD⟩ : ∃ D, w.heap.size = D := ⟨_, rfl⟩
  rw [hD] at N1
  have HD := Lib.hid hD
  clear b1 hL n1 hD
  obtain ⟨k, cyc, cnt, a, b, v⟩ := e
  obtain ⟨k', cyc', cnt', a', b', v'⟩ := x
  unfold evO at e1
  unfold evV at *
  simp only at *
  go_enter Tryd.func7, Tryd.ntmps7
  go_wp2_with fail
  rw [← e1, HD.out]
  clear e1
  refine HA.out.mono ?_
  rintro r w2 ⟨rfl, h2⟩
  have L2 := Lib.hid (HL1.out.below h2)
  have B2 := Lib.hid (B1.out.trans (h2.mono B1.out.size))
  have N2 := (h2.block _ (blk_lt N1.out)).trans N1.out
  obtain ⟨c0, c1, c2, c3, c4, c5⟩ := evcells N2
  simp only at c0 c1 c2 c3 c4 c5
  have HN2 := Lib.hid N2
  clear h2 HA HL1 B1 N1 N2
  go_wp2_with fail
  refine (HT.out w2 L2.out).mono ?_
  rintro r w3 ⟨rfl, h3⟩
  have L3 := Lib.hid (L2.out.below h3)
  have B3 := Lib.hid (B2.out.trans (h3.mono B2.out.size))
  have HN3 := Lib.hid ((h3.block _ (blk_lt HN2.out)).trans HN2.out)
  clear h3 c0 c1 c2 c3 c4 c5 L2 B2 HN2 HT
  obtain ⟨c0, c1, c2, c3, c4, c5⟩ := evcells HN3.out
  simp only at c0 c1 c2 c3 c4 c5
  go_wp2_with fail
  refine (HC.out w3).mono ?_
  rintro r w4 ⟨rfl, h4⟩
  have L4 := Lib.hid (L3.out.below h4)
  have B4 := Lib.hid (B3.out.trans (h4.mono B3.out.size))
  have HN4 := Lib.hid ((h4.block _ (blk_lt HN3.out)).trans HN3.out)
  clear h4 c0 c1 c2 c3 c4 c5 L3 B3 HN3 HC
  obtain ⟨c0, c1, c2, c3, c4, c5⟩ := evcells HN4.out
  simp only at c0 c1 c2 c3 c4 c5
  go_wp2_with fail
  clear c0 c1 c2 c3 c4 c5 HN4
  obtain ⟨w5, e5⟩ : ∃ w5, w5 = w4 := ⟨_, rfl⟩
  rw [← e5] at L4 B4 ⊢
  have L5 := L4
  have B5 := B4
  clear e5 L4 B4
  refine (HP.out w5 L5.out).mono ?_
  rintro r w6 ⟨rfl, h6⟩
  have B6 := Lib.hid (B5.out.trans (h6.mono B5.out.size))
  obtain ⟨w7, e7⟩ : ∃ w7, w7 = w6.alloc (evO ⟨k', cyc', cnt', a', b', v'⟩) := ⟨_, rfl⟩
  obtain ⟨-, n7, b7⟩ := new_size e7
  have B7 := Lib.hid (B6.out.trans (b7.mono B6.out.size))
  obtain ⟨X, hX⟩ : ∃ X, w6.heap.size = X := ⟨_, rfl⟩
  rw [hX] at n7
  have N7 := Lib.hid n7
  have HXX := Lib.hid hX
  unfold evO at e7
  simp only at e7
  clear h6 b7 n7 L5 B5 HP hX
  go_wp2_with fail
  rw [← e7, HXX.out]
  clear e7 HXX
  refine (HQ.out w7).mono ?_
  rintro r w8 ⟨rfl, h8⟩
  have B8 := Lib.hid (B7.out.trans (h8.mono B7.out.size))
  have N8 := (h8.block _ (blk_lt N7.out)).trans N7.out
  obtain ⟨w9, e9⟩ : ∃ w9, w9 = w8.alloc (evO ⟨k', cyc', cnt', a', b', v'⟩) := ⟨_, rfl⟩
  obtain ⟨-, n9, b9⟩ := new_size e9
  have B9 := Lib.hid (B8.out.trans (b9.mono B8.out.size))
  have N9 := (b9.block _ (blk_lt N8)).trans N8
  obtain ⟨c0, c1, c2, c3, c4, c5⟩ := evcells N9
  obtain ⟨d0, d1, d2, d3, d4, d5⟩ := evcells n9
  simp only at c0 c1 c2 c3 c4 c5 d0 d1 d2 d3 d4 d5
  unfold evO at e9
  simp only at e9
  subst e9
  clear h8 N8 N9 n9 b9 B8 N7 B7 B6 HQ
  go_wp2_with fail
  go_ret
  exact ⟨by simp, B9.out⟩

theorem walk (e : Ev) (f : EvFits e) (s : ByteArray) (hs : s.size ≤ maxLen) (w : World) (hL : EvL w) :
    Calls Tryd.prog 7 #[evV e, .string s] w fun r w' => r = .returned (.bool true) ∧ Below w.heap.size w w' := by
  by_cases hl : (300 : Int) < (s.size : Int)
  · exact walk_long e s hl w hL
  · have hp := fun w' h' => parse_any s (by omega) w' h'
    have hq := fun w' => rparse_any s (by omega) w'
    have hl' : decide ((300 : Int) < (s.size : Int)) = false := by simp; omega
    by_cases hc : checkN e = 0
    · have fe := check_fine f.cnt f.cyc f.a f.b f.v hc
      refine walk_yes e _ s hl' _ (bytesOf (textL e)) (fun w' h' => text_ok e fe hc w' h') (fun w' => ?_) (fun w' => rtext_any e fe w') hp hq w hL
      have := rcheck_any e w'
      rw [hc] at this
      exact this
    · exact walk_no e _ s hl' _ (checkN e) (by simp [hc]) (by simp [hc]) (fun w' h' => text_bad e hc w' h') (fun w' => rcheck_any e w') hp hq w hL

theorem own : ownKnob Tryd.prog.godebug = none := by kernel_rfl
theorem laidOut : laidOutB Tryd.prog = true := by kernel_rfl

set_option maxRecDepth 100000 in
theorem lifted (os : Os) (started : os.Started) (H : Type) (enc : TypeId × Value → H) :
    ReturnsInHanded {} Tryd.checked os 7 .any (fun w args => (Rows.eventTextsSpec.pre enc Tryd.prog Tryd.f7 Rows.eventTextsRow.domain false w args ∧ laidMetH Tryd.prog laidL w) ∧ sizedMet enc Tryd.prog Tryd.f7 (OpenSpec.ofChange Rows.eventTextsSpec) false w args) (Rows.eventTextsSpec.post enc Tryd.prog Tryd.f7 false true false false) := by
  refine returnsInHanded_of_row (s := OpenSpec.ofChange Rows.eventTextsSpec) (F := fun _ _ _ => 0) (laid := laidL) (C := Tryd.checked) own started (by kernel_rfl) Tryd.func7
    (ChangeSpec.witness_shaped (enc := enc) (C := Tryd.checked) (os := os) (s := Rows.eventTextsSpec) (X := fun w _ => laidMetH Tryd.prog laidL w) false (World.laidAll Tryd.prog os laidL) #[.agg #[.int .i64 0, .int .u64 0, .int .u64 0, .int .u32 0, .int .u32 0, .int .u32 0], .string ByteArray.empty] 8 (World.laidAll_os _ _ _)
      (World.shaped_of_ZipB (by kernel_rfl) (by kernel_rfl)) (by kernel_rfl) (by kernel_rfl) (by kernel_rfl)
      (by rw [MakeChecks.laidMetH_plain _ _ _ (by kernel_rfl)]; exact laidMet_laidAll _ (by kernel_rfl) (by kernel_rfl))) ?_
  intro W base args ds gs before hval0 hW hcnd _ hsz0 hL hsh _
  have hval : ∀ (j : Nat) t v, Tryd.f7.params[j]? = some t → args[j]? = some v → Value.okWide Tryd.prog W .any base t v := hval0
  have hW' := hW
  obtain ⟨p, q, hA0, hV, rfl, hfz, hnd⟩ := hW
  have hA : DataW.TrodAll enc Tryd.prog W 0 (fun _ => true) true Tryd.f7.params.toList args.toList ds p := hA0
  rw [Tryd.params7] at hA hval
  obtain ⟨v0, vs0, d0, ds0, p0, q0, hargs, rfl, rfl, h0, r0⟩ := trodAll_cons hA
  obtain ⟨v1, vs1, d1, ds1, p1, q1, rfl, rfl, rfl, h1, r1⟩ := trodAll_cons r0
  obtain ⟨rfl, rfl, rfl⟩ := trodAll_nil r1
  obtain rfl : args = #[v0, v1] := by cases args; simp_all
  obtain ⟨rfl, rfl⟩ := trodVars_none hV
  have k0 := h0
  have lt0 : ∀ x ∈ p0, x.block < W.heap.size := by obtain ⟨m, hm⟩ := k0; exact DataW.trod_lt m _ _ _ hm
  have k1 := h1
  have lt1 : ∀ x ∈ p1, x.block < W.heap.size := by obtain ⟨m, hm⟩ := k1; exact DataW.trod_lt m _ _ _ hm
  obtain ⟨a0, rfl, w0⟩ := open_ev (hval 0 25 v0 rfl rfl) h0
  obtain ⟨a1, rfl, rfl, rfl, w1⟩ := open_string Tryd.underlying9 (hval 1 9 v1 rfl rfl) h1
  clear hA0 hval0
  refine (walk a0 w0 a1 w1 W (of_laid hL hsh)).mono fun e W' ⟨he, bel⟩ => ?_
  subst he
  exact ⟨_, rfl, _, _, _, [], _, [], hW', trodAll_mk1 (shut_bool Tryd.underlying4 _), (trodAll_cons_mk (Below.trod laidOut (by kernel_rfl) (of_decide_eq_true (by kernel_rfl)) k0 bel lt0) (trodAll_cons_mk (Below.trod laidOut (by kernel_rfl) (of_decide_eq_true (by kernel_rfl)) k1 bel lt1) trodAll_mk0)), rfl, bel.frame _, fun h => by cases h⟩

theorem over : Rows.EventTextsSaid :=
  OpenClaim.holds_of_wide 7 Tryd.f7 rfl rfl rfl rfl rfl rfl rfl ⟨rfl, rfl, rfl, rfl, rfl⟩ rfl rfl rfl rfl rfl (by kernel_rfl) Tryd.func7 (by kernel_rfl)
    (of_decide_eq_true (by kernel_rfl)) (by unfold Func.isWrapper; first | (rw [if_pos (by decide +kernel)]; kernel_rfl) | (rw [if_neg (by decide +kernel)]; exact ⟨rfl, rfl⟩))
    (fun os started H enc _ => lifted os started H enc)

theorem proved : Rows.EventTextsCardSaid :=
  Claim7.holds_tied_plain_at .later [] _ true _ true over (fun _ h => by cases h) (by kernel_rfl) (fun _ h => by cases h) eventTexts_row_tie rfl ⟨rfl, rfl⟩ (by kernel_rfl) rfl
    (fun f fn hf hfn => by
      obtain rfl : f = 7 := Option.some.inj ((show Tryd.prog.funcNamed "taffrail/taffraillaw05.EventTexts" = some 7 by kernel_rfl).symm.trans hf) |>.symm
      obtain rfl : fn = Tryd.f7 := (Option.some.inj (Tryd.func7.symm.trans hfn)).symm
      refine ⟨by kernel_rfl, fun j t ht => ?_⟩
      rw [Tryd.params7] at ht
      have hm : t ∈ [25, 9] := by simpa using Array.mem_of_getElem? ht
      have hall : ([25, 9].all fun u => !Tryd.prog.wantsStandIn u) = true := by kernel_rfl
      exact (show Tryd.prog.wantsStandIn t = false by simpa using List.all_eq_true.1 hall t hm))
    (by kernel_rfl)
#print axioms proved
end Go.Proofs.YtonmkmbllaahgaaDoor.EvTexts
