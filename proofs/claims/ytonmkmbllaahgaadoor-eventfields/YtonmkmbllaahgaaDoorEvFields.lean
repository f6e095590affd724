/-
  EventFields: for every kind and event the statement's function answers true: a kind has just the numbers that the document says; what it hasn't is 0 in every event that can be. Conditions: none beyond the card's own: the listed package variables start as the program's text lays them, which the card ties to that text.
-/
import Derived.Test.YtonmkmbllaahgaaDoorEvOpen
import Derived.Test.YtonmkmbllaahgaaDoorEvRef2
import Derived.Test.YtonmkmbllaahgaaDoorTie
import Derived.Test.YtonmkmbllaahgaaDoorCards
import Derived.ProofKit
import Derived.OpenShut
import Derived.ShutString
import Derived.LaidMore
import Derived.Lay
import Derived.SevenTiedAt
import Derived.Stop.Joined
import Derived.Deep.DeepHandedRow
namespace Go.Proofs.YtonmkmbllaahgaaDoor.EvFields
open Go.ChangeShapes Go.WideShapes Go.ChangeAt Go.RowKit
open Go.ChangeMaps (open_string shut_string)
set_option linter.unusedVariables false
set_option linter.unusedSimpArgs false

set_option maxRecDepth 100000 in
set_option maxHeartbeats 4000000 in
theorem walk_at (kind : Int) (e : Ev) (hA hB hV gA gB gV : Bool) (c : Int) (w : World) (hL : EvL w)
    (HF : Hid (∀ w', EvL w' → Calls Tryd.prog 12 #[.int .i64 kind] w' fun r w'' => r = .returned (.tuple #[.bool hA, .bool hB, .bool hV]) ∧ ∃ n, w'' = w'.drewN n))
    (HH : Hid (∀ w', Calls Tryd.prog 13 #[.int .i64 kind] w' fun r w'' => r = .returned (.agg #[.bool hA, .bool hB, .bool hV]) ∧ Below w'.heap.size w' w''))
    (HG : Hid (∀ w', EvL w' → Calls Tryd.prog 12 #[.int .i64 e.kind] w' fun r w'' => r = .returned (.tuple #[.bool gA, .bool gB, .bool gV]) ∧ ∃ n, w'' = w'.drewN n))
    (HC : Hid (∀ w', EvL w' → Calls Tryd.prog 10 #[evV e] w' fun r w'' => r = .returned (.int .i64 c) ∧ Below w'.heap.size w' w''))
    (za : Hid (c = 0 → gA = false → e.a = 0)) (zb : Hid (c = 0 → gB = false → e.b = 0)) (zv : Hid (c = 0 → gV = false → e.v = 0)) :
    Calls Tryd.prog 4 #[.int .i64 kind, evV e] w fun r w' => r = .returned (.bool true) ∧ Below w.heap.size w w' := by
  obtain ⟨w1, e1⟩ : ∃ w1, w1 = w.alloc (evO e) := ⟨_, rfl⟩
  obtain ⟨-, n1, b1⟩ := new_size e1
  have L1 := Lib.hid (hL.below b1)
  have B1 := Lib.hid b1
  have N1 := Lib.hid n1
  obtain ⟨D, hD⟩ : ∃ D, w.heap.size = D := ⟨_, rfl⟩
  rw [hD] at N1
  have HD := Lib.hid hD
  clear n1 b1 hL hD
  obtain ⟨k, cyc, cnt, a, b, v⟩ := e
  unfold evO at e1
  unfold evV at *
  simp only at *
  go_enter Tryd.func4, Tryd.ntmps4
  go_wp2_with fail
  rw [← e1, HD.out]
  clear e1
  refine (HF.out w1 L1.out).mono ?_
  rintro r w2 ⟨rfl, m, h2⟩
  have hb2 : Below w1.heap.size w1 w2 := by rw [h2]; exact below_drewN (Below.refl _ _) m
  have L2 := Lib.hid (L1.out.below hb2)
  have B2 := Lib.hid (B1.out.trans (hb2.mono B1.out.size))
  have N2 := Lib.hid ((hb2.block _ (blk_lt N1.out)).trans N1.out)
  obtain ⟨w3, e3⟩ : ∃ w3, w3 = w2 := ⟨_, rfl⟩
  rw [← e3]
  rw [← e3] at L2 B2 N2
  clear h2 hb2 L1 B1 N1 HF e3
  go_wp2_with fail
  refine (HH.out w3).mono ?_
  rintro r w4 ⟨rfl, h4⟩
  have L4 := L2.out.below h4
  have B4 := Lib.hid (B2.out.trans (h4.mono B2.out.size))
  have N4 := (h4.block _ (blk_lt N2.out)).trans N2.out
  obtain ⟨w5, e5⟩ : ∃ w5, w5 = w4.alloc (.cells #[.bool hA, .bool hB, .bool hV] 33) := ⟨_, rfl⟩
  obtain ⟨-, n5, b5⟩ := new_size e5
  have L5 := Lib.hid (L4.below b5)
  have B5 := Lib.hid (B4.out.trans (b5.mono B4.out.size))
  have N5 := Lib.hid ((b5.block _ (blk_lt N4)).trans N4)
  have M5 := Lib.hid n5
  obtain ⟨E, hE⟩ : ∃ E, w4.heap.size = E := ⟨_, rfl⟩
  rw [hE] at M5
  have HE := Lib.hid hE
  clear h4 L4 N4 b5 n5 hE L2 B2 N2 HH B4
  go_wp2_with fail
  rw [← e5, HE.out]
  clear e5
  refine (awake_any w5 L5.out).mono ?_
  rintro r w6 ⟨rfl, h6⟩
  have L6 := Lib.hid (L5.out.below h6)
  have B6 := Lib.hid (B5.out.trans (h6.mono B5.out.size))
  have N6 := (h6.block _ (blk_lt N5.out)).trans N5.out
  have M6 := (h6.block _ (blk_lt M5.out)).trans M5.out
  have m0 : w6.cell? ⟨E, 0, none⟩ = some (.bool hA) := by simp [World.cell?, M6]
  have m1 : w6.cell? ⟨E, 1, none⟩ = some (.bool hB) := by simp [World.cell?, M6]
  have m2 : w6.cell? ⟨E, 2, none⟩ = some (.bool hV) := by simp [World.cell?, M6]
  obtain ⟨c0, c1, c2, c3, c4, c5⟩ := evcells N6
  simp only at c0 c1 c2 c3 c4 c5
  have qA : (hA != hA) = false := by simp
  have qB : (hB != hB) = false := by simp
  have qV : (hV != hV) = false := by simp
  have HN6 := Lib.hid N6
  clear h6 N6 M6 L5 B5 N5 M5
  go_wp2_with fail
  refine (HG.out w6 L6.out).mono ?_
  rintro r w7 ⟨rfl, m', h7⟩
  have hb7 : Below w6.heap.size w6 w7 := by rw [h7]; exact below_drewN (Below.refl _ _) m'
  have L7 := Lib.hid (L6.out.below hb7)
  have B7 := Lib.hid (B6.out.trans (hb7.mono B6.out.size))
  have N7 := (hb7.block _ (blk_lt HN6.out)).trans HN6.out
  obtain ⟨w8, e8⟩ : ∃ w8, w8 = w7 := ⟨_, rfl⟩
  rw [← e8]
  rw [← e8] at L7 B7 N7
  clear c0 c1 c2 c3 c4 c5 m0 m1 m2 h7 hb7 e8 HG L6 B6 HN6
  obtain ⟨c0, c1, c2, c3, c4, c5⟩ := evcells N7
  simp only at c0 c1 c2 c3 c4 c5
  have HN7 := Lib.hid N7
  clear N7
  go_wp2_with fail
  refine (HC.out w8 L7.out).mono ?_
  rintro r w9 ⟨rfl, h9⟩
  have B9 := Lib.hid (B7.out.trans (h9.mono B7.out.size))
  have N9 := (h9.block _ (blk_lt HN7.out)).trans HN7.out
  clear c0 c1 c2 c3 c4 c5 h9 HC L7 B7 HN7
  obtain ⟨c0, c1, c2, c3, c4, c5⟩ := evcells N9
  simp only at c0 c1 c2 c3 c4 c5
  clear N9
  by_cases hc : c = 0
  · have hne : (c != 0) = false := by simp [hc]
    have pa := za.out hc
    have pb := zb.out hc
    have pv := zv.out hc
    clear za zb zv
    have ra : gA = true ∨ gA = false ∧ ((a : Int) == 0) = true := by cases gA <;> simp_all
    have rb : gB = true ∨ gB = false ∧ ((b : Int) == 0) = true := by cases gB <;> simp_all
    have rv : gV = true ∨ gV = false ∧ ((v : Int) == 0) = true := by cases gV <;> simp_all
    clear pa pb pv hc
    rcases ra with rfl | ⟨rfl, za⟩ <;> rcases rb with rfl | ⟨rfl, zb⟩ <;> rcases rv with rfl | ⟨rfl, zv⟩
    all_goals (go_wp2_with fail; go_ret; exact ⟨rfl, B9.out⟩)
  · have hne : (c != 0) = true := by simp [hc]
    clear za zb zv hc
    go_wp2_with fail
    go_ret
    exact ⟨rfl, B9.out⟩

theorem walk (kind : Int) (w0 : (Lit.int .i64 kind).wf = true) (e : Ev) (f : EvFits e) (w : World) (hL : EvL w) :
    Calls Tryd.prog 4 #[.int .i64 kind, evV e] w fun r w' => r = .returned (.bool true) ∧ Below w.heap.size w w' := by
  have fine := fun hc => check_fine (e := e) f.cnt f.cyc f.a f.b f.v hc
  exact walk_at kind e _ _ _ _ _ _ _ w hL (fun w' h' => fields_any kind w' h') (fun w' => rhas_is kind w') (fun w' h' => fields_any e.kind w' h') (fun w' h' => check_any e w' h') (fun hc => (fine hc).za) (fun hc => (fine hc).zb) (fun hc => (fine hc).zv)

theorem own : ownKnob Tryd.prog.godebug = none := by kernel_rfl
theorem laidOut : laidOutB Tryd.prog = true := by kernel_rfl

set_option maxRecDepth 100000 in
theorem lifted (os : Os) (started : os.Started) (H : Type) (enc : TypeId × Value → H) :
    ReturnsInHanded {} Tryd.checked os 4 .any (fun w args => (Rows.eventFieldsSpec.pre enc Tryd.prog Tryd.f4 Rows.eventFieldsRow.domain false w args ∧ laidMetH Tryd.prog laidL w) ∧ sizedMet enc Tryd.prog Tryd.f4 (OpenSpec.ofChange Rows.eventFieldsSpec) false w args) (Rows.eventFieldsSpec.post enc Tryd.prog Tryd.f4 false true false false) := by
  refine returnsInHanded_of_row (s := OpenSpec.ofChange Rows.eventFieldsSpec) (F := fun _ _ _ => 0) (laid := laidL) (C := Tryd.checked) own started (by kernel_rfl) Tryd.func4
    (ChangeSpec.witness_shaped (enc := enc) (C := Tryd.checked) (os := os) (s := Rows.eventFieldsSpec) (X := fun w _ => laidMetH Tryd.prog laidL w) false (World.laidAll Tryd.prog os laidL) #[.int .i64 0, .agg #[.int .i64 0, .int .u64 0, .int .u64 0, .int .u32 0, .int .u32 0, .int .u32 0]] 8 (World.laidAll_os _ _ _)
      (World.shaped_of_ZipB (by kernel_rfl) (by kernel_rfl)) (by kernel_rfl) (by kernel_rfl) (by kernel_rfl)
      (by rw [MakeChecks.laidMetH_plain _ _ _ (by kernel_rfl)]; exact laidMet_laidAll _ (by kernel_rfl) (by kernel_rfl))) ?_
  intro W base args ds gs before hval0 hW hcnd _ hsz0 hL hsh _
  have hval : ∀ (j : Nat) t v, Tryd.f4.params[j]? = some t → args[j]? = some v → Value.okWide Tryd.prog W .any base t v := hval0
  have hW' := hW
  obtain ⟨p, q, hA0, hV, rfl, hfz, hnd⟩ := hW
  have hA : DataW.TrodAll enc Tryd.prog W 0 (fun _ => true) true Tryd.f4.params.toList args.toList ds p := hA0
  rw [Tryd.params4] at hA hval
  obtain ⟨v0, vs0, d0, ds0, p0, q0, hargs, rfl, rfl, h0, r0⟩ := trodAll_cons hA
  obtain ⟨v1, vs1, d1, ds1, p1, q1, rfl, rfl, rfl, h1, r1⟩ := trodAll_cons r0
  obtain ⟨rfl, rfl, rfl⟩ := trodAll_nil r1
  obtain rfl : args = #[v0, v1] := by cases args; simp_all
  obtain ⟨rfl, rfl⟩ := trodVars_none hV
  have k0 := h0
  have lt0 : ∀ x ∈ p0, x.block < W.heap.size := by obtain ⟨m, hm⟩ := k0; exact DataW.trod_lt m _ _ _ hm
  have k1 := h1
  have lt1 : ∀ x ∈ p1, x.block < W.heap.size := by obtain ⟨m, hm⟩ := k1; exact DataW.trod_lt m _ _ _ hm
  obtain ⟨a0, rfl, rfl, rfl, w0⟩ := open_int Tryd.underlying3 (hval 0 3 v0 rfl rfl) h0
  obtain ⟨a1, rfl, w1⟩ := open_ev (hval 1 25 v1 rfl rfl) h1
  clear hA0 hval0
  refine (walk a0 w0 a1 w1 W (of_laid hL hsh)).mono fun e W' ⟨he, bel⟩ => ?_
  subst he
  exact ⟨_, rfl, _, _, _, [], _, [], hW', trodAll_mk1 (shut_bool Tryd.underlying4 _), (trodAll_cons_mk (Below.trod laidOut (by kernel_rfl) (of_decide_eq_true (by kernel_rfl)) k0 bel lt0) (trodAll_cons_mk (Below.trod laidOut (by kernel_rfl) (of_decide_eq_true (by kernel_rfl)) k1 bel lt1) trodAll_mk0)), rfl, bel.frame _, fun h => by cases h⟩

theorem over : Rows.EventFieldsSaid :=
  OpenClaim.holds_of_wide 4 Tryd.f4 rfl rfl rfl rfl rfl rfl rfl ⟨rfl, rfl, rfl, rfl, rfl⟩ rfl rfl rfl rfl rfl (by kernel_rfl) Tryd.func4 (by kernel_rfl)
    (of_decide_eq_true (by kernel_rfl)) (by unfold Func.isWrapper; first | (rw [if_pos (by decide +kernel)]; kernel_rfl) | (rw [if_neg (by decide +kernel)]; exact ⟨rfl, rfl⟩))
    (fun os started H enc _ => lifted os started H enc)

theorem proved : Rows.EventFieldsCardSaid :=
  Claim7.holds_tied_plain_at .later [] _ true _ true over (fun _ h => by cases h) (by kernel_rfl) (fun _ h => by cases h) eventFields_row_tie rfl ⟨rfl, rfl⟩ (by kernel_rfl) rfl
    (fun f fn hf hfn => by
      obtain rfl : f = 4 := Option.some.inj ((show Tryd.prog.funcNamed "taffrail/taffraillaw05.EventFields" = some 4 by kernel_rfl).symm.trans hf) |>.symm
      obtain rfl : fn = Tryd.f4 := (Option.some.inj (Tryd.func4.symm.trans hfn)).symm
      refine ⟨by kernel_rfl, fun j t ht => ?_⟩
      rw [Tryd.params4] at ht
      have hm : t ∈ [3, 25] := by simpa using Array.mem_of_getElem? ht
      have hall : ([3, 25].all fun u => !Tryd.prog.wantsStandIn u) = true := by kernel_rfl
      exact (show Tryd.prog.wantsStandIn t = false by simpa using List.all_eq_true.1 hall t hm))
    (by kernel_rfl)
#print axioms proved
end Go.Proofs.YtonmkmbllaahgaaDoor.EvFields
