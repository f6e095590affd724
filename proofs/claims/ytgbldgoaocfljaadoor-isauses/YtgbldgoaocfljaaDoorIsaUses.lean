/-
  IsaUses: for every number and instruction the statement's function answers true: an instruction has just the fields that the document says; another field is 0 in each that can be. Conditions: none beyond the card's own: the listed package variables start as the program's text lays them, which the card ties to that text.
-/
import Derived.Test.YtgbldgoaocfljaaDoorIsR3
import Derived.Test.YtgbldgoaocfljaaDoorIsAw
import Derived.Test.YtgbldgoaocfljaaDoorIsLw
import Derived.Test.YtgbldgoaocfljaaDoorTie
import Derived.Test.YtgbldgoaocfljaaDoorCards
import Derived.ProofKit
import Derived.OpenShut
import Derived.ShutString
import Derived.LaidMore
import Derived.Lay
import Derived.SevenTiedAt
import Derived.Stop.Joined
import Derived.Deep.DeepHandedRow
import Derived.BigRegion
import Derived.Deep.RegionWith
import Derived.Deep.DeepCutAuto
namespace Go.Proofs.YtgbldgoaocfljaaDoor.IsaUses
open Go.ChangeShapes Go.WideShapes Go.ChangeAt Go.RowKit
open Go.ChangeMaps (open_string shut_string)
set_option linter.unusedVariables false
set_option linter.unusedSimpArgs false

set_option maxRecDepth 100000 in
set_option maxHeartbeats 2000000 in
theorem walk_at (kind : Int) (i : Ins) (S : ByteArray) (hA hB hC hD hK gA gB gC gD gK : Bool) (x : Int) (w : World) (hL : IsL w)
    (HU : Hid (∀ w', IsL w' → Calls Tryd.prog 15 #[.int .i64 kind] w' fun r w'' => r = .returned (.tuple #[.bool hA, .bool hB, .bool hC, .bool hD, .bool hK]) ∧ w' = w''))
    (HH : Hid (∀ w', Calls Tryd.prog 16 #[.int .i64 kind] w' fun r w'' => r = .returned (.string S) ∧ w' = w''))
    (IA : Hid (∀ w', Calls Tryd.prog 17 #[.string S, .int .u8 65] w' fun r w'' => r = .returned (.bool hA) ∧ w' = w''))
    (IB : Hid (∀ w', Calls Tryd.prog 17 #[.string S, .int .u8 66] w' fun r w'' => r = .returned (.bool hB) ∧ w' = w''))
    (IC : Hid (∀ w', Calls Tryd.prog 17 #[.string S, .int .u8 67] w' fun r w'' => r = .returned (.bool hC) ∧ w' = w''))
    (ID : Hid (∀ w', Calls Tryd.prog 17 #[.string S, .int .u8 68] w' fun r w'' => r = .returned (.bool hD) ∧ w' = w''))
    (IK : Hid (∀ w', Calls Tryd.prog 17 #[.string S, .int .u8 75] w' fun r w'' => r = .returned (.bool hK) ∧ w' = w''))
    (HG : Hid (∀ w', IsL w' → Calls Tryd.prog 15 #[.int .i64 i.op] w' fun r w'' => r = .returned (.tuple #[.bool gA, .bool gB, .bool gC, .bool gD, .bool gK]) ∧ w' = w''))
    (HF : Hid (∀ w', IsL w' → Calls Tryd.prog 9 #[insV i] w' fun r w'' => r = .returned (.int .i64 x) ∧ Below w'.heap.size w' w''))
    (za : Hid (x = 0 → gA = false → i.a = 0)) (zb : Hid (x = 0 → gB = false → i.b = 0)) (zc : Hid (x = 0 → gC = false → i.c = 0)) (zd : Hid (x = 0 → gD = false → i.d = 0)) (zk : Hid (x = 0 → gK = false → i.k = 0)) :
    Calls Tryd.prog 5 #[.int .i64 kind, insV i] w fun r w' => r = .returned (.bool true) ∧ Below w.heap.size w w' := by
  obtain ⟨w1, e1⟩ : ∃ w1, w1 = w.alloc (insO i) := ⟨_, rfl⟩
  obtain ⟨-, n1, b1⟩ := new_size e1
  have HL := Lib.hid (hL.below b1)
  have B1 := Lib.hid b1
  have N1 := Lib.hid n1
  obtain ⟨op, a, b, c, d, k⟩ := i
  obtain ⟨D, hD⟩ : ∃ D, w.heap.size = D := ⟨_, rfl⟩
  rw [hD] at N1
  have HD := Lib.hid hD
  unfold insO at e1
  unfold insV at *
  simp only at *
  clear n1 b1 hL hD
  go_enter Tryd.func5, Tryd.ntmps5
  go_wp2_with fail
  rw [← e1, HD.out]
  clear e1
  refine (HU.out w1 HL.out).mono ?_
  rintro r w2 ⟨rfl, rfl⟩
  go_wp2_with fail
  refine (HH.out w1).mono ?_
  rintro r w2 ⟨rfl, rfl⟩
  go_wp2_with fail
  refine (awake10_any w1 HL.out).mono ?_
  rintro r w2 ⟨rfl, h2⟩
  have L2 := Lib.hid (HL.out.below h2)
  have B2 := Lib.hid (below_on B1.out h2)
  have n2 := blk_on h2 N1.out
  have N2 := Lib.hid n2
  obtain ⟨c0, c1, c2, c3, c4, c5⟩ := inscells n2
  simp only at c0 c1 c2 c3 c4 c5
  clear n2 h2 HL B1 N1 HU HH
  have qA : (hA != hA) = false := by simp
  have qB : (hB != hB) = false := by simp
  have qC : (hC != hC) = false := by simp
  have qD : (hD != hD) = false := by simp
  have qK : (hK != hK) = false := by simp
  go_wp2_with fail
  refine (IA.out w2).mono ?_
  rintro r w3 ⟨rfl, rfl⟩
  go_wp2_with fail
  refine (IB.out w2).mono ?_
  rintro r w3 ⟨rfl, rfl⟩
  go_wp2_with fail
  refine (IC.out w2).mono ?_
  rintro r w3 ⟨rfl, rfl⟩
  go_wp2_with fail
  refine (ID.out w2).mono ?_
  rintro r w3 ⟨rfl, rfl⟩
  go_wp2_with fail
  refine (IK.out w2).mono ?_
  rintro r w3 ⟨rfl, rfl⟩
  clear IA IB IC ID IK
  go_wp2_with fail
  refine (HG.out w2 L2.out).mono ?_
  rintro r w3 ⟨rfl, rfl⟩
  clear HG qA qB qC qD qK
  go_wp2_with fail
  refine (HF.out w2 L2.out).mono ?_
  rintro r w3 ⟨rfl, h3⟩
  have B3 := Lib.hid (below_on B2.out h3)
  have n3 := blk_on h3 N2.out
  clear c0 c1 c2 c3 c4 c5 h3 HF L2 B2 N2
  obtain ⟨c0, c1, c2, c3, c4, c5⟩ := inscells n3
  simp only at c0 c1 c2 c3 c4 c5
  clear n3
  by_cases hx : x = 0
  · have hne : (x != 0) = false := by simp [hx]
    have pa := za.out hx
    have pb := zb.out hx
    have pc := zc.out hx
    have pd := zd.out hx
    have pk := zk.out hx
    clear za zb zc zd zk
    have ra : gA = true ∨ gA = false ∧ (a == 0) = true := by cases gA <;> simp_all
    have rb : gB = true ∨ gB = false ∧ (b == 0) = true := by cases gB <;> simp_all
    have rc : gC = true ∨ gC = false ∧ (c == 0) = true := by cases gC <;> simp_all
    have rd : gD = true ∨ gD = false ∧ (d == 0) = true := by cases gD <;> simp_all
    have rk : gK = true ∨ gK = false ∧ ((k : Int) == 0) = true := by cases gK <;> simp_all
    clear pa pb pc pd pk hx
    rcases ra with rfl | ⟨rfl, za⟩ <;> rcases rb with rfl | ⟨rfl, zb⟩ <;> rcases rc with rfl | ⟨rfl, zc⟩ <;> rcases rd with rfl | ⟨rfl, zd⟩ <;> rcases rk with rfl | ⟨rfl, zk⟩
    all_goals (go_wp2_with fail; go_ret; exact ⟨rfl, B3.out⟩)
  · have hne : (x != 0) = true := by simp [hx]
    clear za zb zc zd zk hx
    go_wp2_with fail
    go_ret
    exact ⟨rfl, B3.out⟩

theorem walk (kind : Int) (w0 : (Lit.int .i64 kind).wf = true) (i : Ins) (f : InsFits i) (w : World) (hL : IsL w) :
    Calls Tryd.prog 5 #[.int .i64 kind, insV i] w fun r w' => r = .returned (.bool true) ∧ Below w.heap.size w w' := by
  obtain ⟨gA, gB, gC, gD, gK⟩ := hasL_is kind
  exact walk_at kind i (bytesOf (hasL kind)) _ _ _ _ _ _ _ _ _ _ _ w hL (Lib.hid (fun w' h' => iuses_any kind w' h')) (Lib.hid (fun w' => rihas_any kind w')) (Lib.hid (fun w' => riin_has kind 65 65 rfl _ gA w')) (Lib.hid (fun w' => riin_has kind 66 66 rfl _ gB w')) (Lib.hid (fun w' => riin_has kind 67 67 rfl _ gC w')) (Lib.hid (fun w' => riin_has kind 68 68 rfl _ gD w')) (Lib.hid (fun w' => riin_has kind 75 75 rfl _ gK w'))
    (Lib.hid (fun w' h' => iuses_any i.op w' h')) (Lib.hid (fun w' h' => iform_any i w' h')) (Lib.hid (fun h => (form_zero h).1)) (Lib.hid (fun h => (form_zero h).2.1)) (Lib.hid (fun h => (form_zero h).2.2.1)) (Lib.hid (fun h => (form_zero h).2.2.2.1)) (Lib.hid (fun h => (form_zero h).2.2.2.2))

theorem own : ownKnob Tryd.prog.godebug = none := by kernel_rfl
theorem laidOut : laidOutB Tryd.prog = true := by kernel_rfl

set_option maxRecDepth 100000 in
theorem lifted (os : Os) (started : os.Started) (H : Type) (enc : TypeId × Value → H) :
    ReturnsInHanded {} Tryd.checked os 5 .any (fun w args => (Rows.isaUsesSpec.pre enc Tryd.prog Tryd.f5 Rows.isaUsesRow.domain false w args ∧ laidMetH Tryd.prog laidL w) ∧ sizedMet enc Tryd.prog Tryd.f5 (OpenSpec.ofChange Rows.isaUsesSpec) false w args) (Rows.isaUsesSpec.post enc Tryd.prog Tryd.f5 false true false false) := by
  refine returnsInHanded_of_row (s := OpenSpec.ofChange Rows.isaUsesSpec) (F := fun _ _ _ => 0) (laid := laidL) (C := Tryd.checked) own started (by kernel_rfl) Tryd.func5
    (ChangeSpec.witness_shaped (enc := enc) (C := Tryd.checked) (os := os) (s := Rows.isaUsesSpec) (X := fun w _ => laidMetH Tryd.prog laidL w) false (World.laidAll Tryd.prog os laidL) #[.int .i64 0, .agg #[.int .i64 0, .int .i64 0, .int .i64 0, .int .i64 0, .int .i64 0, .int .u32 0]] 8 (World.laidAll_os _ _ _)
      (World.shaped_of_ZipB (by kernel_rfl) (by kernel_rfl)) (by kernel_rfl) (by kernel_rfl) (by kernel_rfl)
      (by rw [MakeChecks.laidMetH_plain _ _ _ (by kernel_rfl)]; exact laidMet_laidAll _ (by kernel_rfl) (by kernel_rfl))) ?_
  intro W base args ds gs before hval0 hW hcnd _ hsz0 hL hsh _
  have hval : ∀ (j : Nat) t v, Tryd.f5.params[j]? = some t → args[j]? = some v → Value.okWide Tryd.prog W .any base t v := hval0
  have hW' := hW
  obtain ⟨p, q, hA0, hV, rfl, hfz, hnd⟩ := hW
  have hA : DataW.TrodAll enc Tryd.prog W 0 (fun _ => true) true Tryd.f5.params.toList args.toList ds p := hA0
  rw [Tryd.params5] at hA hval
  obtain ⟨v0, vs0, d0, ds0, p0, q0, hargs, rfl, rfl, h0, r0⟩ := trodAll_cons hA
  obtain ⟨v1, vs1, d1, ds1, p1, q1, rfl, rfl, rfl, h1, r1⟩ := trodAll_cons r0
  obtain ⟨rfl, rfl, rfl⟩ := trodAll_nil r1
  obtain rfl : args = #[v0, v1] := by cases args; simp_all
  obtain ⟨rfl, rfl⟩ := trodVars_none hV
  have k0 := h0
  have lt0 : ∀ x ∈ p0, x.block < W.heap.size := by obtain ⟨m, hm⟩ := k0; exact DataW.trod_lt m _ _ _ hm
  have k1 := h1
  have lt1 : ∀ x ∈ p1, x.block < W.heap.size := by obtain ⟨m, hm⟩ := k1; exact DataW.trod_lt m _ _ _ hm
  obtain ⟨a0, rfl, rfl, rfl, w0⟩ := open_int Tryd.underlying3 (hval 0 3 v0 rfl rfl) h0
  obtain ⟨a1, rfl, w1⟩ := open_ins (hval 1 24 v1 rfl rfl) h1
  clear hA0 hval0
  refine (walk a0 w0 a1 w1 W (of_laid hL hsh)).mono fun e W' ⟨he, bel⟩ => ?_
  subst he
  exact ⟨_, rfl, _, _, _, [], _, [], hW', trodAll_mk1 (shut_bool Tryd.underlying4 _), (trodAll_cons_mk (Below.trod laidOut (by kernel_rfl) (of_decide_eq_true (by kernel_rfl)) k0 bel lt0) (trodAll_cons_mk (Below.trod laidOut (by kernel_rfl) (of_decide_eq_true (by kernel_rfl)) k1 bel lt1) trodAll_mk0)), rfl, bel.frame _, fun h => by cases h⟩

theorem over : Rows.IsaUsesSaid :=
  OpenClaim.holds_of_wide 5 Tryd.f5 rfl rfl rfl rfl rfl rfl rfl ⟨rfl, rfl, rfl, rfl, rfl⟩ rfl rfl rfl rfl rfl (by kernel_rfl) Tryd.func5 (by kernel_rfl)
    (of_decide_eq_true (by kernel_rfl)) (by unfold Func.isWrapper; first | (rw [if_pos (by decide +kernel)]; kernel_rfl) | (rw [if_neg (by decide +kernel)]; exact ⟨rfl, rfl⟩))
    (fun os started H enc _ => lifted os started H enc)

theorem proved : Rows.IsaUsesCardSaid :=
  Claim7.holds_tied_plain_at .later [] _ true _ false over (fun _ h => by cases h) (by kernel_rfl) (fun _ h => by cases h) isaUses_row_tie rfl ⟨rfl, rfl⟩ (by kernel_rfl) rfl
    (fun f fn hf hfn => by
      obtain rfl : f = 5 := Option.some.inj ((show Tryd.prog.funcNamed "taffrail/taffraillaw10.IsaUses" = some 5 by kernel_rfl).symm.trans hf) |>.symm
      obtain rfl : fn = Tryd.f5 := (Option.some.inj (Tryd.func5.symm.trans hfn)).symm
      refine ⟨by kernel_rfl, fun j t ht => ?_⟩
      rw [Tryd.params5] at ht
      have hm : t ∈ [3, 24] := by simpa using Array.mem_of_getElem? ht
      have hall : ([3, 24].all fun u => !Tryd.prog.wantsStandIn u) = true := by kernel_rfl
      exact (show Tryd.prog.wantsStandIn t = false by simpa using List.all_eq_true.1 hall t hm))
    (by kernel_rfl)
#print axioms proved

end Go.Proofs.YtgbldgoaocfljaaDoor.IsaUses
