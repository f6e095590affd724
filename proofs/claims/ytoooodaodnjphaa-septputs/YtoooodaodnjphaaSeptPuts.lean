/-
  SeptPuts is true for every input: a number is put by so many bytes as the document says, or refused, and nothing is put then. No condition.
-/
import Derived.Test.YtoooodaodnjphaaSeptRef
import Derived.ProofKit
import Derived.OpenShut
import Derived.ShutString
import Derived.HandedShaped
namespace Go.Proofs.Ytoooodaodnjphaa.septPuts
open Go.ChangeShapes Go.WideShapes Go.ChangeAt Go.RowKit
open Go.ChangeMaps (open_string shut_string)
set_option linter.unusedVariables false

set_option maxRecDepth 100000 in
set_option maxHeartbeats 1000000 in
theorem walk_arg (n c : Int) (hc : c < 1 ∨ 10 < c) (w : World) :
    Calls Try.prog 3 #[.int .u64 n, .int .i64 c] w fun e w' => e = .returned (.bool true) ∧ Below w.heap.size w w' := by
  have H0 := Lib.hid (sput_arg (w.alloc (.cells #[.slice none 0 0] 25)) w.heap.size n c hc)
  have HF := Lib.hid (fun w => fits_no n c hc w)
  have hd : (decide (c < 1) = true) ∨ (decide (c < 1) = false ∧ decide (10 < c) = true) := by simp; omega
  clear hc
  rcases hd with hd | ⟨hd, hd2⟩
  all_goals
    go_enter Try.func3, Try.ntmps3
    go_wp2_with fail
    refine H0.out.mono ?_
    rintro e w1 ⟨rfl, rfl⟩
    have h1 := wr_new w
    have b1 : Below w.heap.size w (w.alloc (.cells #[.slice none 0 0] 25)) := (Below.refl _ _).alloc (Nat.le_refl _) _
    clear H0
    generalize w.alloc (.cells #[.slice none 0 0] 25) = w1 at *
    go_wp2_with fail
    refine (awake4_any _).mono ?_
    rintro e w2 ⟨rfl, b2⟩
    have h2 := h1.below b2
    have b3 := b1.trans (b2.mono b1.size)
    clear h1 b1 b2
    go_wp2_with fail
    refine (awake4_any _).mono ?_
    rintro e w3 ⟨rfl, b4⟩
    have h3 := h2.below b4
    have b5 := b3.trans (b4.mono b3.size)
    clear h2 b3 b4
    go_wp2_with fail
    refine (len_any _ _ _ h3).mono ?_
    rintro e w4 ⟨rfl, rfl⟩
    go_wp2_with fail
    refine (HF.out _).mono ?_
    rintro e w4 ⟨rfl, rfl⟩
    go_wp2
    go_ret
    exact ⟨rfl, b5⟩

set_option maxRecDepth 100000 in
set_option maxHeartbeats 1000000 in
theorem walk_range (n c : Nat) (hn : n < 18446744073709551616) (h1 : 1 ≤ c) (h2 : c ≤ 10) (hf : ¬ n < 128 ^ c) (w : World) :
    Calls Try.prog 3 #[.int .u64 n, .int .i64 c] w fun e w' => e = .returned (.bool true) ∧ Below w.heap.size w w' := by
  have H0 := Lib.hid (sput_range (w.alloc (.cells #[.slice none 0 0] 25)) w.heap.size n c hn h1 h2 hf)
  have hF := fun w => fits_any n c hn h1 h2 w
  have hP := fun w => rsprint_any n c hn h1 h2 w
  rw [decide_eq_false hf] at hF hP
  have HF := Lib.hid hF
  have HP := Lib.hid hP
  have hd : decide ((c : Int) < 1) = false := by simp; omega
  have hd2 : decide ((10 : Int) < (c : Int)) = false := by simp; omega
  clear hn hf hF hP h1 h2
  go_enter Try.func3, Try.ntmps3
  go_wp2_with fail
  refine H0.out.mono ?_
  rintro e w1 ⟨rfl, rfl⟩
  have h1 := wr_new w
  have b1 : Below w.heap.size w (w.alloc (.cells #[.slice none 0 0] 25)) := (Below.refl _ _).alloc (Nat.le_refl _) _
  clear H0
  generalize w.alloc (.cells #[.slice none 0 0] 25) = w1 at *
  go_wp2_with fail
  refine (awake4_any _).mono ?_
  rintro e w2 ⟨rfl, b2⟩
  have h2 := h1.below b2
  have b3 := b1.trans (b2.mono b1.size)
  clear h1 b1 b2
  go_wp2_with fail
  refine (HP.out _).mono ?_
  rintro e w3 ⟨rfl, b4⟩
  have h3 := h2.below b4
  have b5 := b3.trans (b4.mono b3.size)
  clear h2 b3 b4 HP
  go_wp2_with fail
  refine (len_any _ _ _ h3).mono ?_
  rintro e w4 ⟨rfl, rfl⟩
  go_wp2_with fail
  refine (HF.out _).mono ?_
  rintro e w4 ⟨rfl, rfl⟩
  go_wp2
  go_ret
  exact ⟨rfl, b5⟩

set_option maxRecDepth 100000 in
set_option maxHeartbeats 1000000 in
theorem walk_ok (n c : Nat) (hn : n < 18446744073709551616) (h1 : 1 ≤ c) (h2 : c ≤ 10) (hf : n < 128 ^ c) (w : World) :
    Calls Try.prog 3 #[.int .u64 n, .int .i64 c] w fun e w' => e = .returned (.bool true) ∧ Below w.heap.size w w' := by
  have H0 := Lib.hid (sput_ok _ w.heap.size [] (wr_new w) n c hn h1 h2 hf (by decide))
  have hF := fun w => fits_any n c hn h1 h2 w
  have hP := fun w => rsprint_any n c hn h1 h2 w
  rw [decide_eq_true hf] at hF hP
  have HF := Lib.hid hF
  have HP := Lib.hid hP
  have hd : decide ((c : Int) < 1) = false := by simp; omega
  have hd2 : decide ((10 : Int) < (c : Int)) = false := by simp; omega
  clear hn hf hF hP h1 h2
  go_enter Try.func3, Try.ntmps3
  go_wp2_with fail
  refine H0.out.mono ?_
  rintro e w1 ⟨rfl, h1, g1⟩
  have b1 : Below w.heap.size w w1 := ((Below.refl _ _).alloc (Nat.le_refl _) _).trans g1
  rw [List.nil_append] at h1
  clear g1 H0
  go_wp2_with fail
  refine (awake4_any _).mono ?_
  rintro e w2 ⟨rfl, b2⟩
  have h2 := h1.below b2
  have b3 := b1.trans (b2.mono b1.size)
  clear h1 b1 b2
  go_wp2_with fail
  refine (HP.out _).mono ?_
  rintro e w3 ⟨rfl, b4⟩
  have h3 := h2.below b4
  have b5 := b3.trans (b4.mono b3.size)
  clear h2 b3 b4 HP
  go_wp2_with fail
  refine (string_any _ _ _ h3).mono ?_
  rintro e w4 ⟨rfl, rfl⟩
  go_wp2_with fail
  refine (HF.out _).mono ?_
  rintro e w4 ⟨rfl, rfl⟩
  go_wp2
  go_ret
  exact ⟨by simp, b5⟩

theorem walk (n : Int) (h : (Lit.int .u64 n).wf = true) (c : Int) (h' : (Lit.int .i64 c).wf = true) (w : World) :
    Calls Try.prog 3 #[.int .u64 n, .int .i64 c] w fun e w' => e = .returned (.bool true) ∧ Below w.heap.size w w' := by
  have hb := bounds_u64 h
  obtain ⟨n, rfl⟩ := Int.eq_ofNat_of_zero_le hb.1
  by_cases hc : c < 1 ∨ 10 < c
  · exact walk_arg n c hc w
  · obtain ⟨c, rfl⟩ := Int.eq_ofNat_of_zero_le (show 0 ≤ c by omega)
    by_cases hf : n < 128 ^ c
    · exact walk_ok n c (by omega) (by omega) (by omega) hf w
    · exact walk_range n c (by omega) (by omega) (by omega) hf w

theorem own : ownKnob Try.prog.godebug = none := by kernel_rfl
theorem laidOut : laidOutB Try.prog = true := by kernel_rfl

set_option maxRecDepth 100000 in
theorem lifted (os : Os) (started : os.Started) (H : Type) (enc : TypeId × Value → H) :
    ReturnsInHanded {} Try.checked os 3 .any (Rows.septPutsSpec.pre6 enc Try.prog Try.f3 Rows.septPutsRow.domain false) (Rows.septPutsSpec.post enc Try.prog Try.f3 false true false false) := by
  refine returnsInHanded_of_change_shaped (C := Try.checked) own started (by kernel_rfl) Try.func3
    (ChangeSpec.witness6 (enc := enc) (C := Try.checked) false ⟨#[], #[.int .u64 0, .int .i64 0], []⟩ 8 (by kernel_rfl) (by kernel_rfl) (by kernel_rfl) (by kernel_rfl)) ?_
  intro W base args ds gs before hval0 hW hcnd hsz0 hsh _
  have hval : ∀ (j : Nat) t v, Try.f3.params[j]? = some t → args[j]? = some v → Value.okWide Try.prog W .any base t v := hval0
  have hsz : (DataW.weightsEach Try.prog (Try.f3.params.toList ++ Rows.septPutsSpec.plain.varTypes Try.prog) (ds ++ gs)).all (· ≤ reachBytes) = true := hsz0
  have hW' := hW
  obtain ⟨p, q, hA0, hV, rfl, hfz, hnd⟩ := hW
  have hA : DataW.TrodAll enc Try.prog W 0 (fun _ => true) true Try.f3.params.toList args.toList ds p := hA0
  rw [Try.params3] at hA hval hsz
  obtain ⟨v0, vs0, d0, ds0, p0, q0, hargs, rfl, rfl, h0, r0⟩ := trodAll_cons hA
  obtain ⟨v1, vs1, d1, ds1, p1, q1, rfl, rfl, rfl, h1, r1⟩ := trodAll_cons r0
  obtain ⟨rfl, rfl, rfl⟩ := trodAll_nil r1
  obtain rfl : args = #[v0, v1] := by cases args; simp_all
  obtain ⟨rfl, rfl⟩ := trodVars_none hV
  have k0 := h0
  have lt0 : ∀ x ∈ p0, x.block < W.heap.size := by obtain ⟨m, hm⟩ := k0; exact DataW.trod_lt m _ _ _ hm
  have k1 := h1
  have lt1 : ∀ x ∈ p1, x.block < W.heap.size := by obtain ⟨m, hm⟩ := k1; exact DataW.trod_lt m _ _ _ hm
  obtain ⟨a0, rfl, rfl, rfl, w0⟩ := open_int Try.underlying22 (hval 0 22 v0 rfl rfl) h0
  obtain ⟨a1, rfl, rfl, rfl, w1⟩ := open_int Try.underlying3 (hval 1 3 v1 rfl rfl) h1
  clear hA0 hval0
  refine (walk a0 w0 a1 w1 W).mono fun e W' ⟨he, bel⟩ => ?_
  subst he
  exact ⟨_, rfl, _, _, _, [], _, [], hW', trodAll_mk1 (shut_bool Try.underlying4 _), (trodAll_cons_mk (Below.trod laidOut (by kernel_rfl) (of_decide_eq_true (by kernel_rfl)) k0 bel lt0) (trodAll_cons_mk (Below.trod laidOut (by kernel_rfl) (of_decide_eq_true (by kernel_rfl)) k1 bel lt1) trodAll_mk0)), rfl, bel.frame _, fun h => by cases h⟩

theorem over : Rows.septPutsRow.holds Try.pinned (OpenSpec.ofChange Rows.septPutsSpec) :=
  OpenClaim.holds_of_wide 3 Try.f3 rfl rfl rfl rfl rfl rfl rfl ⟨rfl, rfl, rfl, rfl, rfl⟩ rfl rfl rfl rfl rfl (by kernel_rfl) Try.func3 (by kernel_rfl)
    (of_decide_eq_true (by kernel_rfl)) (by unfold Func.isWrapper; first | (rw [if_pos (by decide +kernel)]; kernel_rfl) | (rw [if_neg (by decide +kernel)]; exact ⟨rfl, rfl⟩))
    (fun os started H enc _ => lifted os started H enc)

theorem proved : Rows.SeptPutsSaid :=
  over
#print axioms proved
end Go.Proofs.Ytoooodaodnjphaa.septPuts
