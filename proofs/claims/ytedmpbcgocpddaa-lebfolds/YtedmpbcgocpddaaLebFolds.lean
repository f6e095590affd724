/-
  LebFolds is true for every input: each number with a sign is folded as the document says, and back; near ones, on either side of 0, to few bytes. No condition.
-/
import Derived.Test.YtedmpbcgocpddaaLebAwake
import Derived.ProofKit
import Derived.OpenShut
import Derived.ShutString
import Derived.HandedShaped
namespace Go.Proofs.Ytedmpbcgocpddaa.lebFolds
open Go.ChangeShapes Go.WideShapes Go.ChangeAt Go.RowKit
open Go.ChangeMaps (open_string shut_string)
set_option linter.unusedVariables false

theorem small_len (n : Int) (h1 : -9223372036854775808 ≤ n) (h2 : n < 9223372036854775808) : ((lebL (fold n).toNat).length = 1) ↔ (-64 ≤ n ∧ n < 64) := by
  have hf : (fold n).toNat < 128 ↔ (-64 ≤ n ∧ n < 64) := by unfold fold; split <;> omega
  rw [← hf]
  constructor
  · intro h
    rcases Nat.lt_or_ge (fold n).toNat 128 with h3 | h3
    · exact h3
    · rw [lebL_ge h3, List.length_cons] at h
      have := lebL_pos ((fold n).toNat / 128)
      omega
  · intro h
    rw [lebL_lt h]; rfl

set_option maxRecDepth 100000 in
set_option maxHeartbeats 1000000 in
theorem walk_nat (n : Int) (h1 : -9223372036854775808 ≤ n) (h2 : n < 9223372036854775808) (m : Nat) (hm : m < 18446744073709551616) (w : World) :
    Calls Try.prog 7 #[.int .i64 n, .int .u64 m] w fun e w' => e = .returned (.bool true) ∧ Below w.heap.size w w' := by
  have hf := fold_range h1 h2
  have hu := unfold_range hm
  have H0 := Lib.hid (fold_any n h1 h2)
  have H0' := Lib.hid (rfold_any n h1 h2)
  have hq1 : ∀ w, Calls Try.prog 29 #[.int .u64 (fold n)] w fun e w' => e = .returned (.int .i64 n) ∧ w = w' := by
    intro w
    have := unfold_any (fold n).toNat (by omega) w
    rw [unfold_fold, Int.toNat_of_nonneg hf.1] at this
    exact this
  have hq2 : ∀ w, Calls Try.prog 27 #[.int .i64 (unfold' m)] w fun e w' => e = .returned (.int .u64 (m : Int)) ∧ w = w' := by
    intro w
    have := fold_any (unfold' m) hu.1 hu.2 w
    rw [fold_unfold] at this
    exact this
  have hq3 : ∀ w, Calls Try.prog 14 #[.int .u64 (fold n)] w fun e w' => e = .returned (.int .i64 (lebL (fold n).toNat).length) ∧ w = w' := by
    intro w
    have := size_any (fold n).toNat (by omega) w
    rw [Int.toNat_of_nonneg hf.1] at this
    exact this
  have hs := small_len n h1 h2
  have H1 := Lib.hid hq1
  have H2 := Lib.hid hq2
  have H3 := Lib.hid hq3
  have H4 := Lib.hid (unfold_any m hm)
  generalize (lebL (fold n).toNat).length = L at *
  generalize fold n = f at *
  generalize unfold' m = u at *
  clear hq1 hq2 hq3 hm hf hu
  by_cases hn : -64 ≤ n
  · have hd : decide (-64 ≤ n) = true := by simpa using hn
    by_cases hn2 : n < 64
    · have hd2 : decide (n < 64) = true := by simpa using hn2
      have hL : ((L : Int) == 1) = true := by have := hs.2 ⟨hn, hn2⟩; rw [beq_iff_eq]; omega
      have Hs := Lib.hid hs
      clear hs
      go_enter Try.func7, Try.ntmps7
      go_wp2_with fail
      refine (H0.out _).mono ?_
      rintro e w1 ⟨rfl, rfl⟩
      go_wp2_with fail
      refine (awake2_any _).mono ?_
      rintro e w1 ⟨rfl, b1⟩
      go_wp2_with fail
      refine (H0'.out _).mono ?_
      rintro e w2 ⟨rfl, rfl⟩
      go_wp2_with fail
      refine (H1.out _).mono ?_
      rintro e w2 ⟨rfl, rfl⟩
      go_wp2_with fail
      refine (H4.out _).mono ?_
      rintro e w2 ⟨rfl, rfl⟩
      go_wp2_with fail
      refine (H2.out _).mono ?_
      rintro e w2 ⟨rfl, rfl⟩
      go_wp2_with fail
      refine (H3.out _).mono ?_
      rintro e w2 ⟨rfl, rfl⟩
      go_wp2
      go_ret
      exact ⟨rfl, b1⟩
    · have hd2 : decide (n < 64) = false := by simpa using hn2
      have hL : ((L : Int) == 1) = false := by rw [beq_eq_false_iff_ne]; intro e; exact hn2 (hs.1 (by omega)).2
      have Hs := Lib.hid hs
      clear hs
      go_enter Try.func7, Try.ntmps7
      go_wp2_with fail
      refine (H0.out _).mono ?_
      rintro e w1 ⟨rfl, rfl⟩
      go_wp2_with fail
      refine (awake2_any _).mono ?_
      rintro e w1 ⟨rfl, b1⟩
      go_wp2_with fail
      refine (H0'.out _).mono ?_
      rintro e w2 ⟨rfl, rfl⟩
      go_wp2_with fail
      refine (H1.out _).mono ?_
      rintro e w2 ⟨rfl, rfl⟩
      go_wp2_with fail
      refine (H4.out _).mono ?_
      rintro e w2 ⟨rfl, rfl⟩
      go_wp2_with fail
      refine (H2.out _).mono ?_
      rintro e w2 ⟨rfl, rfl⟩
      go_wp2_with fail
      refine (H3.out _).mono ?_
      rintro e w2 ⟨rfl, rfl⟩
      go_wp2
      go_ret
      exact ⟨rfl, b1⟩
  · have hd : decide (-64 ≤ n) = false := by simpa using hn
    have hL : ((L : Int) == 1) = false := by rw [beq_eq_false_iff_ne]; intro e; exact hn (hs.1 (by omega)).1
    have Hs := Lib.hid hs
    clear hs
    go_enter Try.func7, Try.ntmps7
    go_wp2_with fail
    refine (H0.out _).mono ?_
    rintro e w1 ⟨rfl, rfl⟩
    go_wp2_with fail
    refine (awake2_any _).mono ?_
    rintro e w1 ⟨rfl, b1⟩
    go_wp2_with fail
    refine (H0'.out _).mono ?_
    rintro e w2 ⟨rfl, rfl⟩
    go_wp2_with fail
    refine (H1.out _).mono ?_
    rintro e w2 ⟨rfl, rfl⟩
    go_wp2_with fail
    refine (H4.out _).mono ?_
    rintro e w2 ⟨rfl, rfl⟩
    go_wp2_with fail
    refine (H2.out _).mono ?_
    rintro e w2 ⟨rfl, rfl⟩
    go_wp2_with fail
    refine (H3.out _).mono ?_
    rintro e w2 ⟨rfl, rfl⟩
    go_wp2
    go_ret
    exact ⟨rfl, b1⟩

theorem walk (n : Int) (h : (Lit.int .i64 n).wf = true) (m : Int) (h' : (Lit.int .u64 m).wf = true) (w : World) :
    Calls Try.prog 7 #[.int .i64 n, .int .u64 m] w fun e w' => e = .returned (.bool true) ∧ Below w.heap.size w w' := by
  have hb := bounds_i64 h
  have hb' := bounds_u64 h'
  obtain ⟨m, rfl⟩ := Int.eq_ofNat_of_zero_le hb'.1
  exact walk_nat n (by omega) (by omega) m (by omega) w

theorem own : ownKnob Try.prog.godebug = none := by kernel_rfl
theorem laidOut : laidOutB Try.prog = true := by kernel_rfl

set_option maxRecDepth 100000 in
theorem lifted (os : Os) (started : os.Started) (H : Type) (enc : TypeId × Value → H) :
    ReturnsInHanded {} Try.checked os 7 .any (Rows.lebFoldsSpec.pre6 enc Try.prog Try.f7 Rows.lebFoldsRow.domain false) (Rows.lebFoldsSpec.post enc Try.prog Try.f7 false true false false) := by
  refine returnsInHanded_of_change_shaped (C := Try.checked) own started (by kernel_rfl) Try.func7
    (ChangeSpec.witness6 (enc := enc) (C := Try.checked) false ⟨#[], #[.int .i64 0, .int .u64 0], []⟩ 8 (by kernel_rfl) (by kernel_rfl) (by kernel_rfl) (by kernel_rfl)) ?_
  intro W base args ds gs before hval0 hW hcnd hsz0 hsh _
  have hval : ∀ (j : Nat) t v, Try.f7.params[j]? = some t → args[j]? = some v → Value.okWide Try.prog W .any base t v := hval0
  have hsz : (DataW.weightsEach Try.prog (Try.f7.params.toList ++ Rows.lebFoldsSpec.plain.varTypes Try.prog) (ds ++ gs)).all (· ≤ reachBytes) = true := hsz0
  have hW' := hW
  obtain ⟨p, q, hA0, hV, rfl, hfz, hnd⟩ := hW
  have hA : DataW.TrodAll enc Try.prog W 0 (fun _ => true) true Try.f7.params.toList args.toList ds p := hA0
  rw [Try.params7] at hA hval hsz
  obtain ⟨v0, vs0, d0, ds0, p0, q0, hargs, rfl, rfl, h0, r0⟩ := trodAll_cons hA
  obtain ⟨v1, vs1, d1, ds1, p1, q1, rfl, rfl, rfl, h1, r1⟩ := trodAll_cons r0
  obtain ⟨rfl, rfl, rfl⟩ := trodAll_nil r1
  obtain rfl : args = #[v0, v1] := by cases args; simp_all
  obtain ⟨rfl, rfl⟩ := trodVars_none hV
  have k0 := h0
  have lt0 : ∀ x ∈ p0, x.block < W.heap.size := by obtain ⟨m, hm⟩ := k0; exact DataW.trod_lt m _ _ _ hm
  have k1 := h1
  have lt1 : ∀ x ∈ p1, x.block < W.heap.size := by obtain ⟨m, hm⟩ := k1; exact DataW.trod_lt m _ _ _ hm
  obtain ⟨a0, rfl, rfl, rfl, w0⟩ := open_int Try.underlying2 (hval 0 2 v0 rfl rfl) h0
  obtain ⟨a1, rfl, rfl, rfl, w1⟩ := open_int Try.underlying22 (hval 1 22 v1 rfl rfl) h1
  clear hA0 hval0
  refine (walk a0 w0 a1 w1 W).mono fun e W' ⟨he, bel⟩ => ?_
  subst he
  exact ⟨_, rfl, _, _, _, [], _, [], hW', trodAll_mk1 (shut_bool Try.underlying4 _), (trodAll_cons_mk (Below.trod laidOut (by kernel_rfl) (of_decide_eq_true (by kernel_rfl)) k0 bel lt0) (trodAll_cons_mk (Below.trod laidOut (by kernel_rfl) (of_decide_eq_true (by kernel_rfl)) k1 bel lt1) trodAll_mk0)), rfl, bel.frame _, fun h => by cases h⟩

theorem over : Rows.lebFoldsRow.holds Try.pinned (OpenSpec.ofChange Rows.lebFoldsSpec) :=
  OpenClaim.holds_of_wide 7 Try.f7 rfl rfl rfl rfl rfl rfl rfl ⟨rfl, rfl, rfl, rfl, rfl⟩ rfl rfl rfl rfl rfl (by kernel_rfl) Try.func7 (by kernel_rfl)
    (of_decide_eq_true (by kernel_rfl)) (by unfold Func.isWrapper; first | (rw [if_pos (by decide +kernel)]; kernel_rfl) | (rw [if_neg (by decide +kernel)]; exact ⟨rfl, rfl⟩))
    (fun os started H enc _ => lifted os started H enc)

theorem proved : Rows.LebFoldsSaid :=
  over
#print axioms proved
end Go.Proofs.Ytedmpbcgocpddaa.lebFolds
