/-
  LebBack is true for every input: what is put is got as it was, whatever stands behind it; with a sign, too. No condition.
-/
import Derived.Test.YtedmpbcgocpddaaLebAwake
import Derived.ProofKit
import Derived.OpenShut
import Derived.ShutString
import Derived.HandedShaped
namespace Go.Proofs.Ytedmpbcgocpddaa.lebBack
open Go.ChangeShapes Go.WideShapes Go.ChangeAt Go.RowKit
open Go.ChangeMaps (open_string shut_string)
set_option linter.unusedVariables false

set_option maxRecDepth 100000 in
set_option maxHeartbeats 1000000 in
theorem walk_long (n i : Int) (s : ByteArray) (hs : s.size ≤ maxLen) (hbig : 200 < s.size) (w : World) :
    Calls Try.prog 5 #[.int .u64 n, .int .i64 i, .string s] w fun e w' => e = .returned (.bool true) ∧ Below w.heap.size w w' := by
  unfold maxLen at hs
  have h1 : decide ((200 : Int) < (s.size : Int)) = true := by simp; omega
  go_enter Try.func5, Try.ntmps5
  go_wp2_with fail
  refine (awake2_any _).mono ?_
  rintro e w1 ⟨rfl, hb⟩
  go_wp2_with fail
  refine (awake2_any _).mono ?_
  rintro e w2 ⟨rfl, hb2⟩
  go_wp2
  go_ret
  exact ⟨rfl, hb.trans (hb2.mono hb.size)⟩

set_option maxRecDepth 100000 in
set_option maxHeartbeats 2000000 in
theorem walk_short (n : Nat) (hn : n < 18446744073709551616) (i : Int) (hi1 : -9223372036854775808 ≤ i) (hi2 : i < 9223372036854775808) (s : ByteArray) (hs : s.size ≤ 200) (w : World) :
    Calls Try.prog 5 #[.int .u64 n, .int .i64 i, .string s] w fun e w' => e = .returned (.bool true) ∧ Below w.heap.size w w' := by
  have h1 : decide ((200 : Int) < (s.size : Int)) = false := by simp; omega
  have fr := fold_range hi1 hi2
  have l1 := lebL_len10 n hn
  have l2 := lebL_len10 (fold i).toNat (by omega)
  have H1 := Lib.hid (fun w => lput_any (w.alloc (.cells #[.slice none 0 0] 25)) w.heap.size [] (wr_new w) n hn (by decide))
  have H2 := Lib.hid (fun (w : World) (b : Nat) (l : List UInt8) (h : Wr w b l) (hl : l.length + 10 ≤ 140737488355328) => putint_any w b l h i hi1 hi2 hl)
  have G1 := Lib.hid (lebGet_put n (lebL (fold i).toNat ++ s.data.toList) hn)
  have G2 := Lib.hid (lebGet_put (fold i).toNat s.data.toList (by omega))
  have U := Lib.hid (unfold_fold i)
  clear hn hi1 hi2 fr
  generalize (fold i).toNat = f at *
  generalize hA : lebL n = A at *
  generalize hB : lebL f = B at *
  clear hA hB
  go_enter Try.func5, Try.ntmps5
  go_wp2_with fail
  refine (awake2_any _).mono ?_
  rintro e w1 ⟨rfl, b1⟩
  go_wp2_with fail
  refine (H1.out _).mono ?_
  rintro e w2 ⟨rfl, h2, g2⟩
  have hz := b1.size
  have b2 : Below w.heap.size w w2 := b1.trans ((((Below.refl _ _).alloc (Nat.le_refl _) _).trans g2).mono hz)
  rw [List.nil_append] at h2
  generalize w1.heap.size = b at *
  clear b1 g2 H1
  go_wp2_with fail
  refine (H2.out _ _ _ h2 (by omega)).mono ?_
  rintro e w3 ⟨rfl, h3, g3⟩
  have b3 : Below w.heap.size w w3 := b2.trans (g3.mono hz)
  clear b2 g3 H2 h2
  go_wp2_with fail
  refine (text_any _ _ _ h3 s (by simp; omega)).mono ?_
  rintro e w4 ⟨rfl, h4, g4⟩
  have b4 : Below w.heap.size w w4 := b3.trans (g4.mono hz)
  clear b3 g4 h3
  go_wp2_with fail
  refine (string_any _ _ _ h4).mono ?_
  rintro e w5 ⟨rfl, rfl⟩
  clear h4
  obtain ⟨t, ht⟩ : ∃ t : ByteArray, t = ⟨(A ++ B ++ s.data.toList).toArray⟩ := ⟨_, rfl⟩
  have htl : t.data.toList = A ++ (B ++ s.data.toList) := by rw [ht]; simp
  have htz : t.size = A.length + B.length + s.size := by
    have := congrArg List.length htl
    simp only [List.length_append, Array.length_toList] at this
    show t.data.size = _
    rw [this]
    show A.length + (B.length + s.data.size) = A.length + B.length + s.data.size
    omega
  rw [← ht]
  have Htl := Lib.hid htl
  clear ht htl
  go_wp2_with fail
  refine (new_any _ t).mono ?_
  rintro e w5 ⟨rfl, hw5⟩
  have hz5 := b4.size
  have r5 : Rd w5 w4.heap.size t 0 := by rw [hw5]; exact rd_new w4 t (by unfold maxLen; omega)
  have b5 : Below w.heap.size w w5 := by rw [hw5]; exact b4.alloc b4.size _
  clear hw5 b4
  generalize w4.heap.size = c at *
  have hg := get_any _ _ t 0 r5
  rw [List.drop_zero, Htl.out, G1.out] at hg
  have Hg := Lib.hid hg
  have Htz := Lib.hid htz
  clear r5 hg htz
  go_wp2_with fail
  refine Hg.out.mono ?_
  rintro e w6 ⟨rfl, r6, g6⟩
  have b6 : Below w.heap.size w w6 := b5.grown g6 b5.size (fun k hk => by simp at hk; omega)
  clear b5 g6 Hg
  have hg := getint_any _ _ t _ r6
  rw [Htl.out, show 0 + (n, 0, A.length).2.2 = A.length from by simp, List.drop_left, G2.out, U.out] at hg
  have Hg := Lib.hid hg
  clear r6 hg
  go_wp2_with fail
  refine Hg.out.mono ?_
  rintro e w7 ⟨rfl, r7, g7⟩
  have b7 : Below w.heap.size w w7 := b6.grown g7 b6.size (fun k hk => by simp at hk; omega)
  clear b6 g7 Hg
  have hl := left_any _ _ t _ r7
  rw [show t.size - (A.length + (f, 0, B.length).2.2) = s.size from by rw [Htz.out]; show _ - (A.length + B.length) = _; omega] at hl
  have Hl := Lib.hid hl
  clear hl r7
  go_wp2_with fail
  refine Hl.out.mono ?_
  rintro e w8 ⟨rfl, hw8⟩
  have b8 := below_drawn b7 hw8
  clear hw8 b7
  go_wp2
  go_ret
  exact ⟨rfl, b8⟩

theorem walk (m : Int) (h' : (Lit.int .u64 m).wf = true) (n : Int) (h : (Lit.int .i64 n).wf = true) (s : ByteArray) (hs : s.size ≤ maxLen) (w : World) :
    Calls Try.prog 5 #[.int .u64 m, .int .i64 n, .string s] w fun e w' => e = .returned (.bool true) ∧ Below w.heap.size w w' := by
  have hb := bounds_i64 h
  have hb' := bounds_u64 h'
  obtain ⟨m, rfl⟩ := Int.eq_ofNat_of_zero_le hb'.1
  by_cases hl : 200 < s.size
  · exact walk_long m n s hs hl w
  · exact walk_short m (by omega) n (by omega) (by omega) s (by omega) w

theorem own : ownKnob Try.prog.godebug = none := by kernel_rfl
theorem laidOut : laidOutB Try.prog = true := by kernel_rfl

set_option maxRecDepth 100000 in
theorem lifted (os : Os) (started : os.Started) (H : Type) (enc : TypeId × Value → H) :
    ReturnsInHanded {} Try.checked os 5 .any (Rows.lebBackSpec.pre6 enc Try.prog Try.f5 Rows.lebBackRow.domain false) (Rows.lebBackSpec.post enc Try.prog Try.f5 false true false false) := by
  refine returnsInHanded_of_change_shaped (C := Try.checked) own started (by kernel_rfl) Try.func5
    (ChangeSpec.witness6 (enc := enc) (C := Try.checked) false ⟨#[], #[.int .u64 0, .int .i64 0, .string ByteArray.empty], []⟩ 8 (by kernel_rfl) (by kernel_rfl) (by kernel_rfl) (by kernel_rfl)) ?_
  intro W base args ds gs before hval0 hW hcnd hsz0 hsh _
  have hval : ∀ (j : Nat) t v, Try.f5.params[j]? = some t → args[j]? = some v → Value.okWide Try.prog W .any base t v := hval0
  have hsz : (DataW.weightsEach Try.prog (Try.f5.params.toList ++ Rows.lebBackSpec.plain.varTypes Try.prog) (ds ++ gs)).all (· ≤ reachBytes) = true := hsz0
  have hW' := hW
  obtain ⟨p, q, hA0, hV, rfl, hfz, hnd⟩ := hW
  have hA : DataW.TrodAll enc Try.prog W 0 (fun _ => true) true Try.f5.params.toList args.toList ds p := hA0
  rw [Try.params5] at hA hval hsz
  obtain ⟨v0, vs0, d0, ds0, p0, q0, hargs, rfl, rfl, h0, r0⟩ := trodAll_cons hA
  obtain ⟨v1, vs1, d1, ds1, p1, q1, rfl, rfl, rfl, h1, r1⟩ := trodAll_cons r0
  obtain ⟨v2, vs2, d2, ds2, p2, q2, rfl, rfl, rfl, h2, r2⟩ := trodAll_cons r1
  obtain ⟨rfl, rfl, rfl⟩ := trodAll_nil r2
  obtain rfl : args = #[v0, v1, v2] := by cases args; simp_all
  obtain ⟨rfl, rfl⟩ := trodVars_none hV
  have k0 := h0
  have lt0 : ∀ x ∈ p0, x.block < W.heap.size := by obtain ⟨m, hm⟩ := k0; exact DataW.trod_lt m _ _ _ hm
  have k1 := h1
  have lt1 : ∀ x ∈ p1, x.block < W.heap.size := by obtain ⟨m, hm⟩ := k1; exact DataW.trod_lt m _ _ _ hm
  have k2 := h2
  have lt2 : ∀ x ∈ p2, x.block < W.heap.size := by obtain ⟨m, hm⟩ := k2; exact DataW.trod_lt m _ _ _ hm
  obtain ⟨a0, rfl, rfl, rfl, w0⟩ := open_int Try.underlying22 (hval 0 22 v0 rfl rfl) h0
  obtain ⟨a1, rfl, rfl, rfl, w1⟩ := open_int Try.underlying2 (hval 1 2 v1 rfl rfl) h1
  obtain ⟨a2, rfl, rfl, rfl, w2⟩ := open_string Try.underlying9 (hval 2 9 v2 rfl rfl) h2
  clear hA0 hval0
  refine (walk a0 w0 a1 w1 a2 w2 W).mono fun e W' ⟨he, bel⟩ => ?_
  subst he
  exact ⟨_, rfl, _, _, _, [], _, [], hW', trodAll_mk1 (shut_bool Try.underlying4 _), (trodAll_cons_mk (Below.trod laidOut (by kernel_rfl) (of_decide_eq_true (by kernel_rfl)) k0 bel lt0) (trodAll_cons_mk (Below.trod laidOut (by kernel_rfl) (of_decide_eq_true (by kernel_rfl)) k1 bel lt1) (trodAll_cons_mk (Below.trod laidOut (by kernel_rfl) (of_decide_eq_true (by kernel_rfl)) k2 bel lt2) trodAll_mk0))), rfl, bel.frame _, fun h => by cases h⟩

theorem over : Rows.lebBackRow.holds Try.pinned (OpenSpec.ofChange Rows.lebBackSpec) :=
  OpenClaim.holds_of_wide 5 Try.f5 rfl rfl rfl rfl rfl rfl rfl ⟨rfl, rfl, rfl, rfl, rfl⟩ rfl rfl rfl rfl rfl (by kernel_rfl) Try.func5 (by kernel_rfl)
    (of_decide_eq_true (by kernel_rfl)) (by unfold Func.isWrapper; first | (rw [if_pos (by decide +kernel)]; kernel_rfl) | (rw [if_neg (by decide +kernel)]; exact ⟨rfl, rfl⟩))
    (fun os started H enc _ => lifted os started H enc)

theorem proved : Rows.LebBackSaid :=
  over
#print axioms proved
end Go.Proofs.Ytedmpbcgocpddaa.lebBack
