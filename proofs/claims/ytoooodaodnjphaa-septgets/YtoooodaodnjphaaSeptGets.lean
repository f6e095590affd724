/-
  SeptGets is true for every input: any bytes go on with the number that the document says, or with none, and the reader stands where it should. No condition.
-/
import Derived.Test.YtoooodaodnjphaaSeptRef
import Derived.ProofKit
import Derived.OpenShut
import Derived.ShutString
import Derived.HandedShaped
namespace Go.Proofs.Ytoooodaodnjphaa.septGets
open Go.ChangeShapes Go.WideShapes Go.ChangeAt Go.RowKit
open Go.ChangeMaps (open_string shut_string)
set_option linter.unusedVariables false

set_option maxRecDepth 100000 in
set_option maxHeartbeats 400000 in
theorem walk_long (s : ByteArray) (hs : s.size ≤ maxLen) (n c : Int) (hbig : 500 < s.size) (w : World) :
    Calls Try.prog 4 #[.string s, .int .i64 n, .int .i64 c] w fun e w' => e = .returned (.bool true) ∧ Below w.heap.size w w' := by
  unfold maxLen at hs
  have h1 : decide ((500 : Int) < (s.size : Int)) = true := by simp; omega
  go_enter Try.func4, Try.ntmps4
  go_wp2_with fail
  refine (awake4_any _).mono ?_
  rintro e w1 ⟨rfl, hb⟩
  go_wp2_with fail
  refine (awake4_any _).mono ?_
  rintro e w2 ⟨rfl, hb2⟩
  go_wp2
  go_ret
  exact ⟨rfl, hb.trans (hb2.mono hb.size)⟩

/-- Where a reader stands that is asked to stand at n. -/
theorem seek_some (w2 : World) (b : Nat) (s : ByteArray) (r2 : Rd w2 b s 0) (n : Int) : ∃ a : Nat, a ≤ s.size ∧ Calls Try.prog 16 #[.pointer (some ⟨b, 0, none⟩), .int .i64 n] w2 fun e w' => (∃ x, e = .returned (.int .i64 x)) ∧ Rd w' b s a ∧ w2.grownBy w' (some b) := by
  by_cases h0 : n < 0 ∨ (s.size : Int) < n
  · exact ⟨0, by omega, (seek_bad w2 _ s 0 r2 n h0).mono fun e w' ⟨he, hw⟩ => ⟨⟨_, he⟩, by rw [← hw]; exact r2, by rw [← hw]; exact World.grownBy.refl _ _⟩⟩
  · obtain ⟨m, hm⟩ := Int.eq_ofNat_of_zero_le (show 0 ≤ n by omega)
    subst hm
    exact ⟨m, by omega, (seek_any w2 _ s 0 r2 m (by omega)).mono fun e w' ⟨he, hr, hg⟩ => ⟨⟨_, he⟩, hr, hg⟩⟩

/-- What is got, whatever the count. -/
theorem both (s : ByteArray) (hs : s.size ≤ 500) (a : Nat) (ha : a ≤ s.size) (c : Int) : ∃ rn rc rm : Nat,
    (∀ (w : World) (b : Nat), Rd w b s a → Calls Try.prog 18 #[.pointer (some ⟨b, 0, none⟩), .int .i64 c] w fun e w' => e = .returned (.tuple #[.int .u64 rn, .int .i64 rc]) ∧ Rd w' b s (a + rm) ∧ w.grownBy w' (some b)) ∧
    (∀ w : World, Calls Try.prog 19 #[.string s, .int .i64 a, .int .i64 c] w fun e w' => e = .returned (.tuple #[.int .u64 rn, .int .i64 rc, .int .i64 ((a + rm : Nat) : Int)]) ∧ w = w') := by
  by_cases hc : c < 1 ∨ 10 < c
  · refine ⟨0, 1, 0, fun w b h => (sget_arg w b c hc).mono ?_, fun w => rsget_arg s a c hc w⟩
    rintro e w' ⟨rfl, rfl⟩
    exact ⟨rfl, h, World.grownBy.refl _ _⟩
  · obtain ⟨c, rfl⟩ := Int.eq_ofNat_of_zero_le (show 0 ≤ c by omega)
    exact ⟨_, _, _, fun w b h => sget_any w b s a h c (by omega) (by omega), fun w => rsget_any s a c hs ha (by omega) (by omega) w⟩

set_option maxRecDepth 100000 in
set_option maxHeartbeats 1000000 in
theorem walk_short (s : ByteArray) (hs : s.size ≤ 500) (n c : Int) (w : World) :
    Calls Try.prog 4 #[.string s, .int .i64 n, .int .i64 c] w fun e w' => e = .returned (.bool true) ∧ Below w.heap.size w w' := by
  have h1 : decide ((500 : Int) < (s.size : Int)) = false := by simp; omega
  go_enter Try.func4, Try.ntmps4
  go_wp2_with fail
  refine (awake4_any _).mono ?_
  rintro e w1 ⟨rfl, b1⟩
  go_wp2_with fail
  refine (new_any _ s).mono ?_
  rintro e w2 ⟨rfl, hw2⟩
  have r2 : Rd w2 w1.heap.size s 0 := by rw [hw2]; exact rd_new w1 s (by unfold maxLen; omega)
  have b2 : Below w.heap.size w w2 := by rw [hw2]; exact b1.alloc b1.size _
  have hz := b1.size
  clear hw2 b1
  generalize w1.heap.size = b at *
  go_wp2_with fail
  obtain ⟨a, ha, hseek⟩ := seek_some w2 b s r2 n
  refine hseek.mono ?_
  clear hseek r2
  rintro e w3 ⟨⟨x, rfl⟩, r3, g3⟩
  have b3 : Below w.heap.size w w3 := b2.grown g3 b2.size (fun k hk => by simp at hk; omega)
  clear b2 g3
  go_wp2_with fail
  refine (at_any _ _ s a r3).mono ?_
  rintro e w4 ⟨rfl, rfl⟩
  obtain ⟨rn, rc, rm, hget, href⟩ := both s hs a ha c
  have Hget := Lib.hid (hget _ _ r3)
  have Href := Lib.hid href
  clear hget href r3
  go_wp2_with fail
  refine Hget.out.mono ?_
  clear Hget
  rintro e w4 ⟨rfl, r4, g4⟩
  have b4 : Below w.heap.size w w4 := b3.grown g4 b3.size (fun k hk => by simp at hk; omega)
  clear b3 g4
  go_wp2_with fail
  refine (Href.out _).mono ?_
  clear Href
  rintro e w5 ⟨rfl, rfl⟩
  have Hat := Lib.hid (at_any _ _ s _ r4)
  generalize hq : a + rm = q at *
  clear hq
  go_wp2_with fail
  refine Hat.out.mono ?_
  clear Hat
  rintro e w5 ⟨rfl, rfl⟩
  go_wp2
  go_ret
  exact ⟨by simp, b4⟩

theorem walk (s : ByteArray) (hs : s.size ≤ maxLen) (n : Int) (h : (Lit.int .i64 n).wf = true) (c : Int) (h' : (Lit.int .i64 c).wf = true) (w : World) :
    Calls Try.prog 4 #[.string s, .int .i64 n, .int .i64 c] w fun e w' => e = .returned (.bool true) ∧ Below w.heap.size w w' := by
  by_cases hl : 500 < s.size
  · exact walk_long s hs n c hl w
  · exact walk_short s (by omega) n c w

theorem own : ownKnob Try.prog.godebug = none := by kernel_rfl
theorem laidOut : laidOutB Try.prog = true := by kernel_rfl

set_option maxRecDepth 100000 in
theorem lifted (os : Os) (started : os.Started) (H : Type) (enc : TypeId × Value → H) :
    ReturnsInHanded {} Try.checked os 4 .any (Rows.septGetsSpec.pre6 enc Try.prog Try.f4 Rows.septGetsRow.domain false) (Rows.septGetsSpec.post enc Try.prog Try.f4 false true false false) := by
  refine returnsInHanded_of_change_shaped (C := Try.checked) own started (by kernel_rfl) Try.func4
    (ChangeSpec.witness6 (enc := enc) (C := Try.checked) false ⟨#[], #[.string ByteArray.empty, .int .i64 0, .int .i64 0], []⟩ 8 (by kernel_rfl) (by kernel_rfl) (by kernel_rfl) (by kernel_rfl)) ?_
  intro W base args ds gs before hval0 hW hcnd hsz0 hsh _
  have hval : ∀ (j : Nat) t v, Try.f4.params[j]? = some t → args[j]? = some v → Value.okWide Try.prog W .any base t v := hval0
  have hsz : (DataW.weightsEach Try.prog (Try.f4.params.toList ++ Rows.septGetsSpec.plain.varTypes Try.prog) (ds ++ gs)).all (· ≤ reachBytes) = true := hsz0
  have hW' := hW
  obtain ⟨p, q, hA0, hV, rfl, hfz, hnd⟩ := hW
  have hA : DataW.TrodAll enc Try.prog W 0 (fun _ => true) true Try.f4.params.toList args.toList ds p := hA0
  rw [Try.params4] at hA hval hsz
  obtain ⟨v0, vs0, d0, ds0, p0, q0, hargs, rfl, rfl, h0, r0⟩ := trodAll_cons hA
  obtain ⟨v1, vs1, d1, ds1, p1, q1, rfl, rfl, rfl, h1, r1⟩ := trodAll_cons r0
  obtain ⟨v2, vs2, d2, ds2, p2, q2, rfl, rfl, rfl, h2, r2⟩ := trodAll_cons r1
  obtain ⟨rfl, rfl, rfl⟩ := trodAll_nil r2
  obtain rfl : args = #[v0, v1, v2] := by cases args; simp_all
  obtain ⟨rfl, rfl⟩ := trodVars_none hV
  have k0 := h0
  have lt0 : ∀ x ∈ p0, x.block < W.heap.size := by obtain ⟨m, hm⟩ := k0; exact DataW.trod_lt m _ _ _ hm
  have k1 := h1
  have lt1 : ∀ x ∈ p1, x.block < W.heap.size := by obtain ⟨m, hm⟩ := k1; exact DataW.trod_lt m _ _ _ hm
  have k2 := h2
  have lt2 : ∀ x ∈ p2, x.block < W.heap.size := by obtain ⟨m, hm⟩ := k2; exact DataW.trod_lt m _ _ _ hm
  obtain ⟨a0, rfl, rfl, rfl, w0⟩ := open_string Try.underlying9 (hval 0 9 v0 rfl rfl) h0
  obtain ⟨a1, rfl, rfl, rfl, w1⟩ := open_int Try.underlying3 (hval 1 3 v1 rfl rfl) h1
  obtain ⟨a2, rfl, rfl, rfl, w2⟩ := open_int Try.underlying3 (hval 2 3 v2 rfl rfl) h2
  clear hA0 hval0
  refine (walk a0 w0 a1 w1 a2 w2 W).mono fun e W' ⟨he, bel⟩ => ?_
  subst he
  exact ⟨_, rfl, _, _, _, [], _, [], hW', trodAll_mk1 (shut_bool Try.underlying4 _), (trodAll_cons_mk (Below.trod laidOut (by kernel_rfl) (of_decide_eq_true (by kernel_rfl)) k0 bel lt0) (trodAll_cons_mk (Below.trod laidOut (by kernel_rfl) (of_decide_eq_true (by kernel_rfl)) k1 bel lt1) (trodAll_cons_mk (Below.trod laidOut (by kernel_rfl) (of_decide_eq_true (by kernel_rfl)) k2 bel lt2) trodAll_mk0))), rfl, bel.frame _, fun h => by cases h⟩

theorem over : Rows.septGetsRow.holds Try.pinned (OpenSpec.ofChange Rows.septGetsSpec) :=
  OpenClaim.holds_of_wide 4 Try.f4 rfl rfl rfl rfl rfl rfl rfl ⟨rfl, rfl, rfl, rfl, rfl⟩ rfl rfl rfl rfl rfl (by kernel_rfl) Try.func4 (by kernel_rfl)
    (of_decide_eq_true (by kernel_rfl)) (by unfold Func.isWrapper; first | (rw [if_pos (by decide +kernel)]; kernel_rfl) | (rw [if_neg (by decide +kernel)]; exact ⟨rfl, rfl⟩))
    (fun os started H enc _ => lifted os started H enc)

theorem proved : Rows.SeptGetsSaid :=
  over
#print axioms proved
end Go.Proofs.Ytoooodaodnjphaa.septGets
