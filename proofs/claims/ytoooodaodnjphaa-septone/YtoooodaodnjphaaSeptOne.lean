/-
  SeptOne is true for every input: two numbers that fit have the same bytes just if they are one; so have bytes that are got. No condition.
-/
import Derived.Test.YtoooodaodnjphaaSeptRef
import Derived.ProofKit
import Derived.OpenShut
import Derived.ShutString
import Derived.HandedShaped
namespace Go.Proofs.Ytoooodaodnjphaa.septOne
open Go.ChangeShapes Go.WideShapes Go.ChangeAt Go.RowKit
open Go.ChangeMaps (open_string shut_string)
set_option linter.unusedVariables false

theorem eta (s : ByteArray) : (⟨s.data.toList.toArray⟩ : ByteArray) = s := by rw [Array.toArray_toList]
/-- A number's bytes as a text. -/
def txt (n : Nat) : ByteArray := ⟨(septL n 10).toArray⟩
theorem txt_list (n : Nat) : (txt n).data.toList = septL n 10 := by simp [txt]
theorem txt_ne (a b : Nat) (ha : a < 18446744073709551616) (hb : b < 18446744073709551616) (hne : a ≠ b) : ((txt a).toList == (txt b).toList) = false := by
  rw [ByteArray.toList_eq, ByteArray.toList_eq, beq_eq_false_iff_ne, txt_list, txt_list]
  intro e
  exact hne (septL_inj (Nat.lt_of_lt_of_le ha (by decide)) (Nat.lt_of_lt_of_le hb (by decide)) e)

set_option maxRecDepth 100000 in
set_option maxHeartbeats 1000000 in
theorem walk_long (a b : Int) (s : ByteArray) (hs : s.size ≤ maxLen) (hbig : 10 < s.size) (w : World) :
    Calls Try.prog 6 #[.int .u64 a, .int .u64 b, .string s] w fun e w' => e = .returned (.bool true) ∧ Below w.heap.size w w' := by
  unfold maxLen at hs
  have h1 : decide ((10 : Int) < (s.size : Int)) = true := by simp; omega
  go_enter Try.func6, Try.ntmps6
  go_wp2_with fail
  refine (awake4_any _).mono ?_
  rintro e w1 ⟨rfl, hb⟩
  go_wp2_with fail
  refine (awake4_any _).mono ?_
  rintro e w2 ⟨rfl, hb2⟩
  go_wp2
  go_ret
  exact ⟨rfl, hb.trans (hb2.mono hb.size)⟩

/-- What is got of a text that has just come, by as many bytes as it has; and that it is put again as it was. -/
theorem one_get (s : ByteArray) (hs : s.size ≤ 10) : ∃ n c : Nat, n < 18446744073709551616 ∧
    (∀ w : World, Calls Try.prog 18 #[.pointer (some ⟨w.heap.size, 0, none⟩), .int .i64 s.size] (w.alloc (.cells #[.string s, .int .i64 0] 53)) fun e w' => e = .returned (.tuple #[.int .u64 n, .int .i64 c]) ∧ Below w.heap.size w w') ∧
    (c = 0 → ∀ w : World, Calls Try.prog 9 #[.pointer (some ⟨w.heap.size, 0, none⟩), .int .u64 n, .int .i64 s.size] (w.alloc (.cells #[.slice none 0 0] 25)) fun e w' => e = .returned (.int .i64 0) ∧ Wr w' w.heap.size s.data.toList ∧ Below w.heap.size w w') := by
  have hlen : s.data.toList.length = s.size := by rw [Array.length_toList]; rfl
  by_cases h0 : s.size = 0
  · refine ⟨0, 1, by decide, fun w => (sget_arg _ w.heap.size s.size (by omega)).mono ?_, fun h => by cases h⟩
    rintro e w' ⟨rfl, rfl⟩
    exact ⟨rfl, (Below.refl _ _).alloc (Nat.le_refl _) _⟩
  · have hlt := septGet_lt s.data.toList s.size hs
    have hback := septGet_back s.data.toList
    rw [hlen] at hback
    refine ⟨(septGet s.data.toList s.size).1, (septGet s.data.toList s.size).2.1, hlt, fun w => sget_new w s (by unfold maxLen; omega) s.size (by omega) hs _ _ (septGet s.data.toList s.size).2.2 rfl, fun hc w => ?_⟩
    obtain ⟨q1, q2⟩ := hback hc
    refine (sput_ok _ w.heap.size [] (wr_new w) _ s.size hlt (by omega) hs q2 (by decide)).mono ?_
    rintro e w' ⟨rfl, h1, g1⟩
    rw [List.nil_append, q1] at h1
    exact ⟨rfl, h1, ((Below.refl _ _).alloc (Nat.le_refl _) _).trans g1⟩

set_option maxRecDepth 100000 in
set_option maxHeartbeats 2000000 in
theorem walk_short (a : Nat) (ha : a < 18446744073709551616) (b : Nat) (hb : b < 18446744073709551616) (s : ByteArray) (hs : s.size ≤ 10) (w : World) :
    Calls Try.prog 6 #[.int .u64 a, .int .u64 b, .string s] w fun e w' => e = .returned (.bool true) ∧ Below w.heap.size w w' := by
  have h1 : decide ((10 : Int) < (s.size : Int)) = false := by simp; omega
  have H1 := Lib.hid (fun (w : World) (c : Nat) (v : Value) (h : WrF w c v []) => sput_foot w c v [] h a 10 ha (by decide) (by decide) (Nat.lt_of_lt_of_le ha (by decide)) (by decide))
  have H2 := Lib.hid (fun (w : World) (c : Nat) (v : Value) (h : WrF w c v []) => sput_foot w c v [] h b 10 hb (by decide) (by decide) (Nat.lt_of_lt_of_le hb (by decide)) (by decide))
  have F2 := Lib.hid (txt_ne a b ha hb)
  obtain ⟨n, c, hn, hget, hput⟩ := one_get s hs
  have Hget := Lib.hid hget
  have Hput := Lib.hid hput
  clear ha hb hn hget hput
  go_enter Try.func6, Try.ntmps6
  go_wp2_with fail
  refine (awake4_any _).mono ?_
  rintro e u ⟨rfl, bu⟩
  go_wp2_with fail
  have v0 := (wrf_new u).alloc (.cells #[.slice none 0 0] 25)
  have u0 := wrf_new (u.alloc (.cells #[.slice none 0 0] 25))
  have hz : (u.alloc (.cells #[.slice none 0 0] 25)).heap.size = u.heap.size + 1 := by simp
  rw [hz] at u0
  have b0 : Below u.heap.size u ((u.alloc (.cells #[.slice none 0 0] 25)).alloc (.cells #[.slice none 0 0] 25)) := ((Below.refl _ _).alloc (Nat.le_refl _) _).alloc (by simp) _
  have hs0 : ((u.alloc (.cells #[.slice none 0 0] 25)).alloc (.cells #[.slice none 0 0] 25)).heap.size = u.heap.size + 2 := by simp
  clear hz
  generalize (u.alloc (.cells #[.slice none 0 0] 25)).alloc (.cells #[.slice none 0 0] 25) = w0 at *
  have Hs0 := Lib.hid hs0
  clear hs0
  refine (H1.out _ _ _ v0).mono ?_
  rintro e w1 ⟨rfl, v', h1, o1, f1⟩
  clear v0 H1
  have u1 := u0.only o1 (by simp [Value.ownBlock]) (by simp [Value.ownBlock])
  have b1 : Below u.heap.size u w1 := b0.trans (o1.below (by rw [Hs0.out]; omega) (by simp [Value.ownBlock]))
  have hb1 := o1.size
  have Hf1 := Lib.hid f1
  clear o1 f1 u0 b0
  go_wp2_with fail
  refine (H2.out _ _ _ u1).mono ?_
  rintro e w2 ⟨rfl, u', h2, o2, f2⟩
  clear u1 H2
  have h1' := h1.only o2 (by simp [Value.ownBlock]) (by
    intro k hk
    have h0 := Hf1.out k hk
    rw [Hs0.out] at h0
    simp [Value.ownBlock] at h0 ⊢
    omega)
  have b2' : Below u.heap.size u w2 := b1.trans (o2.below b1.size (by simp [Value.ownBlock]))
  have b2 : Below w.heap.size w w2 := bu.trans (b2'.mono bu.size)
  clear h1 o2 f2 b1 Hf1 b2' bu
  rw [List.nil_append] at h1' h2
  have S1 := Lib.hid (string_foot _ _ _ _ h1')
  have S2 := Lib.hid (string_foot _ _ _ _ h2)
  have l1 := len_foot _ _ _ _ h1'
  have l2 := len_foot _ _ _ _ h2
  rw [septL_len] at l1 l2
  have L1 := Lib.hid l1
  have L2 := Lib.hid l2
  clear h1' h2 l1 l2
  go_wp2_with fail
  refine S1.out.mono ?_
  rintro e w3 ⟨rfl, rfl⟩
  go_wp2_with fail
  refine S2.out.mono ?_
  rintro e w3 ⟨rfl, rfl⟩
  clear S1 S2
  rw [show (⟨(septL a 10).toArray⟩ : ByteArray) = txt a from rfl, show (⟨(septL b 10).toArray⟩ : ByteArray) = txt b from rfl]
  have hE : ((txt a).toList == (txt b).toList) = ((a : Int) == (b : Int)) := by
    by_cases hab : a = b
    · subst hab; simp
    · rw [F2.out hab, eq_comm, beq_eq_false_iff_ne]; omega
  obtain ⟨q, hq⟩ : ∃ q, ((a : Int) == (b : Int)) = q := ⟨_, rfl⟩
  rw [hq] at hE
  clear F2
  go_wp2_with fail
  refine L1.out.mono ?_
  rintro e w3 ⟨rfl, rfl⟩
  go_wp2_with fail
  refine L2.out.mono ?_
  rintro e w3 ⟨rfl, rfl⟩
  clear L1 L2
  go_wp2_with fail
  refine (new_any _ s).mono ?_
  rintro e w3 ⟨rfl, rfl⟩
  go_wp2_with fail
  refine (Hget.out _).mono ?_
  rintro e w3 ⟨rfl, b3⟩
  have b4 := b2.trans (b3.mono b2.size)
  clear b2 b3 Hget
  by_cases hc : c = 0
  · have Hp := Lib.hid (Hput.out hc w3)
    have hcb : ((c : Int) != 0) = false := by simp [hc]
    clear hc Hput
    go_wp2_with fail
    refine Hp.out.mono ?_
    rintro e w5 ⟨rfl, h5, b5⟩
    have hst := string_any _ _ _ h5
    rw [eta] at hst
    have Hst := Lib.hid hst
    have b6 := b4.trans (b5.mono b4.size)
    clear hst h5 Hp b4 b5
    go_wp2_with fail
    refine Hst.out.mono ?_
    rintro e w6 ⟨rfl, rfl⟩
    go_wp2
    go_ret
    exact ⟨by simp, b6⟩
  · have hcb : ((c : Int) != 0) = true := by rw [bne_iff_ne]; omega
    have b5 := b4.alloc b4.size (.cells #[.slice none 0 0] 25)
    clear Hput hc
    go_wp2
    go_ret
    exact ⟨rfl, b5⟩

theorem walk (a : Int) (ha : (Lit.int .u64 a).wf = true) (b : Int) (hb : (Lit.int .u64 b).wf = true) (s : ByteArray) (hs : s.size ≤ maxLen) (w : World) :
    Calls Try.prog 6 #[.int .u64 a, .int .u64 b, .string s] w fun e w' => e = .returned (.bool true) ∧ Below w.heap.size w w' := by
  have ha := bounds_u64 ha
  have hb := bounds_u64 hb
  obtain ⟨a, rfl⟩ := Int.eq_ofNat_of_zero_le ha.1
  obtain ⟨b, rfl⟩ := Int.eq_ofNat_of_zero_le hb.1
  by_cases hl : 10 < s.size
  · exact walk_long a b s hs hl w
  · exact walk_short a (by omega) b (by omega) s (by omega) w

theorem own : ownKnob Try.prog.godebug = none := by kernel_rfl
theorem laidOut : laidOutB Try.prog = true := by kernel_rfl

set_option maxRecDepth 100000 in
theorem lifted (os : Os) (started : os.Started) (H : Type) (enc : TypeId × Value → H) :
    ReturnsInHanded {} Try.checked os 6 .any (Rows.septOneSpec.pre6 enc Try.prog Try.f6 Rows.septOneRow.domain false) (Rows.septOneSpec.post enc Try.prog Try.f6 false true false false) := by
  refine returnsInHanded_of_change_shaped (C := Try.checked) own started (by kernel_rfl) Try.func6
    (ChangeSpec.witness6 (enc := enc) (C := Try.checked) false ⟨#[], #[.int .u64 0, .int .u64 0, .string ByteArray.empty], []⟩ 8 (by kernel_rfl) (by kernel_rfl) (by kernel_rfl) (by kernel_rfl)) ?_
  intro W base args ds gs before hval0 hW hcnd hsz0 hsh _
  have hval : ∀ (j : Nat) t v, Try.f6.params[j]? = some t → args[j]? = some v → Value.okWide Try.prog W .any base t v := hval0
  have hsz : (DataW.weightsEach Try.prog (Try.f6.params.toList ++ Rows.septOneSpec.plain.varTypes Try.prog) (ds ++ gs)).all (· ≤ reachBytes) = true := hsz0
  have hW' := hW
  obtain ⟨p, q, hA0, hV, rfl, hfz, hnd⟩ := hW
  have hA : DataW.TrodAll enc Try.prog W 0 (fun _ => true) true Try.f6.params.toList args.toList ds p := hA0
  rw [Try.params6] at hA hval hsz
  obtain ⟨v0, vs0, d0, ds0, p0, q0, hargs, rfl, rfl, h0, r0⟩ := trodAll_cons hA
  obtain ⟨v1, vs1, d1, ds1, p1, q1, rfl, rfl, rfl, h1, r1⟩ := trodAll_cons r0
  obtain ⟨v2, vs2, d2, ds2, p2, q2, rfl, rfl, rfl, h2, r2⟩ := trodAll_cons r1
  obtain ⟨rfl, rfl, rfl⟩ := trodAll_nil r2
  obtain rfl : args = #[v0, v1, v2] := by cases args; simp_all
  obtain ⟨rfl, rfl⟩ := trodVars_none hV
  have k0 := h0
  have lt0 : ∀ x ∈ p0, x.block < W.heap.size := by obtain ⟨m, hm⟩ := k0; exact DataW.trod_lt m _ _ _ hm
  have k1 := h1
  have lt1 : ∀ x ∈ p1, x.block < W.heap.size := by obtain ⟨m, hm⟩ := k1; exact DataW.trod_lt m _ _ _ hm
  have k2 := h2
  have lt2 : ∀ x ∈ p2, x.block < W.heap.size := by obtain ⟨m, hm⟩ := k2; exact DataW.trod_lt m _ _ _ hm
  obtain ⟨a0, rfl, rfl, rfl, w0⟩ := open_int Try.underlying22 (hval 0 22 v0 rfl rfl) h0
  obtain ⟨a1, rfl, rfl, rfl, w1⟩ := open_int Try.underlying22 (hval 1 22 v1 rfl rfl) h1
  obtain ⟨a2, rfl, rfl, rfl, w2⟩ := open_string Try.underlying9 (hval 2 9 v2 rfl rfl) h2
  clear hA0 hval0
  refine (walk a0 w0 a1 w1 a2 w2 W).mono fun e W' ⟨he, bel⟩ => ?_
  subst he
  exact ⟨_, rfl, _, _, _, [], _, [], hW', trodAll_mk1 (shut_bool Try.underlying4 _), (trodAll_cons_mk (Below.trod laidOut (by kernel_rfl) (of_decide_eq_true (by kernel_rfl)) k0 bel lt0) (trodAll_cons_mk (Below.trod laidOut (by kernel_rfl) (of_decide_eq_true (by kernel_rfl)) k1 bel lt1) (trodAll_cons_mk (Below.trod laidOut (by kernel_rfl) (of_decide_eq_true (by kernel_rfl)) k2 bel lt2) trodAll_mk0))), rfl, bel.frame _, fun h => by cases h⟩

theorem over : Rows.septOneRow.holds Try.pinned (OpenSpec.ofChange Rows.septOneSpec) :=
  OpenClaim.holds_of_wide 6 Try.f6 rfl rfl rfl rfl rfl rfl rfl ⟨rfl, rfl, rfl, rfl, rfl⟩ rfl rfl rfl rfl rfl (by kernel_rfl) Try.func6 (by kernel_rfl)
    (of_decide_eq_true (by kernel_rfl)) (by unfold Func.isWrapper; first | (rw [if_pos (by decide +kernel)]; kernel_rfl) | (rw [if_neg (by decide +kernel)]; exact ⟨rfl, rfl⟩))
    (fun os started H enc _ => lifted os started H enc)

theorem proved : Rows.SeptOneSaid :=
  over
#print axioms proved
end Go.Proofs.Ytoooodaodnjphaa.septOne
