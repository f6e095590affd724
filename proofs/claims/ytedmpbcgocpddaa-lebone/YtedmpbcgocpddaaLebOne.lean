/-
  LebOne is true for every input: two numbers have the same bytes just if they are one, and no number's bytes begin another one's. No condition.
-/
import Derived.Test.YtedmpbcgocpddaaLebFoot
import Derived.ProofKit
import Derived.Lib.IndexMore
import Derived.Lib.IndexBytes
import Derived.OpenShut
import Derived.ShutString
import Derived.HandedShaped
namespace Go.Proofs.Ytedmpbcgocpddaa.lebOne
open Go.ChangeShapes Go.WideShapes Go.ChangeAt Go.RowKit
open Go.ChangeMaps (open_string shut_string)
set_option linter.unusedVariables false

/-- A number's bytes as a text. -/
def txt (n : Nat) : ByteArray := ⟨(lebL n).toArray⟩
theorem txt_list (n : Nat) : (txt n).data.toList = lebL n := by simp [txt]
theorem txt_size (n : Nat) : (txt n).size = (lebL n).length := by show (txt n).data.size = _; simp [txt]

theorem txt_begins (a b : Nat) (ha : a < 18446744073709551616) (hb : b < 18446744073709551616) (hne : a ≠ b) (h : (txt a).size ≤ (txt b).size) : (((txt b).extract 0 (txt a).size).toList == (txt a).toList) = false := by
  rw [ByteArray.toList_eq, ByteArray.toList_eq, beq_eq_false_iff_ne]
  intro e
  have e1 : ((txt b).extract 0 (txt a).size).data.toList = (lebL b).take (lebL a).length := by
    rw [Lib.extract_data, txt_list, txt_size]; simp
  rw [e1, txt_list] at e
  have h2 := List.take_append_drop (lebL a).length (lebL b)
  rw [e] at h2
  exact hne (lebL_inj ha hb ((lebL b).drop (lebL a).length) [] (by rw [h2, List.append_nil]))

theorem txt_ne (a b : Nat) (ha : a < 18446744073709551616) (hb : b < 18446744073709551616) (hne : a ≠ b) : ((txt a).toList == (txt b).toList) = false := by
  rw [ByteArray.toList_eq, ByteArray.toList_eq, beq_eq_false_iff_ne, txt_list, txt_list]
  intro e
  exact hne (lebL_inj ha hb [] [] (by rw [e]))

set_option maxRecDepth 100000 in
set_option maxHeartbeats 2000000 in
theorem walk_nat (a : Nat) (ha : a < 18446744073709551616) (b : Nat) (hb : b < 18446744073709551616) (w : World) :
    Calls Try.prog 6 #[.int .u64 a, .int .u64 b] w fun e w' => e = .returned (.bool true) ∧ Below w.heap.size w w' := by
  have H1 := Lib.hid (fun (w : World) (c : Nat) (v : Value) (h : WrF w c v []) => lput_foot w c v [] h a ha (by decide))
  have H2 := Lib.hid (fun (w : World) (c : Nat) (v : Value) (h : WrF w c v []) => lput_foot w c v [] h b hb (by decide))
  have F1 := Lib.hid (txt_begins a b ha hb)
  have F2 := Lib.hid (txt_ne a b ha hb)
  have la := lebL_len10 a ha
  have lb := lebL_len10 b hb
  have za : (txt a).size ≤ 10 := by rw [txt_size]; exact la
  have zb : (txt b).size ≤ 10 := by rw [txt_size]; exact lb
  clear ha hb la lb
  go_enter Try.func6, Try.ntmps6
  go_wp2_with fail
  have v0 := (wrf_new w).alloc (.cells #[.slice none 0 0] 25)
  have u0 := wrf_new (w.alloc (.cells #[.slice none 0 0] 25))
  have hz : (w.alloc (.cells #[.slice none 0 0] 25)).heap.size = w.heap.size + 1 := by simp
  rw [hz] at u0
  have b0 : Below w.heap.size w ((w.alloc (.cells #[.slice none 0 0] 25)).alloc (.cells #[.slice none 0 0] 25)) := ((Below.refl _ _).alloc (Nat.le_refl _) _).alloc (by simp) _
  have hs0 : ((w.alloc (.cells #[.slice none 0 0] 25)).alloc (.cells #[.slice none 0 0] 25)).heap.size = w.heap.size + 2 := by simp
  clear hz
  generalize (w.alloc (.cells #[.slice none 0 0] 25)).alloc (.cells #[.slice none 0 0] 25) = w0 at *
  have Hs0 := Lib.hid hs0
  clear hs0
  refine (H1.out _ _ _ v0).mono ?_
  rintro e w1 ⟨rfl, v', h1, o1, f1⟩
  clear v0 H1
  have u1 := u0.only o1 (by simp [Value.ownBlock]) (by simp [Value.ownBlock])
  have b1 : Below w.heap.size w w1 := b0.trans (o1.below (by rw [Hs0.out]; omega) (by simp [Value.ownBlock]))
  have hb1 := o1.size
  have Hf1 := Lib.hid f1
  clear o1 f1 u0 b0
  go_wp2_with fail
  refine (H2.out _ _ _ u1).mono ?_
  rintro e w2 ⟨rfl, u', h2, o2, f2⟩
  clear u1 H2
  have h1' := h1.only o2 (by simp [Value.ownBlock]) (by
    intro k hk
    have h0 := Hf1.out k hk
    rw [Hs0.out] at h0
    simp [Value.ownBlock] at h0 ⊢
    omega)
  have b2 : Below w.heap.size w w2 := b1.trans (o2.below b1.size (by simp [Value.ownBlock]))
  clear h1 o2 f2 b1 Hf1
  rw [List.nil_append] at h1' h2
  have S1 := Lib.hid (string_foot _ _ _ _ h1')
  have S2 := Lib.hid (string_foot _ _ _ _ h2)
  clear h1' h2
  go_wp2_with fail
  refine S1.out.mono ?_
  rintro e w3 ⟨rfl, rfl⟩
  go_wp2_with fail
  refine S2.out.mono ?_
  rintro e w3 ⟨rfl, rfl⟩
  clear S1 S2
  rw [show (⟨(lebL a).toArray⟩ : ByteArray) = txt a from rfl, show (⟨(lebL b).toArray⟩ : ByteArray) = txt b from rfl]
  by_cases hab : a = b
  · subst hab
    have e1 : ((txt a).extract 0 (txt a).size) = txt a := ByteArray.extract_zero_size
    clear F1 F2
    go_wp2_with fail
    refine (awake2_any _).mono ?_
    rintro e w3 ⟨rfl, b3⟩
    have b4 := b2.trans (b3.mono b2.size)
    go_wp2
    go_ret
    exact ⟨by simp, b4⟩
  · have hn : ((a : Int) == (b : Int)) = false := by rw [beq_eq_false_iff_ne]; omega
    have e2 := F2.out hab
    by_cases hle : (txt a).size ≤ (txt b).size
    · have e1 := F1.out hab hle
      have hd : decide ((txt a).size ≤ (txt b).size) = true := by simpa using hle
      clear F1 F2 hab
      go_wp2_with fail
      refine (awake2_any _).mono ?_
      rintro e w3 ⟨rfl, b3⟩
      have b4 := b2.trans (b3.mono b2.size)
      go_wp2
      go_ret
      exact ⟨by simp, b4⟩
    · have hd : decide ((txt a).size ≤ (txt b).size) = false := by simpa using hle
      clear F1 F2 hab
      go_wp2_with fail
      refine (awake2_any _).mono ?_
      rintro e w3 ⟨rfl, b3⟩
      have b4 := b2.trans (b3.mono b2.size)
      go_wp2
      go_ret
      exact ⟨by simp, b4⟩

theorem walk (n : Int) (h : (Lit.int .u64 n).wf = true) (m : Int) (h' : (Lit.int .u64 m).wf = true) (w : World) :
    Calls Try.prog 6 #[.int .u64 n, .int .u64 m] w fun e w' => e = .returned (.bool true) ∧ Below w.heap.size w w' := by
  have hb := bounds_u64 h
  have hb' := bounds_u64 h'
  obtain ⟨m, rfl⟩ := Int.eq_ofNat_of_zero_le hb'.1
  obtain ⟨n, rfl⟩ := Int.eq_ofNat_of_zero_le hb.1
  exact walk_nat n (by omega) m (by omega) w

theorem own : ownKnob Try.prog.godebug = none := by kernel_rfl
theorem laidOut : laidOutB Try.prog = true := by kernel_rfl

set_option maxRecDepth 100000 in
theorem lifted (os : Os) (started : os.Started) (H : Type) (enc : TypeId × Value → H) :
    ReturnsInHanded {} Try.checked os 6 .any (Rows.lebOneSpec.pre6 enc Try.prog Try.f6 Rows.lebOneRow.domain false) (Rows.lebOneSpec.post enc Try.prog Try.f6 false true false false) := by
  refine returnsInHanded_of_change_shaped (C := Try.checked) own started (by kernel_rfl) Try.func6
    (ChangeSpec.witness6 (enc := enc) (C := Try.checked) false ⟨#[], #[.int .u64 0, .int .u64 0], []⟩ 8 (by kernel_rfl) (by kernel_rfl) (by kernel_rfl) (by kernel_rfl)) ?_
  intro W base args ds gs before hval0 hW hcnd hsz0 hsh _
  have hval : ∀ (j : Nat) t v, Try.f6.params[j]? = some t → args[j]? = some v → Value.okWide Try.prog W .any base t v := hval0
  have hsz : (DataW.weightsEach Try.prog (Try.f6.params.toList ++ Rows.lebOneSpec.plain.varTypes Try.prog) (ds ++ gs)).all (· ≤ reachBytes) = true := hsz0
  have hW' := hW
  obtain ⟨p, q, hA0, hV, rfl, hfz, hnd⟩ := hW
  have hA : DataW.TrodAll enc Try.prog W 0 (fun _ => true) true Try.f6.params.toList args.toList ds p := hA0
  rw [Try.params6] at hA hval hsz
  obtain ⟨v0, vs0, d0, ds0, p0, q0, hargs, rfl, rfl, h0, r0⟩ := trodAll_cons hA
  obtain ⟨v1, vs1, d1, ds1, p1, q1, rfl, rfl, rfl, h1, r1⟩ := trodAll_cons r0
  obtain ⟨rfl, rfl, rfl⟩ := trodAll_nil r1
  obtain rfl : args = #[v0, v1] := by cases args; simp_all
  obtain ⟨rfl, rfl⟩ := trodVars_none hV
  have k0 := h0
  have lt0 : ∀ x ∈ p0, x.block < W.heap.size := by obtain ⟨m, hm⟩ := k0; exact DataW.trod_lt m _ _ _ hm
  have k1 := h1
  have lt1 : ∀ x ∈ p1, x.block < W.heap.size := by obtain ⟨m, hm⟩ := k1; exact DataW.trod_lt m _ _ _ hm
  obtain ⟨a0, rfl, rfl, rfl, w0⟩ := open_int Try.underlying22 (hval 0 22 v0 rfl rfl) h0
  obtain ⟨a1, rfl, rfl, rfl, w1⟩ := open_int Try.underlying22 (hval 1 22 v1 rfl rfl) h1
  clear hA0 hval0
  refine (walk a0 w0 a1 w1 W).mono fun e W' ⟨he, bel⟩ => ?_
  subst he
  exact ⟨_, rfl, _, _, _, [], _, [], hW', trodAll_mk1 (shut_bool Try.underlying4 _), (trodAll_cons_mk (Below.trod laidOut (by kernel_rfl) (of_decide_eq_true (by kernel_rfl)) k0 bel lt0) (trodAll_cons_mk (Below.trod laidOut (by kernel_rfl) (of_decide_eq_true (by kernel_rfl)) k1 bel lt1) trodAll_mk0)), rfl, bel.frame _, fun h => by cases h⟩

theorem over : Rows.lebOneRow.holds Try.pinned (OpenSpec.ofChange Rows.lebOneSpec) :=
  OpenClaim.holds_of_wide 6 Try.f6 rfl rfl rfl rfl rfl rfl rfl ⟨rfl, rfl, rfl, rfl, rfl⟩ rfl rfl rfl rfl rfl (by kernel_rfl) Try.func6 (by kernel_rfl)
    (of_decide_eq_true (by kernel_rfl)) (by unfold Func.isWrapper; first | (rw [if_pos (by decide +kernel)]; kernel_rfl) | (rw [if_neg (by decide +kernel)]; exact ⟨rfl, rfl⟩))
    (fun os started H enc _ => lifted os started H enc)

theorem proved : Rows.LebOneSaid :=
  over
#print axioms proved
end Go.Proofs.Ytedmpbcgocpddaa.lebOne
