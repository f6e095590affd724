/-
  SeptSums is true for every input: a sum stands by five bytes, and is got from them. No condition.
-/
import Derived.Test.YtoooodaodnjphaaSeptRef
import Derived.ProofKit
import Derived.OpenShut
import Derived.ShutString
import Derived.HandedShaped
namespace Go.Proofs.Ytoooodaodnjphaa.septSums
open Go.ChangeShapes Go.WideShapes Go.ChangeAt Go.RowKit
open Go.ChangeMaps (open_string shut_string)
set_option linter.unusedVariables false

set_option maxRecDepth 100000 in
set_option maxHeartbeats 1000000 in
theorem walk_nat (n : Nat) (hn : n < 4294967296) (w : World) :
    Calls Try.prog 7 #[.int .u32 n] w fun e w' => e = .returned (.bool true) ∧ Below w.heap.size w w' := by
  have hf : n < 128 ^ 5 := Nat.lt_of_lt_of_le hn (by decide)
  have H0 := Lib.hid (ssum_any _ w.heap.size [] (wr_new w) n hn (by decide))
  have H1 := Lib.hid (fun w => ssum_nil w n hn)
  have hp := fun w => rsprint_any n 5 (by omega) (by omega) (by omega) w
  rw [decide_eq_true hf] at hp
  have HP := Lib.hid hp
  have hG := septGet_put n 5 [] (by omega) hf (by omega)
  rw [List.append_nil] at hG
  have hl := septL_len 5 n
  generalize septL n 5 = A at *
  obtain ⟨t, ht⟩ : ∃ t : ByteArray, t = ⟨A.toArray⟩ := ⟨_, rfl⟩
  have htl : t.data.toList = A := by rw [ht]
  have htz : t.size = 5 := by show t.data.size = 5; rw [← Array.length_toList, htl, hl]
  rw [← htl] at hG
  have HG := Lib.hid (fun w => sget_new w t (by rw [htz]; decide) 5 (by omega) (by omega) n 0 5 hG)
  have Ht := Lib.hid ht
  clear hf hp hG htl htz hl ht
  go_enter Try.func7, Try.ntmps7
  go_wp2_with fail
  refine H0.out.mono ?_
  rintro e w1 ⟨rfl, h1, g1⟩
  have b1 : Below w.heap.size w w1 := ((Below.refl _ _).alloc (Nat.le_refl _) _).trans g1
  rw [List.nil_append] at h1
  clear g1 H0
  go_wp2_with fail
  refine (H1.out _).mono ?_
  rintro e w2 ⟨rfl, rfl⟩
  clear H1
  go_wp2_with fail
  refine (HP.out _).mono ?_
  rintro e w2 ⟨rfl, b2⟩
  have h2 := h1.below b2
  have b3 := b1.trans (b2.mono b1.size)
  clear h1 b1 b2 HP
  rw [← Ht.out]
  have hs := string_any _ _ _ h2
  rw [← Ht.out] at hs
  have Hs := Lib.hid hs
  clear hs
  go_wp2_with fail
  refine Hs.out.mono ?_
  rintro e w3 ⟨rfl, rfl⟩
  clear Hs
  go_wp2_with fail
  refine (new_any _ t).mono ?_
  rintro e w3 ⟨rfl, rfl⟩
  go_wp2_with fail
  refine (HG.out _).mono ?_
  rintro e w3 ⟨rfl, b4⟩
  have h3 := h2.below b4
  have b5 := b3.trans (b4.mono b3.size)
  clear h2 b3 b4 HG
  go_wp2_with fail
  refine (awake4_any _).mono ?_
  rintro e w4 ⟨rfl, b6⟩
  have h4 := h3.below b6
  have b7 := b5.trans (b6.mono b5.size)
  clear h3 b5 b6
  have hs := string_any _ _ _ h4
  rw [← Ht.out] at hs
  have Hs := Lib.hid hs
  clear hs h4 Ht
  go_wp2_with fail
  refine Hs.out.mono ?_
  rintro e w5 ⟨rfl, rfl⟩
  go_wp2
  go_ret
  exact ⟨by simp, b7⟩

theorem walk (n : Int) (h : (Lit.int .u32 n).wf = true) (w : World) :
    Calls Try.prog 7 #[.int .u32 n] w fun e w' => e = .returned (.bool true) ∧ Below w.heap.size w w' := by
  have hb := bounds_u32 h
  obtain ⟨n, rfl⟩ := Int.eq_ofNat_of_zero_le hb.1
  exact walk_nat n (by omega) w

theorem own : ownKnob Try.prog.godebug = none := by kernel_rfl
theorem laidOut : laidOutB Try.prog = true := by kernel_rfl

set_option maxRecDepth 100000 in
theorem lifted (os : Os) (started : os.Started) (H : Type) (enc : TypeId × Value → H) :
    ReturnsInHanded {} Try.checked os 7 .any (Rows.septSumsSpec.pre6 enc Try.prog Try.f7 Rows.septSumsRow.domain false) (Rows.septSumsSpec.post enc Try.prog Try.f7 false true false false) := by
  refine returnsInHanded_of_change_shaped (C := Try.checked) own started (by kernel_rfl) Try.func7
    (ChangeSpec.witness6 (enc := enc) (C := Try.checked) false ⟨#[], #[.int .u32 0], []⟩ 8 (by kernel_rfl) (by kernel_rfl) (by kernel_rfl) (by kernel_rfl)) ?_
  intro W base args ds gs before hval0 hW hcnd hsz0 hsh _
  have hval : ∀ (j : Nat) t v, Try.f7.params[j]? = some t → args[j]? = some v → Value.okWide Try.prog W .any base t v := hval0
  have hsz : (DataW.weightsEach Try.prog (Try.f7.params.toList ++ Rows.septSumsSpec.plain.varTypes Try.prog) (ds ++ gs)).all (· ≤ reachBytes) = true := hsz0
  have hW' := hW
  obtain ⟨p, q, hA0, hV, rfl, hfz, hnd⟩ := hW
  have hA : DataW.TrodAll enc Try.prog W 0 (fun _ => true) true Try.f7.params.toList args.toList ds p := hA0
  rw [Try.params7] at hA hval hsz
  obtain ⟨v0, vs0, d0, ds0, p0, q0, hargs, rfl, rfl, h0, r0⟩ := trodAll_cons hA
  obtain ⟨rfl, rfl, rfl⟩ := trodAll_nil r0
  obtain rfl : args = #[v0] := by cases args; simp_all
  obtain ⟨rfl, rfl⟩ := trodVars_none hV
  have k0 := h0
  have lt0 : ∀ x ∈ p0, x.block < W.heap.size := by obtain ⟨m, hm⟩ := k0; exact DataW.trod_lt m _ _ _ hm
  obtain ⟨a0, rfl, rfl, rfl, w0⟩ := open_int Try.underlying45 (hval 0 45 v0 rfl rfl) h0
  clear hA0 hval0
  refine (walk a0 w0 W).mono fun e W' ⟨he, bel⟩ => ?_
  subst he
  exact ⟨_, rfl, _, _, _, [], _, [], hW', trodAll_mk1 (shut_bool Try.underlying4 _), (trodAll_cons_mk (Below.trod laidOut (by kernel_rfl) (of_decide_eq_true (by kernel_rfl)) k0 bel lt0) trodAll_mk0), rfl, bel.frame _, fun h => by cases h⟩

theorem over : Rows.septSumsRow.holds Try.pinned (OpenSpec.ofChange Rows.septSumsSpec) :=
  OpenClaim.holds_of_wide 7 Try.f7 rfl rfl rfl rfl rfl rfl rfl ⟨rfl, rfl, rfl, rfl, rfl⟩ rfl rfl rfl rfl rfl (by kernel_rfl) Try.func7 (by kernel_rfl)
    (of_decide_eq_true (by kernel_rfl)) (by unfold Func.isWrapper; first | (rw [if_pos (by decide +kernel)]; kernel_rfl) | (rw [if_neg (by decide +kernel)]; exact ⟨rfl, rfl⟩))
    (fun os started H enc _ => lifted os started H enc)

theorem proved : Rows.SeptSumsSaid :=
  over
#print axioms proved
end Go.Proofs.Ytoooodaodnjphaa.septSums
