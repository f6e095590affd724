/-
  SeptBack is true for every input: what is put is got as it was, whatever stands behind it; no byte of it is above 127. No condition.
-/
import Derived.Test.YtoooodaodnjphaaSeptRef
import Derived.ProofKit
import Derived.OpenShut
import Derived.ShutString
import Derived.HandedShaped
namespace Go.Proofs.Ytoooodaodnjphaa.septBack
open Go.ChangeShapes Go.WideShapes Go.ChangeAt Go.RowKit
open Go.ChangeMaps (open_string shut_string)
set_option linter.unusedVariables false

set_option maxRecDepth 100000 in
set_option maxHeartbeats 1000000 in
theorem walk_long (n c : Int) (s : ByteArray) (hs : s.size ≤ maxLen) (hbig : 200 < s.size) (w : World) :
    Calls Try.prog 5 #[.int .u64 n, .int .i64 c, .string s] w fun e w' => e = .returned (.bool true) ∧ Below w.heap.size w w' := by
  unfold maxLen at hs
  have h1 : decide ((200 : Int) < (s.size : Int)) = true := by simp; omega
  go_enter Try.func5, Try.ntmps5
  go_wp2_with fail
  refine (awake4_any _).mono ?_
  rintro e w1 ⟨rfl, hb⟩
  go_wp2_with fail
  refine (awake4_any _).mono ?_
  rintro e w2 ⟨rfl, hb2⟩
  go_wp2
  go_ret
  exact ⟨rfl, hb.trans (hb2.mono hb.size)⟩

set_option maxRecDepth 100000 in
set_option maxHeartbeats 1000000 in
theorem walk_unfit (n c : Int) (s : ByteArray) (hs : s.size ≤ 200) (HF : Hid (∀ w, Calls Try.prog 12 #[.int .u64 n, .int .i64 c] w fun e w' => e = .returned (.bool false) ∧ w = w')) (w : World) :
    Calls Try.prog 5 #[.int .u64 n, .int .i64 c, .string s] w fun e w' => e = .returned (.bool true) ∧ Below w.heap.size w w' := by
  have h1 : decide ((200 : Int) < (s.size : Int)) = false := by simp; omega
  go_enter Try.func5, Try.ntmps5
  go_wp2_with fail
  refine (awake4_any _).mono ?_
  rintro e w1 ⟨rfl, hb⟩
  go_wp2_with fail
  refine (HF.out _).mono ?_
  rintro e w2 ⟨rfl, rfl⟩
  go_wp2_with fail
  refine (awake4_any _).mono ?_
  rintro e w2 ⟨rfl, hb2⟩
  go_wp2
  go_ret
  exact ⟨rfl, hb.trans (hb2.mono hb.size)⟩

set_option maxRecDepth 100000 in
set_option maxHeartbeats 2000000 in
theorem walk_fit (n c : Nat) (hn : n < 18446744073709551616) (hc1 : 1 ≤ c) (hc2 : c ≤ 10) (hf : n < 128 ^ c) (s : ByteArray) (hs : s.size ≤ 200) (w : World) :
    Calls Try.prog 5 #[.int .u64 n, .int .i64 c, .string s] w fun e w' => e = .returned (.bool true) ∧ Below w.heap.size w w' := by
  have h1 : decide ((200 : Int) < (s.size : Int)) = false := by simp; omega
  have hF := fun w => fits_any n c hn hc1 hc2 w
  rw [decide_eq_true hf] at hF
  have HF := Lib.hid hF
  have H1 := Lib.hid (fun w => sput_ok (w.alloc (.cells #[.slice none 0 0] 25)) w.heap.size [] (wr_new w) n c hn hc1 hc2 hf (by decide))
  have hG := septGet_put n c s.data.toList hc2 hf hn
  have hl := septL_len c n
  have hlow := septL_low c n
  generalize septL n c = A at *
  obtain ⟨t, ht⟩ : ∃ t : ByteArray, t = ⟨A.toArray⟩ := ⟨_, rfl⟩
  have htl : t.data.toList = A := by rw [ht]
  have htz : t.size = c := by show t.data.size = c; rw [← Array.length_toList, htl, hl]
  have hat : ∀ i (h : i < t.size), t[i].toNat < 128 := fun i h => hlow _ (by rw [← htl]; exact Array.mem_toList_iff.2 (Array.getElem_mem (xs := t.data) h))
  have hcat : (t ++ s).data.toList = A ++ s.data.toList := by rw [ByteArray.data_append, Array.toList_append, htl]
  have hcz : (t ++ s).size = c + s.size := by rw [ByteArray.size_append, htz]
  rw [← hcat] at hG
  have HG := Lib.hid (fun w => sget_new w (t ++ s) (by rw [hcz]; unfold maxLen; omega) c hc1 hc2 n 0 c hG)
  have Ht := Lib.hid ht
  have Hat := Lib.hid hat
  have Htz := Lib.hid htz
  have Hcz := Lib.hid hcz
  clear hn hf hF hG hl hlow ht htl hat hcat hcz
  go_enter Try.func5, Try.ntmps5
  go_wp2_with fail
  refine (awake4_any _).mono ?_
  rintro e w1 ⟨rfl, b1⟩
  go_wp2_with fail
  refine (HF.out _).mono ?_
  rintro e w2 ⟨rfl, rfl⟩
  clear HF
  go_wp2_with fail
  refine (H1.out _).mono ?_
  rintro e w2 ⟨rfl, h2, g2⟩
  have hz := b1.size
  have b2 : Below w.heap.size w w2 := b1.trans ((((Below.refl _ _).alloc (Nat.le_refl _) _).trans g2).mono hz)
  rw [List.nil_append] at h2
  generalize w1.heap.size = b at *
  clear b1 g2 H1
  have hst := string_any _ _ _ h2
  rw [← Ht.out] at hst
  have Hst := Lib.hid hst
  clear hst h2 Ht
  go_wp2_with fail
  refine Hst.out.mono ?_
  rintro e w3 ⟨rfl, rfl⟩
  clear Hst
  go_wp2_with fail
  go_loop [9] (fun x => ∃ i : Nat, x = .int .i64 i ∧ i ≤ c) (fun x => ((c : Int) - intOf x).toNat)
  case atStart => exact ⟨0, rfl, by omega⟩
  case round =>
    obtain ⟨i, rfl, hi⟩ := hrel
    by_cases hlt : i < t.size
    · have hx := Hat.out i hlt
      have hd : decide ((127 : Int) < (t[i].toNat : Int)) = false := by simp; omega
      go_wp2
      go_round
      case rel => exact ⟨i + 1, by go_num, by omega⟩
      case measure => simp [intOf]; omega
    · obtain rfl : i = t.size := by omega
      have hsz : s.size + t.size < 300 := by omega
      go_wp2_with fail
      refine (new_any _ (t ++ s)).mono ?_
      rintro e w3 ⟨rfl, rfl⟩
      go_wp2_with fail
      refine (HG.out _).mono ?_
      rintro e w3 ⟨rfl, b3⟩
      have b4 := b2.trans (b3.mono b2.size)
      clear b2 b3 HG
      have hE : ((t.size : Int) == (c : Int)) = true := by rw [beq_iff_eq, Htz.out]
      go_wp2
      go_ret
      exact ⟨by simp, b4⟩

theorem walk (n : Int) (h : (Lit.int .u64 n).wf = true) (c : Int) (h' : (Lit.int .i64 c).wf = true) (s : ByteArray) (hs : s.size ≤ maxLen) (w : World) :
    Calls Try.prog 5 #[.int .u64 n, .int .i64 c, .string s] w fun e w' => e = .returned (.bool true) ∧ Below w.heap.size w w' := by
  have hb := bounds_u64 h
  obtain ⟨n, rfl⟩ := Int.eq_ofNat_of_zero_le hb.1
  by_cases hl : 200 < s.size
  · exact walk_long n c s hs hl w
  · by_cases hc : c < 1 ∨ 10 < c
    · exact walk_unfit n c s (by omega) (Lib.hid fun w => fits_no n c hc w) w
    · obtain ⟨c, rfl⟩ := Int.eq_ofNat_of_zero_le (show 0 ≤ c by omega)
      by_cases hf : n < 128 ^ c
      · exact walk_fit n c (by omega) (by omega) (by omega) hf s (by omega) w
      · refine walk_unfit n c s (by omega) (Lib.hid fun w => ?_) w
        have hF := fits_any n c (by omega) (by omega) (by omega) w
        rwa [decide_eq_false hf] at hF

theorem own : ownKnob Try.prog.godebug = none := by kernel_rfl
theorem laidOut : laidOutB Try.prog = true := by kernel_rfl

set_option maxRecDepth 100000 in
theorem lifted (os : Os) (started : os.Started) (H : Type) (enc : TypeId × Value → H) :
    ReturnsInHanded {} Try.checked os 5 .any (Rows.septBackSpec.pre6 enc Try.prog Try.f5 Rows.septBackRow.domain false) (Rows.septBackSpec.post enc Try.prog Try.f5 false true false false) := by
  refine returnsInHanded_of_change_shaped (C := Try.checked) own started (by kernel_rfl) Try.func5
    (ChangeSpec.witness6 (enc := enc) (C := Try.checked) false ⟨#[], #[.int .u64 0, .int .i64 0, .string ByteArray.empty], []⟩ 8 (by kernel_rfl) (by kernel_rfl) (by kernel_rfl) (by kernel_rfl)) ?_
  intro W base args ds gs before hval0 hW hcnd hsz0 hsh _
  have hval : ∀ (j : Nat) t v, Try.f5.params[j]? = some t → args[j]? = some v → Value.okWide Try.prog W .any base t v := hval0
  have hsz : (DataW.weightsEach Try.prog (Try.f5.params.toList ++ Rows.septBackSpec.plain.varTypes Try.prog) (ds ++ gs)).all (· ≤ reachBytes) = true := hsz0
  have hW' := hW
  obtain ⟨p, q, hA0, hV, rfl, hfz, hnd⟩ := hW
  have hA : DataW.TrodAll enc Try.prog W 0 (fun _ => true) true Try.f5.params.toList args.toList ds p := hA0
  rw [Try.params5] at hA hval hsz
  obtain ⟨v0, vs0, d0, ds0, p0, q0, hargs, rfl, rfl, h0, r0⟩ := trodAll_cons hA
  obtain ⟨v1, vs1, d1, ds1, p1, q1, rfl, rfl, rfl, h1, r1⟩ := trodAll_cons r0
  obtain ⟨v2, vs2, d2, ds2, p2, q2, rfl, rfl, rfl, h2, r2⟩ := trodAll_cons r1
  obtain ⟨rfl, rfl, rfl⟩ := trodAll_nil r2
  obtain rfl : args = #[v0, v1, v2] := by cases args; simp_all
  obtain ⟨rfl, rfl⟩ := trodVars_none hV
  have k0 := h0
  have lt0 : ∀ x ∈ p0, x.block < W.heap.size := by obtain ⟨m, hm⟩ := k0; exact DataW.trod_lt m _ _ _ hm
  have k1 := h1
  have lt1 : ∀ x ∈ p1, x.block < W.heap.size := by obtain ⟨m, hm⟩ := k1; exact DataW.trod_lt m _ _ _ hm
  have k2 := h2
  have lt2 : ∀ x ∈ p2, x.block < W.heap.size := by obtain ⟨m, hm⟩ := k2; exact DataW.trod_lt m _ _ _ hm
  obtain ⟨a0, rfl, rfl, rfl, w0⟩ := open_int Try.underlying22 (hval 0 22 v0 rfl rfl) h0
  obtain ⟨a1, rfl, rfl, rfl, w1⟩ := open_int Try.underlying3 (hval 1 3 v1 rfl rfl) h1
  obtain ⟨a2, rfl, rfl, rfl, w2⟩ := open_string Try.underlying9 (hval 2 9 v2 rfl rfl) h2
  clear hA0 hval0
  refine (walk a0 w0 a1 w1 a2 w2 W).mono fun e W' ⟨he, bel⟩ => ?_
  subst he
  exact ⟨_, rfl, _, _, _, [], _, [], hW', trodAll_mk1 (shut_bool Try.underlying4 _), (trodAll_cons_mk (Below.trod laidOut (by kernel_rfl) (of_decide_eq_true (by kernel_rfl)) k0 bel lt0) (trodAll_cons_mk (Below.trod laidOut (by kernel_rfl) (of_decide_eq_true (by kernel_rfl)) k1 bel lt1) (trodAll_cons_mk (Below.trod laidOut (by kernel_rfl) (of_decide_eq_true (by kernel_rfl)) k2 bel lt2) trodAll_mk0))), rfl, bel.frame _, fun h => by cases h⟩

theorem over : Rows.septBackRow.holds Try.pinned (OpenSpec.ofChange Rows.septBackSpec) :=
  OpenClaim.holds_of_wide 5 Try.f5 rfl rfl rfl rfl rfl rfl rfl ⟨rfl, rfl, rfl, rfl, rfl⟩ rfl rfl rfl rfl rfl (by kernel_rfl) Try.func5 (by kernel_rfl)
    (of_decide_eq_true (by kernel_rfl)) (by unfold Func.isWrapper; first | (rw [if_pos (by decide +kernel)]; kernel_rfl) | (rw [if_neg (by decide +kernel)]; exact ⟨rfl, rfl⟩))
    (fun os started H enc _ => lifted os started H enc)

theorem proved : Rows.SeptBackSaid :=
  over
#print axioms proved
end Go.Proofs.Ytoooodaodnjphaa.septBack
