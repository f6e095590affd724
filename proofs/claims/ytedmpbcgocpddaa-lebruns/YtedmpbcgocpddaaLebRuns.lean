/-
  LebRuns is true for every input: the bytes of a number of 32 bits or fewer have no more than four bytes 255 on end, and end below 128. No condition.
-/
import Derived.Test.YtedmpbcgocpddaaLebAwake
import Derived.ProofKit
import Derived.OpenShut
import Derived.ShutString
import Derived.HandedShaped
namespace Go.Proofs.Ytedmpbcgocpddaa.lebRuns
open Go.ChangeShapes Go.WideShapes Go.ChangeAt Go.RowKit
open Go.ChangeMaps (open_string shut_string)
set_option linter.unusedVariables false

set_option maxRecDepth 100000 in
set_option maxHeartbeats 2000000 in
theorem walk_nat (n : Nat) (hn : n < 4294967296) (w : World) :
    Calls Try.prog 8 #[.int .u32 n] w fun e w' => e = .returned (.bool true) ∧ Below w.heap.size w w' := by
  have H0 := Lib.hid (lput_any _ w.heap.size [] (wr_new w) n (by omega) (by decide))
  have l5 := lebL_le n 5 (by omega) (by have : (128 : Nat) ^ 5 = 34359738368 := by decide
                                        omega)
  have lp := lebL_pos n
  have ll := lebL_last n
  obtain ⟨s, hs⟩ : ∃ s : ByteArray, s = ⟨(lebL n).toArray⟩ := ⟨_, rfl⟩
  have hsl : s.data.toList = lebL n := by rw [hs]
  have hsz : s.size = (lebL n).length := by show s.data.size = _; rw [hs]; simp
  have hlast : ∀ k (h : k < s.size), k + 1 = s.size → s[k].toNat < 128 := by
    intro k h hk
    have h1 := ll k (by omega) (by omega)
    have e : (lebL n)[k]? = some s[k] := by rw [← hsl, Array.getElem?_toList]; exact Array.getElem?_eq_getElem h
    rw [List.getElem?_eq_getElem (by omega)] at e
    rw [Option.some.inj e] at h1
    exact h1
  rw [← hsz] at l5 lp
  have Hs := Lib.hid hs
  have Hlast := Lib.hid hlast
  clear hs hsl hsz hlast ll
  go_enter Try.func8, Try.ntmps8
  go_wp2_with fail
  refine H0.out.mono ?_
  rintro e w1 ⟨rfl, h1, g1⟩
  have b1 : Below w.heap.size w w1 := ((Below.refl _ _).alloc (Nat.le_refl _) _).trans g1
  rw [List.nil_append] at h1
  clear g1 H0
  have S := string_any _ _ _ h1
  rw [← Hs.out] at S
  have HS := Lib.hid S
  clear S h1 Hs
  go_wp2_with fail
  refine HS.out.mono ?_
  rintro e w2 ⟨rfl, rfl⟩
  clear HS
  go_wp2_with fail
  go_loop [5, 6, 7] (fun r m i => ∃ (j r0 m0 : Nat), j ≤ s.size ∧ i = .int .i64 j ∧ r = .int .i64 r0 ∧ m = .int .i64 m0 ∧ r0 ≤ j ∧ m0 ≤ 4) (fun _ _ i => s.size - (intOf i).toNat)
  case atStart => exact ⟨0, 0, 0, by omega, rfl, rfl, rfl, by omega, by omega⟩
  case round =>
    obtain ⟨j, r0, m0, hj, rfl, rfl, rfl, hr, hm⟩ := hrel
    by_cases hlt : j < s.size
    · have hl := Hlast.out j hlt
      by_cases h255 : s[j].toNat = 255
      · have hne : j + 1 ≠ s.size := fun e => by have := hl e; omega
        have hb : (((s[j].toNat : Nat) : Int) != 255) = false := by rw [h255]; rfl
        have H255 := Lib.hid h255
        clear hl h255
        go_wp2
        go_round
        case rel => exact ⟨j + 1, r0 + 1, max m0 (r0 + 1), by omega, by go_num, by go_num, by first | (congr 1; done) | (congr 1; omega), by omega, by omega⟩
        case measure => simp [intOf]; omega
      · have hb : (((s[j].toNat : Nat) : Int) != 255) = true := by rw [bne_iff_ne]; omega
        have H255 := Lib.hid h255
        clear hl h255
        go_wp2
        go_round
        case rel => exact ⟨j + 1, 0, m0, by omega, by go_num, by go_num, by first | (congr 1; done) | (congr 1; omega), by omega, by omega⟩
        case measure => simp [intOf]; omega
    · have hl := Hlast.out (s.size - 1) (by omega) (by omega)
      clear Hlast
      have hm4 : decide ((m0 : Int) ≤ 4) = true := by simp; omega
      have hz : decide ((0 : Int) < (s.size : Int)) = true := by simp; omega
      have hz' : decide (0 < s.size) = true := by simp; omega
      have Hl := Lib.hid hl
      clear hl
      go_wp2_with fail
      refine (awake2_any _).mono ?_
      rintro e w2 ⟨rfl, b2⟩
      have b3 := b1.trans (b2.mono b1.size)
      go_wp2_with fail
      go_ret
      have hl := Hl.out
      exact ⟨congrArg Ending.returned (congrArg Value.bool (decide_eq_true (by omega))), b3⟩

theorem walk (n : Int) (h : (Lit.int .u32 n).wf = true) (w : World) :
    Calls Try.prog 8 #[.int .u32 n] w fun e w' => e = .returned (.bool true) ∧ Below w.heap.size w w' := by
  have hb := bounds_u32 h
  obtain ⟨n, rfl⟩ := Int.eq_ofNat_of_zero_le hb.1
  exact walk_nat n (by omega) w

theorem own : ownKnob Try.prog.godebug = none := by kernel_rfl
theorem laidOut : laidOutB Try.prog = true := by kernel_rfl

set_option maxRecDepth 100000 in
theorem lifted (os : Os) (started : os.Started) (H : Type) (enc : TypeId × Value → H) :
    ReturnsInHanded {} Try.checked os 8 .any (Rows.lebRunsSpec.pre6 enc Try.prog Try.f8 Rows.lebRunsRow.domain false) (Rows.lebRunsSpec.post enc Try.prog Try.f8 false true false false) := by
  refine returnsInHanded_of_change_shaped (C := Try.checked) own started (by kernel_rfl) Try.func8
    (ChangeSpec.witness6 (enc := enc) (C := Try.checked) false ⟨#[], #[.int .u32 0], []⟩ 8 (by kernel_rfl) (by kernel_rfl) (by kernel_rfl) (by kernel_rfl)) ?_
  intro W base args ds gs before hval0 hW hcnd hsz0 hsh _
  have hval : ∀ (j : Nat) t v, Try.f8.params[j]? = some t → args[j]? = some v → Value.okWide Try.prog W .any base t v := hval0
  have hsz : (DataW.weightsEach Try.prog (Try.f8.params.toList ++ Rows.lebRunsSpec.plain.varTypes Try.prog) (ds ++ gs)).all (· ≤ reachBytes) = true := hsz0
  have hW' := hW
  obtain ⟨p, q, hA0, hV, rfl, hfz, hnd⟩ := hW
  have hA : DataW.TrodAll enc Try.prog W 0 (fun _ => true) true Try.f8.params.toList args.toList ds p := hA0
  rw [Try.params8] at hA hval hsz
  obtain ⟨v0, vs0, d0, ds0, p0, q0, hargs, rfl, rfl, h0, r0⟩ := trodAll_cons hA
  obtain ⟨rfl, rfl, rfl⟩ := trodAll_nil r0
  obtain rfl : args = #[v0] := by cases args; simp_all
  obtain ⟨rfl, rfl⟩ := trodVars_none hV
  have k0 := h0
  have lt0 : ∀ x ∈ p0, x.block < W.heap.size := by obtain ⟨m, hm⟩ := k0; exact DataW.trod_lt m _ _ _ hm
  obtain ⟨a0, rfl, rfl, rfl, w0⟩ := open_int Try.underlying54 (hval 0 54 v0 rfl rfl) h0
  clear hA0 hval0
  refine (walk a0 w0 W).mono fun e W' ⟨he, bel⟩ => ?_
  subst he
  exact ⟨_, rfl, _, _, _, [], _, [], hW', trodAll_mk1 (shut_bool Try.underlying4 _), (trodAll_cons_mk (Below.trod laidOut (by kernel_rfl) (of_decide_eq_true (by kernel_rfl)) k0 bel lt0) trodAll_mk0), rfl, bel.frame _, fun h => by cases h⟩

theorem over : Rows.lebRunsRow.holds Try.pinned (OpenSpec.ofChange Rows.lebRunsSpec) :=
  OpenClaim.holds_of_wide 8 Try.f8 rfl rfl rfl rfl rfl rfl rfl ⟨rfl, rfl, rfl, rfl, rfl⟩ rfl rfl rfl rfl rfl (by kernel_rfl) Try.func8 (by kernel_rfl)
    (of_decide_eq_true (by kernel_rfl)) (by unfold Func.isWrapper; first | (rw [if_pos (by decide +kernel)]; kernel_rfl) | (rw [if_neg (by decide +kernel)]; exact ⟨rfl, rfl⟩))
    (fun os started H enc _ => lifted os started H enc)

theorem proved : Rows.LebRunsSaid :=
  over
#print axioms proved
end Go.Proofs.Ytedmpbcgocpddaa.lebRuns
