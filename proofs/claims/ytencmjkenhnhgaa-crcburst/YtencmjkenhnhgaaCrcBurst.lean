/-
  CrcBurst is true for every input: of bytes that hold none hold behind a burst of at most 32 bits, wherever it lies. No condition.
-/
import Derived.Test.YtencmjkenhnhgaaCrcSpoil
import Derived.Test.YtencmjkenhnhgaaCrcAwake
import Derived.ProofKit
import Derived.OpenShut
import Derived.ShutString
import Derived.HandedShaped
namespace Go.Proofs.Ytencmjkenhnhgaa.crcBurst
open Go.ChangeShapes Go.WideShapes Go.ChangeAt Go.RowKit
open Go.ChangeMaps (open_string shut_string)
set_option linter.unusedVariables false

set_option maxRecDepth 100000 in
set_option maxHeartbeats 1000000 in
theorem walk_out (s : ByteArray) (hs : s.size ≤ maxLen) (n : Int) (p : Nat)
    (h : decide (500 < (s.size : Int)) = true ∨ (decide (500 < (s.size : Int)) = false ∧ decide (n < 0) = true) ∨ (s.size ≤ 500 ∧ decide (500 < (s.size : Int)) = false ∧ decide (n < 0) = false ∧ decide (8 * (s.size : Int) + 32 < n) = true)) (w : World) :
    Calls Try.prog 5 #[.string s, .int .i64 n, .int .u32 p] w fun e w' => e = .returned (.bool true) ∧ Below w.heap.size w w' := by
  rcases h with d1 | ⟨d1, d2⟩ | ⟨d0, d1, d2, d3⟩
  all_goals
    go_enter Try.func5, Try.ntmps5
    go_wp2_with fail
    refine (awake3_any _).mono ?_
    rintro e w1 ⟨rfl, b1⟩
    go_wp2_with fail
    refine (awake3_any _).mono ?_
    rintro e w2 ⟨rfl, b2⟩
    go_wp2
    go_ret
    exact ⟨rfl, b1.trans (b2.mono b1.size)⟩

set_option maxRecDepth 100000 in
set_option maxHeartbeats 1000000 in
theorem walk_near (s : ByteArray) (hs : s.size ≤ 500) (n p : Nat) (hn : n ≤ 8 * s.size + 32) (hp : p < 4294967296) (w : World) :
    Calls Try.prog 5 #[.string s, .int .i64 n, .int .u32 p] w fun e w' => e = .returned (.bool true) ∧ Below w.heap.size w w' := by
  have d1 : decide (500 < (s.size : Int)) = false := by simp; omega
  have d2 : decide ((n : Int) < 0) = false := by simp
  have d3 : decide (8 * (s.size : Int) + 32 < (n : Int)) = false := by simp; omega
  have hsm : s.size ≤ maxLen := by unfold maxLen; omega
  obtain ⟨S, hS⟩ : ∃ S, S = sumL s.data.toList := ⟨_, rfl⟩
  have Hone := Lib.hid (fun (w' : World) (b : Nat) (ht : TabK w' b 256) => sum_one w' b ht s hsm)
  rw [← hS] at Hone
  have Hbytes := Lib.hid (bytes_any S (by rw [hS]; exact sumL_lt _))
  obtain ⟨D, hD⟩ : ∃ D : ByteArray, D = ⟨(bytesL S).toArray⟩ := ⟨_, rfl⟩
  rw [← hD] at Hbytes
  have hDs : D.size = 4 := by rw [hD]; rfl
  have hws : (s ++ D).size ≤ maxLen := by rw [ByteArray.size_append, hDs]; unfold maxLen; omega
  have hwl : holdsL (s ++ D).data.toList := by
    rw [show (s ++ D).data.toList = s.data.toList ++ bytesL (sumL s.data.toList) from by rw [← hS, hD]; simp [ByteArray.data_append]]
    exact holdsL_whole _
  have hwhole := (holdsB_iff (s ++ D).data.toList).2 hwl
  have Hwl := Lib.hid hwl
  have Hho := Lib.hid (fun (w' : World) (b : Nat) (ht : TabK w' b 256) => holds_any w' b ht (s ++ D) hws)
  rw [hwhole] at Hho
  have Hsp := Lib.hid (spoil_any (s ++ D) hws n p (by omega) hp)
  have hDle : D.size ≤ 4 := by omega
  have Hws := Lib.hid (show (s ++ D).data.toList.length ≤ maxLen from by have := hws; simpa using this)
  have Hp := Lib.hid hp
  have Hn := Lib.hid hn
  generalize hT : s ++ D = T at *
  have HT := Lib.hid hT
  clear hwhole hwl hDs hD hS hsm hws hp hn
  go_enter Try.func5, Try.ntmps5
  go_wp2_with fail
  refine (awake3_any _).mono ?_
  rintro e w1 ⟨rfl, b1⟩
  have B1 := Lib.hid b1
  clear b1
  go_wp2_with fail
  refine (make_any _).mono ?_
  rintro e w2 ⟨rfl, t2, b2⟩
  have T2 := Lib.hid t2
  have B2 := Lib.hid (B1.out.trans (b2.mono B1.out.size))
  clear t2 b2
  generalize w1.heap.size = t at *
  go_wp2_with fail
  refine (Hone.out _ _ T2.out).mono ?_
  rintro e w3 ⟨rfl, b3⟩
  have T3 := Lib.hid (T2.out.below b3 T2.out.lt)
  have B3 := Lib.hid (B2.out.trans (b3.mono B2.out.size))
  clear b3
  go_wp2_with fail
  refine (Hbytes.out _).mono ?_
  rintro e w4 ⟨rfl, b4⟩
  have T4 := Lib.hid (T3.out.below b4 T3.out.lt)
  have B4 := Lib.hid (B3.out.trans (b4.mono B3.out.size))
  clear b4
  go_wp2_with fail
  refine (Hsp.out _).mono ?_
  rintro e w5 ⟨l, hl, hnum, rfl, b5⟩
  have T5 := Lib.hid (T4.out.below b5 T4.out.lt)
  have B5 := Lib.hid (B4.out.trans (b5.mono B4.out.size))
  have hiff := burst_holds T.data.toList l n p Hp.out Hwl.out hl hnum
  have hls : (ByteArray.mk l.toArray).size ≤ maxLen := by
    have := Hws.out
    simp [ByteArray.size]
    omega
  have Hh := Lib.hid (fun (w' : World) (b : Nat) (ht : TabK w' b 256) => holds_any w' b ht ⟨l.toArray⟩ hls)
  have hhb : holdsB (ByteArray.mk l.toArray).data.toList = !decide (burst n p (8 * T.data.toList.length) ≠ 0) := by
    rw [show (ByteArray.mk l.toArray).data.toList = l from by simp]
    generalize burst n p (8 * T.data.toList.length) = q at hiff ⊢
    by_cases hz : q = 0
    · rw [(holdsB_iff l).2 (hiff.2 hz)]
      simp [hz]
    · have : holdsB l = false := by
        cases hq : holdsB l with
        | false => rfl
        | true => exact absurd (hiff.1 ((holdsB_iff l).1 hq)) hz
      rw [this]
      simp [hz]
  rw [hhb] at Hh
  generalize decide (burst n p (8 * T.data.toList.length) ≠ 0) = any at *
  generalize (ByteArray.mk l.toArray) = L at *
  clear b5 hl hnum hiff hls hhb
  go_wp2_with fail
  refine (Hho.out _ _ T5.out).mono ?_
  rintro e w6 ⟨rfl, b6⟩
  have T6 := Lib.hid (T5.out.below b6 T5.out.lt)
  have B6 := Lib.hid (B5.out.trans (b6.mono B5.out.size))
  clear b6
  go_wp2_with fail
  refine (Hh.out _ _ T6.out).mono ?_
  rintro e w7 ⟨rfl, b7⟩
  have B7 := Lib.hid (B6.out.trans (b7.mono B6.out.size))
  clear b7
  go_wp2
  go_ret
  exact ⟨rfl, B7.out⟩

theorem walk (s : ByteArray) (hs : s.size ≤ maxLen) (n : Int) (hn : (Lit.int .i64 n).wf = true) (p : Int) (hp : (Lit.int .u32 p).wf = true) (w : World) :
    Calls Try.prog 5 #[.string s, .int .i64 n, .int .u32 p] w fun e w' => e = .returned (.bool true) ∧ Below w.heap.size w w' := by
  have hb := bounds_u32 hp
  have hb' := bounds_i64 hn
  obtain ⟨p, rfl⟩ := Int.eq_ofNat_of_zero_le hb.1
  by_cases h1 : s.size ≤ 500
  · by_cases h2 : n < 0
    · exact walk_out s hs n p (.inr (.inl ⟨by simp; omega, by simpa using h2⟩)) w
    · by_cases h3 : 8 * (s.size : Int) + 32 < n
      · exact walk_out s hs n p (.inr (.inr ⟨h1, by simp; omega, by simpa using h2, by simpa using h3⟩)) w
      · obtain ⟨n, rfl⟩ := Int.eq_ofNat_of_zero_le (show 0 ≤ n by omega)
        exact walk_near s h1 n p (by omega) (by omega) w
  · exact walk_out s hs n p (.inl (by simp; omega)) w

theorem own : ownKnob Try.prog.godebug = none := by kernel_rfl
theorem laidOut : laidOutB Try.prog = true := by kernel_rfl

set_option maxRecDepth 100000 in
theorem lifted (os : Os) (started : os.Started) (H : Type) (enc : TypeId × Value → H) :
    ReturnsInHanded {} Try.checked os 5 .any (Rows.crcBurstSpec.pre6 enc Try.prog Try.f5 Rows.crcBurstRow.domain false) (Rows.crcBurstSpec.post enc Try.prog Try.f5 false true false false) := by
  refine returnsInHanded_of_change_shaped (C := Try.checked) own started (by kernel_rfl) Try.func5
    (ChangeSpec.witness6 (enc := enc) (C := Try.checked) false ⟨#[], #[.string ByteArray.empty, .int .i64 0, .int .u32 0], []⟩ 8 (by kernel_rfl) (by kernel_rfl) (by kernel_rfl) (by kernel_rfl)) ?_
  intro W base args ds gs before hval0 hW hcnd hsz0 hsh _
  have hval : ∀ (j : Nat) t v, Try.f5.params[j]? = some t → args[j]? = some v → Value.okWide Try.prog W .any base t v := hval0
  have hsz : (DataW.weightsEach Try.prog (Try.f5.params.toList ++ Rows.crcBurstSpec.plain.varTypes Try.prog) (ds ++ gs)).all (· ≤ reachBytes) = true := hsz0
  have hW' := hW
  obtain ⟨p, q, hA0, hV, rfl, hfz, hnd⟩ := hW
  have hA : DataW.TrodAll enc Try.prog W 0 (fun _ => true) true Try.f5.params.toList args.toList ds p := hA0
  rw [Try.params5] at hA hval hsz
  obtain ⟨v0, vs0, d0, ds0, p0, q0, hargs, rfl, rfl, h0, r0⟩ := trodAll_cons hA
  obtain ⟨v1, vs1, d1, ds1, p1, q1, rfl, rfl, rfl, h1, r1⟩ := trodAll_cons r0
  obtain ⟨v2, vs2, d2, ds2, p2, q2, rfl, rfl, rfl, h2, r2⟩ := trodAll_cons r1
  obtain ⟨rfl, rfl, rfl⟩ := trodAll_nil r2
  obtain rfl : args = #[v0, v1, v2] := by cases args; simp_all
  obtain ⟨rfl, rfl⟩ := trodVars_none hV
  have k0 := h0
  have lt0 : ∀ x ∈ p0, x.block < W.heap.size := by obtain ⟨m, hm⟩ := k0; exact DataW.trod_lt m _ _ _ hm
  have k1 := h1
  have lt1 : ∀ x ∈ p1, x.block < W.heap.size := by obtain ⟨m, hm⟩ := k1; exact DataW.trod_lt m _ _ _ hm
  have k2 := h2
  have lt2 : ∀ x ∈ p2, x.block < W.heap.size := by obtain ⟨m, hm⟩ := k2; exact DataW.trod_lt m _ _ _ hm
  obtain ⟨a0, rfl, rfl, rfl, w0⟩ := open_string Try.underlying9 (hval 0 9 v0 rfl rfl) h0
  obtain ⟨a1, rfl, rfl, rfl, w1⟩ := open_int Try.underlying3 (hval 1 3 v1 rfl rfl) h1
  obtain ⟨a2, rfl, rfl, rfl, w2⟩ := open_int Try.underlying25 (hval 2 25 v2 rfl rfl) h2
  clear hA0 hval0
  refine (walk a0 w0 a1 w1 a2 w2 W).mono fun e W' ⟨he, bel⟩ => ?_
  subst he
  exact ⟨_, rfl, _, _, _, [], _, [], hW', trodAll_mk1 (shut_bool Try.underlying4 _), (trodAll_cons_mk (Below.trod laidOut (by kernel_rfl) (of_decide_eq_true (by kernel_rfl)) k0 bel lt0) (trodAll_cons_mk (Below.trod laidOut (by kernel_rfl) (of_decide_eq_true (by kernel_rfl)) k1 bel lt1) (trodAll_cons_mk (Below.trod laidOut (by kernel_rfl) (of_decide_eq_true (by kernel_rfl)) k2 bel lt2) trodAll_mk0))), rfl, bel.frame _, fun h => by cases h⟩

theorem over : Rows.crcBurstRow.holds Try.pinned (OpenSpec.ofChange Rows.crcBurstSpec) :=
  OpenClaim.holds_of_wide 5 Try.f5 rfl rfl rfl rfl rfl rfl rfl ⟨rfl, rfl, rfl, rfl, rfl⟩ rfl rfl rfl rfl rfl (by kernel_rfl) Try.func5 (by kernel_rfl)
    (of_decide_eq_true (by kernel_rfl)) (by unfold Func.isWrapper; first | (rw [if_pos (by decide +kernel)]; kernel_rfl) | (rw [if_neg (by decide +kernel)]; exact ⟨rfl, rfl⟩))
    (fun os started H enc _ => lifted os started H enc)

theorem proved : Rows.CrcBurstSaid :=
  over
#print axioms proved
end Go.Proofs.Ytencmjkenhnhgaa.crcBurst
