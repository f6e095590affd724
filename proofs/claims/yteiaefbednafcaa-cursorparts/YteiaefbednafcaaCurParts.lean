/-
  CursorParts is true for every input: whatever sizes are taken, the parts are the bytes in their order, and what is left is the rest. No condition.
-/
import Derived.Test.YteiaefbednafcaaCurView
namespace Go.Proofs.Yteiaefbednafcaa.cursorParts
open Go.ChangeShapes Go.WideShapes Go.ChangeAt Go.RowKit
open Go.ChangeMaps (open_string shut_string)
set_option linter.unusedVariables false

theorem join_parts (s : ByteArray) (p n : Nat) (h : p + n ≤ s.size) : s.extract 0 p ++ s.extract p (p + n) = s.extract 0 (p + n) := by
  rw [ByteArray.extract_append_extract]
  congr 1 <;> omega
theorem join_none (s : ByteArray) : s ++ (⟨#[]⟩ : ByteArray) = s := ByteArray.append_empty
theorem none_yet (s : ByteArray) : (⟨#[]⟩ : ByteArray) = s.extract 0 0 := by
  apply ByteArray.ext
  simp
theorem whole (s : ByteArray) : s.extract 0 s.size = s := ByteArray.extract_zero_size

set_option maxHeartbeats 1000000 in
theorem walk_long (s : ByteArray) (ao : Option Addr) (len cap : Nat) (hs : s.size ≤ maxLen) (hl : len ≤ maxLen) (hbig : 2000 < s.size ∨ 200 < len) (w : World) (hm : HasLen w) :
    Calls Try.prog 5 #[.string s, .slice ao len cap] w fun e w' => e = .returned (.bool true) ∧ Below w.heap.size w w' := by
  unfold maxLen at hs hl
  have Hm := Lib.hid hm
  clear hm
  rcases (show (decide ((2000 : Int) < (s.size : Int)) = true) ∨ (decide ((2000 : Int) < (s.size : Int)) = false ∧ decide ((200 : Int) < (len : Int)) = true) from by simp; omega) with h1 | ⟨h1, h2⟩
  all_goals
    clear hbig
    go_enter Try.func5, Try.ntmps5
    go_wp2_with fail
    refine (awake_any _ Hm.out).mono ?_
    rintro e w1 ⟨rfl, hb⟩
    go_wp2_with fail
    refine (awake_any _ (Hm.out.below hb)).mono ?_
    rintro e w2 ⟨rfl, hb2⟩
    go_wp2
    go_ret
    exact ⟨rfl, hb.trans (hb2.mono hb.size)⟩

set_option maxHeartbeats 2000000 in
theorem walk_short (s : ByteArray) (ao : Option Addr) (len cap : Nat) (zs : List Int) (hs : s.size ≤ 2000) (hl : len ≤ 200) (w : World) (hseen : Seen w ao len cap (fun i => .int .i64 (zs.getD i 0))) (hm : HasLen w) :
    Calls Try.prog 5 #[.string s, .slice ao len cap] w fun e w' => e = .returned (.bool true) ∧ Below w.heap.size w w' := by
  have Hm := Lib.hid hm
  have Hse := Lib.hid hseen
  clear hm hseen
  have h1 : decide ((2000 : Int) < (s.size : Int)) = false := by simp; omega
  have h2 : decide ((200 : Int) < (len : Int)) = false := by simp; omega
  go_enter Try.func5, Try.ntmps5
  go_wp2_with fail
  refine (awake_any _ Hm.out).mono ?_
  rintro e w1 ⟨rfl, b1⟩
  go_wp2_with fail
  refine (new_any _ s).mono ?_
  rintro e w2 ⟨rfl, hw2⟩
  have r2 : Rd w2 w1.heap.size s 0 := by rw [hw2]; exact rd_new w1 s (by unfold maxLen; omega)
  have b2 : Below w.heap.size w w2 := by rw [hw2]; exact b1.alloc b1.size _
  have hz := b1.size
  clear hw2 b1
  go_wp2_with fail
  go_loopw [6, 30] (fun t i wr => ∃ k p : Nat, k ≤ len ∧ i = .int .i64 k ∧ t = .string (s.extract 0 p) ∧ Rd wr w1.heap.size s p ∧ Below w.heap.size w wr) (fun _ i _ => len - (intOf i).toNat)
  case atStart => exact ⟨0, 0, Nat.zero_le _, rfl, congrArg Value.string (none_yet s), r2, b2⟩
  case round =>
    clear r2 b2
    obtain ⟨k, p, hk, rfl, rfl, r3, b3⟩ := hrel
    by_cases hlt : k < len
    · obtain ⟨b, off, hao, hbw, hcell⟩ := Hse.out.row k hlt
      subst hao
      have hc : wr.cell? ⟨b, off + k, none⟩ = some (.int .i64 (zs.getD k 0)) := (b3.cell hbw).trans (hcell k hlt)
      clear hcell
      generalize zs.getD k 0 = n at hc
      rcases (show n < 0 ∨ ((s.size - p : Nat) : Int) < n ∨ (0 ≤ n ∧ n ≤ ((s.size - p : Nat) : Int)) from by omega) with hn | hn | hn
      · go_wp2_with fail
        refine (take_neg _ _ n hn).mono ?_
        rintro e w4 ⟨rfl, rfl⟩
        go_wp2
        go_roundw
        case rel => exact ⟨k + 1, p, by omega, by go_num, congrArg Value.string (join_none _), r3, b3⟩
        case measure => simp [intOf]; omega
      · go_wp2_with fail
        refine (take_end _ _ s p r3 n hn).mono ?_
        rintro e w4 ⟨rfl, hw4⟩
        have r4 := r3.drawn hw4
        have b4 := below_drawn b3 hw4
        clear r3 b3 hw4
        go_wp2
        go_roundw
        case rel => exact ⟨k + 1, p, by omega, by go_num, congrArg Value.string (join_none _), r4, b4⟩
        case measure => simp [intOf]; omega
      · obtain ⟨m, rfl⟩ := Int.eq_ofNat_of_zero_le hn.1
        have hle := r3.le
        have hpm : p + m ≤ s.size := by omega
        have hne : (((s.extract p (p + m)).size : Int) != (m : Int)) = false := by
          rw [bne, Bool.not_eq_false', beq_iff_eq, ByteArray.size_extract]; omega
        have hj := join_parts s p m hpm
        have hszp : (s.extract p (p + m)).size ≤ 2000 := by simp; omega
        have tk := take_any _ _ s p r3 m hpm
        generalize s.extract p (p + m) = tt at *
        have Hj := Lib.hid hj
        have Htk := Lib.hid tk
        clear hj tk
        go_wp2_with fail
        refine Htk.out.mono ?_
        clear Htk
        rintro e w4 ⟨rfl, r4, g4⟩
        have b4 : Below w.heap.size w w4 := b3.grown g4 b3.size (fun q hq => by simp at hq; omega)
        clear r3 b3 g4
        go_wp2
        go_roundw
        case rel => exact ⟨k + 1, p + m, by omega, by go_num, congrArg Value.string Hj.out, r4, b4⟩
        case measure => simp [intOf]; omega
    · have hle := r3.le
      have hl := left_any _ _ s p r3
      have htk := fun w' (h : ∃ n, w' = wr.drewN n) => take_any _ _ s p (r3.drawn h) (s.size - p) (by omega)
      have hj := join_parts s p (s.size - p) (by omega)
      rw [show p + (s.size - p) = s.size from by omega, whole] at hj
      simp only [show p + (s.size - p) = s.size from by omega] at htk
      have hsz1 : (s.extract 0 p).size ≤ 2000 := by simp; omega
      have hsz2 : (s.extract p s.size).size ≤ 2000 := by simp; omega
      generalize s.extract 0 p = t1 at *
      generalize s.extract p s.size = t2 at *
      have Hl := Lib.hid hl
      have Htk := Lib.hid htk
      have heq : ((t1 ++ t2).toList == s.toList) = true := by rw [hj]; simp
      clear hl htk hj
      go_wp2_with fail
      refine Hl.out.mono ?_
      rintro e w4 ⟨rfl, hw4⟩
      have b4 := below_drawn b3 hw4
      have tk := Htk.out w4 hw4
      clear Htk hw4 b3 Hl
      have Htk := Lib.hid tk
      clear tk
      go_wp2_with fail
      refine Htk.out.mono ?_
      clear Htk
      rintro e w5 ⟨rfl, r5, g5⟩
      have b5 : Below w.heap.size w w5 := b4.grown g5 b4.size (fun q hq => by simp at hq; omega)
      have hl5 := left_any _ _ s s.size r5
      rw [Nat.sub_self] at hl5
      have Hl5 := Lib.hid hl5
      clear b4 g5 hl5
      go_wp2_with fail
      refine Hl5.out.mono ?_
      rintro e w6 ⟨rfl, hw6⟩
      have b6 := below_drawn b5 hw6
      clear hw6 b5
      go_wp2
      go_ret
      exact ⟨rfl, b6⟩

theorem walk {w : World} (s : ByteArray) (hs : s.size ≤ maxLen) (ao : Option Addr) (len cap : Nat) (zs : List Int) (hz : Seen w ao len cap (fun i => .int .i64 (zs.getD i 0)) ∧ ∀ n ∈ zs, (Lit.int .i64 n).wf = true) (hm : HasLen w) :
    Calls Try.prog 5 #[.string s, .slice ao len cap] w fun e w' => e = .returned (.bool true) ∧ Below w.heap.size w w' := by
  by_cases h : 2000 < s.size ∨ 200 < len
  · exact walk_long s ao len cap hs hz.1.mx h w hm
  · exact walk_short s ao len cap zs (by omega) (by omega) w hz.1 hm

theorem own : ownKnob Try.prog.godebug = none := by kernel_rfl
theorem laidOut : laidOutB Try.prog = true := by kernel_rfl

set_option maxRecDepth 100000 in
theorem lifted (os : Os) (started : os.Started) (H : Type) (enc : TypeId × Value → H) :
    ReturnsInHanded {} Try.checked os 5 .any (Rows.cursorPartsSpec.pre6 enc Try.prog Try.f5 Rows.cursorPartsRow.domain false) (Rows.cursorPartsSpec.post enc Try.prog Try.f5 false true false false) := by
  refine returnsInHanded_of_change_shaped (C := Try.checked) own started (by kernel_rfl) Try.func5
    (ChangeSpec.witness6 (enc := enc) (C := Try.checked) false ⟨#[], #[.string ByteArray.empty, .slice none 0 0], []⟩ 8 (by kernel_rfl) (by kernel_rfl) (by kernel_rfl) (by kernel_rfl)) ?_
  intro W base args ds gs before hval0 hW hcnd hsz0 hsh _
  have hval : ∀ (j : Nat) t v, Try.f5.params[j]? = some t → args[j]? = some v → Value.okWide Try.prog W .any base t v := hval0
  have hsz : (DataW.weightsEach Try.prog (Try.f5.params.toList ++ Rows.cursorPartsSpec.plain.varTypes Try.prog) (ds ++ gs)).all (· ≤ reachBytes) = true := hsz0
  have hW' := hW
  obtain ⟨p, q, hA0, hV, rfl, hfz, hnd⟩ := hW
  have hA : DataW.TrodAll enc Try.prog W 0 (fun _ => true) true Try.f5.params.toList args.toList ds p := hA0
  rw [Try.params5] at hA hval hsz
  obtain ⟨v0, vs0, d0, ds0, p0, q0, hargs, rfl, rfl, h0, r0⟩ := trodAll_cons hA
  obtain ⟨v1, vs1, d1, ds1, p1, q1, rfl, rfl, rfl, h1, r1⟩ := trodAll_cons r0
  obtain ⟨rfl, rfl, rfl⟩ := trodAll_nil r1
  obtain rfl : args = #[v0, v1] := by cases args; simp_all
  obtain ⟨rfl, rfl⟩ := trodVars_none hV
  have k0 := h0
  have lt0 : ∀ x ∈ p0, x.block < W.heap.size := by obtain ⟨m, hm⟩ := k0; exact DataW.trod_lt m _ _ _ hm
  have k1 := h1
  have lt1 : ∀ x ∈ p1, x.block < W.heap.size := by obtain ⟨m, hm⟩ := k1; exact DataW.trod_lt m _ _ _ hm
  obtain ⟨a0, rfl, rfl, rfl, w0⟩ := open_string Try.underlying9 (hval 0 9 v0 rfl rfl) h0
  obtain ⟨a1, len1, cap1, rfl⟩ := okWide_slice Try.underlying49 (hval 1 49 v1 rfl rfl)
  obtain ⟨z1, w1⟩ := open_ints64 h1
  clear hA0 hval0
  refine (walk a0 w0 a1 len1 cap1 z1 w1 (hasLen W hsh)).mono fun e W' ⟨he, bel⟩ => ?_
  subst he
  exact ⟨_, rfl, _, _, _, [], _, [], hW', trodAll_mk1 (shut_bool Try.underlying4 _), (trodAll_cons_mk (Below.trod laidOut (by kernel_rfl) (of_decide_eq_true (by kernel_rfl)) k0 bel lt0) (trodAll_cons_mk (Below.trod laidOut (by kernel_rfl) (of_decide_eq_true (by kernel_rfl)) k1 bel lt1) trodAll_mk0)), rfl, bel.frame _, fun h => by cases h⟩

theorem over : Rows.cursorPartsRow.holds Try.pinned (OpenSpec.ofChange Rows.cursorPartsSpec) :=
  OpenClaim.holds_of_wide 5 Try.f5 rfl rfl rfl rfl rfl rfl rfl ⟨rfl, rfl, rfl, rfl, rfl⟩ rfl rfl rfl rfl rfl (by kernel_rfl) Try.func5 (by kernel_rfl)
    (of_decide_eq_true (by kernel_rfl)) (by unfold Func.isWrapper; first | (rw [if_pos (by decide +kernel)]; kernel_rfl) | (rw [if_neg (by decide +kernel)]; exact ⟨rfl, rfl⟩))
    (fun os started H enc _ => lifted os started H enc)

theorem proved : Rows.CursorPartsSaid :=
  over
#print axioms proved
end Go.Proofs.Yteiaefbednafcaa.cursorParts
