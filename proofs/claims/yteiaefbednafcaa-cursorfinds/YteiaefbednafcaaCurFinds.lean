/-
  CursorFinds is true for every input: what is found stands there, and nowhere ahead of it; what isn't found stands nowhere. No condition.
-/
import Derived.Test.YteiaefbednafcaaCurAwake
import Derived.ProofKit
import Derived.OpenShut
import Derived.ShutString
import Derived.HandedShaped
namespace Go.Proofs.Yteiaefbednafcaa.cursorFinds
open Go.ChangeShapes Go.WideShapes Go.ChangeAt Go.RowKit
open Go.ChangeMaps (open_string shut_string)
set_option linter.unusedVariables false

theorem hasLen (W : World) (hsh : W.ShapedOpen Try.prog) : HasLen W := Try.laysM143.s1_3 W hsh

theorem occ_extract (s t : ByteArray) (j : Nat) : Lib.occAt s.data.toList t.data.toList j = true ↔ (s.extract j (j + t.size)).data.toList = t.data.toList := by
  rw [Lib.extract_data, Lib.occAt, List.isPrefixOf_iff_prefix, List.prefix_iff_eq_take, show j + t.size - j = t.data.toList.length from by rw [len_toList]; omega]
  exact eq_comm

theorem occ_room (s t : ByteArray) (j : Nat) (hj : j ≤ s.size) (h : Lib.occAt s.data.toList t.data.toList j = true) : j + t.size ≤ s.size := by
  rw [Lib.occAt, List.isPrefixOf_iff_prefix] at h
  have := h.length_le
  rw [List.length_drop, len_toList, len_toList] at this
  omega

set_option maxHeartbeats 1000000 in
theorem walk_long (s t : ByteArray) (n : Int) (hs : s.size ≤ maxLen) (ht : t.size ≤ maxLen) (hbig : 500 < s.size ∨ 500 < t.size) (w : World) (hm : HasLen w) :
    Calls Try.prog 6 #[.string s, .string t, .int .i64 n] w fun e w' => e = .returned (.bool true) ∧ Below w.heap.size w w' := by
  unfold maxLen at hs ht
  have Hm := Lib.hid hm
  clear hm
  rcases (show (decide ((500 : Int) < (s.size : Int)) = true) ∨ (decide ((500 : Int) < (s.size : Int)) = false ∧ decide ((500 : Int) < (t.size : Int)) = true) from by simp; omega) with h1 | ⟨h1, h2⟩
  all_goals
    clear hbig
    go_enter Try.func6, Try.ntmps6
    go_wp2_with fail
    refine (awake_any _ Hm.out).mono ?_
    rintro e w1 ⟨rfl, hb⟩
    go_wp2_with fail
    refine (awake_any _ (Hm.out.below hb)).mono ?_
    rintro e w2 ⟨rfl, hb2⟩
    go_wp2
    go_ret
    exact ⟨rfl, hb.trans (hb2.mono hb.size)⟩

theorem not_occ {s t : ByteArray} {j : Nat} (h : Lib.occAt s.data.toList t.data.toList j = false) : ((s.extract j (j + t.size)).toList == t.toList) = false := by
  rw [ByteArray.toList_eq, ByteArray.toList_eq, beq_eq_false_iff_ne]
  intro e
  rw [(occ_extract s t j).2 e] at h
  cases h

/-- What is behind the calls of the reader: the test on what was found, and the loop. -/
def Fits (s t : ByteArray) (a : Nat) (f : Int) : Prop :=
  (f = -1 ∧ ∀ j, a ≤ j → j ≤ s.size → Lib.occAt s.data.toList t.data.toList j = false) ∨
  (∃ i : Nat, f = i ∧ a ≤ i ∧ i + t.size ≤ s.size ∧ (s.extract i (i + t.size)).data.toList = t.data.toList ∧ ∀ j, a ≤ j → j < i → Lib.occAt s.data.toList t.data.toList j = false)

theorem fits_find (s t : ByteArray) (a : Nat) (ha : a ≤ s.size) : Fits s t a (findAt s.data.toList t.data.toList a) := by
  rcases findAt_spec s.data.toList t.data.toList a ha with h | ⟨i, h1, h2, h3, h4, h5⟩
  · exact .inl h
  · exact .inr ⟨i, h1, h2, occ_room s t i h3 h4, (occ_extract s t i).1 h4, h5⟩

set_option maxHeartbeats 2000000 in
theorem walk_short (s t : ByteArray) (n : Int) (hs : s.size ≤ 500) (ht : t.size ≤ 500) (w : World) (hm : HasLen w) :
    Calls Try.prog 6 #[.string s, .string t, .int .i64 n] w fun e w' => e = .returned (.bool true) ∧ Below w.heap.size w w' := by
  have Hm := Lib.hid hm
  clear hm
  have h1 : decide ((500 : Int) < (s.size : Int)) = false := by simp; omega
  have h2 : decide ((500 : Int) < (t.size : Int)) = false := by simp; omega
  go_enter Try.func6, Try.ntmps6
  go_wp2_with fail
  refine (awake_any _ Hm.out).mono ?_
  rintro e w1 ⟨rfl, b1⟩
  go_wp2_with fail
  refine (new_any _ s).mono ?_
  rintro e w2 ⟨rfl, hw2⟩
  have r2 : Rd w2 w1.heap.size s 0 := by rw [hw2]; exact rd_new w1 s (by unfold maxLen; omega)
  have b2 : Below w.heap.size w w2 := by rw [hw2]; exact b1.alloc b1.size _
  have hz := b1.size
  clear hw2 b1
  go_wp2_with fail
  have hseek : ∃ a : Nat, a ≤ s.size ∧ Calls Try.prog 14 #[.pointer (some ⟨w1.heap.size, 0, none⟩), .int .i64 n] w2 fun e w' => (∃ x, e = .returned (.int .i64 x)) ∧ Rd w' w1.heap.size s a ∧ w2.grownBy w' (some w1.heap.size) := by
    by_cases h0 : n < 0 ∨ (s.size : Int) < n
    · exact ⟨0, by omega, (seek_bad w2 _ s 0 r2 n h0).mono fun e w' ⟨he, hw⟩ => ⟨⟨_, he⟩, by rw [← hw]; exact r2, by rw [← hw]; exact World.grownBy.refl _ _⟩⟩
    · obtain ⟨m, hm⟩ := Int.eq_ofNat_of_zero_le (show 0 ≤ n by omega)
      subst hm
      exact ⟨m, by omega, (seek_any w2 _ s 0 r2 m (by omega)).mono fun e w' ⟨he, hr, hg⟩ => ⟨⟨_, he⟩, hr, hg⟩⟩
  obtain ⟨a, ha, hseek⟩ := hseek
  refine hseek.mono ?_
  clear hseek r2
  rintro e w3 ⟨⟨x, rfl⟩, r3, g3⟩
  have b3 : Below w.heap.size w w3 := b2.grown g3 b2.size (fun k hk => by simp at hk; omega)
  have hm3 := Hm.out.below b3
  clear b2 g3
  go_wp2_with fail
  refine (at_any _ _ s a r3).mono ?_
  rintro e w4 ⟨rfl, rfl⟩
  go_wp2_with fail
  have hff := find_any _ _ s a r3 t (by omega) hm3
  have hfit := fits_find s t a ha
  generalize findAt s.data.toList t.data.toList a = f at *
  refine hff.mono ?_
  clear hff hm3
  rintro e w4 ⟨rfl, hw4⟩
  have r4 := r3.drawn hw4
  have b4 := below_drawn b3 hw4
  clear r3 b3 hw4
  go_wp2_with fail
  refine (at_any _ _ s a r4).mono ?_
  rintro e w5 ⟨rfl, rfl⟩
  clear r4
  rcases hfit with ⟨rfl, hno⟩ | ⟨i, rfl, hai, hit, hex, hno⟩
  · have Hno := Lib.hid hno
    clear hno
    go_wp2_with fail
    go_loop [9] (fun i => ∃ j : Nat, i = .int .i64 j ∧ a ≤ j ∧ j ≤ s.size + 1) (fun i => s.size + 1 - (intOf i).toNat)
    case atStart => exact ⟨a, rfl, Nat.le_refl _, by omega⟩
    case round =>
      obtain ⟨j, rfl, haj, hjs⟩ := hrel
      by_cases hj : j + t.size ≤ s.size
      · have hd : decide ((j : Int) ≤ (s.size : Int) - (t.size : Int)) = true := by simp; omega
        have hne := not_occ (Hno.out j haj (by omega))
        go_wp2
        go_round
        case rel => exact ⟨j + 1, by go_num, by omega, by omega⟩
        case measure => simp [intOf]; omega
      · have hd : decide ((j : Int) ≤ (s.size : Int) - (t.size : Int)) = false := by simp; omega
        go_wp2
        go_ret
        exact ⟨rfl, b4⟩
  · have Hno := Lib.hid hno
    have hk0 : ((i : Int) == -1) = false := beq_eq_false_iff_ne.2 (by omega)
    have hk1 : ((i : Int) != -1) = true := by rw [bne, hk0]; rfl
    have hk2 : decide ((i : Int) < (a : Int)) = false := by simp; omega
    have hk3 : decide ((s.size : Int) - (t.size : Int) < (i : Int)) = false := by simp; omega
    have hk4 : ((s.extract i (i + t.size)).toList == t.toList) = true := by rw [ByteArray.toList_eq, ByteArray.toList_eq, hex]; simp
    clear hno hex
    go_wp2_with fail
    go_loop [9] (fun i => ∃ j : Nat, i = .int .i64 j ∧ a ≤ j ∧ j ≤ s.size + 1) (fun i => s.size + 1 - (intOf i).toNat)
    case atStart => exact ⟨a, rfl, Nat.le_refl _, by omega⟩
    case round =>
      obtain ⟨j, rfl, haj, hjs⟩ := hrel
      by_cases hj : j + t.size ≤ s.size
      · have hd : decide ((j : Int) ≤ (s.size : Int) - (t.size : Int)) = true := by simp; omega
        by_cases hji : j < i
        · have hne := not_occ (Hno.out j haj (by omega))
          go_wp2
          go_round
          case rel => exact ⟨j + 1, by go_num, by omega, by omega⟩
          case measure => simp [intOf]; omega
        · have hd2 : decide (j < i) = false := by simp; omega
          go_wp2
          go_ret
          exact ⟨rfl, b4⟩
      · have hd : decide ((j : Int) ≤ (s.size : Int) - (t.size : Int)) = false := by simp; omega
        go_wp2
        go_ret
        exact ⟨rfl, b4⟩

theorem walk (s : ByteArray) (hs : s.size ≤ maxLen) (t : ByteArray) (ht : t.size ≤ maxLen) (n : Int) (_ : (Lit.int .i64 n).wf = true) (w : World) (hm : HasLen w) :
    Calls Try.prog 6 #[.string s, .string t, .int .i64 n] w fun e w' => e = .returned (.bool true) ∧ Below w.heap.size w w' := by
  by_cases h : 500 < s.size ∨ 500 < t.size
  · exact walk_long s t n hs ht h w hm
  · exact walk_short s t n (by omega) (by omega) w hm

theorem own : ownKnob Try.prog.godebug = none := by kernel_rfl
theorem laidOut : laidOutB Try.prog = true := by kernel_rfl

set_option maxRecDepth 100000 in
theorem lifted (os : Os) (started : os.Started) (H : Type) (enc : TypeId × Value → H) :
    ReturnsInHanded {} Try.checked os 6 .any (Rows.cursorFindsSpec.pre6 enc Try.prog Try.f6 Rows.cursorFindsRow.domain false) (Rows.cursorFindsSpec.post enc Try.prog Try.f6 false true false false) := by
  refine returnsInHanded_of_change_shaped (C := Try.checked) own started (by kernel_rfl) Try.func6
    (ChangeSpec.witness6 (enc := enc) (C := Try.checked) false ⟨#[], #[.string ByteArray.empty, .string ByteArray.empty, .int .i64 0], []⟩ 8 (by kernel_rfl) (by kernel_rfl) (by kernel_rfl) (by kernel_rfl)) ?_
  intro W base args ds gs before hval0 hW hcnd hsz0 hsh _
  have hval : ∀ (j : Nat) t v, Try.f6.params[j]? = some t → args[j]? = some v → Value.okWide Try.prog W .any base t v := hval0
  have hsz : (DataW.weightsEach Try.prog (Try.f6.params.toList ++ Rows.cursorFindsSpec.plain.varTypes Try.prog) (ds ++ gs)).all (· ≤ reachBytes) = true := hsz0
  have hW' := hW
  obtain ⟨p, q, hA0, hV, rfl, hfz, hnd⟩ := hW
  have hA : DataW.TrodAll enc Try.prog W 0 (fun _ => true) true Try.f6.params.toList args.toList ds p := hA0
  rw [Try.params6] at hA hval hsz
  obtain ⟨v0, vs0, d0, ds0, p0, q0, hargs, rfl, rfl, h0, r0⟩ := trodAll_cons hA
  obtain ⟨v1, vs1, d1, ds1, p1, q1, rfl, rfl, rfl, h1, r1⟩ := trodAll_cons r0
  obtain ⟨v2, vs2, d2, ds2, p2, q2, rfl, rfl, rfl, h2, r2⟩ := trodAll_cons r1
  obtain ⟨rfl, rfl, rfl⟩ := trodAll_nil r2
  obtain rfl : args = #[v0, v1, v2] := by cases args; simp_all
  obtain ⟨rfl, rfl⟩ := trodVars_none hV
  have k0 := h0
  have lt0 : ∀ x ∈ p0, x.block < W.heap.size := by obtain ⟨m, hm⟩ := k0; exact DataW.trod_lt m _ _ _ hm
  have k1 := h1
  have lt1 : ∀ x ∈ p1, x.block < W.heap.size := by obtain ⟨m, hm⟩ := k1; exact DataW.trod_lt m _ _ _ hm
  have k2 := h2
  have lt2 : ∀ x ∈ p2, x.block < W.heap.size := by obtain ⟨m, hm⟩ := k2; exact DataW.trod_lt m _ _ _ hm
  obtain ⟨a0, rfl, rfl, rfl, w0⟩ := open_string Try.underlying9 (hval 0 9 v0 rfl rfl) h0
  obtain ⟨a1, rfl, rfl, rfl, w1⟩ := open_string Try.underlying9 (hval 1 9 v1 rfl rfl) h1
  obtain ⟨a2, rfl, rfl, rfl, w2⟩ := open_int Try.underlying3 (hval 2 3 v2 rfl rfl) h2
  clear hA0 hval0
  refine (walk a0 w0 a1 w1 a2 w2 W (hasLen W hsh)).mono fun e W' ⟨he, bel⟩ => ?_
  subst he
  exact ⟨_, rfl, _, _, _, [], _, [], hW', trodAll_mk1 (shut_bool Try.underlying4 _), (trodAll_cons_mk (Below.trod laidOut (by kernel_rfl) (of_decide_eq_true (by kernel_rfl)) k0 bel lt0) (trodAll_cons_mk (Below.trod laidOut (by kernel_rfl) (of_decide_eq_true (by kernel_rfl)) k1 bel lt1) (trodAll_cons_mk (Below.trod laidOut (by kernel_rfl) (of_decide_eq_true (by kernel_rfl)) k2 bel lt2) trodAll_mk0))), rfl, bel.frame _, fun h => by cases h⟩

theorem over : Rows.cursorFindsRow.holds Try.pinned (OpenSpec.ofChange Rows.cursorFindsSpec) :=
  OpenClaim.holds_of_wide 6 Try.f6 rfl rfl rfl rfl rfl rfl rfl ⟨rfl, rfl, rfl, rfl, rfl⟩ rfl rfl rfl rfl rfl (by kernel_rfl) Try.func6 (by kernel_rfl)
    (of_decide_eq_true (by kernel_rfl)) (by unfold Func.isWrapper; first | (rw [if_pos (by decide +kernel)]; kernel_rfl) | (rw [if_neg (by decide +kernel)]; exact ⟨rfl, rfl⟩))
    (fun os started H enc _ => lifted os started H enc)

theorem proved : Rows.CursorFindsSaid :=
  over
#print axioms proved
end Go.Proofs.Yteiaefbednafcaa.cursorFinds
