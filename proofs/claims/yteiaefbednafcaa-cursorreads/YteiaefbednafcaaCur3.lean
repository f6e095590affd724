/-
  Find of package cursor, and Take, Agree and Find of the document's own answer (taffrailref01), over this seat's translation. Conditions: texts shorter than 4294967281 bytes where the library searches; the cell of internal/bytealg.MaxLen holds some int.
-/
import Derived.Test.YteiaefbednafcaaCur2
import Derived.Test.YteiaefbednafcaaShelf
namespace Go.Proofs.Yteiaefbednafcaa
open Go.RowKit
set_option linter.unusedVariables false

/-- Where t stands next in l, from place k on; -1: nowhere. -/
def findAt (l t : List UInt8) (k : Nat) : Int := if Lib.index (l.drop k) t < 0 then -1 else k + Lib.index (l.drop k) t

theorem occ_drop (l t : List UInt8) (k j : Nat) : Lib.occAt (l.drop k) t j = Lib.occAt l t (k + j) := by
  simp [Lib.occAt, List.drop_drop]

theorem findAt_spec (l t : List UInt8) (k : Nat) (hk : k ≤ l.length) :
    (findAt l t k = -1 ∧ ∀ j, k ≤ j → j ≤ l.length → Lib.occAt l t j = false) ∨
    (∃ i : Nat, findAt l t k = i ∧ k ≤ i ∧ i ≤ l.length ∧ Lib.occAt l t i = true ∧ ∀ j, k ≤ j → j < i → Lib.occAt l t j = false) := by
  unfold findAt
  rcases Lib.index_spec (l.drop k) t with ⟨h, hn⟩ | ⟨i, h, hi, ho, hno⟩
  · left
    rw [h]
    refine ⟨rfl, fun j h1 h2 => ?_⟩
    have := hn (j - k) (by simp; omega)
    rwa [occ_drop, show k + (j - k) = j from by omega] at this
  · right
    rw [h]
    refine ⟨k + i, ?_, by omega, by simp at hi; omega, by rwa [occ_drop] at ho, fun j h1 h2 => ?_⟩
    · rw [if_neg (by omega)]; omega
    · have := hno (j - k) (by omega)
      rwa [occ_drop, show k + (j - k) = j from by omega] at this

theorem findAt_hit (l t : List UInt8) (k i : Nat) (hk : k ≤ i) (hi : i ≤ l.length) (ho : Lib.occAt l t i = true) (hn : ∀ j, k ≤ j → j < i → Lib.occAt l t j = false) : findAt l t k = i := by
  rcases findAt_spec l t k (by omega) with ⟨h, hno⟩ | ⟨i', h, h1, h2, h3, h4⟩
  · rw [hno i hk hi] at ho; cases ho
  · rcases Nat.lt_trichotomy i i' with x | x | x
    · rw [h4 i hk x] at ho; cases ho
    · rw [h, x]
    · rw [hn i' h1 x] at h3; cases h3
theorem findAt_none (l t : List UInt8) (k : Nat) (hk : k ≤ l.length) (hn : ∀ j, k ≤ j → j ≤ l.length → Lib.occAt l t j = false) : findAt l t k = -1 := by
  rcases findAt_spec l t k hk with ⟨h, hno⟩ | ⟨i', h, h1, h2, h3, h4⟩
  · exact h
  · rw [hn i' h1 h2] at h3; cases h3

theorem agr_full : ∀ (l t : List UInt8), agr l t = t.length ↔ t.isPrefixOf l = true
  | [], [] => by simp [agr]
  | [], c :: t => by simp [agr]
  | a :: l, [] => by simp [agr]
  | a :: l, c :: t => by
    have := agr_full l t
    simp only [agr, List.length_cons, List.isPrefixOf, Bool.and_eq_true, beq_iff_eq]
    by_cases e : a = c
    · simp [e, this]
    · have e' : ¬ c = a := fun h => e h.symm
      simp [e, e']

set_option maxHeartbeats 400000 in
theorem find_nil (w : World) (t : ByteArray) :
    Calls Try.prog 17 #[.pointer none, .string t] w fun e w' => e = .returned (.int .i64 (-1)) ∧ w = w' := by
  go_enter Try.func17, Try.ntmps17
  go_wp2
  go_ret
  exact ⟨rfl, rfl⟩

set_option maxHeartbeats 400000 in
theorem find_any (w : World) (b : Nat) (s : ByteArray) (k : Nat) (h : Rd w b s k) (t : ByteArray) (hs : s.size < 4294967281) (hm : ∃ m, w.cell? ⟨0, 0, none⟩ = some (.int .i64 m)) :
    Calls Try.prog 17 #[.pointer (some ⟨b, 0, none⟩), .string t] w fun e w' => e = .returned (.int .i64 (findAt s.data.toList t.data.toList k)) ∧ ∃ n, w' = w.drewN n := by
  obtain ⟨m, hm⟩ := hm
  have hr := rest_any w b s k h
  have hix := fun q => Try.strings_Index (s.extract k s.size) t m (w.drewN q) (by simp; omega) (by simpa using hm)
  rw [extract_list] at hix
  have c1 := h.c1
  have hl := Lib.index_le (s.data.toList.drop k) t.data.toList
  have hg := Lib.index_ge (s.data.toList.drop k) t.data.toList
  rw [List.length_drop, len_toList] at hl
  have hf : findAt s.data.toList t.data.toList k = if Lib.index (s.data.toList.drop k) t.data.toList < 0 then -1 else k + Lib.index (s.data.toList.drop k) t.data.toList := rfl
  have hle := h.le
  generalize Lib.index (s.data.toList.drop k) t.data.toList = ix at *
  generalize s.extract k s.size = r at *
  have Hix := Lib.hid hix
  have Hf := Lib.hid hf
  have Hr := Lib.hid hr
  clear hix hf hr h hm
  by_cases hlt : ix < 0
  · go_enter Try.func17, Try.ntmps17
    go_wp2_with fail
    refine Hr.out.mono ?_
    rintro e w' ⟨rfl, q, rfl⟩
    go_wp2_with fail
    refine (Hix.out _).mono ?_
    rintro e w' ⟨rfl, hw⟩
    subst hw
    go_wp2
    go_ret
    rw [Hf.out, if_pos hlt]
    exact ⟨rfl, _, rfl⟩
  · go_enter Try.func17, Try.ntmps17
    go_wp2_with fail
    refine Hr.out.mono ?_
    rintro e w' ⟨rfl, q, rfl⟩
    go_wp2_with fail
    refine (Hix.out _).mono ?_
    rintro e w' ⟨rfl, hw⟩
    subst hw
    go_wp2
    go_ret
    rw [Hf.out, if_neg (by omega)]
    exact ⟨rfl, _, rfl⟩

set_option maxHeartbeats 400000 in
theorem rtake_neg (w : World) (s : ByteArray) (k : Nat) (n : Int) (hn : n < 0) :
    Calls Try.prog 12 #[.string s, .int .i64 k, .int .i64 n] w fun e w' => e = .returned (.tuple #[.string ⟨#[]⟩, .int .i64 1, .int .i64 k]) ∧ w = w' := by
  go_enter Try.func12, Try.ntmps12
  go_wp2
  go_ret3
  exact ⟨rfl, rfl⟩

set_option maxHeartbeats 400000 in
theorem rtake_end (w : World) (s : ByteArray) (k : Nat) (hk : k ≤ s.size) (hs : s.size ≤ maxLen) (n : Int) (hn : ((s.size - k : Nat) : Int) < n) :
    Calls Try.prog 12 #[.string s, .int .i64 k, .int .i64 n] w fun e w' => e = .returned (.tuple #[.string ⟨#[]⟩, .int .i64 2, .int .i64 k]) ∧ w = w' := by
  unfold maxLen at hs
  have h0 : ¬ n < 0 := by omega
  have h1 : (s.size : Int) - k < n := by omega
  go_enter Try.func12, Try.ntmps12
  go_wp2
  go_ret3
  exact ⟨rfl, rfl⟩

set_option maxHeartbeats 400000 in
theorem rtake_any (w : World) (s : ByteArray) (k n : Nat) (hs : s.size ≤ maxLen) (hn : k + n ≤ s.size) :
    Calls Try.prog 12 #[.string s, .int .i64 k, .int .i64 n] w fun e w' => e = .returned (.tuple #[.string (s.extract k (k + n)), .int .i64 0, .int .i64 ((k + n : Nat) : Int)]) ∧ w = w' := by
  unfold maxLen at hs
  have h1 : ¬ (s.size : Int) - k < n := by omega
  go_enter Try.func12, Try.ntmps12
  go_wp2
  go_ret3
  exact ⟨by simp, rfl⟩

set_option maxHeartbeats 1000000 in
theorem ragree_any (w : World) (s : ByteArray) (k : Nat) (hk : k ≤ s.size) (t : ByteArray) (hs : s.size < 4294967281) (ht : t.size < 4294967281) :
    Calls Try.prog 16 #[.string s, .int .i64 k, .string t] w fun e w' => e = .returned (.int .i64 (agr (s.data.toList.drop k) t.data.toList)) ∧ ∃ n, w' = w.drewN n := by
  go_enter Try.func16, Try.ntmps16
  go_wp2
  go_loopw [7, 8] (fun m i wr => ∃ j : Nat, i = .int .i64 j ∧ m = .int .i64 j ∧ k + j ≤ s.size ∧ j ≤ t.size ∧ Alike8 (s.extract k s.size) t j ∧ ∃ n, wr = w.drewN n) (fun _ i _ => t.size - (intOf i).toNat)
  case atStart => exact ⟨0, rfl, rfl, by omega, Nat.zero_le _, fun i hi => absurd hi (by omega), 0, rfl⟩
  case round =>
    obtain ⟨j, rfl, rfl, hjs, hjt, hal, n, rfl⟩ := hrel
    have hrs : (s.extract k s.size).size = s.size - k := by simp
    by_cases h1 : j < t.size
    · by_cases h2 : k + j < s.size
      · have h1I : (j : Int) < (t.size : Int) := by omega
        have h2I : (k : Int) + (j : Int) < (s.size : Int) := by omega
        have hget : (s.extract k s.size)[j]'(by omega) = s[k + j] := by simp [ByteArray.getElem_extract]
        have hkj : ((k : Int) + (j : Int)).toNat = k + j := by omega
        have hge : decide ((s.size : Int) ≤ (k : Int) + (j : Int)) = false := by simp; omega
        by_cases hc : t[j] = s[k + j]
        · have Ha := Lib.hid (alike_succ hal (by omega) h1 (by rw [hget]; exact hc))
          have hb : (((s[k + j].toNat : Nat) : Int) != ((t[j].toNat : Nat) : Int)) = false := by rw [hc]; simp
          clear hc hal hget hrs
          go_wp2
          have hw1 : IntKind.i64.wrap ((k : Int) + (j : Int)) = (k : Int) + (j : Int) := IntWalk.i64_in _ (by omega)
          have hw2 : (0 : Int) ≤ (k : Int) + (j : Int) := by omega
          go_quiet (fail)
          clear hw1
          go_wp2
          go_roundw
          case rel => exact ⟨j + 1, by go_num, by go_num, by omega, by omega, Ha.out, n + nq, by simp⟩
          case measure => simp [intOf]; omega
        · have hb : (((s[k + j].toNat : Nat) : Int) != ((t[j].toNat : Nat) : Int)) = true := by
            have := byte_ne (fun h => hc h.symm)
            rw [bne, this]; rfl
          have Ha := Lib.hid (alike_end hal (by omega) hjt (.inr (.inr ⟨by omega, h1, by rw [hget]; exact hc⟩)))
          clear hc hal hget hrs
          go_wp2
          have hw1 : IntKind.i64.wrap ((k : Int) + (j : Int)) = (k : Int) + (j : Int) := IntWalk.i64_in _ (by omega)
          have hw2 : (0 : Int) ≤ (k : Int) + (j : Int) := by omega
          go_quiet (fail)
          clear hw1
          go_wp2
          go_ret
          rw [← extract_list, Ha.out]
          exact ⟨rfl, n + nq, by simp⟩
      · have Ha := Lib.hid (alike_end hal (by omega) hjt (.inl (by omega)))
        have hge : decide ((s.size : Int) ≤ (k : Int) + (j : Int)) = true := by simp; omega
        have h1I : (j : Int) < (t.size : Int) := by omega
        clear hal hrs
        go_wp2
        have hw1 : IntKind.i64.wrap ((k : Int) + (j : Int)) = (k : Int) + (j : Int) := IntWalk.i64_in _ (by omega)
        have hw2 : (0 : Int) ≤ (k : Int) + (j : Int) := by omega
        go_quiet (fail)
        clear hw1 hw2
        go_wp2
        go_ret
        rw [← extract_list, Ha.out]
        exact ⟨rfl, n + nq, by simp⟩
    · have Ha := Lib.hid (alike_end hal (by omega) hjt (.inr (.inl (by omega))))
      clear hal hrs
      go_wp2
      go_ret
      rw [← extract_list, Ha.out]
      exact ⟨rfl, n, rfl⟩

theorem occ_iff (l t : List UInt8) (j : Nat) : Lib.occAt l t j = true ↔ agr (l.drop j) t = t.length := (agr_full _ _).symm

set_option maxHeartbeats 1000000 in
theorem rfind_any (w : World) (s : ByteArray) (k : Nat) (hk : k ≤ s.size) (t : ByteArray) (hs : s.size < 4294967281) (ht : t.size < 4294967281) :
    Calls Try.prog 18 #[.string s, .int .i64 k, .string t] w fun e w' => e = .returned (.int .i64 (findAt s.data.toList t.data.toList k)) ∧ ∃ n, w' = w.drewN n := by
  go_enter Try.func18, Try.ntmps18
  go_wp2
  go_loopw [7] (fun i wr => ∃ j : Nat, i = .int .i64 j ∧ k ≤ j ∧ j ≤ s.size + 1 ∧ (∀ j', k ≤ j' → j' < j → Lib.occAt s.data.toList t.data.toList j' = false) ∧ ∃ n, wr = w.drewN n) (fun i _ => s.size + 1 - (intOf i).toNat)
  case atStart => exact ⟨k, rfl, Nat.le_refl _, by omega, fun j' h1 h2 => absurd h2 (by omega), 0, rfl⟩
  case round =>
    obtain ⟨j, rfl, hkj, hjs, hno, n, rfl⟩ := hrel
    by_cases h1 : j ≤ s.size
    · have hag := ragree_any (w.drewN n) s j h1 t hs ht
      have hal := (agr_le (s.data.toList.drop j) t.data.toList).2
      rw [len_toList] at hal
      by_cases ho : Lib.occAt s.data.toList t.data.toList j = true
      · have Hf := Lib.hid (findAt_hit _ _ k j hkj h1 ho hno)
        have he := (occ_iff _ _ _).1 ho
        rw [len_toList] at he
        generalize agr (s.data.toList.drop j) t.data.toList = a at *
        subst he
        have Hag := Lib.hid hag
        clear hag hno ho hal
        go_wp2_with fail
        refine Hag.out.mono ?_
        rintro e w' ⟨rfl, q, rfl⟩
        go_wp2
        go_ret
        rw [Hf.out]
        exact ⟨rfl, n + q, by simp⟩
      · have ho' : Lib.occAt s.data.toList t.data.toList j = false := by simpa using ho
        have Hno := Lib.hid (show ∀ j', k ≤ j' → j' < j + 1 → Lib.occAt s.data.toList t.data.toList j' = false from fun j' a c => by
          by_cases e : j' = j
          · rw [e]; exact ho'
          · exact hno j' a (by omega))
        have he : agr (s.data.toList.drop j) t.data.toList ≠ t.size := fun e => ho ((occ_iff _ _ _).2 e)
        generalize agr (s.data.toList.drop j) t.data.toList = a at *
        have hb : (((a : Nat) : Int) == ((t.size : Nat) : Int)) = false := beq_eq_false_iff_ne.2 (by omega)
        have Hag := Lib.hid hag
        clear hag hno ho ho' he
        go_wp2_with fail
        refine Hag.out.mono ?_
        rintro e w' ⟨rfl, q, rfl⟩
        go_wp2
        go_roundw
        case rel => exact ⟨j + 1, by go_num, by omega, by omega, Hno.out, n + q, by simp⟩
        case measure => simp [intOf]; omega
    · have Hf := Lib.hid (findAt_none s.data.toList t.data.toList k hk (fun j' a c => hno j' a (by rw [len_toList] at c; omega)))
      clear hno
      go_wp2
      go_ret
      rw [Hf.out]
      exact ⟨rfl, n, rfl⟩

end Go.Proofs.Yteiaefbednafcaa
