/-
  The document's own answers of layer 5 (taffrailref05), Digits and Number, over this seat's translation. No condition but on sizes.
-/
import Derived.Test.YtlnlfeninjjkmaaDoorLsF
namespace Go.Proofs.YtlnlfeninjjkmaaDoor
open Go.RowKit
set_option linter.unusedVariables false
set_option linter.unusedSimpArgs false

/-- One byte as a text. -/
theorem conv_one (w : World) (c : Int) (x : UInt8) (hx : (x.toNat : Int) = c) :
    (convert 72 9 (.slice (some ⟨w.heap.size, 0, none⟩) 1 1)).run Tryd.prog (w.alloc (.cells #[.int .u8 c] 5)) = .ok (.string (bytesOf [x])) (w.alloc (.cells #[.int .u8 c] 5)) := by
  have := run_convert_bytes_back (P := Tryd.prog) (w.alloc (.cells #[.int .u8 c] 5)) 72 9 5 ⟨w.heap.size, 0, none⟩ 1 [x] Tryd.underlying72 Tryd.underlying5 Tryd.underlying9 (fun j hj => by
    have : j = 0 := by simp at hj; omega
    subst this
    simp [Addr.add, hx])
  exact this

set_option maxRecDepth 100000 in
set_option maxHeartbeats 2000000 in
theorem rdigits_any (n : Nat) (hn : n < 18446744073709551616) (w : World) :
    Calls Tryd.prog 32 #[.int .u64 (n : Int)] w fun r w' => r = .returned (.string (bytesOf (Lib.decDigits n))) ∧ Below w.heap.size w w' := by
  have Hn := Lib.hid hn
  have Hl := Lib.hid (dec_len n hn)
  clear hn
  go_enter Tryd.func32, Tryd.ntmps32
  go_wp2_with fail
  go_loopw [0, 3] (fun x y wr => ∃ (m : Nat) (s : ByteArray), x = .int .u64 (m : Int) ∧ y = .string s ∧ m < 18446744073709551616 ∧ Hid (Lib.decDigits m ++ s.data.toList = Lib.decDigits n) ∧ Below w.heap.size w wr) (fun x _ _ => (intOf x).toNat)
  case atStart => exact ⟨n, ⟨#[]⟩, rfl, rfl, Hn.out, by show _ = _; simp, Below.refl _ _⟩
  case round =>
    obtain ⟨m, s, rfl, rfl, hm, E, hb⟩ := hrel
    have HB := Lib.hid hb
    have hsl : s.size ≤ 20 := by
      have h1 := congrArg List.length E.out
      rw [List.length_append, list_len] at h1
      have := Hl.out
      omega
    by_cases h9 : m ≤ 9
    · have h9' : decide ((9 : Int) < (m : Int)) = false := by simp; omega
      have hcv := conv_one wr (48 + (m : Int)) (UInt8.ofNat (48 + m)) (by rw [ofNat_dig m (by omega)]; omega)
      have HE := Lib.hid (show bytesOf [UInt8.ofNat (48 + m)] ++ s = bytesOf (Lib.decDigits n) by
        rw [← E.out, Lib.decDigits_one (by omega), ← bytesOf_app, bytesOf_list])
      have hm8 : (48 + (m : Int)) < 256 := by omega
      have hm0 : (0 : Int) ≤ (m : Int) := Int.natCast_nonneg _
      obtain ⟨x, hx⟩ : ∃ x, bytesOf [UInt8.ofNat (48 + m)] = x := ⟨_, rfl⟩
      have hsz : ¬ 9223372036854775807 < x.size + s.size := by rw [← hx, bytesOf_size]; simp; omega
      rw [hx] at hcv HE
      clear hx E hb hsl
      go_wp2_with fail
      go_ret
      exact ⟨by rw [← HE.out]; rfl, HB.out.alloc (by have := HB.out.size; omega) _⟩
    · have h9' : decide ((9 : Int) < (m : Int)) = true := by simp; omega
      have hcv := conv_one wr (48 + (m : Int) % 10) (UInt8.ofNat (48 + m % 10)) (by rw [ofNat_dig (m % 10) (by omega)]; omega)
      obtain ⟨x, hx⟩ : ∃ x, bytesOf [UInt8.ofNat (48 + m % 10)] = x := ⟨_, rfl⟩
      have HE := Lib.hid (show Lib.decDigits (m / 10) ++ (x ++ s).data.toList = Lib.decDigits n by
        rw [← E.out, ← hx]
        conv => rhs; rw [Lib.decDigits, dif_neg (by omega)]
        rw [ByteArray.data_append, Array.toList_append, bytesOf_data, List.append_assoc])
      have hsz : ¬ 9223372036854775807 < x.size + s.size := by rw [← hx, bytesOf_size]; simp; omega
      have hm8 : (48 + (m : Int) % 10) < 256 := by omega
      have hm0 : (0 : Int) ≤ (m : Int) := Int.natCast_nonneg _
      rw [hx] at hcv
      clear hx E hb hsl
      go_wp2_with fail
      go_roundw
      case rel => exact ⟨m / 10, x ++ s, by simp, rfl, by omega, HE.out, HB.out.alloc (by have := HB.out.size; omega) _⟩
      case measure => simp [intOf]; omega

/-- What a word is to the document. -/
def numS (M : Nat) (l : List UInt8) : Option Nat := if l = [] ∨ (l.head? = some 48 ∧ 1 < l.length) then none else numD M 0 l

theorem numS_eq (B : Nat) (h4 : 4 ≤ B) (hB : B ≤ 64) (l : List UInt8) : numS (2 ^ B - 1) l = numOk B l := by
  unfold numS
  by_cases h1 : l = []
  · subst h1; rfl
  · by_cases h2 : l.head? = some 48 ∧ 1 < l.length
    · rw [if_pos (.inr h2)]; unfold numOk; rw [if_pos h2]
    · rw [if_neg (fun h => h.elim h1 h2)]
      exact numD_num B h4 hB l h1 h2

theorem drop_at (s : ByteArray) (i : Nat) (h : i < s.size) : s.data.toList.drop i = s[i] :: s.data.toList.drop (i + 1) := by
  rw [List.drop_eq_getElem_cons (by rw [list_len]; exact h)]
  rfl

set_option maxRecDepth 100000 in
set_option maxHeartbeats 4000000 in
theorem rnum_loop (s : ByteArray) (hs : s.size ≤ 5000) (M : Nat) (h9 : 9 ≤ M) (hM : M < 18446744073709551616) (hne : s.toList.isEmpty = false) (R : Option Nat) (hR : numD M 0 s.data.toList = R)
    (hz : ∀ h : 0 < s.size, ¬ ((((s[0]'h).toNat : Int) == 48) = true ∧ 1 < s.size)) (w : World) :
    Calls Tryd.prog 36 #[.string s, .int .u64 (M : Int)] w fun r w' => r = .returned (.tuple #[.int .u64 ((R.getD 0 : Nat) : Int), .bool R.isSome]) ∧ w = w' := by
  have h0 : 0 < s.size := by
    rcases Nat.eq_zero_or_pos s.size with e | e
    · exfalso
      have e2 : s.data.toList = [] := List.length_eq_zero_iff.1 (by rw [list_len]; exact e)
      rw [ByteArray.toList_eq, e2] at hne; cases hne
    · exact e
  have h0' : (0 : Int) < (s.size : Int) := by omega
  obtain ⟨q, hq⟩ : ∃ q : Bool, ∀ h : 0 < s.size, (((s[0]'h).toNat : Int) == 48) = q := ⟨(((s[0]'h0).toNat : Int) == 48), fun _ => rfl⟩
  have hz' : q = true → decide ((1 : Int) < (s.size : Int)) = false := fun e => by
    have := hz h0
    rw [hq h0, e] at this
    simp at this ⊢
    omega
  have HR := Lib.hid hR
  clear hz hR
  go_enter Tryd.func36, Tryd.ntmps36
  cases q
  · clear hz'
    go_wp2_with fail
    go_loopw [6, 7] (fun x y wr => wr = w ∧ ∃ n i : Nat, x = .int .u64 (n : Int) ∧ y = .int .i64 (i : Int) ∧ i ≤ s.size ∧ n ≤ M ∧ Hid (numD M n (s.data.toList.drop i) = R)) (fun _ y _ => ((s.size : Int) - intOf y).toNat)
    case atStart => exact ⟨rfl, 0, 0, rfl, rfl, by omega, by omega, HR.out⟩
    case round =>
      obtain ⟨rfl, n, i, rfl, rfl, hi, hn, HN⟩ := hrel
      clear HR hq
      by_cases hlt : i < s.size
      · have hlt' : (i : Int) < (s.size : Int) := by omega
        obtain ⟨c, hci⟩ : ∃ c : Nat, s[i].toNat = c := ⟨_, rfl⟩
        have hc : c < 256 := by rw [← hci]; exact s[i].toNat_lt
        have hstep := HN.out
        rw [drop_at s i hlt] at hstep
        simp only [numD] at hstep
        rw [hci] at hstep
        by_cases c1 : c < 48 ∨ 57 < c
        · rw [if_pos c1] at hstep
          subst hstep
          clear HN
          by_cases c2 : c < 48
          · have d1 : decide ((c : Int) < 48) = true := by simp; omega
            go_wp2_with fail
            go_ret2
            exact ⟨rfl, rfl⟩
          · have d1 : decide ((c : Int) < 48) = false := by simp; omega
            have d2 : decide ((57 : Int) < (c : Int)) = true := by simp; omega
            go_wp2_with fail
            go_ret2
            exact ⟨rfl, rfl⟩
        · rw [if_neg c1] at hstep
          have d1 : decide ((c : Int) < 48) = false := by simp; omega
          have d2 : decide ((57 : Int) < (c : Int)) = false := by simp; omega
          have k1 : (48 : Int) ≤ (c : Int) := by omega
          have k2 : (c : Int) ≤ 57 := by omega
          have k3 : (M : Int) < 18446744073709551616 := by omega
          have k4 : (9 : Int) ≤ (M : Int) := by omega
          have k5 : (n : Int) ≤ (M : Int) := by omega
          have k6 : (0 : Int) ≤ (n : Int) := Int.natCast_nonneg _
          by_cases c3 : (M - (c - 48)) / 10 < n
          · rw [if_pos c3] at hstep
            subst hstep
            clear HN
            have d3 : decide (((M : Int) - ((c : Int) - 48)) / 10 < (n : Int)) = true := by simp; omega
            go_wp2_with fail
            go_ret2
            exact ⟨rfl, rfl⟩
          · rw [if_neg c3] at hstep
            have HS := Lib.hid hstep
            clear HN hstep
            have d3 : decide (((M : Int) - ((c : Int) - 48)) / 10 < (n : Int)) = false := by simp; omega
            have k7 : (n : Int) * 10 + ((c : Int) - 48) ≤ (M : Int) := by omega
            go_wp2_with fail
            go_roundw
            case rel => exact ⟨trivial, n * 10 + (c - 48), i + 1, by go_num, by go_num, by omega, by omega, HS.out⟩
            case measure => simp [intOf]; omega
      · have hlt' : decide ((i : Int) < (s.size : Int)) = false := by simp; omega
        have e : s.data.toList.drop i = [] := List.drop_eq_nil_of_le (by rw [list_len]; omega)
        have hstep := HN.out
        rw [e] at hstep
        simp only [numD] at hstep
        subst hstep
        clear HN
        go_wp2_with fail
        go_ret2
        exact ⟨rfl, rfl⟩
  · have hz2 := hz' rfl
    clear hz'
    go_wp2_with fail
    go_loopw [6, 7] (fun x y wr => wr = w ∧ ∃ n i : Nat, x = .int .u64 (n : Int) ∧ y = .int .i64 (i : Int) ∧ i ≤ s.size ∧ n ≤ M ∧ Hid (numD M n (s.data.toList.drop i) = R)) (fun _ y _ => ((s.size : Int) - intOf y).toNat)
    case atStart => exact ⟨rfl, 0, 0, rfl, rfl, by omega, by omega, HR.out⟩
    case round =>
      obtain ⟨rfl, n, i, rfl, rfl, hi, hn, HN⟩ := hrel
      clear HR hq
      by_cases hlt : i < s.size
      · have hlt' : (i : Int) < (s.size : Int) := by omega
        obtain ⟨c, hci⟩ : ∃ c : Nat, s[i].toNat = c := ⟨_, rfl⟩
        have hc : c < 256 := by rw [← hci]; exact s[i].toNat_lt
        have hstep := HN.out
        rw [drop_at s i hlt] at hstep
        simp only [numD] at hstep
        rw [hci] at hstep
        by_cases c1 : c < 48 ∨ 57 < c
        · rw [if_pos c1] at hstep
          subst hstep
          clear HN
          by_cases c2 : c < 48
          · have d1 : decide ((c : Int) < 48) = true := by simp; omega
            go_wp2_with fail
            go_ret2
            exact ⟨rfl, rfl⟩
          · have d1 : decide ((c : Int) < 48) = false := by simp; omega
            have d2 : decide ((57 : Int) < (c : Int)) = true := by simp; omega
            go_wp2_with fail
            go_ret2
            exact ⟨rfl, rfl⟩
        · rw [if_neg c1] at hstep
          have d1 : decide ((c : Int) < 48) = false := by simp; omega
          have d2 : decide ((57 : Int) < (c : Int)) = false := by simp; omega
          have k1 : (48 : Int) ≤ (c : Int) := by omega
          have k2 : (c : Int) ≤ 57 := by omega
          have k3 : (M : Int) < 18446744073709551616 := by omega
          have k4 : (9 : Int) ≤ (M : Int) := by omega
          have k5 : (n : Int) ≤ (M : Int) := by omega
          have k6 : (0 : Int) ≤ (n : Int) := Int.natCast_nonneg _
          by_cases c3 : (M - (c - 48)) / 10 < n
          · rw [if_pos c3] at hstep
            subst hstep
            clear HN
            have d3 : decide (((M : Int) - ((c : Int) - 48)) / 10 < (n : Int)) = true := by simp; omega
            go_wp2_with fail
            go_ret2
            exact ⟨rfl, rfl⟩
          · rw [if_neg c3] at hstep
            have HS := Lib.hid hstep
            clear HN hstep
            have d3 : decide (((M : Int) - ((c : Int) - 48)) / 10 < (n : Int)) = false := by simp; omega
            have k7 : (n : Int) * 10 + ((c : Int) - 48) ≤ (M : Int) := by omega
            go_wp2_with fail
            go_roundw
            case rel => exact ⟨trivial, n * 10 + (c - 48), i + 1, by go_num, by go_num, by omega, by omega, HS.out⟩
            case measure => simp [intOf]; omega
      · have hlt' : decide ((i : Int) < (s.size : Int)) = false := by simp; omega
        have e : s.data.toList.drop i = [] := List.drop_eq_nil_of_le (by rw [list_len]; omega)
        have hstep := HN.out
        rw [e] at hstep
        simp only [numD] at hstep
        subst hstep
        clear HN
        go_wp2_with fail
        go_ret2
        exact ⟨rfl, rfl⟩

set_option maxRecDepth 100000 in
set_option maxHeartbeats 1000000 in
theorem rnum_empty (s : ByteArray) (M : Int) (hne : s.toList.isEmpty = true) (w : World) :
    Calls Tryd.prog 36 #[.string s, .int .u64 M] w fun r w' => r = .returned (.tuple #[.int .u64 0, .bool false]) ∧ w = w' := by
  go_enter Tryd.func36, Tryd.ntmps36
  go_wp2_with fail
  go_ret2
  exact ⟨rfl, rfl⟩

set_option maxRecDepth 100000 in
set_option maxHeartbeats 1000000 in
theorem rnum_nought (s : ByteArray) (M : Int) (hne : s.toList.isEmpty = false) (h0 : 0 < s.size) (hq : ∀ h : 0 < s.size, (((s[0]'h).toNat : Int) == 48) = true) (h1 : (1 : Int) < (s.size : Int)) (w : World) :
    Calls Tryd.prog 36 #[.string s, .int .u64 M] w fun r w' => r = .returned (.tuple #[.int .u64 0, .bool false]) ∧ w = w' := by
  have h0' : (0 : Int) < (s.size : Int) := by omega
  go_enter Tryd.func36, Tryd.ntmps36
  go_wp2_with fail
  go_ret2
  exact ⟨rfl, rfl⟩

theorem rnum_any (B : Nat) (h4 : 4 ≤ B) (hB : B ≤ 64) (M : Int) (hM : M = ((2 ^ B - 1 : Nat) : Int)) (s : ByteArray) (hs : s.size ≤ 5000) (w : World) :
    Calls Tryd.prog 36 #[.string s, .int .u64 M] w fun r w' => r = .returned (.tuple #[.int .u64 (((numOk B s.data.toList).getD 0 : Nat) : Int), .bool (numOk B s.data.toList).isSome]) ∧ w = w' := by
  have h16 : 2 ^ 4 ≤ 2 ^ B := Nat.pow_le_pow_right (by omega) h4
  subst hM
  rw [← numS_eq B h4 hB]
  unfold numS
  by_cases h1 : s.data.toList = []
  · rw [if_pos (.inl h1)]
    exact rnum_empty s _ (by rw [ByteArray.toList_eq, h1]; rfl) w
  · have hne : s.toList.isEmpty = false := by
      rw [ByteArray.toList_eq]
      cases h : s.data.toList with
      | nil => exact absurd h h1
      | cons => rfl
    have h0 : 0 < s.size := by
      rcases Nat.eq_zero_or_pos s.size with e | e
      · exact absurd (List.length_eq_zero_iff.1 (by rw [list_len]; exact e)) h1
      · exact e
    by_cases h2 : s.data.toList.head? = some 48 ∧ 1 < s.data.toList.length
    · rw [if_pos (.inr h2)]
      rw [list_len] at h2
      exact rnum_nought s _ hne h0 (fun h => (head_is s h).1 h2.1) (by omega) w
    · rw [if_neg (fun h => h.elim h1 h2)]
      rw [list_len] at h2
      exact rnum_loop s hs _ (by omega) (pow_le B hB) hne _ rfl (fun h e => h2 ⟨(head_is s h).2 e.1, e.2⟩) w

end Go.Proofs.YtlnlfeninjjkmaaDoor
