/-
  More of package leb (layer 2): Size, Get, Most, PutInt, GetInt, a contract for each, over this seat's translation.
-/
import Derived.Test.YtobioiicbdhboaaDoorLeb
import Derived.Test.YtobioiicbdhboaaDoorRows
import Derived.Lib.ItoaNum
namespace Go.Proofs.YtobioiicbdhboaaDoor
open Go.RowKit
set_option linter.unusedVariables false

theorem or_one_nat (n : Nat) : n ||| 1 = 2 * (n / 2) + 1 := by
  have h : n = 2 ^ 1 * (n / 2) + n % 2 := by omega
  have hl : n % 2 < 2 ^ 1 := by omega
  conv => lhs; rw [h, Nat.two_pow_add_eq_or_of_lt hl, Nat.or_assoc]
  have e : n % 2 ||| 1 = 1 := by
    rcases Nat.mod_two_eq_zero_or_one n with h | h <;> rw [h] <;> rfl
  rw [e, ← Nat.two_pow_add_eq_or_of_lt (show 1 < 2 ^ 1 by decide)]

theorem size_len (n : Nat) (h : n < 18446744073709551616) : (Lib.bitLen (n ||| 1) + 6) / 7 = (lebL n).length ∧ Lib.bitLen (n ||| 1) ≤ 64 := by
  have ho := or_one_nat n
  have hx : n ||| 1 < 2 ^ 64 := by omega
  obtain ⟨b1, b2, b3⟩ := Lib.bitLenAux_bounds 64 (n ||| 1) hx (by omega)
  rw [show Lib.bitLenAux 64 (n ||| 1) = Lib.bitLen (n ||| 1) from rfl] at b1 b2 b3
  generalize Lib.bitLen (n ||| 1) = L at *
  generalize n ||| 1 = x at *
  have h64 : L ≤ 64 := by
    rcases Nat.lt_or_ge 64 L with h | h
    · have : (2 : Nat) ^ 64 ≤ 2 ^ (L - 1) := Nat.pow_le_pow_right (by omega) (by omega)
      omega
    · exact h
  refine ⟨?_, h64⟩
  symm
  have hp (m : Nat) : (128 : Nat) ^ m = 2 ^ (7 * m) := by rw [show (128 : Nat) = 2 ^ 7 from rfl, ← Nat.pow_mul]
  refine lebL_length n _ (by omega) ?_ ?_
  · rw [hp]
    have : (2 : Nat) ^ L ≤ 2 ^ (7 * ((L + 6) / 7)) := Nat.pow_le_pow_right (by omega) (by omega)
    omega
  · intro hm
    rw [hp]
    have h1 : (2 : Nat) ^ (7 * ((L + 6) / 7 - 1)) ≤ 2 ^ (L - 1) := Nat.pow_le_pow_right (by omega) (by omega)
    obtain ⟨q, hq⟩ : ∃ q, 7 * ((L + 6) / 7 - 1) = q + 1 := ⟨7 * ((L + 6) / 7 - 1) - 1, by omega⟩
    rw [hq, Nat.pow_succ] at h1 ⊢
    omega

set_option maxRecDepth 100000 in
set_option maxHeartbeats 400000 in
theorem read_nil (w : World) :
    Calls Tryd.prog 86 #[.pointer none] w fun e w' => e = .returned (.tuple #[.int .u64 0, .int .i64 16]) ∧ w = w' := by
  go_enter Tryd.func86, Tryd.ntmps86
  go_wp2_with fail
  go_loopw [4, 5] (fun n d wr => n = .int .u64 0 ∧ d = .int .i64 0 ∧ w = wr) (fun _ _ _ => 0)
  case atStart => exact ⟨rfl, rfl, rfl⟩
  case round =>
    obtain ⟨rfl, rfl, rfl⟩ := hrel
    go_wp2_with fail
    refine (byte_nil _).mono ?_
    rintro e w1 ⟨rfl, rfl⟩
    go_wp2
    go_ret2
    exact ⟨rfl, rfl⟩

set_option maxRecDepth 100000 in
set_option maxHeartbeats 400000 in
theorem get_nil (w : World) :
    Calls Tryd.prog 84 #[.pointer none] w fun e w' => e = .returned (.tuple #[.int .u64 0, .int .i64 16]) ∧ w = w' := by
  go_enter Tryd.func84, Tryd.ntmps84
  go_wp2_with fail
  refine (at_nil _).mono ?_
  rintro e w1 ⟨rfl, rfl⟩
  go_wp2_with fail
  refine (read_nil _).mono ?_
  rintro e w1 ⟨rfl, rfl⟩
  go_wp2_with fail
  refine (seek_nil _ _).mono ?_
  rintro e w1 ⟨rfl, rfl⟩
  go_wp2
  go_ret2
  exact ⟨rfl, rfl⟩

/-- With an error nothing is got, and no byte is gone. -/
theorem lebScan_err : ∀ (l : List UInt8) (k a : Nat), (lebScan k a l).2.1 ≠ 0 → (lebScan k a l).1 = 0 ∧ (lebScan k a l).2.2 = 0
  | [], k, a, _ => by simp [lebScan]
  | b :: l, k, a, h => by
    simp only [lebScan] at h ⊢
    split
    · simp
    · rename_i hb
      rw [if_neg hb] at h
      split
      · rename_i hl; rw [if_pos hl] at h; exact absurd rfl h
      · rename_i hl; rw [if_neg hl] at h; exact lebScan_err l _ _ h
theorem lebScan_room : ∀ (l : List UInt8) (k a : Nat), (lebScan k a l).2.2 ≤ k + l.length
  | [], k, a => by simp [lebScan]
  | b :: l, k, a => by
    have := lebScan_room l (k + 1) (a + 128 ^ k * (b.toNat % 128))
    simp only [lebScan, List.length_cons]
    split
    · simp
    · split
      · show k + 1 ≤ _; omega
      · omega
theorem lebScan_code : ∀ (l : List UInt8) (k a : Nat), (lebScan k a l).2.1 ≤ 3
  | [], k, a => by simp [lebScan]
  | b :: l, k, a => by
    have := lebScan_code l (k + 1) (a + 128 ^ k * (b.toNat % 128))
    simp only [lebScan]
    split
    · simp
    · split
      · simp
      · exact this

set_option maxRecDepth 100000 in
set_option maxHeartbeats 400000 in
theorem get_any (w : World) (b : Nat) (s : ByteArray) (k : Nat) (h : Rd w b s k) :
    Calls Tryd.prog 84 #[.pointer (some ⟨b, 0, none⟩)] w fun e w' => e = .returned (.tuple #[.int .u64 (lebGet (s.data.toList.drop k)).1, .int .i64 (lebGet (s.data.toList.drop k)).2.1]) ∧
      Rd w' b s (k + (lebGet (s.data.toList.drop k)).2.2) ∧ w.grownBy w' (some b) := by
  have hread := read_any w b s k h
  have herr : (lebGet (s.data.toList.drop k)).2.1 ≠ 0 → (lebGet (s.data.toList.drop k)).1 = 0 ∧ (lebGet (s.data.toList.drop k)).2.2 = 0 := lebScan_err _ _ _
  have le := h.le
  generalize lebGet (s.data.toList.drop k) = R at *
  obtain ⟨n, c, m⟩ := R
  have Hread := Lib.hid hread
  have Herr := Lib.hid herr
  clear hread herr
  go_enter Tryd.func84, Tryd.ntmps84
  go_wp2_with fail
  refine (at_any _ _ _ _ h).mono ?_
  rintro e w1 ⟨rfl, rfl⟩
  clear h
  go_wp2_with fail
  refine Hread.out.mono ?_
  rintro e w1 ⟨rfl, ⟨j, h1, hj⟩, g1⟩
  have Hj := Lib.hid hj
  clear Hread hj
  by_cases hc : c = 0
  · subst hc
    go_wp2
    go_ret2
    exact ⟨rfl, by rw [← Hj.out (by first | trivial | rfl)]; exact h1, g1⟩
  · have hcb : ((c : Int) != 0) = true := by rw [bne_iff_ne]; omega
    obtain ⟨e1, e2⟩ := Herr.out hc
    have E1 := Lib.hid e1
    have E2 := Lib.hid e2
    clear Herr e1 e2 hc
    go_wp2_with fail
    refine (seek_any _ _ _ _ h1 k le).mono ?_
    rintro e w2 ⟨rfl, h2, g2⟩
    go_wp2
    go_ret2
    rw [E1.out, E2.out]
    exact ⟨rfl, h2, g1.trans g2⟩

/-- Most: the number, the error, how many bytes. -/
def lebMost (l : List UInt8) (most : Nat) : Nat × Nat × Nat :=
  if (lebGet l).2.1 = 0 ∧ most < (lebGet l).1 then (0, 5, 0) else lebGet l

set_option maxRecDepth 100000 in
set_option maxHeartbeats 400000 in
theorem most_nil (w : World) (n : Int) :
    Calls Tryd.prog 82 #[.pointer none, .int .u64 n] w fun e w' => e = .returned (.tuple #[.int .u64 0, .int .i64 16]) ∧ w = w' := by
  go_enter Tryd.func82, Tryd.ntmps82
  go_wp2_with fail
  refine (at_nil _).mono ?_
  rintro e w1 ⟨rfl, rfl⟩
  go_wp2_with fail
  refine (get_nil _).mono ?_
  rintro e w1 ⟨rfl, rfl⟩
  go_wp2
  go_ret2
  exact ⟨rfl, rfl⟩

set_option maxRecDepth 100000 in
set_option maxHeartbeats 400000 in
theorem most_any (w : World) (b : Nat) (s : ByteArray) (k : Nat) (h : Rd w b s k) (most : Nat) :
    Calls Tryd.prog 82 #[.pointer (some ⟨b, 0, none⟩), .int .u64 most] w fun e w' => e = .returned (.tuple #[.int .u64 (lebMost (s.data.toList.drop k) most).1, .int .i64 (lebMost (s.data.toList.drop k) most).2.1]) ∧
      Rd w' b s (k + (lebMost (s.data.toList.drop k) most).2.2) ∧ w.grownBy w' (some b) := by
  have hread := get_any w b s k h
  have herr : (lebGet (s.data.toList.drop k)).2.1 ≠ 0 → (lebGet (s.data.toList.drop k)).1 = 0 ∧ (lebGet (s.data.toList.drop k)).2.2 = 0 := lebScan_err _ _ _
  have le := h.le
  unfold lebMost
  generalize lebGet (s.data.toList.drop k) = R at *
  obtain ⟨n, c, m⟩ := R
  have Hread := Lib.hid hread
  have Herr := Lib.hid herr
  clear hread herr
  have hat := Lib.hid (at_any _ _ _ _ h)
  clear h
  by_cases hc : c = 0
  · subst hc
    by_cases hn : most < n
    · rw [if_pos ⟨rfl, hn⟩]
      have hd : decide ((most : Int) < (n : Int)) = true := by simp; omega
      have hd' : decide (most < n) = true := by simp; omega
      go_enter Tryd.func82, Tryd.ntmps82
      go_wp2_with fail
      refine hat.out.mono ?_
      rintro e w1 ⟨rfl, rfl⟩
      go_wp2_with fail
      refine Hread.out.mono ?_
      rintro e w1 ⟨rfl, h1, g1⟩
      clear Hread
      go_wp2_with fail
      refine (seek_any _ _ _ _ h1 k le).mono ?_
      rintro e w2 ⟨rfl, h2, g2⟩
      go_wp2
      go_ret2
      exact ⟨rfl, h2, g1.trans g2⟩
    · rw [if_neg (fun x => hn x.2)]
      have hd : decide ((most : Int) < (n : Int)) = false := by simp; omega
      have hd' : decide (most < n) = false := by simp; omega
      go_enter Tryd.func82, Tryd.ntmps82
      go_wp2_with fail
      refine hat.out.mono ?_
      rintro e w1 ⟨rfl, rfl⟩
      go_wp2_with fail
      refine Hread.out.mono ?_
      rintro e w1 ⟨rfl, h1, g1⟩
      clear Hread
      go_wp2
      go_ret2
      exact ⟨rfl, h1, g1⟩
  · rw [if_neg (fun x => hc x.1)]
    have hcb : ((c : Int) != 0) = true := by rw [bne_iff_ne]; omega
    obtain ⟨e1, e2⟩ := Herr.out hc
    have E1 := Lib.hid e1
    clear Herr e1 e2 hc
    go_enter Tryd.func82, Tryd.ntmps82
    go_wp2_with fail
    refine hat.out.mono ?_
    rintro e w1 ⟨rfl, rfl⟩
    go_wp2_with fail
    refine Hread.out.mono ?_
    rintro e w1 ⟨rfl, h1, g1⟩
    clear Hread
    go_wp2
    go_ret2
    refine ⟨?_, h1, g1⟩
    rw [E1.out]
    rfl

theorem unfold_zero : unfold' 0 = 0 := by decide


end Go.Proofs.YtobioiicbdhboaaDoor
