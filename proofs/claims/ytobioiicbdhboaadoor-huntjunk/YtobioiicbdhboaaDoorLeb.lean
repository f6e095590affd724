/-
  What each call of package leb (layer 2) does, a contract for each function, over this seat's translation. Conditions: a reader and a writer as in package cursor's contracts.
-/
import Derived.Test.YtobioiicbdhboaaDoorCurKit
import Derived.Test.YtobioiicbdhboaaDoorLeb0
import Derived.Laws.Bits64b
import Derived.Lib.Zigzag
namespace Go.Proofs.YtobioiicbdhboaaDoor
open Go.RowKit
set_option linter.unusedVariables false

theorem i64_not_neg (m : Nat) (hm : m < 9223372036854775808) : bits .xor .i64 (-1) (-(m : Int) - 1) = (m : Int) := by
  show IntKind.i64.wrap ((BitVec.ofInt 64 (-1) ^^^ BitVec.ofInt 64 (-(m : Int) - 1)).toNat : Int) = _
  have h1 : (BitVec.ofInt 64 (-1)).toNat = 2 ^ 64 - 1 := by decide
  have h2 : (BitVec.ofInt 64 (-(m : Int) - 1)).toNat = 2 ^ 64 - 1 - m := by
    rw [BitVec.toNat_ofInt]
    omega
  rw [BitVec.toNat_xor, h1, h2, Lib.xor_ones64 _ (by omega), IntKind.wrap_i64]
  omega

set_option maxRecDepth 100000 in
set_option maxHeartbeats 400000 in
theorem unfold_any (n : Nat) (h : n < 18446744073709551616) (w : World) :
    Calls Tryd.prog 77 #[.int .u64 n] w fun e w' => e = .returned (.int .i64 (unfold' n)) ∧ w = w' := by
  have e := Lib.hid (Lib.i64_not (n / 2) (by omega))
  by_cases h1 : n % 2 = 1
  · have hf := Lib.hid (show unfold' n = -((n / 2 : Nat) : Int) - 1 from by unfold unfold'; rw [if_pos h1])
    have hb : ((n : Int) % 2 == 1) = true := by rw [beq_iff_eq]; omega
    clear h1
    go_enter Tryd.func77, Tryd.ntmps77
    go_wp2
    go_ret
    rw [hf.out, ← e.out]
    exact ⟨rfl, rfl⟩
  · have hf := Lib.hid (show unfold' n = ((n / 2 : Nat) : Int) from by unfold unfold'; rw [if_neg h1])
    have hb : ((n : Int) % 2 == 1) = false := by rw [beq_eq_false_iff_ne]; omega
    clear h1
    go_enter Tryd.func77, Tryd.ntmps77
    go_wp2
    go_ret
    rw [hf.out]
    exact ⟨rfl, rfl⟩

theorem or_step (v c i : Nat) (hv : v < 128 ^ i) (h : v + 128 ^ i * (c % 128) < 18446744073709551616) :
    bits .or .u64 (v : Int) (IntKind.u64.wrap ((c : Int) % 128 * 2 ^ (7 * i))) = ((v + 128 ^ i * (c % 128) : Nat) : Int) := by
  have hp : (128 : Nat) ^ i = 2 ^ (7 * i) := by rw [show (128 : Nat) = 2 ^ 7 from rfl, ← Nat.pow_mul]
  have e : (c : Int) % 128 * 2 ^ (7 * i) = ((128 ^ i * (c % 128) : Nat) : Int) := by
    rw [hp]; push_cast; rw [Int.mul_comm]
  rw [e, IntKind.wrap_u64, Int.emod_eq_of_lt (by omega) (by omega), bits_or_u64_nat _ _ (by omega) (by omega)]
  congr 1
  rw [hp] at hv ⊢
  rw [Nat.or_comm, Nat.add_comm, Nat.two_pow_add_eq_or_of_lt hv]

theorem drop_get (s : ByteArray) (k i : Nat) (h : k + i < s.size) : ∃ h' : i < (s.data.toList.drop k).length, (s.data.toList.drop k)[i] = s[k + i] := by
  have h' : i < (s.data.toList.drop k).length := by simp; omega
  refine ⟨h', ?_⟩
  rw [List.getElem_drop, Array.getElem_toList]; rfl

/-- The ways of a byte c at place i. -/
theorem byte_ways (c i : Nat) (hc : c < 256) (hi : i ≤ 9) :
    (lebBad c i = true ∧ c = 0 ∧ 0 < i) ∨ (lebBad c i = true ∧ 1 < c ∧ i = 9) ∨ (lebBad c i = false ∧ c = 0 ∧ i = 0) ∨ (lebBad c i = false ∧ c = 1) ∨
    (lebBad c i = false ∧ 1 < c ∧ i < 9 ∧ c < 128) ∨ (lebBad c i = false ∧ 1 < c ∧ i < 9 ∧ ¬ c < 128) := by
  simp only [lebBad]
  rcases (show (c = 0 ∧ 0 < i) ∨ (1 < c ∧ i = 9) ∨ (c = 0 ∧ i = 0) ∨ c = 1 ∨ (1 < c ∧ i < 9 ∧ c < 128) ∨ (1 < c ∧ i < 9 ∧ ¬ c < 128) from by omega) with h | h | h | h | h | h
  all_goals simp
  all_goals omega

set_option maxRecDepth 100000 in
set_option maxHeartbeats 2000000 in
theorem read_any (w : World) (b : Nat) (s : ByteArray) (k : Nat) (h : Rd w b s k) :
    Calls Tryd.prog 86 #[.pointer (some ⟨b, 0, none⟩)] w fun e w' => e = .returned (.tuple #[.int .u64 (lebGet (s.data.toList.drop k)).1, .int .i64 (lebGet (s.data.toList.drop k)).2.1]) ∧
      (∃ j, Rd w' b s j ∧ ((lebGet (s.data.toList.drop k)).2.1 = 0 → j = k + (lebGet (s.data.toList.drop k)).2.2)) ∧ w.grownBy w' (some b) := by
  have mx := h.mx
  unfold maxLen at mx
  have le := h.le
  have HD := Lib.hid (drop_get s k)
  have hlen : (s.data.toList.drop k).length = s.size - k := by simp
  obtain ⟨L, hL⟩ : ∃ L, L = s.data.toList.drop k := ⟨_, rfl⟩
  rw [← hL] at HD hlen ⊢
  clear hL
  have Hlen := Lib.hid hlen
  clear hlen
  go_enter Tryd.func86, Tryd.ntmps86
  go_wp2_with fail
  go_loopw [4, 5] (fun n d wr => ∃ (i : Nat), i ≤ 9 ∧ k + i ≤ s.size ∧ d = .int .i64 ((7 * i : Nat) : Int) ∧ n = .int .u64 ((val (L.take i) : Nat) : Int) ∧ Rd wr b s (k + i) ∧ lebGet L = lebAt L i ∧ w.grownBy wr (some b)) (fun _ d _ => (63 - intOf d).toNat)
  case atStart => exact ⟨0, by omega, by omega, rfl, rfl, h, rfl, World.grownBy.refl _ _⟩
  case round =>
    clear h
    obtain ⟨i, hi, hki, rfl, rfl, h, hE, hg⟩ := hrel
    have HE := Lib.hid hE
    clear hE
    have hv := val_take_lt L i
    by_cases hlt : k + i < s.size
    · obtain ⟨hlt', hget⟩ := HD.out i hlt
      have hby := byte_any _ _ _ _ h hlt
      rw [← hget] at hby
      have hc : L[i].toNat < 256 := L[i].toNat_lt
      have Hok := Lib.hid (fun hb hl => HE.out.trans (lebAt_ok (l := L) (k := i) hlt' hb hl))
      have Hgo := Lib.hid (fun hb hl => HE.out.trans (lebAt_go (l := L) (k := i) hlt' hb hl))
      have Hbad := Lib.hid (fun hb => HE.out.trans (lebAt_bad (l := L) (k := i) hlt' hb))
      have Hts := Lib.hid (val_take_succ L i hlt')
      have Hlt1 := Lib.hid (val_take_lt L (i + 1))
      clear hget HE HD
      generalize L[i].toNat = c at *
      generalize hV : val (L.take i) = v at *
      clear hV
      have hpow : i < 9 → (128 : Nat) ^ (i + 1) ≤ 9223372036854775808 := fun h9 => Nat.le_trans (Nat.pow_le_pow_right (by omega) (show i + 1 ≤ 9 by omega)) (by decide)
      have hsum : lebBad c i = false → v + 128 ^ i * (c % 128) < 18446744073709551616 := by
        intro hb
        by_cases h9 : i < 9
        · have h1 := hpow h9
          have h2 := Hlt1.out
          rw [Hts.out] at h2
          omega
        · obtain rfl : i = 9 := by omega
          rw [lebBad_nine hb]
          have : (128 : Nat) ^ 9 = 9223372036854775808 := by decide
          omega
      have Hor := Lib.hid (fun hb => or_step v c i hv (hsum hb))
      have Hby := Lib.hid hby
      have hs2 : (128 : Nat) ^ i * (c % 128) = 128 ^ i * (c % 128) := rfl
      clear hpow hsum hby hs2 hv hlt'
      rcases byte_ways c i hc hi with ⟨hb, rfl, h1⟩ | ⟨hb, h1, rfl⟩ | ⟨hb, rfl, rfl⟩ | ⟨hb, rfl⟩ | ⟨hb, h1, h2, h3⟩ | ⟨hb, h1, h2, h3⟩
      · have Hg2 := Lib.hid (Hbad.out hb)
        have hd0 : decide ((0 : Int) < 7 * (i : Int)) = true := by simp; omega
        clear Hgo Hbad Hok Hor hb
        go_wp2_with fail
        refine Hby.out.mono ?_
        clear Hby
        rintro e w1 ⟨rfl, h1, g1⟩
        go_wp2
        go_ret2
        rw [Hg2.out]
        exact ⟨rfl, ⟨_, h1, fun h => by cases h⟩, hg.trans g1⟩
      · have Hg2 := Lib.hid (Hbad.out hb)
        have hc0 : ((c : Int) == 0) = false := by rw [beq_eq_false_iff_ne]; omega
        have hc1 : decide ((1 : Int) < (c : Int)) = true := by simp; omega
        clear Hgo Hbad Hok Hor hb
        go_wp2_with fail
        refine Hby.out.mono ?_
        clear Hby
        rintro e w1 ⟨rfl, h1, g1⟩
        go_wp2
        go_ret2
        rw [Hg2.out]
        exact ⟨rfl, ⟨_, h1, fun h => by cases h⟩, hg.trans g1⟩
      · have Hg2 := Lib.hid (Hok.out hb (by omega))
        have Hor' := Lib.hid (Hor.out hb)
        clear Hgo Hbad Hok Hor hb
        go_wp2_with fail
        refine Hby.out.mono ?_
        clear Hby
        rintro e w1 ⟨rfl, h1, g1⟩
        go_wp2
        go_ret2
        rw [Hg2.out]
        refine ⟨?_, ⟨_, h1, fun h => rfl⟩, hg.trans g1⟩
        show _ = Ending.returned (.tuple #[.int .u64 ((val (L.take (_ + 1)) : Nat) : Int), .int .i64 0])
        rw [Hts.out, ← Hor'.out]
        rfl
      · have Hg2 := Lib.hid (Hok.out hb (by omega))
        have hor := Hor.out hb
        rw [show (((1 : Nat) : Int) % 128 * 2 ^ (7 * i)) = 2 ^ (7 * i) from by simp] at hor
        have Hor' := Lib.hid hor
        clear Hgo Hbad Hok Hor hb hor
        go_wp2_with fail
        refine Hby.out.mono ?_
        clear Hby
        rintro e w1 ⟨rfl, h1, g1⟩
        go_wp2
        go_ret2
        rw [Hg2.out]
        refine ⟨?_, ⟨_, h1, fun h => rfl⟩, hg.trans g1⟩
        show _ = Ending.returned (.tuple #[.int .u64 ((val (L.take (_ + 1)) : Nat) : Int), .int .i64 0])
        rw [Hts.out, ← Hor'.out]
        rfl
      · have Hg2 := Lib.hid (Hok.out hb (by omega))
        have Hor' := Lib.hid (Hor.out hb)
        have hc0 : ((c : Int) == 0) = false := by rw [beq_eq_false_iff_ne]; omega
        have hc1 : decide ((1 : Int) < (c : Int)) = true := by simp; omega
        have hd9 : ((7 * (i : Int)) == 63) = false := by rw [beq_eq_false_iff_ne]; omega
        have hc3 : decide ((c : Int) < 128) = true := by simp; omega
        clear Hgo Hbad Hok Hor hb
        go_wp2_with fail
        refine Hby.out.mono ?_
        clear Hby
        rintro e w1 ⟨rfl, h1, g1⟩
        go_wp2
        go_ret2
        rw [Hg2.out]
        refine ⟨?_, ⟨_, h1, fun h => rfl⟩, hg.trans g1⟩
        show _ = Ending.returned (.tuple #[.int .u64 ((val (L.take (_ + 1)) : Nat) : Int), .int .i64 0])
        rw [Hts.out, ← Hor'.out]
        rfl
      · have Hg2 := Lib.hid (Hgo.out hb h3)
        have Hor' := Lib.hid (Hor.out hb)
        have hc0 : ((c : Int) == 0) = false := by rw [beq_eq_false_iff_ne]; omega
        have hc1 : decide ((1 : Int) < (c : Int)) = true := by simp; omega
        have hd9 : ((7 * (i : Int)) == 63) = false := by rw [beq_eq_false_iff_ne]; omega
        have hc3 : decide ((c : Int) < 128) = false := by simp; omega
        clear Hgo Hbad Hok Hor hb
        go_wp2_with fail
        refine Hby.out.mono ?_
        rintro e w1 ⟨rfl, h1, g1⟩
        go_wp2
        go_roundw
        case rel => exact ⟨i + 1, by omega, by omega, by go_num, by rw [Hts.out, ← Hor'.out], h1, Hg2.out, hg.trans g1⟩
        case measure => simp [intOf]; omega
    · have Hend := Lib.hid (HE.out.trans (lebAt_end (l := L) (k := i) (by rw [Hlen.out]; omega)))
      have Hby := Lib.hid (byte_end _ _ _ _ h (by omega))
      clear HE HD Hlen hv
      go_wp2_with fail
      refine Hby.out.mono ?_
      clear Hby
      rintro e w1 ⟨rfl, hw1⟩
      have h1 := h.drawn hw1
      have g1 := hg.trans (grown_any (grown_drewN hw1) _)
      clear h hw1 hg
      go_wp2
      go_ret2
      rw [Hend.out]
      exact ⟨rfl, ⟨_, h1, fun h => by cases h⟩, g1⟩

end Go.Proofs.YtobioiicbdhboaaDoor
