/-
  The document's own burst (taffrailref03.Spoil), over this seat's translation: the bytes as one number, xored with the pattern at its place.
-/
import Derived.Test.YtobioiicbdhboaaDoorCrcRef
import Derived.Lib.ConvBytes
namespace Go.Proofs.YtobioiicbdhboaaDoor
open Go.RowKit
set_option linter.unusedVariables false

theorem mul_xor (k p q : Nat) : 2 ^ k * (p ^^^ q) = 2 ^ k * p ^^^ 2 ^ k * q := by
  apply Nat.eq_of_testBit_eq
  intro i
  rw [Nat.testBit_xor, Nat.testBit_two_pow_mul, Nat.testBit_two_pow_mul, Nat.testBit_two_pow_mul, Nat.testBit_xor]
  cases decide (k ≤ i) <;> simp

/-- One bit of one byte turned is one bit of the number turned. -/
theorem num_flip (l : List UInt8) (i r : Nat) (hi : i < l.length) (c : UInt8) (hc : c.toNat = 2 ^ r) (x : UInt8) (hx : l[i]? = some x) : num (l.set i (x ^^^ c)) = num l ^^^ 2 ^ (8 * i + r) := by
  induction l generalizing i with
  | nil => simp at hi
  | cons d l ih =>
    have hr : 2 ^ r < 2 ^ 8 := by rw [← hc]; exact byte_lt c
    rcases i with _ | i
    · simp only [List.getElem?_cons_zero, Option.some.injEq] at hx
      subst hx
      rw [List.set_cons_zero, num, num, UInt8.toNat_xor, hc, Nat.mul_zero, Nat.zero_add]
      rw [show (256 : Nat) = 2 ^ 8 from rfl, ← nxor_high 8 _ _ (byte_lt d), ← nxor_high 8 _ _ (Nat.xor_lt_two_pow (byte_lt d) hr), Nat.xor_assoc]
    · simp only [List.getElem?_cons_succ] at hx
      simp only [List.length_cons, Nat.add_lt_add_iff_right] at hi
      rw [List.set_cons_succ, num, num, ih i hi hx]
      rw [show (256 : Nat) = 2 ^ 8 from rfl, ← nxor_high 8 _ _ (byte_lt d), ← nxor_high 8 _ _ (byte_lt d), mul_xor, ← Nat.pow_add, Nat.xor_assoc, Nat.xor_assoc, Nat.xor_comm _ d.toNat]
      rw [show 8 + (8 * i + r) = 8 * (i + 1) + r from by omega]

theorem burst_zero (at' N : Nat) : burst at' 0 N = 0 := by simp [burst]
theorem burst_even (at' p k N : Nat) (h : ¬ p / 2 ^ k % 2 = 1) : burst at' (p % 2 ^ (k + 1)) N = burst at' (p % 2 ^ k) N := by
  rw [Nat.mod_pow_succ, show p / 2 ^ k % 2 = 0 from by omega, Nat.mul_zero, Nat.add_zero]
theorem burst_out (at' p k N : Nat) (h : N ≤ at' + k) : burst at' (p % 2 ^ (k + 1)) N = burst at' (p % 2 ^ k) N := by
  unfold burst
  rw [Nat.mod_pow_succ, Nat.add_mul, Nat.mul_right_comm, ← Nat.pow_add]
  have : 2 ^ N ∣ 2 ^ (k + at') * (p / 2 ^ k % 2) := Nat.dvd_trans (Nat.pow_dvd_pow 2 (by omega)) (Nat.dvd_mul_right _ _)
  obtain ⟨q, hq⟩ := this
  rw [hq, Nat.add_mul_mod_self_left]
theorem burst_in (at' p k N : Nat) (h : p / 2 ^ k % 2 = 1) (hN : at' + k < N) : burst at' (p % 2 ^ (k + 1)) N = burst at' (p % 2 ^ k) N ^^^ 2 ^ (at' + k) ∧ burst at' (p % 2 ^ (k + 1)) N ≠ 0 := by
  have hlo : p % 2 ^ k * 2 ^ at' < 2 ^ (at' + k) := by
    rw [Nat.pow_add, Nat.mul_comm (2 ^ at')]
    exact Nat.mul_lt_mul_of_pos_right (Nat.mod_lt _ (Nat.two_pow_pos k)) (Nat.two_pow_pos at')
  have hN2 : 2 ^ (at' + k + 1) ≤ 2 ^ N := Nat.pow_le_pow_right (by decide) (by omega)
  rw [Nat.pow_succ] at hN2
  have e1 : burst at' (p % 2 ^ k) N = p % 2 ^ k * 2 ^ at' := Nat.mod_eq_of_lt (by omega)
  have e2 : burst at' (p % 2 ^ (k + 1)) N = 2 ^ (at' + k) + p % 2 ^ k * 2 ^ at' := by
    unfold burst
    rw [Nat.mod_pow_succ, h, Nat.mul_one, Nat.add_mul, ← Nat.pow_add, Nat.add_comm k at', Nat.add_comm]
    exact Nat.mod_eq_of_lt (by omega)
  rw [e1, e2]
  have := nxor_high (at' + k) 1 (p % 2 ^ k * 2 ^ at') hlo
  rw [Nat.mul_one] at this
  have hp := Nat.two_pow_pos (at' + k)
  exact ⟨by rw [← this, Nat.xor_comm], by omega⟩

/-- In block g lie these bytes, and may be turned. -/
def BRow (w : World) (g : Nat) (l : List UInt8) : Prop :=
  ∃ (c : Array Value) (f : Nat × Nat), w.heap[g]? = some (.cells c 5 f) ∧ l.length ≤ f.1 ∧ l.length ≤ c.size ∧ ∀ (j : Nat) (x : UInt8), l[j]? = some x → c[j]? = some (Value.int .u8 (x.toNat : Int))

theorem BRow.cell {w : World} {g : Nat} {l : List UInt8} (h : BRow w g l) (j : Nat) (x : UInt8) (hj : l[j]? = some x) : w.cell? ⟨g, j, none⟩ = some (.int .u8 (x.toNat : Int)) := by
  obtain ⟨c, f, h1, h2, h3, h4⟩ := h
  simp [World.cell?, h1, h4 j x hj]
theorem BRow.thawed {w : World} {g : Nat} {l : List UInt8} (h : BRow w g l) (j : Nat) (hj : j < l.length) : w.frozen? ⟨g, j, none⟩ = false := by
  obtain ⟨c, f, h1, h2, h3, h4⟩ := h
  simp [World.frozen?, h1]
  omega
theorem BRow.set {w : World} {g : Nat} {l : List UInt8} (h : BRow w g l) (j : Nat) (y : UInt8) (hj : j < l.length) : BRow (w.setCell ⟨g, j, none⟩ (.int .u8 (y.toNat : Int))) g (l.set j y) := by
  obtain ⟨c, f, h1, h2, h3, h4⟩ := h
  refine ⟨c.setIfInBounds j (.int .u8 (y.toNat : Int)), f, ?_, by simpa using h2, by simpa using h3, ?_⟩
  · rw [setCell_eq_setRow w g j c _ f _ h1]
    exact setRow_heap w g c _ _ _ h1
  · intro k x hk
    rw [Array.getElem?_setIfInBounds]
    by_cases e : j = k
    · subst e
      rw [List.getElem?_set_self hj] at hk
      simp only [Option.some.injEq] at hk
      subst hk
      simp; omega
    · rw [if_neg e]
      rw [List.getElem?_set_ne e] at hk
      exact h4 k x hk
theorem brow_new (w : World) (s : ByteArray) : BRow (Lib.bytesWorld w 5 s) w.heap.size s.data.toList := by
  have hsz : s.data.toList.length ≤ (Lib.bytesCells w 5 s).size := by simp [Lib.bytesCells]
  refine ⟨_, _, Lib.bytesWorld_at_new w 5 s, hsz, hsz, fun j x hj => ?_⟩
  have hjl := (List.getElem?_eq_some_iff.1 hj).1
  have := Lib.bytesWorld_cell w 5 s j (by simpa using hjl)
  rw [cell_of_row _ _ j _ _ _ (Lib.bytesWorld_at_new w 5 s)] at this
  rw [this, List.getD_eq_getElem?_getD, hj]
  rfl
theorem BRow.conv {w : World} {g : Nat} {l : List UInt8} (h : BRow w g l) (cap : Nat) :
    (convert 58 9 (.slice (some ⟨g, 0, none⟩) l.length cap)).run Tryd.prog w = .ok (.string ⟨l.toArray⟩) w := by
  refine run_convert_bytes_back (P := Tryd.prog) w 58 9 5 ⟨g, 0, none⟩ cap l Tryd.underlying58 Tryd.underlying5 Tryd.underlying9 ?_
  intro j hj
  rw [show (⟨g, 0, none⟩ : Addr).add j = ⟨g, j, none⟩ from by unfold Addr.add; split <;> simp_all]
  exact h.cell j _ (List.getElem?_eq_getElem hj)
theorem bytes_below (w : World) (e : TypeId) (s : ByteArray) : Below w.heap.size w (Lib.bytesWorld w e s) :=
  ⟨rfl, rfl, rfl, by rw [Lib.bytesWorld_size]; omega, fun k hk => Lib.bytesWorld_at_old w e s k hk⟩
theorem pow_ofNat (r : Nat) (h : r < 8) : (UInt8.ofNat (2 ^ r)).toNat = 2 ^ r := by
  rw [UInt8.toNat_ofNat']
  exact Nat.mod_eq_of_lt (Nat.lt_of_lt_of_le (Nat.pow_lt_pow_right (by decide) h) (by decide))

set_option maxRecDepth 100000 in
set_option maxHeartbeats 2000000 in
theorem spoil_any (s : ByteArray) (hs : s.size ≤ maxLen) (at' p : Nat) (hat : at' ≤ 4611686018427387904) (hp : p < 4294967296) (w : World) :
    Calls Tryd.prog 23 #[.string s, .int .i64 at', .int .u32 p] w fun e w' =>
      ∃ l : List UInt8, l.length = s.data.toList.length ∧ num l = num s.data.toList ^^^ burst at' p (8 * s.data.toList.length) ∧
        e = .returned (.tuple #[.string ⟨l.toArray⟩, .bool (decide (burst at' p (8 * s.data.toList.length) ≠ 0))]) ∧ Below w.heap.size w w' := by
  have hcv := Lib.run_convert_string_bytes (P := Tryd.prog) w 9 58 5 s Tryd.underlying9 Tryd.underlying58 Tryd.underlying5
  have hrow := brow_new w s
  have hbel := bytes_below w 5 s
  obtain ⟨n, hn⟩ : ∃ n, n = s.size := ⟨_, rfl⟩
  have hnl : s.data.toList.length = n := by rw [hn]; simp
  have hnm : n < 9223372036854775808 := by rw [hn]; exact Nat.lt_of_le_of_lt hs (by decide)
  rw [← hn] at hcv
  generalize grownCap w n 0 5 = cap at *
  generalize Lib.bytesWorld w 5 s = w1 at *
  generalize hg : w.heap.size = g at *
  have Hrow := Lib.hid hrow
  have Hbel := Lib.hid hbel
  have Hnl := Lib.hid hnl
  have Hn := Lib.hid hn
  have Hp := Lib.hid hp
  have Hg := Lib.hid hg
  clear hrow hbel hnl hn hs hp hg
  go_enter Tryd.func23, Tryd.ntmps23
  go_wp2_with fail
  go_loopw [1, 2, 9, 10] (fun x y v i wr => ∃ (k : Nat) (l : List UInt8) (D : Bool), x = .int .i64 ((at' + k : Nat) : Int) ∧ y = .int .u32 ((p / 2 ^ k : Nat) : Int) ∧ v = .bool D ∧ i = .int .i64 k ∧ k ≤ 32 ∧ l.length = n ∧ num l = num s.data.toList ^^^ burst at' (p % 2 ^ k) (8 * n) ∧ D = decide (burst at' (p % 2 ^ k) (8 * n) ≠ 0) ∧ BRow wr g l ∧ Below g w wr) (fun _ _ _ i _ => 32 - (intOf i).toNat)
  case atStart => exact ⟨0, s.data.toList, false, rfl, by simp, rfl, rfl, by decide, Hnl.out, by rw [Nat.pow_zero, Nat.mod_one, burst_zero, Nat.xor_zero], by rw [Nat.pow_zero, Nat.mod_one, burst_zero]; rfl, Hrow.out, Hbel.out⟩
  case round =>
    obtain ⟨k, l, D, rfl, rfl, rfl, rfl, hk, hl, hnum, hD, hrow, hbel⟩ := hrel
    have Hl := Lib.hid hl
    have Hnum := Lib.hid hnum
    have HD := Lib.hid hD
    have Hr := Lib.hid hrow
    have Hb := Lib.hid hbel
    clear hl hnum hD hrow hbel
    by_cases hk32 : k < 32
    · have hd32 : decide ((k : Int) < 32) = true := by simp; omega
      obtain ⟨P, hP⟩ : ∃ P, P = p / 2 ^ k := ⟨_, rfl⟩
      have hPl : P < 4294967296 := by rw [hP]; exact Nat.lt_of_le_of_lt (Nat.div_le_self _ _) Hp.out
      have HP2 := Lib.hid (show P / 2 = p / 2 ^ (k + 1) from by rw [hP, Nat.div_div_eq_div_mul, Nat.pow_succ])
      obtain ⟨A, hA⟩ : ∃ A, A = at' + k := ⟨_, rfl⟩
      have hAl : A ≤ 4611686018427387936 := by omega
      have hA0 : decide ((0 : Int) ≤ (A : Int)) = true := by simp
      rw [← hP, ← hA]
      have HP := Lib.hid hP
      have HA := Lib.hid hA
      clear hP hA
      by_cases hodd : P % 2 = 1
      · have hb1 : ((P : Int) % 2 == 1) = true := by rw [beq_iff_eq]; omega
        obtain ⟨i, hi⟩ : ∃ i, i = A / 8 := ⟨_, rfl⟩
        have hAi : (A : Int) / 8 = (i : Int) := by omega
        by_cases hin : i < n
        · have hb3 : decide ((i : Int) < (n : Int)) = true := by simp; omega
          obtain ⟨r, hr⟩ : ∃ r, r = A % 8 := ⟨_, rfl⟩
          have hAr : (A : Int) % 8 = (r : Int) := by omega
          have hr8 : r < 8 := by omega
          have HAir := Lib.hid (show 8 * i + r = at' + k from by rw [← HA.out]; omega)
          have Hst := Lib.hid (burst_in at' p k (8 * n) (by rw [← HP.out]; exact hodd) (by rw [← HA.out]; omega))
          obtain ⟨x, hx⟩ : ∃ x, l[i]? = some x := ⟨l[i]'(by rw [Hl.out]; exact hin), List.getElem?_eq_getElem _⟩
          have hcell := Hr.out.cell i x hx
          have hfz := Hr.out.thawed i (by rw [Hl.out]; exact hin)
          obtain ⟨c, hc⟩ : ∃ c : UInt8, c = UInt8.ofNat (2 ^ r) := ⟨_, rfl⟩
          have hcr : c.toNat = 2 ^ r := by rw [hc]; exact pow_ofNat r hr8
          have hxx : bits .xor .u8 (x.toNat : Int) (c.toNat : Int) = ((x ^^^ c).toNat : Int) := by rw [UInt8.toNat_xor]; exact u8_xor_nat _ _ (byte_lt _) (byte_lt _)
          have Hcr := Lib.hid hcr
          have Hx := Lib.hid hx
          have Hodd := Lib.hid hodd
          have Hi := Lib.hid hi
          have Hri := Lib.hid hr
          have Hb3 := Lib.hid hb3
          clear hodd hi hr hc hcr hx
          go_wp2_with fail
          go_loopw [11, 12] (fun v i wr' => ∃ j : Nat, v = .int .u8 ((2 ^ j : Nat) : Int) ∧ i = .int .i64 j ∧ j ≤ r ∧ wr = wr') (fun _ i _ => r - (intOf i).toNat)
          case atStart => exact ⟨0, rfl, rfl, Nat.zero_le _, rfl⟩
          case round =>
            obtain ⟨j, rfl, rfl, hj, rfl⟩ := hrel
            by_cases hjr : j < r
            · obtain ⟨b, hb⟩ : ∃ b, b = 2 ^ j := ⟨_, rfl⟩
              have hb128 : b ≤ 64 := by rw [hb]; exact Nat.le_trans (Nat.pow_le_pow_right (by decide) (show j ≤ 6 by omega)) (by decide)
              have Hbb := Lib.hid (show b * 2 = 2 ^ (j + 1) from by rw [hb, Nat.pow_succ])
              rw [← hb]
              clear hb
              go_wp2_with fail
              go_roundw
              case rel => exact ⟨j + 1, by rw [← Hbb.out]; go_num, by go_num, by omega, trivial⟩
              case measure => simp [intOf]; omega
            · obtain rfl : j = r := by omega
              rw [← Hcr.out]
              go_wp2_with fail
              rw [← UInt8.toNat_xor]
              have hil : i < l.length := by rw [Hl.out]; exact hin
              have hnew : num (l.set i (x ^^^ c)) = num s.data.toList ^^^ burst at' (p % 2 ^ (k + 1)) (8 * n) := by
                rw [num_flip l i j hil c Hcr.out x Hx.out, Hnum.out, Hst.out.1, HAir.out, Nat.xor_assoc]
              exact ⟨⟨k + 1, l.set i (x ^^^ c), true, by have := HA.out; go_num, by rw [← HP2.out]; go_num, rfl, by go_num, by omega, by rw [List.length_set]; exact Hl.out, hnew, (decide_eq_true Hst.out.2).symm, Hr.out.set i _ hil, Hb.out.setCell (Nat.le_refl _) _⟩, by simp [intOf]; omega⟩
        · have hb3 : decide ((i : Int) < (n : Int)) = false := by simp; omega
          have Hst := Lib.hid (burst_out at' p k (8 * n) (by rw [← HA.out]; omega))
          clear hodd hi
          go_wp2_with fail
          go_roundw
          case rel => exact ⟨k + 1, l, D, by have := HA.out; go_num, by rw [← HP2.out]; go_num, rfl, by go_num, by omega, Hl.out, by rw [Hst.out]; exact Hnum.out, by rw [Hst.out]; exact HD.out, Hr.out, Hb.out⟩
          case measure => simp [intOf]; omega
      · have hb1 : ((P : Int) % 2 == 1) = false := by rw [beq_eq_false_iff_ne]; omega
        have Hst := Lib.hid (burst_even at' p k (8 * n) (by rw [← HP.out]; exact hodd))
        clear hodd
        go_wp2_with fail
        go_roundw
        case rel => exact ⟨k + 1, l, D, by have := HA.out; go_num, by rw [← HP2.out]; go_num, rfl, by go_num, by omega, Hl.out, by rw [Hst.out]; exact Hnum.out, by rw [Hst.out]; exact HD.out, Hr.out, Hb.out⟩
        case measure => simp [intOf]; omega
    · obtain rfl : k = 32 := by omega
      have hcv2 := Hr.out.conv cap
      rw [Hl.out] at hcv2
      have hpm : p % 2 ^ 32 = p := Nat.mod_eq_of_lt Hp.out
      have HD2 := Lib.hid (show D = decide (burst at' p (8 * n) ≠ 0) from by rw [HD.out, hpm])
      have HN2 := Lib.hid (show num l = num s.data.toList ^^^ burst at' p (8 * n) from by rw [Hnum.out, hpm])
      clear hpm
      go_wp2_with fail
      go_ret2
      refine ⟨l, by rw [Hl.out, Hnl.out], by rw [HN2.out, Hnl.out], ?_, Hb.out⟩
      rw [Hnl.out, ← HD2.out]
      rfl

end Go.Proofs.YtobioiicbdhboaaDoor
