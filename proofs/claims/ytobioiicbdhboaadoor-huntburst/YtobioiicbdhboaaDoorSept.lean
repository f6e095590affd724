/-
  What each call of package sept (layer 4) does, a contract for each function, over this seat's translation. Conditions: a reader and a writer as in package cursor's contracts.
-/
import Derived.Test.YtobioiicbdhboaaDoorCurFoot
import Derived.Test.YtobioiicbdhboaaDoorLeb
import Derived.Test.YtobioiicbdhboaaDoorSept0
import Derived.Test.YtobioiicbdhboaaDoorRows
namespace Go.Proofs.YtobioiicbdhboaaDoor
open Go.RowKit
set_option linter.unusedVariables false

set_option maxRecDepth 100000 in
theorem counts_yes (c : Nat) (h1 : 1 ≤ c) (h2 : c ≤ 10) (w : World) :
    Calls Tryd.prog 72 #[.int .i64 c] w fun e w' => e = .returned (.bool true) ∧ w = w' := by
  have hd : decide ((c : Int) ≤ 10) = true := by simp; omega
  go_enter Tryd.func72, Tryd.ntmps72
  go_wp2
  go_ret
  exact ⟨rfl, rfl⟩

set_option maxRecDepth 100000 in
theorem counts_no (c : Int) (h : c < 1 ∨ 10 < c) (w : World) :
    Calls Tryd.prog 72 #[.int .i64 c] w fun e w' => e = .returned (.bool false) ∧ w = w' := by
  rcases h with h | h
  · have h' : ¬ 1 ≤ c := by omega
    go_enter Tryd.func72, Tryd.ntmps72
    go_wp2
    go_ret
    exact ⟨rfl, rfl⟩
  · have h1 : 1 ≤ c := by omega
    have h2 : ¬ c ≤ 10 := by omega
    go_enter Tryd.func72, Tryd.ntmps72
    go_wp2
    go_ret
    exact ⟨rfl, rfl⟩

/-- The ways of a byte x at place i. -/
theorem sept_ways (x i : Nat) : (septBad x i = true ∧ 128 ≤ x) ∨ (septBad x i = true ∧ 1 < x ∧ x < 128 ∧ i = 9) ∨ (septBad x i = false ∧ x ≤ 1) ∨ (septBad x i = false ∧ 1 < x ∧ x < 128 ∧ i ≠ 9) := by
  simp only [septBad]
  rcases (show 128 ≤ x ∨ (1 < x ∧ x < 128 ∧ i = 9) ∨ x ≤ 1 ∨ (1 < x ∧ x < 128 ∧ i ≠ 9) from by omega) with h | h | h | h
  all_goals simp
  all_goals omega

theorem or_step' (v c i : Nat) (hv : v < 128 ^ i) (hc : c < 128) (h : v + 128 ^ i * (c % 128) < 18446744073709551616) :
    bits .or .u64 (v : Int) (IntKind.u64.wrap ((c : Int) * 2 ^ (7 * i))) = ((v + 128 ^ i * (c % 128) : Nat) : Int) := by
  have e := or_step v c i hv h
  rwa [show (c : Int) % 128 = (c : Int) from by omega] at e

set_option maxRecDepth 100000 in
set_option maxHeartbeats 2000000 in
theorem sread_any (w : World) (b : Nat) (s : ByteArray) (k : Nat) (h : Rd w b s k) (c : Nat) (hc1 : 1 ≤ c) (hc2 : c ≤ 10) :
    Calls Tryd.prog 73 #[.pointer (some ⟨b, 0, none⟩), .int .i64 c] w fun e w' => e = .returned (.tuple #[.int .u64 (septGet (s.data.toList.drop k) c).1, .int .i64 (septGet (s.data.toList.drop k) c).2.1]) ∧
      (∃ j, Rd w' b s j ∧ ((septGet (s.data.toList.drop k) c).2.1 = 0 → j = k + (septGet (s.data.toList.drop k) c).2.2)) ∧ w.grownBy w' (some b) := by
  have mx := h.mx
  unfold maxLen at mx
  have le := h.le
  have HD := Lib.hid (drop_get s k)
  have hlen : (s.data.toList.drop k).length = s.size - k := by simp
  obtain ⟨L, hL⟩ : ∃ L, L = s.data.toList.drop k := ⟨_, rfl⟩
  rw [← hL] at HD hlen ⊢
  clear hL
  have Hlen := Lib.hid hlen
  clear hlen
  go_enter Tryd.func73, Tryd.ntmps73
  go_wp2_with fail
  go_loopw [6, 11] (fun n d wr => ∃ (i : Nat), i ≤ c ∧ k + i ≤ s.size ∧ d = .int .i64 (i : Int) ∧ n = .int .u64 ((val (L.take i) : Nat) : Int) ∧ Rd wr b s (k + i) ∧ septGet L c = septAt L c i ∧ w.grownBy wr (some b)) (fun _ d _ => ((c : Int) - intOf d).toNat)
  case atStart => exact ⟨0, by omega, by omega, rfl, rfl, h, rfl, World.grownBy.refl _ _⟩
  case round =>
    clear h
    obtain ⟨i, hi, hki, rfl, rfl, h, hE, hg⟩ := hrel
    have HE := Lib.hid hE
    clear hE
    have hv := val_take_lt L i
    by_cases hic : i < c
    · by_cases hlt : k + i < s.size
      · obtain ⟨hlt', hget⟩ := HD.out i hlt
        have hby := byte_any _ _ _ _ h hlt
        rw [← hget] at hby
        have hx : L[i].toNat < 256 := L[i].toNat_lt
        have Hgo := Lib.hid (fun hb => HE.out.trans (septAt_go (l := L) (k := i) hic hlt' hb))
        have Hbad := Lib.hid (fun hb => HE.out.trans (septAt_bad (l := L) (k := i) hic hlt' hb))
        have Hts := Lib.hid (val_take_succ L i hlt')
        have Hlt1 := Lib.hid (val_take_lt L (i + 1))
        clear hget HE HD
        generalize L[i].toNat = x at *
        generalize hV : val (L.take i) = v at *
        clear hV
        have hpow : i < 9 → (128 : Nat) ^ (i + 1) ≤ 9223372036854775808 := fun h9 => Nat.le_trans (Nat.pow_le_pow_right (by omega) (show i + 1 ≤ 9 by omega)) (by decide)
        have hsum : septBad x i = false → v + 128 ^ i * (x % 128) < 18446744073709551616 := by
          intro hb
          by_cases h9 : i < 9
          · have h1 := hpow h9
            have h2 := Hlt1.out
            rw [Hts.out] at h2
            omega
          · obtain rfl : i = 9 := by omega
            have h1 := septBad_nine hb
            have h2 : (128 : Nat) ^ 9 * (x % 128) ≤ 128 ^ 9 * 1 := Nat.mul_le_mul_left _ (by omega)
            have : (128 : Nat) ^ 9 = 9223372036854775808 := by decide
            omega
        have Hor := Lib.hid (fun hb => or_step' v x i hv (septBad_low hb) (hsum hb))
        have Hby := Lib.hid hby
        clear hpow hsum hby hv hlt'
        rcases sept_ways x i with ⟨hb, h1⟩ | ⟨hb, h1, h2, rfl⟩ | ⟨hb, h1⟩ | ⟨hb, h1, h2, h3⟩
        · have Hg2 := Lib.hid (Hbad.out hb)
          have hd0 : decide ((128 : Int) ≤ (x : Int)) = true := by simp; omega
          clear Hgo Hbad Hor hb
          go_wp2_with fail
          refine Hby.out.mono ?_
          clear Hby
          rintro e w1 ⟨rfl, h1, g1⟩
          go_wp2
          go_ret2
          rw [Hg2.out]
          exact ⟨rfl, ⟨_, h1, fun h => by cases h⟩, hg.trans g1⟩
        · have Hg2 := Lib.hid (Hbad.out hb)
          have hd0 : decide ((128 : Int) ≤ (x : Int)) = false := by simp; omega
          have hd1 : decide ((1 : Int) < (x : Int)) = true := by simp; omega
          clear Hgo Hbad Hor hb
          go_wp2_with fail
          refine Hby.out.mono ?_
          clear Hby
          rintro e w1 ⟨rfl, h1, g1⟩
          go_wp2
          go_ret2
          rw [Hg2.out]
          exact ⟨rfl, ⟨_, h1, fun h => by cases h⟩, hg.trans g1⟩
        · have Hg2 := Lib.hid (Hgo.out hb)
          have Hor' := Lib.hid (Hor.out hb)
          have hd0 : decide ((128 : Int) ≤ (x : Int)) = false := by simp; omega
          have hd1 : decide ((1 : Int) < (x : Int)) = false := by simp; omega
          clear Hgo Hbad Hor hb
          go_wp2_with fail
          refine Hby.out.mono ?_
          rintro e w1 ⟨rfl, h1, g1⟩
          go_wp2
          go_roundw
          case rel => exact ⟨i + 1, by omega, by omega, by go_num, by rw [Hts.out, ← Hor'.out], h1, Hg2.out, hg.trans g1⟩
          case measure => simp [intOf]; omega
        · have Hg2 := Lib.hid (Hgo.out hb)
          have Hor' := Lib.hid (Hor.out hb)
          have hd0 : decide ((128 : Int) ≤ (x : Int)) = false := by simp; omega
          have hd1 : decide ((1 : Int) < (x : Int)) = true := by simp; omega
          have hd9 : ((i : Int) == 9) = false := by rw [beq_eq_false_iff_ne]; omega
          clear Hgo Hbad Hor hb
          go_wp2_with fail
          refine Hby.out.mono ?_
          rintro e w1 ⟨rfl, h1, g1⟩
          go_wp2
          go_roundw
          case rel => exact ⟨i + 1, by omega, by omega, by go_num, by rw [Hts.out, ← Hor'.out], h1, Hg2.out, hg.trans g1⟩
          case measure => simp [intOf]; omega
      · have Hend := Lib.hid (HE.out.trans (septAt_end (l := L) (k := i) hic (by rw [Hlen.out]; omega)))
        have Hby := Lib.hid (byte_end _ _ _ _ h (by omega))
        clear HE HD Hlen hv
        go_wp2_with fail
        refine Hby.out.mono ?_
        clear Hby
        rintro e w1 ⟨rfl, hw1⟩
        have h1 := h.drawn hw1
        have g1 := hg.trans (grown_any (grown_drewN hw1) _)
        clear h hw1 hg
        go_wp2
        go_ret2
        rw [Hend.out]
        exact ⟨rfl, ⟨_, h1, fun h => by cases h⟩, g1⟩
    · obtain rfl : i = c := by omega
      have Hend := Lib.hid (HE.out.trans septAt_done)
      clear HE HD Hlen hv
      go_wp2
      go_ret2
      rw [Hend.out]
      exact ⟨rfl, ⟨_, h, fun _ => rfl⟩, hg⟩

set_option maxRecDepth 100000 in
set_option maxHeartbeats 400000 in
theorem sget_nil (w : World) (c : Int) :
    Calls Tryd.prog 69 #[.pointer none, .int .i64 c] w fun e w' => e = .returned (.tuple #[.int .u64 0, .int .i64 16]) ∧ w = w' := by
  go_enter Tryd.func69, Tryd.ntmps69
  go_wp2
  go_ret2
  exact ⟨rfl, rfl⟩

set_option maxRecDepth 100000 in
set_option maxHeartbeats 400000 in
theorem sget_arg (w : World) (b : Nat) (c : Int) (h : c < 1 ∨ 10 < c) :
    Calls Tryd.prog 69 #[.pointer (some ⟨b, 0, none⟩), .int .i64 c] w fun e w' => e = .returned (.tuple #[.int .u64 0, .int .i64 1]) ∧ w = w' := by
  have H := Lib.hid (counts_no c h w)
  clear h
  go_enter Tryd.func69, Tryd.ntmps69
  go_wp2_with fail
  refine H.out.mono ?_
  rintro e w1 ⟨rfl, rfl⟩
  go_wp2
  go_ret2
  exact ⟨rfl, rfl⟩

set_option maxRecDepth 100000 in
set_option maxHeartbeats 400000 in
theorem sget_any (w : World) (b : Nat) (s : ByteArray) (k : Nat) (h : Rd w b s k) (c : Nat) (hc1 : 1 ≤ c) (hc2 : c ≤ 10) :
    Calls Tryd.prog 69 #[.pointer (some ⟨b, 0, none⟩), .int .i64 c] w fun e w' => e = .returned (.tuple #[.int .u64 (septGet (s.data.toList.drop k) c).1, .int .i64 (septGet (s.data.toList.drop k) c).2.1]) ∧
      Rd w' b s (k + (septGet (s.data.toList.drop k) c).2.2) ∧ w.grownBy w' (some b) := by
  have H := Lib.hid (counts_yes c hc1 hc2 w)
  have hread := sread_any w b s k h c hc1 hc2
  have herr : (septGet (s.data.toList.drop k) c).2.1 ≠ 0 → (septGet (s.data.toList.drop k) c).1 = 0 ∧ (septGet (s.data.toList.drop k) c).2.2 = 0 := septScan_err _ _ _ _
  have le := h.le
  generalize septGet (s.data.toList.drop k) c = R at *
  obtain ⟨n, z, m⟩ := R
  have Hread := Lib.hid hread
  have Herr := Lib.hid herr
  clear hread herr hc1 hc2
  go_enter Tryd.func69, Tryd.ntmps69
  go_wp2_with fail
  refine H.out.mono ?_
  rintro e w1 ⟨rfl, rfl⟩
  go_wp2_with fail
  refine (at_any _ _ _ _ h).mono ?_
  rintro e w1 ⟨rfl, rfl⟩
  clear h
  go_wp2_with fail
  refine Hread.out.mono ?_
  rintro e w1 ⟨rfl, ⟨j, h1, hj⟩, g1⟩
  have Hj := Lib.hid hj
  clear Hread hj
  by_cases hc : z = 0
  · subst hc
    go_wp2
    go_ret2
    exact ⟨rfl, by rw [← Hj.out (by first | trivial | rfl)]; exact h1, g1⟩
  · have hcb : ((z : Int) != 0) = true := by rw [bne_iff_ne]; omega
    obtain ⟨e1, e2⟩ := Herr.out hc
    have E1 := Lib.hid e1
    have E2 := Lib.hid e2
    clear Herr e1 e2 hc
    go_wp2_with fail
    refine (seek_any _ _ _ _ h1 k le).mono ?_
    rintro e w2 ⟨rfl, h2, g2⟩
    go_wp2
    go_ret2
    rw [E1.out, E2.out]
    exact ⟨rfl, h2, g1.trans g2⟩

end Go.Proofs.YtobioiicbdhboaaDoor
