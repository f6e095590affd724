/-
  The document's own answers for layer 2 (taffrailref02: Print, Get, Most, Fold), and the first line of each statement of layer 2 (awake), over this seat's translation.
-/
import Derived.Test.YtobioiicbdhboaaDoorLeb2
namespace Go.Proofs.YtobioiicbdhboaaDoor
open Go.RowKit
set_option linter.unusedVariables false

set_option maxRecDepth 100000 in
set_option maxHeartbeats 1000000 in
theorem rprint_any (n : Nat) (hn : n < 18446744073709551616) (w : World) :
    Calls Tryd.prog 56 #[.int .u64 n] w fun e w' => e = .returned (.string ⟨(lebL n).toArray⟩) ∧ Below w.heap.size w w' := by
  have h10 := lebL_len10 n hn
  obtain ⟨i0, hi, hz0, hz1, hz2⟩ := info_parts Tryd.infoU8
  have Hn := Lib.hid hn
  clear hn
  go_enter Tryd.func56, Tryd.ntmps56
  go_wp2_with fail
  go_loopw [0, 3] (fun x v wr => ∃ (m : Nat) (l' : List UInt8), x = .int .u64 m ∧ m < 18446744073709551616 ∧ Byt wr w.heap.size v l' ∧ l' ++ lebL m = lebL n ∧ Below w.heap.size w wr) (fun x _ _ => (intOf x).toNat)
  case atStart => exact ⟨n, [], rfl, Hn.out, World.ownsRow_lit w #[] 0 (Nat.le_refl _) (by decide) rfl, rfl, (Below.refl _ _).alloc (Nat.le_refl _) _⟩
  case round =>
    obtain ⟨m, l', rfl, hm, hown, he, hb⟩ := hrel
    obtain ⟨ao, cap, rfl, -⟩ := hown.shape
    have hlen : l'.length + (lebL m).length ≤ 10 := by
      have := congrArg List.length he
      simp only [List.length_append] at this
      omega
    have hp := lebL_pos m
    have Hm := Lib.hid hm
    have hbs := hb.size
    clear hm h10
    have hown' := World.ownsRow.alloc hown
    by_cases hlt : m < 128
    · have hd : ¬ (127 < m) := by omega
      rw [lebL_lt hlt] at he
      have Hh := Lib.hid he
      clear he
      go_wp2_with (at_builtin; refine wpList_append_own _ rfl _ _ 58 rfl w.heap.size 5 i0 (.int .u8 0) 1 1 Tryd.underlying58 hi hz0 hz1 hz2 rfl (by decide) _ _ _ rfl (hown' _) _ 1 1 (cellsOf [UInt8.ofNat m]) rfl rfl (seg_one wr _ _ (by simp; omega)) (cellsOf_one _) (by unfold maxLen; omega) (by omega) (by simp; omega) ?_)
      intro v' w1 hown1 hg1 hne
      have ha := byt_app hown hbs hown1 hg1
      obtain ⟨ao', cap', rfl, hsh⟩ := ha.1.shape
      have hL := Hh.out
      rw [hL] at hsh ⊢
      have hb1 := hb.trans ha.2
      clear ha hown hown' hown1 hg1 hb
      rcases hsh with ⟨rfl, hnil, rfl⟩ | ⟨g, rfl, hc⟩
      · exfalso
        rw [hnil] at hL
        simp at hL
      · have Hh := Lib.hid hL
        have hcv := run_convert_bytes_back (P := Tryd.prog) w1 58 9 5 ⟨g, 0, none⟩ cap' (lebL n) Tryd.underlying58 Tryd.underlying5 Tryd.underlying9 hc
        clear hc hL
        go_wp2
        go_ret
        exact ⟨rfl, hb1⟩
    · have hd : 127 < m := by omega
      have hL := lebL_ge (n := m) (by omega)
      rw [hL] at he
      obtain ⟨x, hx⟩ : ∃ x : UInt8, x = UInt8.ofNat (m % 128 + 128) := ⟨_, rfl⟩
      have hxn : (x.toNat : Int) = (m : Int) % 128 + 128 := by rw [hx]; simp; omega
      rw [← hx] at he
      have Hxn := Lib.hid hxn
      have hmw : IntKind.u64.wrap ((m : Int) / 128) = (m : Int) / 128 := by have := Hm.out; rw [IntKind.wrap_u64]; omega
      have Hh := Lib.hid he
      clear he hL hx hxn
      go_wp2_with (at_builtin; refine wpList_append_own _ rfl _ _ 58 rfl w.heap.size 5 i0 (.int .u8 0) 1 1 Tryd.underlying58 hi hz0 hz1 hz2 rfl (by decide) _ _ _ rfl (hown' _) _ 1 1 (cellsOf [x]) rfl rfl (seg_one wr _ _ (by rw [Hxn.out])) (cellsOf_one _) (by unfold maxLen; omega) (by omega) (by simp; omega) ?_)
      intro v' w1 hown1 hg1 hne
      have ha := byt_app hown hbs hown1 hg1
      clear hown hown' hown1 hg1
      go_wp2
      go_roundw
      case rel => exact ⟨m / 128, l' ++ [x], by go_num, by have := Hm.out; omega, ha.1, by rw [← Hh.out]; simp, hb.trans ha.2⟩
      case measure => simp [intOf]; omega

theorem val_drop_step (L : List UInt8) (k j : Nat) (hj : j ≤ k) (hk : k < L.length) : val ((L.take (k + 1)).drop j) = val ((L.take (k + 1)).drop (j + 1)) * 128 + (L[j]'(by omega)).toNat % 128 := by
  have hl : j < (L.take (k + 1)).length := by rw [List.length_take]; omega
  rw [List.drop_eq_getElem_cons hl, val, List.getElem_take]
  omega
theorem val_drop_lt (L : List UInt8) (k j : Nat) : val ((L.take k).drop j) * 128 ^ j ≤ val (L.take k) := by
  have h := val_append ((L.take k).take j) ((L.take k).drop j)
  rw [List.take_append_drop] at h
  by_cases hj : j ≤ (L.take k).length
  · rw [List.length_take, Nat.min_eq_left hj] at h
    rw [h, Nat.mul_comm]
    omega
  · rw [List.drop_eq_nil_of_le (by omega)]
    simp [val]

set_option maxRecDepth 100000 in
set_option maxHeartbeats 2000000 in
theorem rget_any (s : ByteArray) (at0 : Nat) (hs : s.size ≤ 1000000) (ha : at0 ≤ s.size) (w : World) :
    Calls Tryd.prog 63 #[.string s, .int .i64 at0] w fun e w' => e = .returned (.tuple #[.int .u64 (lebGet (s.data.toList.drop at0)).1, .int .i64 (lebGet (s.data.toList.drop at0)).2.1, .int .i64 ((at0 + (lebGet (s.data.toList.drop at0)).2.2 : Nat) : Int)]) ∧ w = w' := by
  have HD := Lib.hid (drop_get s at0)
  have hlen : (s.data.toList.drop at0).length = s.size - at0 := by simp
  obtain ⟨L, hL⟩ : ∃ L, L = s.data.toList.drop at0 := ⟨_, rfl⟩
  rw [← hL] at HD hlen ⊢
  clear hL
  have Hlen := Lib.hid hlen
  clear hlen
  go_enter Tryd.func63, Tryd.ntmps63
  go_wp2_with fail
  go_loop [7] (fun x => ∃ k : Nat, x = .int .i64 k ∧ k ≤ 9 ∧ at0 + k ≤ s.size ∧ lebGet L = lebAt L k) (fun x => (10 - intOf x).toNat)
  case atStart => exact ⟨0, rfl, by omega, by omega, rfl⟩
  case round =>
    obtain ⟨k, rfl, hk, hks, hE⟩ := hrel
    have HE := Lib.hid hE
    clear hE
    by_cases hlt : at0 + k < s.size
    · obtain ⟨hlt', hget⟩ := HD.out k hlt
      have hc : L[k].toNat < 256 := L[k].toNat_lt
      have Hok := Lib.hid (fun hb hl => HE.out.trans (lebAt_ok (l := L) (k := k) hlt' hb hl))
      have Hgo := Lib.hid (fun hb hl => HE.out.trans (lebAt_go (l := L) (k := k) hlt' hb hl))
      have Hbad := Lib.hid (fun hb => HE.out.trans (lebAt_bad (l := L) (k := k) hlt' hb))
      have hci : s[at0 + k].toNat = L[k].toNat := by rw [hget]
      clear hget HE
      have Hval := Lib.hid (fun hb hl => (congrArg Prod.fst (Hok.out hb hl)) ▸ lebGet_lt L)
      have hdrop : ∀ i, i ≤ k → ∃ h : at0 + i < s.size, val ((L.take (k + 1)).drop i) = val ((L.take (k + 1)).drop (i + 1)) * 128 + (s[at0 + i]).toNat % 128 := by
        intro i hi
        obtain ⟨q1, q2⟩ := HD.out i (by omega)
        exact ⟨by omega, by rw [← q2]; exact val_drop_step L k i hi hlt'⟩
      have Hdrop := Lib.hid hdrop
      have Hpart := Lib.hid (fun i => val_drop_lt L (k + 1) i)
      clear hdrop HD Hlen
      have hE0 : val ((L.take (k + 1)).drop (k + 1)) = 0 := by rw [List.drop_eq_nil_of_le (List.length_take_le _ _)]; rfl
      have HE0 := Lib.hid hE0
      clear hE0
      generalize L[k].toNat = c at *
      rcases byte_ways c k hc hk with ⟨hb, rfl, h1⟩ | ⟨hb, h1, rfl⟩ | ⟨hb, h1, h2⟩ | ⟨hb, h1⟩ | ⟨hb, h1, h2, h3⟩ | ⟨hb, h1, h2, h3⟩
      · have Hg := Lib.hid (Hbad.out hb)
        clear Hbad Hok Hgo Hval hb
        have hd0 : decide ((0 : Int) < (k : Int)) = true := by simp; omega
        go_wp2
        go_ret3
        rw [Hg.out]
        exact ⟨rfl, rfl⟩
      · have Hg := Lib.hid (Hbad.out hb)
        clear Hbad Hok Hgo Hval hb
        have hc0 : ((c : Int) == 0) = false := by rw [beq_eq_false_iff_ne]; omega
        have hc1 : decide ((1 : Int) < (c : Int)) = true := by simp; omega
        go_wp2
        go_ret3
        rw [Hg.out]
        exact ⟨rfl, rfl⟩
      rotate_left 3
      · have Hg := Lib.hid (Hgo.out hb h3)
        clear Hbad Hok Hgo Hval hb
        have hc0 : ((c : Int) == 0) = false := by rw [beq_eq_false_iff_ne]; omega
        have hc1 : decide ((1 : Int) < (c : Int)) = true := by simp; omega
        have hd9 : ((k : Int) == 9) = false := by rw [beq_eq_false_iff_ne]; omega
        have hc3 : decide ((c : Int) < 128) = false := by simp; omega
        go_wp2
        go_round
        case rel => exact ⟨k + 1, by go_num, by omega, by omega, Hg.out⟩
        case measure => simp [intOf]; omega
      · have Hg := Lib.hid (Hok.out hb (by omega))
        have HV := Lib.hid (Hval.out hb (by omega))
        clear Hbad Hok Hgo Hval hb
        have hc0 : ((c : Int) == 0) = true := by rw [beq_iff_eq]; omega
        have hd0 : decide ((0 : Int) < (k : Int)) = false := by simp; omega
        have hd0' : decide (0 < k) = false := by simp; omega
        have hc1 : decide ((1 : Int) < (c : Int)) = false := by simp; omega
        have hc3 : decide ((c : Int) < 128) = true := by simp; omega
        clear h1 h2
        go_wp2_with fail
        go_loop [9, 10] (fun n x => ∃ i : Int, x = .int .i64 i ∧ -1 ≤ i ∧ i ≤ k ∧ n = .int .u64 ((val ((L.take (k + 1)).drop (i + 1).toNat) : Nat) : Int)) (fun _ x => (intOf x + 1).toNat)
        case atStart => exact ⟨k, rfl, by omega, by omega, by rw [show ((k : Int) + 1).toNat = k + 1 from by omega, HE0.out]; rfl⟩
        case round =>
          obtain ⟨i, rfl, hi1, hi2, rfl⟩ := hrel
          by_cases hi : 0 ≤ i
          · obtain ⟨i, rfl⟩ := Int.eq_ofNat_of_zero_le hi
            obtain ⟨q1, q2⟩ := Hdrop.out i (by omega)
            have q3 := Hpart.out i
            have q4 : 0 < 128 ^ i := Nat.pow_pos (by omega)
            have q5 := Nat.le_mul_of_pos_right (val ((L.take (k + 1)).drop i)) q4
            have q6 := HV.out
            rw [show ((i : Int) + 1).toNat = i + 1 from by omega]
            have hbound : val ((L.take (k + 1)).drop i) < 18446744073709551616 := by omega
            rw [q2] at hbound
            have Hq2 := Lib.hid q2
            generalize val ((L.take (k + 1)).drop (i + 1)) = v at *
            clear q2 q3 q4 q5 q6
            go_wp2
            go_round
            case rel => exact ⟨(i : Int) - 1, rfl, by omega, by omega, by rw [show ((i : Int) - 1 + 1).toNat = i from by omega, Hq2.out]; go_num⟩
            case measure => simp [intOf]
          · obtain rfl : i = -1 := by omega
            go_wp2
            go_ret3
            rw [Hg.out]
            exact ⟨rfl, rfl⟩
      · have Hg := Lib.hid (Hok.out hb (by omega))
        have HV := Lib.hid (Hval.out hb (by omega))
        clear Hbad Hok Hgo Hval hb
        have hc0 : ((c : Int) == 0) = false := by rw [beq_eq_false_iff_ne]; omega
        have hc1 : decide ((1 : Int) < (c : Int)) = false := by simp; omega
        have hc3 : decide ((c : Int) < 128) = true := by simp; omega
        clear h1
        go_wp2_with fail
        go_loop [9, 10] (fun n x => ∃ i : Int, x = .int .i64 i ∧ -1 ≤ i ∧ i ≤ k ∧ n = .int .u64 ((val ((L.take (k + 1)).drop (i + 1).toNat) : Nat) : Int)) (fun _ x => (intOf x + 1).toNat)
        case atStart => exact ⟨k, rfl, by omega, by omega, by rw [show ((k : Int) + 1).toNat = k + 1 from by omega, HE0.out]; rfl⟩
        case round =>
          obtain ⟨i, rfl, hi1, hi2, rfl⟩ := hrel
          by_cases hi : 0 ≤ i
          · obtain ⟨i, rfl⟩ := Int.eq_ofNat_of_zero_le hi
            obtain ⟨q1, q2⟩ := Hdrop.out i (by omega)
            have q3 := Hpart.out i
            have q4 : 0 < 128 ^ i := Nat.pow_pos (by omega)
            have q5 := Nat.le_mul_of_pos_right (val ((L.take (k + 1)).drop i)) q4
            have q6 := HV.out
            rw [show ((i : Int) + 1).toNat = i + 1 from by omega]
            have hbound : val ((L.take (k + 1)).drop i) < 18446744073709551616 := by omega
            rw [q2] at hbound
            have Hq2 := Lib.hid q2
            generalize val ((L.take (k + 1)).drop (i + 1)) = v at *
            clear q2 q3 q4 q5 q6
            go_wp2
            go_round
            case rel => exact ⟨(i : Int) - 1, rfl, by omega, by omega, by rw [show ((i : Int) - 1 + 1).toNat = i from by omega, Hq2.out]; go_num⟩
            case measure => simp [intOf]
          · obtain rfl : i = -1 := by omega
            go_wp2
            go_ret3
            rw [Hg.out]
            exact ⟨rfl, rfl⟩
      · have Hg := Lib.hid (Hok.out hb (by omega))
        have HV := Lib.hid (Hval.out hb (by omega))
        clear Hbad Hok Hgo Hval hb
        have hc0 : ((c : Int) == 0) = false := by rw [beq_eq_false_iff_ne]; omega
        have hc1 : decide ((1 : Int) < (c : Int)) = true := by simp; omega
        have hd9 : ((k : Int) == 9) = false := by rw [beq_eq_false_iff_ne]; omega
        have hc3 : decide ((c : Int) < 128) = true := by simp; omega
        go_wp2_with fail
        go_loop [9, 10] (fun n x => ∃ i : Int, x = .int .i64 i ∧ -1 ≤ i ∧ i ≤ k ∧ n = .int .u64 ((val ((L.take (k + 1)).drop (i + 1).toNat) : Nat) : Int)) (fun _ x => (intOf x + 1).toNat)
        case atStart => exact ⟨k, rfl, by omega, by omega, by rw [show ((k : Int) + 1).toNat = k + 1 from by omega, HE0.out]; rfl⟩
        case round =>
          obtain ⟨i, rfl, hi1, hi2, rfl⟩ := hrel
          by_cases hi : 0 ≤ i
          · obtain ⟨i, rfl⟩ := Int.eq_ofNat_of_zero_le hi
            obtain ⟨q1, q2⟩ := Hdrop.out i (by omega)
            have q3 := Hpart.out i
            have q4 : 0 < 128 ^ i := Nat.pow_pos (by omega)
            have q5 := Nat.le_mul_of_pos_right (val ((L.take (k + 1)).drop i)) q4
            have q6 := HV.out
            rw [show ((i : Int) + 1).toNat = i + 1 from by omega]
            have hbound : val ((L.take (k + 1)).drop i) < 18446744073709551616 := by omega
            rw [q2] at hbound
            have Hq2 := Lib.hid q2
            generalize val ((L.take (k + 1)).drop (i + 1)) = v at *
            clear q2 q3 q4 q5 q6
            go_wp2
            go_round
            case rel => exact ⟨(i : Int) - 1, rfl, by omega, by omega, by rw [show ((i : Int) - 1 + 1).toNat = i from by omega, Hq2.out]; go_num⟩
            case measure => simp [intOf]
          · obtain rfl : i = -1 := by omega
            go_wp2
            go_ret3
            rw [Hg.out]
            exact ⟨rfl, rfl⟩
    · have Hend := Lib.hid (HE.out.trans (lebAt_end (l := L) (k := k) (by rw [Hlen.out]; omega)))
      clear HE HD Hlen
      go_wp2
      go_ret3
      rw [Hend.out]
      exact ⟨rfl, rfl⟩

end Go.Proofs.YtobioiicbdhboaaDoor
