/-
  The document's own answers for layer 4 (taffrailref04: Print, Get), and the first line of each statement of layer 4 (awake), over this seat's translation.
-/
import Derived.Test.YtobioiicbdhboaaDoorSept
namespace Go.Proofs.YtobioiicbdhboaaDoor
open Go.RowKit
set_option linter.unusedVariables false

set_option maxRecDepth 100000 in
set_option maxHeartbeats 1000000 in
theorem rsprint_any (n c : Nat) (hn : n < 18446744073709551616) (h1 : 1 ≤ c) (h2 : c ≤ 10) (w : World) :
    Calls Tryd.prog 30 #[.int .u64 n, .int .i64 c] w fun e w' => e = .returned (.tuple #[.string ⟨(septL n c).toArray⟩, .bool (decide (n < 128 ^ c))]) ∧ Below w.heap.size w w' := by
  obtain ⟨i0, hi, hz0, hz1, hz2⟩ := info_parts Tryd.infoU8
  have Hn := Lib.hid hn
  clear hn
  go_enter Tryd.func30, Tryd.ntmps30
  go_wp2_with fail
  go_loopw [0, 6, 7] (fun x v y wr => ∃ (m i : Nat) (l' : List UInt8), x = .int .u64 m ∧ m < 18446744073709551616 ∧ y = .int .i64 i ∧ i ≤ c ∧ Byt wr w.heap.size v l' ∧ l' ++ septL m (c - i) = septL n c ∧ (m < 128 ^ (c - i) ↔ n < 128 ^ c) ∧ Below w.heap.size w wr) (fun _ _ y _ => ((c : Int) - intOf y).toNat)
  case atStart => exact ⟨n, 0, [], rfl, Hn.out, rfl, by omega, World.ownsRow_lit w #[] 0 (Nat.le_refl _) (by decide) rfl, rfl, Iff.rfl, (Below.refl _ _).alloc (Nat.le_refl _) _⟩
  case round =>
    obtain ⟨m, i, l', rfl, hm, rfl, hic, hown, he, hq, hb⟩ := hrel
    have hlen : l'.length + (c - i) = c := by
      have := congrArg List.length he
      simpa only [List.length_append, septL_len] using this
    obtain ⟨ao, cap, rfl, hsh⟩ := hown.shape
    have Hm := Lib.hid hm
    have hbs := hb.size
    clear hm
    by_cases hlt : i < c
    · have hown' := World.ownsRow.alloc hown
      obtain ⟨d, hd⟩ : ∃ d, c - i = d + 1 := ⟨c - i - 1, by omega⟩
      have hd' : c - (i + 1) = d := by omega
      rw [hd, septL] at he
      rw [hd, Nat.pow_succ, ← Nat.div_lt_iff_lt_mul (by omega)] at hq
      obtain ⟨x, hx⟩ : ∃ x : UInt8, x = UInt8.ofNat (m % 128) := ⟨_, rfl⟩
      have hxn : (x.toNat : Int) = (m : Int) % 128 := by rw [hx]; simp; omega
      rw [← hx] at he
      have Hxn := Lib.hid hxn
      have hmw : IntKind.u64.wrap ((m : Int) / 128) = (m : Int) / 128 := by have := Hm.out; rw [IntKind.wrap_u64]; omega
      have Hh := Lib.hid he
      have Hd := Lib.hid hd'
      have Hq := Lib.hid hq
      have hl10 : l'.length + 1 ≤ 10 := by omega
      clear he hx hxn hsh hd hd' hq hlen
      go_wp2_with (at_builtin; refine wpList_append_own _ rfl _ _ 58 rfl w.heap.size 5 i0 (.int .u8 0) 1 1 Tryd.underlying58 hi hz0 hz1 hz2 rfl (by decide) _ _ _ rfl (hown' _) _ 1 1 (cellsOf [x]) rfl rfl (seg_one wr _ _ (by rw [Hxn.out])) (cellsOf_one _) (by unfold maxLen; omega) (by omega) (by simp; omega) ?_)
      intro v' w1 hown1 hg1 hne
      have ha := byt_app hown hbs hown1 hg1
      clear hown hown' hown1 hg1
      go_wp2
      go_roundw
      case rel => exact ⟨m / 128, i + 1, l' ++ [x], by go_num, by have := Hm.out; omega, by go_num, by omega, ha.1, by rw [← Hh.out, Hd.out]; simp, by rw [Hd.out]; exact Hq.out, hb.trans ha.2⟩
      case measure => simp [intOf]; omega
    · obtain rfl : i = c := by omega
      rw [Nat.sub_self, septL, List.append_nil] at he
      rw [Nat.sub_self] at hq
      have hz : ((m : Int) == 0) = decide (n < 128 ^ i) := by
        rw [Bool.eq_iff_iff, beq_iff_eq, decide_eq_true_iff, ← hq]; omega
      subst he
      rcases hsh with ⟨rfl, hnil, rfl⟩ | ⟨g, rfl, hc⟩
      · exfalso
        have := congrArg List.length hnil
        rw [septL_len] at this
        simp at this
        omega
      · have hcv := run_convert_bytes_back (P := Tryd.prog) wr 58 9 5 ⟨g, 0, none⟩ cap (septL n i) Tryd.underlying58 Tryd.underlying5 Tryd.underlying9 hc
        clear hc hown hlen hq
        go_wp2
        go_ret2
        exact ⟨rfl, hb⟩

theorem sval_drop_step (L : List UInt8) (c j : Nat) (hj : j < c) (hk : c ≤ L.length) : val ((L.take c).drop j) = val ((L.take c).drop (j + 1)) * 128 + (L[j]'(by omega)).toNat % 128 := by
  have hl : j < (L.take c).length := by rw [List.length_take]; omega
  rw [List.drop_eq_getElem_cons hl, val, List.getElem_take]
  omega
theorem sval_drop_lt (L : List UInt8) (k j : Nat) : val ((L.take k).drop j) * 128 ^ j ≤ val (L.take k) := by
  have h := val_append ((L.take k).take j) ((L.take k).drop j)
  rw [List.take_append_drop] at h
  by_cases hj : j ≤ (L.take k).length
  · rw [List.length_take, Nat.min_eq_left hj] at h
    rw [h, Nat.mul_comm]
    omega
  · rw [List.drop_eq_nil_of_le (by omega)]
    simp [val]

set_option maxRecDepth 100000 in
set_option maxHeartbeats 400000 in
theorem rsget_arg (s : ByteArray) (a c : Int) (h : c < 1 ∨ 10 < c) (w : World) :
    Calls Tryd.prog 38 #[.string s, .int .i64 a, .int .i64 c] w fun e w' => e = .returned (.tuple #[.int .u64 0, .int .i64 1, .int .i64 a]) ∧ w = w' := by
  rcases h with h | h
  · have hd : decide (c < 1) = true := by simp; omega
    go_enter Tryd.func38, Tryd.ntmps38
    go_wp2
    go_ret3
    exact ⟨rfl, rfl⟩
  · have hd : decide (c < 1) = false := by simp; omega
    have hd2 : decide (10 < c) = true := by simp; omega
    go_enter Tryd.func38, Tryd.ntmps38
    go_wp2
    go_ret3
    exact ⟨rfl, rfl⟩

set_option maxRecDepth 100000 in
set_option maxHeartbeats 2000000 in
theorem rsget_any (s : ByteArray) (at0 c : Nat) (hs : s.size ≤ 1000000) (ha : at0 ≤ s.size) (hc1 : 1 ≤ c) (hc2 : c ≤ 10) (w : World) :
    Calls Tryd.prog 38 #[.string s, .int .i64 at0, .int .i64 c] w fun e w' => e = .returned (.tuple #[.int .u64 (septGet (s.data.toList.drop at0) c).1, .int .i64 (septGet (s.data.toList.drop at0) c).2.1, .int .i64 ((at0 + (septGet (s.data.toList.drop at0) c).2.2 : Nat) : Int)]) ∧ w = w' := by
  have HD := Lib.hid (drop_get s at0)
  have hlen : (s.data.toList.drop at0).length = s.size - at0 := by simp
  obtain ⟨L, hL⟩ : ∃ L, L = s.data.toList.drop at0 := ⟨_, rfl⟩
  rw [← hL] at HD hlen ⊢
  clear hL
  have Hlen := Lib.hid hlen
  clear hlen
  go_enter Tryd.func38, Tryd.ntmps38
  go_wp2_with fail
  go_loop [9] (fun x => ∃ k : Nat, x = .int .i64 k ∧ k ≤ c ∧ at0 + k ≤ s.size ∧ septGet L c = septAt L c k) (fun x => ((c : Int) - intOf x).toNat)
  case atStart => exact ⟨0, rfl, by omega, by omega, rfl⟩
  case round =>
    obtain ⟨k, rfl, hk, hks, hE⟩ := hrel
    have HE := Lib.hid hE
    clear hE
    by_cases hkc : k < c
    · by_cases hlt : at0 + k < s.size
      · obtain ⟨hlt', hget⟩ := HD.out k hlt
        have hx : L[k].toNat < 256 := L[k].toNat_lt
        have Hgo := Lib.hid (fun hb => HE.out.trans (septAt_go (l := L) (k := k) hkc hlt' hb))
        have Hbad := Lib.hid (fun hb => HE.out.trans (septAt_bad (l := L) (k := k) hkc hlt' hb))
        have hci : s[at0 + k].toNat = L[k].toNat := by rw [hget]
        clear hget HE HD Hlen
        generalize L[k].toNat = x at *
        rcases sept_ways x k with ⟨hb, h1⟩ | ⟨hb, h1, h2, rfl⟩ | ⟨hb, h1⟩ | ⟨hb, h1, h2, h3⟩
        · have Hg := Lib.hid (Hbad.out hb)
          clear Hbad Hgo hb
          have hd0 : decide ((127 : Int) < (x : Int)) = true := by simp; omega
          go_wp2
          go_ret3
          rw [Hg.out]
          exact ⟨rfl, rfl⟩
        · have Hg := Lib.hid (Hbad.out hb)
          clear Hbad Hgo hb
          have hd0 : decide ((127 : Int) < (x : Int)) = false := by simp; omega
          have hd1 : decide ((1 : Int) < (x : Int)) = true := by simp; omega
          go_wp2
          go_ret3
          rw [Hg.out]
          exact ⟨rfl, rfl⟩
        · have Hg := Lib.hid (Hgo.out hb)
          clear Hbad Hgo hb
          have hd0 : decide ((127 : Int) < (x : Int)) = false := by simp; omega
          have hd1 : decide ((1 : Int) < (x : Int)) = false := by simp; omega
          by_cases h9 : k = 9
          · subst h9
            go_wp2
            go_round
            case rel => exact ⟨10, rfl, by omega, by omega, Hg.out⟩
            case measure => simp [intOf]; omega
          · have hd9 : ((k : Int) == 9) = false := by rw [beq_eq_false_iff_ne]; omega
            go_wp2
            go_round
            case rel => exact ⟨k + 1, by go_num, by omega, by omega, Hg.out⟩
            case measure => simp [intOf]; omega
        · have Hg := Lib.hid (Hgo.out hb)
          clear Hbad Hgo hb
          have hd0 : decide ((127 : Int) < (x : Int)) = false := by simp; omega
          have hd9 : ((k : Int) == 9) = false := by rw [beq_eq_false_iff_ne]; omega
          go_wp2
          go_round
          case rel => exact ⟨k + 1, by go_num, by omega, by omega, Hg.out⟩
          case measure => simp [intOf]; omega
      · have Hend := Lib.hid (HE.out.trans (septAt_end (l := L) (k := k) hkc (by rw [Hlen.out]; omega)))
        clear HE HD Hlen
        go_wp2
        go_ret3
        rw [Hend.out]
        exact ⟨rfl, rfl⟩
    · obtain rfl : k = c := by omega
      have Hg := Lib.hid (HE.out.trans septAt_done)
      have hok := septScan_ok k L 0 0 (by have := congrArg (fun p => p.2.1) Hg.out; simpa [septGet, septAt, val] using this)
      have hlow := hok.2.1
      have hdrop : ∀ i, i < k → ∃ h : at0 + i < s.size, val ((L.take k).drop i) = val ((L.take k).drop (i + 1)) * 128 + (s[at0 + i]).toNat := by
        intro i hi
        obtain ⟨q1, q2⟩ := HD.out i (by omega)
        refine ⟨by omega, ?_⟩
        have q3 := sval_drop_step L k i hi hok.1
        have q4 : L[i].toNat < 128 := hlow _ (by
          rw [List.mem_take_iff_getElem]
          exact ⟨i, by omega, rfl⟩)
        rw [← q2, q3, Nat.mod_eq_of_lt q4]
      have Hdrop := Lib.hid hdrop
      have Hpart := Lib.hid (fun i => sval_drop_lt L k i)
      have HV := Lib.hid ((congrArg Prod.fst Hg.out) ▸ septGet_lt L k hc2)
      clear hdrop HD Hlen hok hlow HE
      have hE0 : val ((L.take k).drop k) = 0 := by rw [List.drop_eq_nil_of_le (List.length_take_le _ _)]; rfl
      have HE0 := Lib.hid hE0
      clear hE0
      go_wp2_with fail
      go_loop [10, 11] (fun n x => ∃ i : Int, x = .int .i64 i ∧ -1 ≤ i ∧ i < k ∧ n = .int .u64 ((val ((L.take k).drop (i + 1).toNat) : Nat) : Int)) (fun _ x => (intOf x + 1).toNat)
      case atStart => exact ⟨(k : Int) - 1, rfl, by omega, by omega, by rw [show ((k : Int) - 1 + 1).toNat = k from by omega, HE0.out]; rfl⟩
      case round =>
        obtain ⟨i, rfl, hi1, hi2, rfl⟩ := hrel
        by_cases hi : 0 ≤ i
        · obtain ⟨i, rfl⟩ := Int.eq_ofNat_of_zero_le hi
          obtain ⟨q1, q2⟩ := Hdrop.out i (by omega)
          have q3 := Hpart.out i
          have q4 : 0 < 128 ^ i := Nat.pow_pos (by omega)
          have q5 := Nat.le_mul_of_pos_right (val ((L.take k).drop i)) q4
          have q6 := HV.out
          rw [show ((i : Int) + 1).toNat = i + 1 from by omega]
          have hbound : val ((L.take k).drop i) < 18446744073709551616 := by omega
          rw [q2] at hbound
          have Hq2 := Lib.hid q2
          generalize val ((L.take k).drop (i + 1)) = v at *
          clear q2 q3 q4 q5 q6
          go_wp2
          go_round
          case rel => exact ⟨(i : Int) - 1, rfl, by omega, by omega, by rw [show ((i : Int) - 1 + 1).toNat = i from by omega, Hq2.out]; go_num⟩
          case measure => simp [intOf]
        · obtain rfl : i = -1 := by omega
          go_wp2
          go_ret3
          rw [Hg.out]
          exact ⟨rfl, rfl⟩

/-- A number is got of a text that has just come. -/
theorem sget_new (w : World) (s : ByteArray) (hs : s.size ≤ maxLen) (k : Nat) (h1 : 1 ≤ k) (h2 : k ≤ 10) (n c m : Nat) (hg : septGet s.data.toList k = (n, c, m)) :
    Calls Tryd.prog 69 #[.pointer (some ⟨w.heap.size, 0, none⟩), .int .i64 k] (w.alloc (.cells #[.string s, .int .i64 0] 110)) fun e w' => e = .returned (.tuple #[.int .u64 n, .int .i64 c]) ∧ Below w.heap.size w w' := by
  refine (sget_any _ _ s 0 (rd_new w s hs) k h1 h2).mono ?_
  rintro e w' ⟨rfl, h1, g1⟩
  rw [List.drop_zero, hg]
  exact ⟨rfl, ((Below.refl _ _).alloc (Nat.le_refl _) _).grown g1 (by simp) (fun k hk => by simp at hk; omega)⟩


end Go.Proofs.YtobioiicbdhboaaDoor
