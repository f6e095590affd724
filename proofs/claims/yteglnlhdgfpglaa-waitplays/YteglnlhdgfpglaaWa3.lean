/-
  The document's Without and Best; whether one task overtakes another. Conditions: lengths.
-/
import Derived.Test.YteglnlhdgfpglaaWa2
namespace Go.Proofs.Yteglnlhdgfpglaa
open Go Go.RowKit
set_option linter.unusedVariables false
set_option linter.unusedSimpArgs false

theorem getD_at {α : Type} {l : List α} {i : Nat} {d : α} (h : i < l.length) : l.getD i d = l[i] := by simp [List.getD, List.getElem?_eq_getElem h]
theorem remW_le (l : List Nat) (t : Int) : (remW l t).length ≤ l.length := (remW_sub l t).length_le
theorem remW_next {l : List Nat} {j : Nat} (h : j < l.length) (t : Int) : remW (l.take (j + 1)) t = remW (l.take j) t ++ (if ((l[j] : Nat) : Int) = t then [] else [l[j]]) := by
  rw [List.take_add_one, List.getElem?_eq_getElem h, remW_app]
  congr 1
  simp only [Option.toList_some]
  by_cases e : ((l[j] : Nat) : Int) = t
  · rw [if_pos e, remW_cons_eq e]; rfl
  · rw [if_neg e, remW_cons_ne e]; rfl

set_option maxRecDepth 100000 in
set_option maxHeartbeats 4000000 in
theorem rwithout_any {w : World} (ao : Option Addr) (cap : Nat) (l : List Nat) (h : SeenN w ao cap l) (hl : l.length ≤ 1000000) (t : Int) :
    Calls Try.prog 12 #[.slice ao l.length cap, .int .i64 t] w fun e w' => ∃ bo bc, e = .returned (.slice bo (remW l t).length bc) ∧ OwnI w' w.heap.size (.slice bo (remW l t).length bc) (remW l t) ∧ Below w.heap.size w w' := by
  obtain ⟨D, hD⟩ : ∃ D, w.heap.size = D := ⟨_, rfl⟩
  obtain ⟨w1, e1⟩ : ∃ w1, w1 = w.alloc (.cells #[] 3) := ⟨_, rfl⟩
  obtain ⟨s1, n1, b1⟩ := new_size e1
  have O1 := Lib.hid (show OwnI w1 w.heap.size (.slice (some ⟨D, 0, none⟩) 0 0) [] by rw [e1]; exact ownI_lit0 w D hD.symm)
  have B1 := Lib.hid b1
  have HD := Lib.hid hD
  have H := Lib.hid h
  clear hD n1 b1 s1 h
  go_enter Try.func12, Try.ntmps12
  go_upto_region 2 with fail
  rw [← e1, HD.out]
  clear e1
  obtain ⟨M, hM⟩ : ∃ M, l.length = M := ⟨_, rfl⟩
  have HM := Lib.hid hM
  rw [hM] at hl
  simp only [hM]
  clear hM
  go_wp2_with fail
  go_loopw [5, 6] (fun v i wr => ∃ (j : Nat) (bo : Option Addr) (bc m : Nat), j ≤ M ∧ i = .int .i64 j ∧ v = .slice bo m bc ∧ m = (remW (l.take j) t).length ∧ OwnI wr w.heap.size (.slice bo m bc) (remW (l.take j) t) ∧ Below w.heap.size w wr) (fun _ i _ => M - (intOf i).toNat)
  case atStart => exact ⟨0, _, _, 0, Nat.zero_le _, rfl, rfl, rfl, O1.out, B1.out⟩
  case round =>
    clear O1 B1
    obtain ⟨j, bo, bc, m, hj, rfl, rfl, hm, hO, hB⟩ := hrel
    have HO := Lib.hid hO
    have HB := Lib.hid hB
    have Hm := Lib.hid hm
    clear hO hB
    by_cases hlt : j < M
    · have hlt' : j < l.length := by rw [HM.out]; exact hlt
      obtain ⟨b, off, rfl, hbw, c0⟩ := seenN_at (H.out.below HB.out) j hlt'
      have hnx := remW_next hlt' t
      have hm1 : m ≤ j := by
        have := remW_le (l.take j) t
        rw [List.length_take] at this
        omega
      generalize l[j] = x at *
      by_cases he : (x : Int) = t
      · rw [if_pos he, List.append_nil] at hnx
        have hne : ((x : Int) != t) = false := by simp [he]
        have HNX := Lib.hid hnx
        clear hnx hm he
        go_wp2_with fail
        go_roundw
        case rel => exact ⟨j + 1, _, _, m, hlt, by go_num, rfl, by rw [HNX.out]; exact Hm.out, by rw [HNX.out]; exact HO.out, HB.out⟩
        case measure => simp [intOf]; omega
      · rw [if_neg he] at hnx
        have hne : ((x : Int) != t) = true := by simp [he]
        have HNX := Lib.hid hnx
        have HB2 := Lib.hid (below_on HB.out (below_box (.cells #[.int .i64 (x : Int)] 3)))
        have hm2 : m ≤ 1000000 := by omega
        clear hnx hm he
        go_wp2_with (at_builtin; refine wpList_pushI rfl _ _ rfl w.heap.size _ rfl (remW (l.take j) t) ?h ?hB m Hm.out.symm _ 1 x rfl ?hc hm2 ?_)
        case h => exact HO.out.below (below_box _)
        case hB => have := HB2.out.size; exact this
        case hc => exact lit_int _ x _ (by simp)
        intro ao7 cap7 w7 hA
        have hB7 : Below w.heap.size w w7 := HB2.out.trans (hA.only.below HB2.out.size (fun k hk => (HO.out.lt k hk).1))
        have HB7 := Lib.hid hB7
        have HO7 := Lib.hid hA.row
        clear hA hB7
        go_wp2_with fail
        go_roundw
        case rel => exact ⟨j + 1, _, _, m + 1, hlt, by go_num, rfl, by rw [HNX.out, List.length_append, ← Hm.out]; rfl, by rw [HNX.out]; exact HO7.out, HB7.out⟩
        case measure => simp [intOf]; omega
    · obtain rfl : j = M := by omega
      have e : l.take j = l := List.take_of_length_le (by rw [HM.out]; exact Nat.le_refl _)
      rw [e] at HO Hm
      go_wp2_with fail
      go_ret
      exact ⟨bo, bc, by rw [← Hm.out]; rfl, by rw [← Hm.out]; exact HO.out, HB.out⟩


set_option maxRecDepth 100000 in
set_option maxHeartbeats 4000000 in
theorem over_any {w : World} {ao : Option Addr} {cap : Nat} {lv : List Int} (h : SeenL w ao cap lv) (s u : Nat) :
    Calls Try.prog 21 #[.slice ao lv.length cap, .int .i64 (s : Int), .int .i64 (u : Int)] w fun e w' => e = .returned (.bool (decide (ltW lv s u))) ∧ ∃ q, w' = w.drewN q := by
  by_cases h1 : s < lv.length
  · have g1 : decide ((lv.length : Int) ≤ (s : Int)) = false := by simp; omega
    by_cases h2 : u < lv.length
    · have g2 : decide ((lv.length : Int) ≤ (u : Int)) = false := by simp; omega
      obtain ⟨b, off, rfl, hbw, c0⟩ := seenL_at h s h1
      obtain ⟨b', off', e', -, c1⟩ := seenL_at h u h2
      cases e'
      have D := Lib.hid (show decide (ltW lv s u) = decide (lv[s] < lv[u]) by
        apply bool_eq
        simp only [decide_eq_true_eq, ltW, getD_at h1, getD_at h2]
        exact ⟨fun h => h.2.resolve_left (fun h3 => h3 h2), fun h => ⟨h1, .inr h⟩⟩)
      have i1 : (s : Int) < (lv.length : Int) := by omega
      have i2 : (u : Int) < (lv.length : Int) := by omega
      generalize lv[s] = x at *
      generalize lv[u] = y at *
      rw [D.out]
      generalize lv.length = M at *
      clear D h
      go_enter Try.func21, Try.ntmps21
      go_wp2_with fail
      go_quiet (fail)
      go_wp2_with fail
      go_ret
      exact ⟨rfl, nq, rfl⟩
    · have g2 : decide ((lv.length : Int) ≤ (u : Int)) = true := by simp; omega
      have D := Lib.hid (show decide (ltW lv s u) = true by simp [ltW, h1]; exact .inl (by omega))
      have i1 : (s : Int) < (lv.length : Int) := by omega
      rw [D.out]
      generalize lv.length = M at *
      clear D h
      go_enter Try.func21, Try.ntmps21
      go_wp2_with fail
      go_ret
      exact ⟨rfl, 0, rfl⟩
  · have g1 : decide ((lv.length : Int) ≤ (s : Int)) = true := by simp; omega
    have D := Lib.hid (show decide (ltW lv s u) = false by simp [ltW, h1])
    have i1 : ¬ (s : Int) < (lv.length : Int) := by omega
    rw [D.out]
    generalize lv.length = M at *
    clear D h
    go_enter Try.func21, Try.ntmps21
    go_wp2_with fail
    go_ret
    exact ⟨rfl, 0, rfl⟩

/-! ### Whose turn it is, by the document -/
theorem refB_next {lv : List Int} {l : List Nat} {j : Nat} (h : j < l.length) : refB lv (l.take (j + 1)) (-1) = (if l[j] < lv.length ∧ (refB lv (l.take j) (-1) < 0 ∨ lv.getD l[j] 0 < lv.getD (refB lv (l.take j) (-1)).toNat 0) then ((l[j] : Nat) : Int) else refB lv (l.take j) (-1)) := by
  rw [show l.take (j + 1) = l.take j ++ [l[j]] by rw [List.take_add_one, List.getElem?_eq_getElem h]; rfl, refB_snoc]
theorem refB_shape (lv : List Int) (l : List Nat) : refB lv l (-1) = -1 ∨ ∃ t : Nat, refB lv l (-1) = (t : Int) ∧ t < lv.length := by
  cases l with
  | nil => exact .inl rfl
  | cons x r =>
    rcases refB_all lv x r with ⟨h1, -⟩ | ⟨t, h1, h2, -⟩
    · exact .inl h1
    · exact .inr ⟨t, h1, h2⟩
set_option maxRecDepth 100000 in
set_option maxHeartbeats 4000000 in
theorem rbest_any {w : World} {ao bo : Option Addr} {cap bc : Nat} {l : List Nat} {lv : List Int} (h : SeenN w ao cap l) (g : SeenL w bo bc lv) (hl : l.length ≤ 1000000) :
    Calls Try.prog 14 #[.slice ao l.length cap, .slice bo lv.length bc] w fun e w' => e = .returned (.int .i64 (turnI lv l)) ∧ ∃ q, w' = w.drewN q := by
  rw [← refW_eq]
  have H := Lib.hid h
  have G := Lib.hid g
  have XW := Lib.hid (show refW lv l = (if refB lv l (-1) < 0 ∧ 0 < l.length then ((l.getD 0 0 : Nat) : Int) else refB lv l (-1)) from rfl)
  generalize refW lv l = z at *
  obtain ⟨M, hM⟩ : ∃ M, l.length = M := ⟨_, rfl⟩
  obtain ⟨K, hK⟩ : ∃ K, lv.length = K := ⟨_, rfl⟩
  rw [hM] at hl
  simp only [hM, hK]
  have HM := Lib.hid hM
  have HK := Lib.hid hK
  clear h g hM hK
  go_enter Try.func14, Try.ntmps14
  go_wp2_with fail
  go_loopw [5, 6] (fun c i wr => ∃ (j q : Nat) (b : Int), j ≤ M ∧ i = .int .i64 j ∧ c = .int .i64 b ∧ refB lv (l.take j) (-1) = b ∧ wr = w.drewN q) (fun _ i _ => M - (intOf i).toNat)
  case atStart => exact ⟨0, 0, _, Nat.zero_le _, rfl, rfl, rfl, rfl⟩
  case round =>
    obtain ⟨j, q, b, hj, rfl, rfl, hb, hw⟩ := hrel
    have HW := Lib.hid hw
    have HH := Lib.hid (show SeenN wr ao cap l from by rw [hw]; exact H.out.drewN q)
    have GG := Lib.hid (show SeenL wr bo bc lv from by rw [hw]; exact G.out.drewN q)
    clear hw
    have HB := Lib.hid hb
    have SH := refB_shape lv (l.take j)
    rw [hb] at SH
    clear hb
    by_cases hlt : j < M
    · have hlt' : j < l.length := by rw [HM.out]; exact hlt
      have hj2 : (j : Int) < (M : Int) := by omega
      obtain ⟨b0, o0, rfl, hbw, c0⟩ := seenN_at HH.out j hlt'
      have NX := refB_next (lv := lv) hlt'
      rw [HB.out] at NX
      generalize l[j] = x at *
      by_cases hx : x < K
      · have hx' : x < lv.length := by rw [HK.out]; exact hx
        have gx : decide ((x : Int) < (K : Int)) = true := by simp; omega
        have ix : (x : Int) < (K : Int) := by omega
        rcases SH with rfl | ⟨t, rfl, ht⟩
        · rw [if_pos ⟨hx', .inl (by decide)⟩] at NX
          have HN := Lib.hid NX
          clear NX
          go_wp2_with fail
          go_quiet (fail)
          go_wp2_with fail
          go_roundw
          case rel => exact ⟨j + 1, q + nq, _, hlt, by go_num, rfl, HN.out, by rw [HW.out]; exact drewN_on w q nq⟩
          case measure => simp [intOf]; omega
        · have ht2 : t < K := by rw [← HK.out]; exact ht
          have gt : decide ((t : Int) < 0) = false := by simp
          have it : (t : Int) < (K : Int) := by omega
          obtain ⟨b1, o1, rfl, hb1, c1⟩ := seenL_at GG.out x hx'
          obtain ⟨b2, o2, e2, hb2, c2⟩ := seenL_at GG.out t ht
          cases e2
          rw [getD_at hx', show ((t : Int)).toNat = t from rfl, getD_at ht] at NX
          generalize lv[x] = a at *
          generalize lv[t] = c at *
          by_cases hc : a < c
          · rw [if_pos ⟨hx', .inr hc⟩] at NX
            have HN := Lib.hid NX
            clear NX
            have gc : decide (a < c) = true := by simp; omega
            go_wp2_with fail
            go_quiet (fail)
            go_wp2_with fail
            go_roundw
            case rel => exact ⟨j + 1, q + nq, _, hlt, by go_num, rfl, HN.out, by rw [HW.out]; exact drewN_on w q nq⟩
            case measure => simp [intOf]; omega
          · rw [if_neg (fun h => h.2.elim (fun h => by omega) hc)] at NX
            have HN := Lib.hid NX
            clear NX
            have gc : decide (a < c) = false := by simp; omega
            go_wp2_with fail
            go_quiet (fail)
            go_wp2_with fail
            go_roundw
            case rel => exact ⟨j + 1, q + nq, _, hlt, by go_num, rfl, HN.out, by rw [HW.out]; exact drewN_on w q nq⟩
            case measure => simp [intOf]; omega
      · have hx' : ¬ x < lv.length := by rw [HK.out]; exact hx
        have gx : decide ((x : Int) < (K : Int)) = false := by simp; omega
        have ix : ¬ (x : Int) < (K : Int) := by omega
        rw [if_neg (fun h => hx' h.1)] at NX
        have HN := Lib.hid NX
        clear NX SH
        go_wp2_with fail
        go_quiet (fail)
        go_wp2_with fail
        go_roundw
        case rel => exact ⟨j + 1, q + nq, _, hlt, by go_num, rfl, HN.out, by rw [HW.out]; exact drewN_on w q nq⟩
        case measure => simp [intOf]; omega
    · obtain rfl : j = M := by omega
      have e : l.take j = l := List.take_of_length_le (by rw [HM.out]; exact Nat.le_refl _)
      rw [e] at HB
      have XW := XW.out
      rw [HB.out, HM.out] at XW
      rcases SH with rfl | ⟨t, rfl, ht⟩
      · by_cases h0 : 0 < j
        · have h0' : 0 < l.length := by rw [HM.out]; exact h0
          rw [if_pos ⟨by decide, h0⟩, getD_at h0'] at XW
          obtain ⟨b0, o0, rfl, hbw, c0⟩ := seenN_at HH.out 0 h0'
          rw [Nat.add_zero] at c0
          generalize l[0] = x at *
          obtain rfl := XW
          have hj2 : (0 : Int) < (j : Int) := by omega
          go_wp2_with fail
          go_ret
          exact ⟨rfl, q, HW.out⟩
        · rw [if_neg (fun h => h0 h.2)] at XW
          obtain rfl := XW
          obtain rfl : j = 0 := by omega
          go_wp2_with fail
          go_ret
          exact ⟨rfl, q, HW.out⟩
      · have gt : decide ((t : Int) < 0) = false := by simp
        rw [if_neg (fun h => by omega)] at XW
        obtain rfl := XW
        go_wp2_with fail
        go_ret
        exact ⟨rfl, q, HW.out⟩

end Go.Proofs.Yteglnlhdgfpglaa
