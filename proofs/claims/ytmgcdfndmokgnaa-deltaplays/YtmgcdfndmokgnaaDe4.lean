/-
  The code's clocks: behind, Left, From, Dues. Conditions: the clocks' numbers and sums are in bounds.
-/
import Derived.Test.YtmgcdfndmokgnaaDe3
namespace Go.Proofs.Ytmgcdfndmokgnaa
open Go Go.RowKit
set_option linter.unusedVariables false
set_option linter.unusedSimpArgs false

set_option maxRecDepth 100000 in
set_option maxHeartbeats 4000000 in
theorem behind_any {w : World} {m B : Nat} {v : Value} {L : List Ck} (h : KV w m B v L) (t : Nat) (ht : t < 4294967296) :
    Calls Try.prog 24 #[.pointer (some ⟨m, 0, none⟩), .int .i64 (t : Int)] w fun e w' => e = .returned (.tuple #[.int .i64 ((behC L t).1 : Int), .int .i64 ((behC L t).2 : Int)]) ∧ w = w' := by
  obtain ⟨ao, cap, rfl, hs⟩ := h.shape
  have HS := Lib.hid hs
  have HG := Lib.hid h.gap
  have hL := h.len
  have cm := h.cell
  obtain ⟨p, hp⟩ : ∃ p, behC L t = p := ⟨_, rfl⟩
  rw [hp]
  have HP := Lib.hid hp
  clear hp h hs
  obtain ⟨pa, pg⟩ := p
  obtain ⟨M, hM⟩ : ∃ M, L.length = M := ⟨_, rfl⟩
  rw [hM] at hL cm
  have HM := Lib.hid hM
  clear hM
  go_enter Try.func24, Try.ntmps24
  go_wp2_with fail
  go_loopw [1, 4] (fun tk at_ wr => ∃ j r : Nat, j ≤ M ∧ at_ = .int .i64 j ∧ tk = .int .i64 r ∧ r < 4294967296 ∧ wr = w ∧ Hid ((pa, pg) = (j + (behC (L.drop j) r).1, (behC (L.drop j) r).2))) (fun _ at_ _ => M - (intOf at_).toNat)
  case atStart => exact ⟨0, t, Nat.zero_le _, rfl, rfl, ht, rfl, Lib.hid (by rw [List.drop_zero, Nat.zero_add, HP.out])⟩
  case round =>
    obtain ⟨j, r, hj, rfl, rfl, hr, hw, hb⟩ := hrel
    obtain rfl := hw.symm
    by_cases hlt : j < M
    · have hlt' : j < L.length := by rw [HM.out]; exact hlt
      obtain ⟨b, off, rfl, hbw, c0, c1⟩ := seenK_at HS.out j hlt'
      have hg := HG.out _ (List.getElem_mem hlt')
      have e1 : L.drop j = L[j] :: L.drop (j + 1) := List.drop_eq_getElem_cons hlt'
      by_cases hc : (L[j]).2 ≤ r
      · have e2 : behC (L.drop j) r = ((behC (L.drop (j + 1)) (r - (L[j]).2)).1 + 1, (behC (L.drop (j + 1)) (r - (L[j]).2)).2) := by rw [e1, behC, if_pos hc]
        have X := Lib.hid (show (pa, pg) = (j + 1 + (behC (L.drop (j + 1)) (r - (L[j]).2)).1, (behC (L.drop (j + 1)) (r - (L[j]).2)).2) by
          rw [hb.out, e2]
          simp only [Prod.mk.injEq, and_true]
          omega)
        generalize (L[j]).2 = cg at *
        clear e1 e2 hb c0
        have D : (cg : Int) ≤ (r : Int) := by omega
        have D2 : (j : Int) < (M : Int) := by omega
        go_wp2_with fail
        go_roundw
        case rel => exact ⟨j + 1, r - cg, hlt, by go_num, by go_num, by omega, trivial, X⟩
        case measure => simp [intOf]; omega
      · have e2 : behC (L.drop j) r = (0, r) := by rw [e1, behC, if_neg hc]
        have X := hb.out
        rw [e2] at X
        simp only [Prod.mk.injEq, Nat.add_zero] at X
        obtain ⟨rfl, rfl⟩ := X
        generalize (L[pa]).2 = cg at *
        clear e1 e2 hb c0 HP
        have D : ¬ ((cg : Int) ≤ (pg : Int)) := by omega
        have D2 : (pa : Int) < (M : Int) := by omega
        go_wp2_with fail
        go_ret2
        exact ⟨rfl, rfl⟩
    · obtain rfl : j = M := by omega
      have X := hb.out
      rw [show L.drop j = [] from List.drop_of_length_le (by rw [HM.out]; exact Nat.le_refl _)] at X
      simp only [behC, Prod.mk.injEq, Nat.add_zero] at X
      obtain ⟨rfl, rfl⟩ := X
      clear hb HP
      go_wp2_with fail
      go_ret2
      exact ⟨rfl, rfl⟩

theorem okL_nil : OkL [] := ⟨by simp, by simp [ung], by simp⟩
set_option maxRecDepth 100000 in
set_option maxHeartbeats 4000000 in
theorem left_core {w : World} {q : Option Addr} {ao : Option Addr} {cap : Nat} {L : List Ck} (hK : Calls Try.prog 27 #[.pointer q] w fun e w' => e = .returned (.slice ao L.length cap) ∧ w = w') (hs : SeenK w ao cap L) (hL : L.length ≤ 256) (hS : OkL L) (id : Int) :
    Calls Try.prog 19 #[.pointer q, .int .i64 id] w fun e w' => e = .returned (.int .i64 (leftS (ung 0 L) id : Int)) ∧ Below w.heap.size w w' := by
  have K1 := Lib.hid hK
  have HS := Lib.hid hs
  have HO := Lib.hid hS
  have X1 := Lib.hid (fun j (hj : j < L.length) => left_at (L := L) (id := id) hj)
  have X2 := Lib.hid (left_nowhere (L := L) (id := id))
  generalize leftS (ung 0 L) id = z at *
  clear hK hs hS
  obtain ⟨M, hM⟩ : ∃ M, L.length = M := ⟨_, rfl⟩
  rw [hM] at hL K1
  have HM := Lib.hid hM
  clear hM
  go_enter Try.func19, Try.ntmps19
  go_wp2_with fail
  refine K1.out.mono ?_
  rintro e w1 ⟨rfl, rfl⟩
  go_wp2_with fail
  go_loopw [5, 11] (fun lf i wr => ∃ j : Nat, j ≤ M ∧ i = .int .i64 j ∧ lf = .int .i64 (sumG (L.take j) : Int) ∧ Hid (∀ k (hk : k < L.length), k < j → ((L[k]).1 : Int) ≠ id) ∧ Below w.heap.size w wr) (fun _ i _ => M - (intOf i).toNat)
  case atStart => exact ⟨0, Nat.zero_le _, rfl, rfl, Lib.hid (fun k _ hk => absurd hk (by omega)), Below.refl _ _⟩
  case round =>
    clear K1
    obtain ⟨j, hj, rfl, rfl, hno, hB⟩ := hrel
    have HB := Lib.hid hB
    clear hB
    by_cases hlt : j < M
    · have hlt' : j < L.length := by rw [HM.out]; exact hlt
      obtain ⟨b, off, rfl, hbw, c0, c1⟩ := seenK_at (SeenR.below HS.out HB.out) j hlt'
      have hsum := HO.out.sum hlt'
      have X3 := Lib.hid (X1.out j hlt' hno.out)
      have X4 := Lib.hid (fun (h : ((L[j]).1 : Int) ≠ id) => (show ∀ k (hk : k < L.length), k < j + 1 → ((L[k]).1 : Int) ≠ id from fun k hk hkj => by
        rcases Nat.lt_or_ge k j with h' | h'
        · exact hno.out k hk h'
        · obtain rfl : k = j := by omega
          exact h))
      have X5 := sumG_next hlt'
      generalize (L[j]).1 = ci at *
      generalize (L[j]).2 = cg at *
      generalize sumG (L.take j) = sj at *
      obtain ⟨sn, hsn⟩ : ∃ sn, sumG (L.take (j + 1)) = sn := ⟨_, rfl⟩
      rw [hsn] at X3 X5 hsum
      obtain ⟨w2, e2⟩ : ∃ w2, w2 = wr.alloc (.cells #[.int .i64 (ci : Int), .int .i64 (cg : Int)] 53) := ⟨_, rfl⟩
      obtain ⟨s2, n2, b2⟩ := new_size e2
      obtain ⟨N, hN⟩ : ∃ N, wr.heap.size = N := ⟨_, rfl⟩
      rw [hN] at n2
      have d0 : w2.cell? ⟨N, 0, none⟩ = some (.int .i64 (ci : Int)) := by rw [cell_of_row _ _ 0 _ _ (0, 0) n2]; rfl
      have d1 : w2.cell? ⟨N, 1, none⟩ = some (.int .i64 (cg : Int)) := by rw [cell_of_row _ _ 1 _ _ (0, 0) n2]; rfl
      have HN := Lib.hid hN
      have B2 := Lib.hid (below_on HB.out b2)
      have e5 : IntKind.i64.wrap ((sj : Int) + (cg : Int)) = (sn : Int) := by rw [IntKind.wrap_i64]; omega
      have HSN := Lib.hid hsn
      have g1 : (sj : Int) + (cg : Int) ≤ 4294967296 := by omega
      have X6 := Lib.hid X5
      clear s2 n2 b2 hN hsn X5 hsum
      by_cases he : (ci : Int) = id
      · have D : ((ci : Int) == id) = true := by simpa using he
        obtain rfl := X3.out he
        clear he X1 X2 X4 hno
        go_upto_region 5 with fail
        rw [← e2, HN.out]
        clear e2 c0 c1
        go_wp2_with fail
        go_ret
        exact ⟨by rw [X6.out]; rfl, B2.out⟩
      · have D : ((ci : Int) == id) = false := by simpa using he
        have HNo := Lib.hid (X4.out he)
        clear he X1 X2 X3 X4 hno
        go_upto_region 5 with fail
        rw [← e2, HN.out]
        clear e2 c0 c1
        go_wp2_with fail
        go_roundw
        case rel => exact ⟨j + 1, hlt, by go_num, by first | (rw [HSN.out]; done) | (rw [HSN.out, X6.out]; done) | (rw [HSN.out, X6.out]; rfl), HNo, B2.out⟩
        case measure => simp [intOf]; omega
    · obtain rfl : j = M := by omega
      obtain rfl := X2.out (fun k hk => hno.out k hk (by have := HM.out; omega))
      clear X1 X2
      go_wp2_with fail
      go_ret
      exact ⟨rfl, HB.out⟩

theorem left_any {w : World} {m B : Nat} {v : Value} {L : List Ck} (h : KV w m B v L) (hS : OkL L) (id : Int) :
    Calls Try.prog 19 #[.pointer (some ⟨m, 0, none⟩), .int .i64 id] w fun e w' => e = .returned (.int .i64 (leftS (ung 0 L) id : Int)) ∧ Below w.heap.size w w' := by
  have K := running_any h
  obtain ⟨ao, cap, rfl, hs⟩ := h.shape
  exact left_core K hs h.len hS id
theorem left_nil (w : World) (id : Int) : Calls Try.prog 19 #[.pointer none, .int .i64 id] w fun e w' => e = .returned (.int .i64 0) ∧ Below w.heap.size w w' := left_core (L := []) (running_nil w) seenR_nil (by simp) okL_nil id

set_option maxRecDepth 100000 in
set_option maxHeartbeats 4000000 in
theorem from_core {w : World} {q : Option Addr} {ao : Option Addr} {cap : Nat} {L : List Ck} (hK : Calls Try.prog 27 #[.pointer q] w fun e w' => e = .returned (.slice ao L.length cap) ∧ w = w') (hs : SeenK w ao cap L) (hL : L.length ≤ 256) (id : Int) :
    Calls Try.prog 21 #[.pointer q, .int .i64 id] w fun e w' => e = .returned (.int .i64 (fromS L id : Int)) ∧ Below w.heap.size w w' := by
  have K1 := Lib.hid hK
  have HS := Lib.hid hs
  clear hK hs
  obtain ⟨z, hz⟩ : ∃ z, fromS L id = z := ⟨_, rfl⟩
  rw [hz]
  have HZ := Lib.hid hz
  clear hz
  obtain ⟨M, hM⟩ : ∃ M, L.length = M := ⟨_, rfl⟩
  rw [hM] at hL K1
  have HM := Lib.hid hM
  clear hM
  go_enter Try.func21, Try.ntmps21
  go_wp2_with fail
  refine K1.out.mono ?_
  rintro e w1 ⟨rfl, rfl⟩
  go_wp2_with fail
  go_loopw [5, 11] (fun c i wr => ∃ j s : Nat, j ≤ M ∧ i = .int .i64 j ∧ c = .int .i64 s ∧ s ≤ j ∧ Hid (fromS (L.take j) id = s) ∧ Below w.heap.size w wr) (fun _ i _ => M - (intOf i).toNat)
  case atStart => exact ⟨0, 0, Nat.zero_le _, rfl, rfl, Nat.le_refl _, Lib.hid rfl, Below.refl _ _⟩
  case round =>
    clear K1
    obtain ⟨j, s, hj, rfl, rfl, hs, hf, hB⟩ := hrel
    have HB := Lib.hid hB
    clear hB
    by_cases hlt : j < M
    · have hlt' : j < L.length := by rw [HM.out]; exact hlt
      obtain ⟨b, off, rfl, hbw, c0, c1⟩ := seenK_at (SeenR.below HS.out HB.out) j hlt'
      have X5 := fromS_next hlt' id
      rw [hf.out] at X5
      generalize (L[j]).1 = ci at *
      generalize (L[j]).2 = cg at *
      obtain ⟨w2, e2⟩ : ∃ w2, w2 = wr.alloc (.cells #[.int .i64 (ci : Int), .int .i64 (cg : Int)] 53) := ⟨_, rfl⟩
      obtain ⟨s2, n2, b2⟩ := new_size e2
      obtain ⟨N, hN⟩ : ∃ N, wr.heap.size = N := ⟨_, rfl⟩
      rw [hN] at n2
      have d0 : w2.cell? ⟨N, 0, none⟩ = some (.int .i64 (ci : Int)) := by rw [cell_of_row _ _ 0 _ _ (0, 0) n2]; rfl
      have HN := Lib.hid hN
      have B2 := Lib.hid (below_on HB.out b2)
      clear s2 n2 b2 hN hf
      by_cases he : id ≤ (ci : Int)
      · rw [if_pos he] at X5
        have X6 := Lib.hid X5
        clear X5
        go_upto_region 5 with fail
        rw [← e2, HN.out]
        clear e2 c0 c1
        go_wp2_with fail
        go_roundw
        case rel => exact ⟨j + 1, s + 1, hlt, by go_num, by go_num, by omega, Lib.hid X6.out, B2.out⟩
        case measure => simp [intOf]; omega
      · rw [if_neg he] at X5
        have X6 := Lib.hid X5
        clear X5
        go_upto_region 5 with fail
        rw [← e2, HN.out]
        clear e2 c0 c1
        go_wp2_with fail
        go_roundw
        case rel => exact ⟨j + 1, s, hlt, by go_num, rfl, by omega, Lib.hid X6.out, B2.out⟩
        case measure => simp [intOf]; omega
    · obtain rfl : j = M := by omega
      have X := hf.out
      rw [List.take_of_length_le (by rw [HM.out]; exact Nat.le_refl _), HZ.out] at X
      obtain rfl := X
      clear hf
      go_wp2_with fail
      go_ret
      exact ⟨rfl, HB.out⟩
theorem from_any {w : World} {m B : Nat} {v : Value} {L : List Ck} (h : KV w m B v L) (id : Int) :
    Calls Try.prog 21 #[.pointer (some ⟨m, 0, none⟩), .int .i64 id] w fun e w' => e = .returned (.int .i64 (fromS L id : Int)) ∧ Below w.heap.size w w' := by
  have K := running_any h
  obtain ⟨ao, cap, rfl, hs⟩ := h.shape
  exact from_core K hs h.len id
theorem from_nil (w : World) (id : Int) : Calls Try.prog 21 #[.pointer none, .int .i64 id] w fun e w' => e = .returned (.int .i64 0) ∧ Below w.heap.size w w' := from_core (L := []) (running_nil w) seenR_nil (by simp) id

set_option maxRecDepth 100000 in
set_option maxHeartbeats 4000000 in
theorem dues_core {w : World} {q : Option Addr} {ao : Option Addr} {cap : Nat} {L : List Ck} (hK : Calls Try.prog 27 #[.pointer q] w fun e w' => e = .returned (.slice ao L.length cap) ∧ w = w') (hs : SeenK w ao cap L) (hL : L.length ≤ 256) (hS : OkL L) :
    Calls Try.prog 17 #[.pointer q] w fun e w' => ∃ bo bc, e = .returned (.slice bo L.length bc) ∧ OwnD w' w.heap.size (.slice bo L.length bc) (ung 0 L) ∧ Below w.heap.size w w' := by
  have K1 := Lib.hid hK
  have HS := Lib.hid hs
  have HO := Lib.hid hS
  clear hK hs hS
  obtain ⟨M, hM⟩ : ∃ M, L.length = M := ⟨_, rfl⟩
  rw [hM] at hL K1
  simp only [hM]
  have HM := Lib.hid hM
  clear hM
  go_enter Try.func17, Try.ntmps17
  go_wp2_with fail
  refine K1.out.mono ?_
  rintro e w1 ⟨rfl, rfl⟩
  go_wp2_with fail
  go_loopw [3, 4, 10] (fun d lf i wr => ∃ (j : Nat) (bo : Option Addr) (bc : Nat), j ≤ M ∧ i = .int .i64 j ∧ lf = .int .i64 (sumG (L.take j) : Int) ∧ d = .slice bo j bc ∧ OwnD wr w.heap.size (.slice bo j bc) (ung 0 (L.take j)) ∧ Below w.heap.size w wr) (fun _ _ i _ => M - (intOf i).toNat)
  case atStart => exact ⟨0, none, 0, Nat.zero_le _, rfl, rfl, rfl, ownR_nil, Below.refl _ _⟩
  case round =>
    clear K1
    obtain ⟨j, bo, bc, hj, rfl, rfl, rfl, hD, hB⟩ := hrel
    have HB := Lib.hid hB
    have HD := Lib.hid hD
    clear hB hD
    by_cases hlt : j < M
    · have hlt' : j < L.length := by rw [HM.out]; exact hlt
      obtain ⟨b, off, rfl, hbw, c0, c1⟩ := seenK_at (SeenR.below HS.out HB.out) j hlt'
      have hsum := HO.out.sum hlt'
      have X5 := sumG_next hlt'
      have X7 := ung_next hlt'
      generalize (L[j]).1 = ci at *
      generalize (L[j]).2 = cg at *
      generalize sumG (L.take j) = sj at *
      obtain ⟨sn, hsn⟩ : ∃ sn, sumG (L.take (j + 1)) = sn := ⟨_, rfl⟩
      rw [hsn] at X5 X7 hsum
      obtain ⟨w2, e2⟩ : ∃ w2, w2 = wr.alloc (.cells #[.int .i64 (ci : Int), .int .i64 (cg : Int)] 53) := ⟨_, rfl⟩
      obtain ⟨s2, n2, b2⟩ := new_size e2
      obtain ⟨N, hN⟩ : ∃ N, wr.heap.size = N := ⟨_, rfl⟩
      rw [hN] at n2
      have d0 : w2.cell? ⟨N, 0, none⟩ = some (.int .i64 (ci : Int)) := by rw [cell_of_row _ _ 0 _ _ (0, 0) n2]; rfl
      have d1 : w2.cell? ⟨N, 1, none⟩ = some (.int .i64 (cg : Int)) := by rw [cell_of_row _ _ 1 _ _ (0, 0) n2]; rfl
      have HN := Lib.hid hN
      have hD2 := HD.out.below b2
      have hB2 := below_on HB.out b2
      have e5 : IntKind.i64.wrap ((sj : Int) + (cg : Int)) = (sn : Int) := by rw [IntKind.wrap_i64]; omega
      have e6 : (sj : Int) + (cg : Int) = (sn : Int) := by omega
      have hlen : (ung 0 (L.take j)).length = j := by rw [ung_len, List.length_take]; omega
      have D2 := Lib.hid hD2
      have B2 := Lib.hid hB2
      have HL := Lib.hid hlen
      have HSN := Lib.hid hsn
      have X6 := Lib.hid X5
      have HX7 := Lib.hid X7
      have hj2 : j ≤ 1000000 := by omega
      have B3 := Lib.hid (below_on hB2 (below_box (.cells #[.int .i64 (ci : Int), .int .i64 (sn : Int)] 48)))
      clear s2 n2 b2 hN hsn X5 X7 hsum hD2 hB2 hlen e6
      go_upto_region 6 with fail
      rw [← e2, HN.out]
      clear e2 c0 c1
      go_wp2_with (at_builtin; refine wpList_pushD rfl _ _ rfl w.heap.size _ rfl (ung 0 (L.take j)) ?h ?hB j HL.out _ 1 (ci, sn) rfl ?hc hj2 ?_)
      case h => exact D2.out.below (below_box _)
      case hB => exact B3.out.size
      case hc => exact lit_due _ ci sn _ (by simp)
      intro a4 k4 w4 hA
      have B4 := Lib.hid (B3.out.trans (hA.only.below B3.out.size (fun k hk => (D2.out.lt k hk).1)))
      have D4 := Lib.hid (show OwnD w4 w.heap.size (.slice a4 (j + 1) k4) (ung 0 (L.take (j + 1))) by rw [HX7.out]; exact hA.row)
      clear hA
      go_wp2_with fail
      go_roundw
      case rel => exact ⟨j + 1, a4, k4, hlt, by go_num, by rw [HSN.out], rfl, D4.out, B4.out⟩
      case measure => simp [intOf]; omega
    · obtain rfl : j = M := by omega
      have e : L.take j = L := List.take_of_length_le (by rw [HM.out]; exact Nat.le_refl _)
      rw [e] at HD
      go_wp2_with fail
      go_ret
      exact ⟨bo, bc, rfl, HD.out, HB.out⟩
theorem dues_any {w : World} {m B : Nat} {v : Value} {L : List Ck} (h : KV w m B v L) (hS : OkL L) :
    Calls Try.prog 17 #[.pointer (some ⟨m, 0, none⟩)] w fun e w' => ∃ bo bc, e = .returned (.slice bo L.length bc) ∧ OwnD w' w.heap.size (.slice bo L.length bc) (ung 0 L) ∧ Below w.heap.size w w' := by
  have K := running_any h
  obtain ⟨ao, cap, rfl, hs⟩ := h.shape
  exact dues_core K hs h.len hS

theorem dues_nil (w : World) : Calls Try.prog 17 #[.pointer none] w fun e w' => ∃ bo bc, e = .returned (.slice bo 0 bc) ∧ OwnD w' w.heap.size (.slice bo 0 bc) [] ∧ Below w.heap.size w w' := dues_core (L := []) (running_nil w) seenR_nil (by simp) okL_nil

end Go.Proofs.Ytmgcdfndmokgnaa
