/-
  The code's clocks in memory (a block that holds the slice, and a row of clocks of one's own), and the calls that only look: running, place, behind, Left, From, Dues. Conditions: the clocks' numbers and sums are in bounds.
-/
import Derived.Test.YtmgcdfndmokgnaaDe0
import Derived.Test.YtmgcdfndmokgnaaDe2
import Derived.BigQuiet
import Derived.Deep.DeepCutAuto
namespace Go.Proofs.Ytmgcdfndmokgnaa
open Go Go.RowKit
set_option linter.unusedVariables false
set_option linter.unusedSimpArgs false

/-! ### Sums of gaps -/
def sumG (l : List Ck) : Nat := (l.map (·.2)).sum
theorem sumG_next {l : List Ck} {j : Nat} (h : j < l.length) : sumG (l.take (j + 1)) = sumG (l.take j) + (l[j]).2 := by
  unfold sumG
  rw [List.take_add_one, List.getElem?_eq_getElem h, List.map_append, List.sum_append]
  simp only [Option.toList_some, List.map_cons, List.map_nil, List.sum_cons, List.sum_nil, Nat.add_zero]
theorem ung_get : ∀ (a : Nat) (l : List Ck) (j : Nat) (h : j < l.length) (h' : j < (ung a l).length), (ung a l)[j] = ((l[j]).1, a + sumG (l.take (j + 1)))
  | _, [], j, h, _ => by simp at h
  | a, c :: r, 0, h, _ => by simp [ung, sumG]
  | a, c :: r, j + 1, h, h' => by
    have := ung_get (a + c.2) r j (by simpa using h) (by simpa [ung] using h')
    simp only [ung_cons, List.getElem_cons_succ]
    rw [this]
    simp [sumG, Nat.add_assoc]
theorem OkL.sum {L : List Ck} (h : OkL L) {j : Nat} (hj : j < L.length) : sumG (L.take (j + 1)) < 4294967296 := by
  have hl : j < (ung 0 L).length := by rw [ung_len]; exact hj
  have := h.top _ (List.getElem_mem hl)
  rw [ung_get 0 L j hj hl, Nat.zero_add] at this
  exact this
theorem left_at {L : List Ck} {id : Int} {j : Nat} (hj : j < L.length) (h1 : ∀ k (hk : k < L.length), k < j → ((L[k]).1 : Int) ≠ id) (h2 : ((L[j]).1 : Int) = id) : leftS (ung 0 L) id = sumG (L.take (j + 1)) := by
  have hl : j < (ung 0 L).length := by rw [ung_len]; exact hj
  rw [leftS_at, atC_ung, atC_of hj h1 h2, List.getElem?_eq_getElem hl, ung_get 0 L j hj hl]
  simp
theorem left_nowhere {L : List Ck} {id : Int} (h : ∀ k (hk : k < L.length), ((L[k]).1 : Int) ≠ id) : leftS (ung 0 L) id = 0 := by
  rw [leftS_at, atC_ung, atC_none h, List.getElem?_eq_none (by rw [ung_len]; exact Nat.le_refl _)]
  rfl
theorem ung_next {L : List Ck} {j : Nat} (h : j < L.length) : ung 0 (L.take (j + 1)) = ung 0 (L.take j) ++ [((L[j]).1, sumG (L.take (j + 1)))] := by
  have e : L.take (j + 1) = L.take j ++ [L[j]] := by rw [List.take_add_one, List.getElem?_eq_getElem h]; rfl
  rw [sumG_next h]
  conv => lhs; rw [e]
  rw [ung_app]
  simp [ung, sumG]
theorem fromS_next {L : List Ck} {j : Nat} (h : j < L.length) (id : Int) : fromS (L.take (j + 1)) id = fromS (L.take j) id + (if id ≤ ((L[j]).1 : Int) then 1 else 0) := by
  unfold fromS
  rw [List.take_add_one, List.getElem?_eq_getElem h, List.filter_append, List.length_append]
  congr 1
  simp only [Option.toList_some, List.filter_cons, List.filter_nil, decide_eq_true_eq]
  split <;> rfl
/-- Where one stands, as the code says it. -/
def placeI (L : List Ck) (id : Int) : Int := if atC L id < L.length then (atC L id : Int) else -1

/-! ### The list in memory -/
structure KV (w : World) (m B : Nat) (v : Value) (L : List Ck) : Prop where
  blk : w.heap[m]? = some (.cells #[v] 26 (0, 0))
  row : OwnK w B v L
  len : L.length ≤ 256
  ok : ∀ c ∈ L, c.1 < 256
  gap : ∀ c ∈ L, c.2 < 4294967296
section
variable {w w' : World} {m B : Nat} {v : Value} {L : List Ck}
theorem KV.lt (h : KV w m B v L) : m < w.heap.size := blk_lt h.blk
theorem KV.nm (h : KV w m B v L) : v.ownBlock ≠ some m := by
  intro e
  obtain ⟨cs, h1⟩ := h.row.kind e
  rw [h.blk] at h1
  injection h1 with h1
  injection h1 with h1 h2 h3
  exact absurd h2 (by decide)
theorem KV.cell (h : KV w m B v L) : w.cell? ⟨m, 0, none⟩ = some v := by simp [World.cell?, h.blk]
theorem KV.thawed (h : KV w m B v L) : w.frozen? ⟨m, 0, none⟩ = false := by simp [World.frozen?, h.blk]
theorem KV.only {S : Nat → Prop} (h : KV w m B v L) (ho : Only w w' S) (hm : ¬ S m) (hv : ∀ k, v.ownBlock = some k → ¬ S k) : KV w' m B v L :=
  ⟨(ho.block m h.lt hm).trans h.blk, h.row.only ho hv, h.len, h.ok, h.gap⟩
theorem KV.below (h : KV w m B v L) (hb : Below w.heap.size w w') : KV w' m B v L := h.only (Only.of_below hb (fun _ => False)) (fun e => e) (fun _ _ e => e)
theorem KV.drewN (h : KV w m B v L) (n : Nat) : KV (w.drewN n) m B v L := h.below (below_drewN (Below.refl _ _) n)
theorem KV.shape (h : KV w m B v L) : ∃ ao cap, v = .slice ao L.length cap ∧ SeenK w ao cap L := by
  obtain ⟨ao, cap, e, hs, -⟩ := OwnR.seen cc_len h.row
  exact ⟨ao, cap, e, hs⟩
end

theorem running_any {w : World} {m B : Nat} {v : Value} {L : List Ck} (h : KV w m B v L) : Calls Try.prog 27 #[.pointer (some ⟨m, 0, none⟩)] w fun e w' => e = .returned v ∧ w = w' := by
  have c := h.cell
  clear h
  go_enter Try.func27, Try.ntmps27
  go_wp2
  go_ret
  exact ⟨rfl, rfl⟩
theorem running_nil (w : World) : Calls Try.prog 27 #[.pointer none] w fun e w' => e = .returned (.slice none 0 0) ∧ w = w' := by
  go_enter Try.func27, Try.ntmps27
  go_wp2
  go_ret
  exact ⟨rfl, rfl⟩

theorem closure_any {w : World} {C : Nat} {id : Int} (hc : w.cell? ⟨C, 0, none⟩ = some (.int .i64 id)) (i g : Nat) :
    Calls Try.prog 29 #[.agg #[.int .i64 (i : Int), .int .i64 (g : Int)], .pointer (some ⟨C, 0, none⟩)] w fun e w' => e = .returned (.bool (decide ((i : Int) = id))) ∧ Below w.heap.size w w' := by
  obtain ⟨w1, e1⟩ : ∃ w1, w1 = w.alloc (.cells #[.int .i64 (i : Int), .int .i64 (g : Int)] 53) := ⟨_, rfl⟩
  obtain ⟨s1, n1, b1⟩ := new_size e1
  obtain ⟨N, hN⟩ : ∃ N, w.heap.size = N := ⟨_, rfl⟩
  have c1 : w1.cell? ⟨C, 0, none⟩ = some (.int .i64 id) := cell_kept b1 hc
  rw [hN] at n1
  have c2 : w1.cell? ⟨N, 0, none⟩ = some (.int .i64 (i : Int)) := by rw [cell_of_row _ _ 0 _ _ (0, 0) n1]; rfl
  have HB := Lib.hid b1
  have HN := Lib.hid hN
  clear s1 n1 b1 hN hc
  by_cases he : (i : Int) = id
  · have d : ((i : Int) == id) = true := by simpa using he
    have D := Lib.hid (show decide ((i : Int) = id) = true by simpa using he)
    clear he
    go_enter Try.func29, Try.ntmps29
    go_upto_region 1 with fail
    rw [← e1, HN.out]
    clear e1
    go_wp2
    go_ret
    exact ⟨by rw [D.out]; rfl, HB.out⟩
  · have d : ((i : Int) == id) = false := by simpa using he
    have D := Lib.hid (show decide ((i : Int) = id) = false by simpa using he)
    clear he
    go_enter Try.func29, Try.ntmps29
    go_upto_region 1 with fail
    rw [← e1, HN.out]
    clear e1
    go_wp2
    go_ret
    exact ⟨by rw [D.out]; rfl, HB.out⟩

set_option maxRecDepth 100000 in
set_option maxHeartbeats 4000000 in
theorem indexFunc_any {w : World} {ao : Option Addr} {cap : Nat} {L : List Ck} (h : SeenK w ao cap L) (hL : L.length ≤ 1000) {C : Nat} {id : Int} (hc : w.cell? ⟨C, 0, none⟩ = some (.int .i64 id)) :
    Calls Try.prog 28 #[.slice ao L.length cap, .func (.func 29) #[] #[.pointer (some ⟨C, 0, none⟩)]] w fun e w' => e = .returned (.int .i64 (placeI L id)) ∧ Below w.heap.size w w' := by
  have H := Lib.hid h
  have HC := Lib.hid hc
  have X1 := Lib.hid (fun j (hj : j < L.length) (h1 : ∀ k (hk : k < L.length), k < j → ((L[k]).1 : Int) ≠ id) (h2 : ((L[j]).1 : Int) = id) => (show placeI L id = (j : Int) by unfold placeI; rw [atC_of hj h1 h2, if_pos hj]))
  have X2 := Lib.hid (fun (h1 : ∀ k (hk : k < L.length), ((L[k]).1 : Int) ≠ id) => (show placeI L id = -1 by unfold placeI; rw [atC_none h1, if_neg (by omega)]))
  generalize placeI L id = z at *
  obtain ⟨M, hM⟩ : ∃ M, L.length = M := ⟨_, rfl⟩
  rw [hM] at hL
  simp only [hM]
  have HM := Lib.hid hM
  clear h hc hM
  go_enter Try.func28, Try.ntmps28
  go_wp2_with fail
  go_loopw [8] (fun i wr => ∃ j : Nat, j ≤ M ∧ i = .int .i64 j ∧ Hid (∀ k (hk : k < L.length), k < j → ((L[k]).1 : Int) ≠ id) ∧ Below w.heap.size w wr) (fun i _ => M - (intOf i).toNat)
  case atStart => exact ⟨0, Nat.zero_le _, rfl, Lib.hid (fun k _ hk => absurd hk (by omega)), Below.refl _ _⟩
  case round =>
    obtain ⟨j, hj, rfl, hno, hB⟩ := hrel
    have HB := Lib.hid hB
    clear hB
    by_cases hlt : j < M
    · have hlt' : j < L.length := by rw [HM.out]; exact hlt
      obtain ⟨b, off, rfl, hbw, c0, c1⟩ := seenK_at (SeenR.below H.out HB.out) j hlt'
      have KC := Lib.hid (closure_any (C := C) (id := id) (cell_kept HB.out HC.out) (L[j]).1 (L[j]).2)
      have X3 := Lib.hid (X1.out j hlt' hno.out)
      have X4 := Lib.hid (fun (h : ((L[j]).1 : Int) ≠ id) => (show ∀ k (hk : k < L.length), k < j + 1 → ((L[k]).1 : Int) ≠ id from fun k hk hkj => by
        rcases Nat.lt_or_ge k j with h' | h'
        · exact hno.out k hk h'
        · obtain rfl : k = j := by omega
          exact h))
      generalize (L[j]).1 = ci at *
      generalize (L[j]).2 = cg at *
      by_cases he : (ci : Int) = id
      · have D : decide ((ci : Int) = id) = true := by simpa using he
        rw [D] at KC
        obtain rfl := X3.out he
        clear he D X1 X2 X4 hno
        go_wp2_with fail
        refine KC.out.mono ?_
        rintro e w1 ⟨rfl, b1⟩
        have B1 := Lib.hid (below_on HB.out b1)
        clear b1
        go_wp2_with fail
        go_ret
        exact ⟨rfl, B1.out⟩
      · have D : decide ((ci : Int) = id) = false := by simpa using he
        rw [D] at KC
        have HN := Lib.hid (X4.out he)
        clear he D X1 X2 X3 X4 hno
        go_wp2_with fail
        refine KC.out.mono ?_
        rintro e w1 ⟨rfl, b1⟩
        have B1 := Lib.hid (below_on HB.out b1)
        clear b1
        go_wp2_with fail
        go_roundw
        case rel => exact ⟨j + 1, hlt, by go_num, HN, B1.out⟩
        case measure => simp [intOf]; omega
    · obtain rfl : j = M := by omega
      obtain rfl := X2.out (fun k hk => hno.out k hk (by have := HM.out; omega))
      clear X1 X2
      go_wp2_with fail
      go_ret
      exact ⟨rfl, HB.out⟩

set_option maxRecDepth 100000 in
set_option maxHeartbeats 4000000 in
theorem place_any {w : World} {m B : Nat} {v : Value} {L : List Ck} (h : KV w m B v L) (id : Int) :
    Calls Try.prog 23 #[.pointer (some ⟨m, 0, none⟩), .int .i64 id] w fun e w' => e = .returned (.int .i64 (placeI L id)) ∧ Below w.heap.size w w' := by
  obtain ⟨ao, cap, rfl, hs⟩ := h.shape
  obtain ⟨w1, e1⟩ : ∃ w1, w1 = w.alloc (.cells #[.int .i64 id] 3) := ⟨_, rfl⟩
  obtain ⟨s1, n1, b1⟩ := new_size e1
  obtain ⟨N, hN⟩ : ∃ N, w.heap.size = N := ⟨_, rfl⟩
  rw [hN] at n1
  have K1 := Lib.hid (running_any (h.below b1))
  have K2 := Lib.hid (indexFunc_any (SeenR.below hs b1) (by have := h.len; omega) (C := N) (id := id) (by rw [cell_of_row _ _ 0 _ _ (0, 0) n1]; rfl))
  have HN := Lib.hid hN
  have B1 := Lib.hid b1
  clear h hs s1 n1 b1 hN
  generalize placeI L id = z at *
  generalize L.length = n at *
  go_enter Try.func23, Try.ntmps23
  go_upto_region 1 with fail
  rw [← e1, HN.out]
  clear e1
  go_wp2_with fail
  refine K1.out.mono ?_
  rintro e w2 ⟨rfl, rfl⟩
  go_wp2_with fail
  refine K2.out.mono ?_
  rintro e w3 ⟨rfl, b3⟩
  have B3 := Lib.hid (below_on B1.out b3)
  clear b3
  go_wp2_with fail
  go_ret
  exact ⟨rfl, B3.out⟩
set_option maxRecDepth 100000 in
set_option maxHeartbeats 4000000 in
theorem place_nil (w : World) (id : Int) : Calls Try.prog 23 #[.pointer none, .int .i64 id] w fun e w' => e = .returned (.int .i64 (-1)) ∧ Below w.heap.size w w' := by
  obtain ⟨w1, e1⟩ : ∃ w1, w1 = w.alloc (.cells #[.int .i64 id] 3) := ⟨_, rfl⟩
  obtain ⟨s1, n1, b1⟩ := new_size e1
  obtain ⟨N, hN⟩ : ∃ N, w.heap.size = N := ⟨_, rfl⟩
  rw [hN] at n1
  have K1 := Lib.hid (running_nil w1)
  have K2 := Lib.hid (indexFunc_any (L := []) (w := w1) (ao := none) (cap := 0) seenR_nil (by simp) (C := N) (id := id) (by rw [cell_of_row _ _ 0 _ _ (0, 0) n1]; rfl))
  have HN := Lib.hid hN
  have B1 := Lib.hid b1
  clear s1 n1 b1 hN
  rw [show placeI [] id = -1 from rfl, List.length_nil] at K2
  go_enter Try.func23, Try.ntmps23
  go_upto_region 1 with fail
  rw [← e1, HN.out]
  clear e1
  go_wp2_with fail
  refine K1.out.mono ?_
  rintro e w2 ⟨rfl, rfl⟩
  go_wp2_with fail
  refine K2.out.mono ?_
  rintro e w3 ⟨rfl, b3⟩
  have B3 := Lib.hid (below_on B1.out b3)
  clear b3
  go_wp2_with fail
  go_ret
  exact ⟨rfl, B3.out⟩

end Go.Proofs.Ytmgcdfndmokgnaa
