/-
  Rows of tasks and lists of levels in memory, and the calls that only look at them: where a task stands (slices.Index, slices.Contains, the document's Index), whether two rows are the same, whether one overtakes another, whose turn it is by the document. No condition but lengths.
-/
import Derived.Test.YteglnlhdgfpglaaRows
import Derived.Test.YteglnlhdgfpglaaWa0
import Derived.Test.YteglnlhdgfpglaaDe1
import Derived.BigRegion
import Derived.BigQuiet
import Derived.Deep.RegionWith
import Derived.Deep.DeepCutAuto
import Derived.Deep.WholeRow
namespace Go.Proofs.Yteglnlhdgfpglaa
open Go Go.RowKit
set_option linter.unusedVariables false
set_option linter.unusedSimpArgs false

/-! ### Lists of levels -/
def lv1 (z : Int) : List Value := [.int .i64 z]
theorem lv1_len (z : Int) : (lv1 z).length = 1 := rfl
theorem lv1_one (x : Int) : ∀ u ∈ lv1 x, u.oneCell' = true := by
  intro u hu
  simp only [lv1, List.mem_cons, List.not_mem_nil, or_false] at hu
  subst hu; rfl
abbrev SeenL (w : World) (ao : Option Addr) (cap : Nat) (l : List Int) : Prop := SeenR 1 lv1 w ao cap l
abbrev OwnL (w : World) (B : Nat) (v : Value) (l : List Int) : Prop := OwnR 3 1 lv1 w B v l
theorem seenL_at {w : World} {ao : Option Addr} {cap : Nat} {l : List Int} (h : SeenL w ao cap l) (i : Nat) (hi : i < l.length) : ∃ b off, ao = some ⟨b, off, none⟩ ∧ b < w.heap.size ∧ w.cell? ⟨b, off + i, none⟩ = some (.int .i64 l[i]) := by
  obtain ⟨b, off, h1, h2, h3⟩ := h.at i hi
  have := h3 0 (by omega)
  rw [Nat.mul_one, Nat.add_zero] at this
  exact ⟨b, off, h1, h2, this⟩
theorem drewN_on (w : World) (q n : Nat) : (w.drewN q).drewN n = w.drewN (q + n) := by simp [World.drewN, Nat.add_assoc, Nat.add_comm]; omega
theorem drewN_zero (w : World) : w = w.drewN 0 := rfl
theorem below_dr (w : World) (q : Nat) : Below w.heap.size w (w.drewN q) := below_drewN (Below.refl _ _) q

/-! ### Where a task stands -/
theorem idxW_fst {l : List Nat} {t : Int} {j : Nat} (hj : j < l.length) (h1 : ∀ k (hk : k < l.length), k < j → ((l[k] : Nat) : Int) ≠ t) (h2 : ((l[j] : Nat) : Int) = t) : idxW l t = (j : Int) := idxW_first l t j hj h2 (fun k hk => h1 k (by omega) hk)
set_option maxRecDepth 100000 in
set_option maxHeartbeats 4000000 in
theorem sindex_any {w : World} {ao : Option Addr} {cap : Nat} {l : List Nat} (h : SeenN w ao cap l) (hl : l.length ≤ 1000000) (t : Int) :
    Calls Try.prog 18 #[.slice ao l.length cap, .int .i64 t] w fun e w' => e = .returned (.int .i64 (idxW l t)) ∧ w = w' := by
  have H := Lib.hid h
  have X1 := Lib.hid (fun j (hj : j < l.length) (h1 : ∀ k (hk : k < l.length), k < j → ((l[k] : Nat) : Int) ≠ t) (h2 : ((l[j] : Nat) : Int) = t) => idxW_fst hj h1 h2)
  have X2 := Lib.hid (fun (h1 : ∀ k (hk : k < l.length), ((l[k] : Nat) : Int) ≠ t) => idxW_no l t h1)
  generalize idxW l t = z at *
  obtain ⟨M, hM⟩ : ∃ M, l.length = M := ⟨_, rfl⟩
  rw [hM] at hl
  simp only [hM]
  have HM := Lib.hid hM
  clear h hM
  go_enter Try.func18, Try.ntmps18
  go_wp2_with fail
  go_loopw [8] (fun i wr => ∃ j : Nat, j ≤ M ∧ i = .int .i64 j ∧ wr = w ∧ Hid (∀ k (hk : k < l.length), k < j → ((l[k] : Nat) : Int) ≠ t)) (fun i _ => M - (intOf i).toNat)
  case atStart => exact ⟨0, Nat.zero_le _, rfl, rfl, Lib.hid (fun k _ hk => absurd hk (by omega))⟩
  case round =>
    obtain ⟨j, hj, rfl, hw, hno⟩ := hrel
    obtain rfl := hw.symm
    by_cases hlt : j < M
    · have hlt' : j < l.length := by rw [HM.out]; exact hlt
      obtain ⟨b, off, rfl, hbw, c0⟩ := seenN_at H.out j hlt'
      have X3 := Lib.hid (X1.out j hlt' hno.out)
      have X4 := Lib.hid (fun (h : ((l[j] : Nat) : Int) ≠ t) => (show ∀ k (hk : k < l.length), k < j + 1 → ((l[k] : Nat) : Int) ≠ t from fun k hk hkj => by
        rcases Nat.lt_or_ge k j with h' | h'
        · exact hno.out k hk h'
        · obtain rfl : k = j := by omega
          exact h))
      generalize l[j] = ci at *
      by_cases he : (ci : Int) = t
      · have Dd : (t == (ci : Int)) = true := by simpa using he.symm
        obtain rfl := X3.out he
        clear he X1 X2 X4 hno
        go_wp2_with fail
        go_ret
        exact ⟨rfl, rfl⟩
      · have Dd : (t == (ci : Int)) = false := by simpa using fun e => he e.symm
        have HNo := Lib.hid (X4.out he)
        clear he X1 X2 X3 X4 hno
        go_wp2_with fail
        go_roundw
        case rel => exact ⟨j + 1, hlt, by go_num, trivial, HNo⟩
        case measure => simp [intOf]; omega
    · obtain rfl : j = M := by omega
      obtain rfl := X2.out (fun k hk => hno.out k hk (by have := HM.out; omega))
      clear X1 X2
      go_wp2_with fail
      go_ret
      exact ⟨rfl, rfl⟩
set_option maxRecDepth 100000 in
set_option maxHeartbeats 4000000 in
/-- The document's. -/
theorem rindex_any {w : World} {ao : Option Addr} {cap : Nat} {l : List Nat} (h : SeenN w ao cap l) (hl : l.length ≤ 1000000) (t : Int) :
    Calls Try.prog 9 #[.slice ao l.length cap, .int .i64 t] w fun e w' => e = .returned (.int .i64 (idxW l t)) ∧ w = w' := by
  have H := Lib.hid h
  have X1 := Lib.hid (fun j (hj : j < l.length) (h1 : ∀ k (hk : k < l.length), k < j → ((l[k] : Nat) : Int) ≠ t) (h2 : ((l[j] : Nat) : Int) = t) => idxW_fst hj h1 h2)
  have X2 := Lib.hid (fun (h1 : ∀ k (hk : k < l.length), ((l[k] : Nat) : Int) ≠ t) => idxW_no l t h1)
  generalize idxW l t = z at *
  obtain ⟨M, hM⟩ : ∃ M, l.length = M := ⟨_, rfl⟩
  rw [hM] at hl
  simp only [hM]
  have HM := Lib.hid hM
  clear h hM
  go_enter Try.func9, Try.ntmps9
  go_wp2_with fail
  go_loopw [5] (fun i wr => ∃ j : Nat, j ≤ M ∧ i = .int .i64 j ∧ wr = w ∧ Hid (∀ k (hk : k < l.length), k < j → ((l[k] : Nat) : Int) ≠ t)) (fun i _ => M - (intOf i).toNat)
  case atStart => exact ⟨0, Nat.zero_le _, rfl, rfl, Lib.hid (fun k _ hk => absurd hk (by omega))⟩
  case round =>
    obtain ⟨j, hj, rfl, hw, hno⟩ := hrel
    obtain rfl := hw.symm
    by_cases hlt : j < M
    · have hlt' : j < l.length := by rw [HM.out]; exact hlt
      obtain ⟨b, off, rfl, hbw, c0⟩ := seenN_at H.out j hlt'
      have X3 := Lib.hid (X1.out j hlt' hno.out)
      have X4 := Lib.hid (fun (h : ((l[j] : Nat) : Int) ≠ t) => (show ∀ k (hk : k < l.length), k < j + 1 → ((l[k] : Nat) : Int) ≠ t from fun k hk hkj => by
        rcases Nat.lt_or_ge k j with h' | h'
        · exact hno.out k hk h'
        · obtain rfl : k = j := by omega
          exact h))
      generalize l[j] = ci at *
      by_cases he : (ci : Int) = t
      · have Dd : ((ci : Int) == t) = true := by simpa using he
        obtain rfl := X3.out he
        clear he X1 X2 X4 hno
        go_wp2_with fail
        go_ret
        exact ⟨rfl, rfl⟩
      · have Dd : ((ci : Int) == t) = false := by simpa using he
        have HNo := Lib.hid (X4.out he)
        clear he X1 X2 X3 X4 hno
        go_wp2_with fail
        go_roundw
        case rel => exact ⟨j + 1, hlt, by go_num, trivial, HNo⟩
        case measure => simp [intOf]; omega
    · obtain rfl : j = M := by omega
      obtain rfl := X2.out (fun k hk => hno.out k hk (by have := HM.out; omega))
      clear X1 X2
      go_wp2_with fail
      go_ret
      exact ⟨rfl, rfl⟩
set_option maxRecDepth 100000 in
theorem contains_any {w : World} {ao : Option Addr} {cap : Nat} {l : List Nat} (h : SeenN w ao cap l) (hl : l.length ≤ 1000000) (t : Int) :
    Calls Try.prog 23 #[.slice ao l.length cap, .int .i64 t] w fun e w' => e = .returned (.bool (inW l t)) ∧ w = w' := by
  have K := Lib.hid (sindex_any h hl t)
  have X := idxW_in l t
  generalize inW l t = c at *
  generalize idxW l t = z at *
  generalize l.length = M at *
  clear h
  cases c
  · have X1 : ¬ (0 ≤ z) := of_decide_eq_false X
    go_enter Try.func23, Try.ntmps23
    go_wp2_with fail
    refine K.out.mono ?_
    rintro e w1 ⟨rfl, rfl⟩
    go_wp2_with fail
    go_ret
    exact ⟨rfl, rfl⟩
  · have X1 : 0 ≤ z := of_decide_eq_true X
    go_enter Try.func23, Try.ntmps23
    go_wp2_with fail
    refine K.out.mono ?_
    rintro e w1 ⟨rfl, rfl⟩
    go_wp2_with fail
    go_ret
    exact ⟨rfl, rfl⟩

/-! ### Whether two rows are the same -/
set_option maxRecDepth 100000 in
set_option maxHeartbeats 4000000 in
theorem wints_any {w : World} (ao : Option Addr) (cap : Nat) (l : List Nat) (h : SeenN w ao cap l) (bo : Option Addr) (bc : Nat) (k : List Nat) (g : SeenN w bo bc k) (hl : l.length ≤ 1000000) :
    Calls Try.prog 15 #[.slice ao l.length cap, .slice bo k.length bc] w fun e w' => e = .returned (.bool (decide (l = k))) ∧ ∃ q, w' = w.drewN q := by
  have H := Lib.hid h
  have G := Lib.hid g
  clear h g
  by_cases hlen : l.length = k.length
  · have hd : ((l.length : Int) != (k.length : Int)) = false := by simp; omega
    have HLen := Lib.hid hlen
    obtain ⟨M, hM⟩ : ∃ M, l.length = M := ⟨_, rfl⟩
    obtain ⟨M2, hM2⟩ : ∃ M2, k.length = M2 := ⟨_, rfl⟩
    have HM := Lib.hid hM
    have HM2 := Lib.hid hM2
    rw [hM] at hd hl
    rw [hM2] at hd
    simp only [hM, hM2]
    clear hM hM2 hlen
    go_enter Try.func15, Try.ntmps15
    go_wp2_with fail
    go_loopw [5] (fun i wr => ∃ j q : Nat, j ≤ M ∧ i = .int .i64 j ∧ l.take j = k.take j ∧ wr = w.drewN q) (fun i _ => M - (intOf i).toNat)
    case atStart => exact ⟨0, 0, Nat.zero_le _, rfl, rfl, rfl⟩
    case round =>
      obtain ⟨j, q, hj, rfl, hb, hw⟩ := hrel
      have HW := Lib.hid hw
      have HH := Lib.hid (show SeenN wr ao cap l from by rw [hw]; exact H.out.drewN q)
      have GG := Lib.hid (show SeenN wr bo bc k from by rw [hw]; exact G.out.drewN q)
      clear hw
      have Hb := Lib.hid hb
      clear hb
      by_cases hlt : j < M
      · have hjl : j < l.length := by rw [HM.out]; exact hlt
        have hjk : j < k.length := by rw [← HLen.out, HM.out]; exact hlt
        obtain ⟨b1, o1, rfl, hw1, c1⟩ := seenN_at HH.out j hjl
        obtain ⟨b2, o2, rfl, hw2, c2⟩ := seenN_at GG.out j hjk
        have hjk2 : (j : Int) < (M2 : Int) := by rw [← HM2.out]; omega
        by_cases he : l[j] = k[j]
        · have HB2 := Lib.hid (show l.take (j + 1) = k.take (j + 1) by rw [List.take_add_one, List.take_add_one, Hb.out, List.getElem?_eq_getElem hjl, List.getElem?_eq_getElem hjk, he])
          generalize l[j] = x at *
          generalize k[j] = y at *
          subst he
          have hne : ((x : Int) != (x : Int)) = false := by simp
          go_wp2_with fail
          go_quiet (fail)
          go_wp2_with fail
          go_roundw
          case rel => exact ⟨j + 1, q + nq, hlt, by go_num, HB2.out, by rw [HW.out]; exact drewN_on w q nq⟩
          case measure => simp [intOf]; omega
        · have HE := Lib.hid (show decide (l = k) = false by
            simp
            intro e
            subst e
            exact he rfl)
          generalize l[j] = x at *
          generalize k[j] = y at *
          have hne : ((x : Int) != (y : Int)) = true := by simp; omega
          clear he
          go_wp2_with fail
          go_quiet (fail)
          go_wp2_with fail
          go_ret
          exact ⟨by rw [HE.out]; rfl, q + nq, by rw [HW.out]; exact drewN_on w q nq⟩
      · obtain rfl : j = M := by omega
        have HE := Lib.hid (show decide (l = k) = true by
          have := Hb.out
          rw [List.take_of_length_le (by rw [HM.out]; exact Nat.le_refl _), List.take_of_length_le (by rw [← HLen.out, HM.out]; exact Nat.le_refl _)] at this
          simpa using this)
        go_wp2_with fail
        go_ret
        exact ⟨by rw [HE.out]; rfl, q, HW.out⟩
  · have hd : ((l.length : Int) != (k.length : Int)) = true := by simp; omega
    have HE := Lib.hid (show decide (l = k) = false by simp; intro e; exact hlen (by rw [e]))
    clear hlen
    go_enter Try.func15, Try.ntmps15
    go_wp2_with fail
    go_ret
    exact ⟨by rw [HE.out]; rfl, 0, rfl⟩

end Go.Proofs.Yteglnlhdgfpglaa
