/-
  The mathematics of coil's statements: what is read fits; there and back over whole lists; sizes; bytes 255 on end. Plain lists and numbers, nothing of the translation but the events' table.
-/
import Derived.Test.YtobioiicbdhboaaDoorCoil3
namespace Go.Proofs.YtobioiicbdhboaaDoor
open Go.RowKit
set_option linter.unusedVariables false
set_option linter.unusedSimpArgs false

theorem read_fits : ∀ (f : Nat) (b : Ev) (L : List UInt8) (k : Nat), ∀ e ∈ (readGo L f b k).1, EvFits e
  | 0, b, L, k, e, h => by simp [readGo] at h
  | f + 1, b, L, k, e, h => by
    unfold readGo at h
    split at h
    · simp at h
    · split at h
      · rename_i h0
        unfold joinP at h
        split at h
        · simp only [List.mem_append, List.mem_cons, List.not_mem_nil, or_false] at h
          rcases h with rfl | h
          · obtain ⟨h1, h2, h3, h4, h5, h6, h7⟩ := nextC_fits h0
            exact ⟨by omega, by omega, h1, h2, h3, h4, h5⟩
          · exact read_fits f _ L _ e h
        · simp at h
      · simp at h
theorem readL_fits (cyc cnt : Nat) (L : List UInt8) : ∀ e ∈ (readL cyc cnt L).1, EvFits e := read_fits _ _ _ _

/-- Each event that is read has a byte at least. -/
theorem read_len : ∀ (f : Nat) (b : Ev) (L : List UInt8) (k : Nat), (readGo L f b k).1.length ≤ f
  | 0, b, L, k => by simp [readGo]
  | f + 1, b, L, k => by
    unfold readGo
    split
    · simp
    · split
      · unfold joinP
        split
        · simp only [List.length_append, List.length_cons, List.length_nil]
          have := read_len f (nextC b L k).1 L (nextC b L k).2.2
          omega
        · simp
      · simp
theorem readL_len (cyc cnt : Nat) (L : List UInt8) : (readL cyc cnt L).1.length ≤ L.length := read_len _ _ _ _

theorem coil_len : ∀ (l : List Ev) (b : Ev), (∀ e ∈ l, EvFits e) → (coilGo b l).1.length ≤ 100 * l.length
  | [], b, _ => by simp [coilGo]
  | e :: l, b, h => by
    unfold coilGo
    split
    · rename_i hp
      unfold joinP
      split
      · have h1 := addB_len b e (h e (by simp))
        have h2 := coil_len l e (fun x hx => h x (by simp [hx]))
        have h3 : addB b e = evBytes b e := by unfold addB; rw [if_pos hp]
        rw [h3] at h1
        simp only [List.length_append, List.length_cons]
        omega
      · simp
    · simp

/-- Bytes that are read, and begin at the base, are printed again as they were. -/
theorem print_one {cyc cnt : Nat} {L : List UInt8} {l : List Ev} (h : readL cyc cnt L = (l, 0)) (h0 : ∀ e, l[0]? = some e → e.cyc = cyc ∧ e.cnt = cnt) : coilL l = (L, 0) := by
  have h1 := read_one L.length ⟨0, cyc, cnt, 0, 0, 0⟩ L 0 l (Nat.zero_le _) (by omega) h
  rw [List.drop_zero] at h1
  rw [← h1]
  unfold coilL
  cases l with
  | nil => rfl
  | cons e l =>
    obtain ⟨h2, h3⟩ := h0 e rfl
    exact go_stamps h3 h2 (e :: l)

/-- Each event that is printed is fine. -/
theorem coil_fine : ∀ (l : List Ev) (b : Ev), (∀ e ∈ l, EvFits e) → (coilGo b l).2 = 0 → ∀ e ∈ l, Fine e
  | [], b, _, _, e, h => by simp at h
  | x :: l, b, hf, h, e, he => by
    unfold coilGo at h
    split at h
    · rename_i hp
      obtain ⟨h1, -⟩ := joinP_zero h
      rcases List.mem_cons.1 he with rfl | he
      · have f := hf e (by simp)
        exact check_fine f.cnt f.cyc f.a f.b f.v (putE_zero hp).1
      · exact coil_fine l x (fun y hy => hf y (by simp [hy])) h1 e he
    · rename_i hp; exact absurd h hp

theorem coil_back {l : List Ev} {e : Ev} (h0 : l[0]? = some e) (hf : ∀ e ∈ l, EvFits e) (h : (coilL l).2 = 0) : readL e.cyc e.cnt (coilL l).1 = (l, 0) := by
  have hg : l.getD 0 ev0 = e := by rw [List.getD_eq_getElem?_getD, h0]; rfl
  have hc : coilL l = coilGo ⟨0, e.cyc, e.cnt, 0, 0, 0⟩ l := by unfold coilL; rw [hg]; exact go_stamps (b := e) (b' := ⟨0, e.cyc, e.cnt, 0, 0, 0⟩) rfl rfl l
  have hfine := coil_fine l _ hf h
  unfold readL
  exact read_back l _ _ [] 0 _ hfine (by rw [← hc]; exact h) (by rw [List.drop_zero, hc]) (Nat.zero_le _) (by omega)

/-! ### Sizes -/

theorem told_self (a : Ev) : told a a = true := by
  unfold told driftZ
  refine decide_eq_true ⟨Nat.le_refl _, Nat.le_refl _, by omega, by omega, by omega⟩
theorem coil_alone {a : Ev} (h : checkN a = 0) : coilL [a] = (evBytes a a, 0) := by
  have hp : putE a a = 0 := by unfold putE; rw [if_pos h, if_pos (told_self a)]
  show coilGo a [a] = _
  unfold coilGo coilGo
  rw [if_pos hp, joinP_ok, List.append_nil]
theorem coil_two {a b : Ev} (h : checkN a = 0) : coilL [a, b] = if putE a b = 0 then (evBytes a a ++ evBytes a b, 0) else ([], putE a b) := by
  have hp : putE a a = 0 := by unfold putE; rw [if_pos h, if_pos (told_self a)]
  show coilGo a [a, b] = _
  unfold coilGo coilGo coilGo
  rw [if_pos hp]
  split
  · rw [joinP_ok, joinP_ok, List.append_nil]
  · rename_i h1; rw [joinP_err _ _ _ h1]

theorem span_small (k : Nat) (hk : k < 25) : spanA k ≠ 1 ∧ spanB k ≠ 1 := by
  have : ∀ k : Fin 25, spanA k.val ≠ 1 ∧ spanB k.val ≠ 1 := by decide
  exact this ⟨k, hk⟩
theorem mostN_le (s : Int) : mostN s ≤ 255 := by
  unfold mostN
  repeat' split
  all_goals decide
theorem within_small {s : Int} {n : Nat} (hs : s ≠ 1) (h : withinB s n = true) : n ≤ 255 := by
  have hm := mostN_le s
  unfold withinB at h
  rw [if_neg hs] at h
  generalize mostN s = m at *
  by_cases h5 : s = 5
  · rw [if_pos h5] at h; simp at h; omega
  · rw [if_neg h5] at h
    by_cases h10 : s = 10
    · rw [if_pos h10] at h; simp at h; omega
    · rw [if_neg h10] at h
      by_cases h11 : s = 11
      · rw [if_pos h11] at h; simp at h; omega
      · rw [if_neg h11] at h; simp at h; omega
theorem check_small {e : Ev} (h : checkN e = 0) : e.a ≤ 255 ∧ e.b ≤ 255 := by
  unfold checkN at h
  split at h
  · cases h
  · rename_i hk
    split at h
    · cases h
    · rename_i hi
      have hk : knownB e.kind = true := by simpa using hk
      have hi : allIn e = true := by simpa using hi
      simp only [knownB, Bool.and_eq_true, decide_eq_true_eq] at hk
      simp only [allIn, Bool.and_eq_true] at hi
      obtain ⟨s1, s2⟩ := span_small e.kind.toNat (by omega)
      exact ⟨within_small s1 hi.1, within_small s2 hi.2.1⟩

theorem size_bounds {d e : Ev} (f : EvFits e) (h : putE d e = 0) : 3 ≤ (evBytes d e).length ∧ (evBytes d e).length ≤ 20 := by
  obtain ⟨hc, ht⟩ := putE_zero h
  obtain ⟨t1, t2, -, -⟩ := told_fold ht
  obtain ⟨s1, s2⟩ := check_small hc
  have h1 : (lebL (stepN d e)).length ≤ 5 := lebL_le _ 5 (by omega) (by omega)
  have h2 : (lebL (foldN d e)).length ≤ 5 := lebL_le _ 5 (by omega) (by omega)
  have p1 := lebL_pos (stepN d e)
  have p2 := lebL_pos (foldN d e)
  have ho : ∀ has m, m ≤ 255 → (optL has m).length ≤ 2 := fun has m hm => by unfold optL; split; exact lebL_le _ 2 (by omega) (by omega); simp
  have ho5 : ∀ has m, m < 4294967296 → (optL has m).length ≤ 5 := fun has m hm => by unfold optL; split; exact lebL_le _ 5 (by omega) (by omega); simp
  have h3 := ho (hasA e.kind) e.a s1
  have h4 := ho (hasB e.kind) e.b s2
  have h5 := ho5 (hasV e.kind) e.v f.v
  simp only [evBytes, List.length_cons, List.length_append]
  omega

/-! ### Bytes 255 on end -/

def runN (r : Nat) (c : UInt8) : Nat := if c.toNat = 255 then r + 1 else 0
/-- How many bytes 255 stand at the end. -/
def runEnd : Nat → List UInt8 → Nat
  | r, [] => r
  | r, c :: l => runEnd (runN r c) l
/-- Never more than four on end. -/
def runOk : Nat → List UInt8 → Prop
  | r, [] => True
  | r, c :: l => runN r c ≤ 4 ∧ runOk (runN r c) l
theorem runEnd_append : ∀ (l m : List UInt8) (r : Nat), runEnd r (l ++ m) = runEnd (runEnd r l) m
  | [], m, r => rfl
  | c :: l, m, r => runEnd_append l m _
theorem runOk_append : ∀ (l m : List UInt8) (r : Nat), runOk r (l ++ m) ↔ runOk r l ∧ runOk (runEnd r l) m
  | [], m, r => by simp [runOk, runEnd]
  | c :: l, m, r => by
    have := runOk_append l m (runN r c)
    simp only [List.cons_append, runOk, runEnd, this]
    constructor
    · rintro ⟨h1, h2, h3⟩; exact ⟨⟨h1, h2⟩, h3⟩
    · rintro ⟨⟨h1, h2⟩, h3⟩; exact ⟨h1, h2, h3⟩
theorem runOk_at : ∀ (l : List UInt8) (r k : Nat) (h : k < l.length), runOk r l → runN (runEnd r (l.take k)) l[k] ≤ 4
  | c :: l, r, 0, h, hr => hr.1
  | c :: l, r, k + 1, h, hr => runOk_at l (runN r c) k (by simpa using h) hr.2
theorem runEnd_step (l : List UInt8) (r k : Nat) (h : k < l.length) : runEnd r (l.take (k + 1)) = runN (runEnd r (l.take k)) l[k] := by
  rw [List.take_succ_eq_append_getElem h, runEnd_append]; rfl

/-- A number's bytes: m of them at most, the last one below 128. -/
theorem leb_runs : ∀ (m n r : Nat), n < 128 ^ (m + 1) → r + m ≤ 4 → runOk r (lebL n) ∧ runEnd r (lebL n) = 0
  | m, n, r, hn, hr => by
    by_cases h : n < 128
    · rw [lebL_lt h]
      have hc : (UInt8.ofNat n).toNat ≠ 255 := by simp; omega
      simp only [runOk, runEnd, runN, if_neg hc]
      exact ⟨⟨by omega, trivial⟩, trivial⟩
    · rw [lebL_ge (by omega)]
      cases m with
      | zero => simp at hn; omega
      | succ m =>
        have hd : n / 128 < 128 ^ (m + 1) := by
          rw [Nat.div_lt_iff_lt_mul (by omega)]
          rw [Nat.pow_succ] at hn
          exact hn
        have hle : runN r (UInt8.ofNat (n % 128 + 128)) ≤ r + 1 := by unfold runN; split <;> omega
        obtain ⟨h1, h2⟩ := leb_runs m (n / 128) (runN r (UInt8.ofNat (n % 128 + 128))) hd (by omega)
        exact ⟨⟨by omega, h1⟩, h2⟩
theorem leb_run0 {n : Nat} (h : n ≤ 4294967295) : runOk 0 (lebL n) ∧ runEnd 0 (lebL n) = 0 := leb_runs 4 n 0 (by omega) (by omega)
theorem opt_run0 {has : Bool} {n : Nat} (h : n ≤ 4294967295) : runOk 0 (optL has n) ∧ runEnd 0 (optL has n) = 0 := by
  unfold optL
  split
  · exact leb_run0 h
  · exact ⟨trivial, rfl⟩
theorem join_run0 {l m : List UInt8} (h : runOk 0 l ∧ runEnd 0 l = 0) (k : runOk 0 m ∧ runEnd 0 m = 0) : runOk 0 (l ++ m) ∧ runEnd 0 (l ++ m) = 0 := by
  rw [runOk_append, runEnd_append, h.2]
  exact ⟨⟨h.1, k.1⟩, k.2⟩
theorem ev_run0 {d e : Ev} (f : EvFits e) (h : putE d e = 0) : runOk 0 (evBytes d e) ∧ runEnd 0 (evBytes d e) = 0 := by
  obtain ⟨hc, ht⟩ := putE_zero h
  obtain ⟨t1, t2, -, -⟩ := told_fold ht
  have g := check_fine f.cnt f.cyc f.a f.b f.v hc
  have gk1 := g.k1
  have gk2 := g.k2
  have hk : (UInt8.ofNat e.kind.toNat).toNat ≠ 255 := by simp; omega
  have hh : runOk 0 [UInt8.ofNat e.kind.toNat] ∧ runEnd 0 [UInt8.ofNat e.kind.toNat] = 0 := by
    simp only [runOk, runEnd, runN, if_neg hk]
    exact ⟨⟨by omega, trivial⟩, trivial⟩
  have fa := f.a
  have fb := f.b
  have fv := f.v
  exact join_run0 hh (join_run0 (leb_run0 t1) (join_run0 (leb_run0 t2) (join_run0 (opt_run0 (by omega)) (join_run0 (opt_run0 (by omega)) (opt_run0 (by omega))))))
theorem coil_run0 : ∀ (l : List Ev) (b : Ev), (∀ e ∈ l, EvFits e) → runOk 0 (coilGo b l).1 ∧ runEnd 0 (coilGo b l).1 = 0
  | [], b, _ => ⟨trivial, rfl⟩
  | e :: l, b, hf => by
    unfold coilGo
    split
    · rename_i hp
      unfold joinP
      split
      · exact join_run0 (ev_run0 (hf e (by simp)) hp) (coil_run0 l e (fun x hx => hf x (by simp [hx])))
      · exact ⟨trivial, rfl⟩
    · exact ⟨trivial, rfl⟩

/-- The last byte is below 128. -/
def endsLow (l : List UInt8) : Prop := ∀ k (h : k < l.length), k + 1 = l.length → l[k].toNat < 128
theorem ends_append {l m : List UInt8} (hl : endsLow l) (hm : endsLow m) : endsLow (l ++ m) := by
  intro k h hk
  by_cases h0 : m.length = 0
  · have : m = [] := List.eq_nil_of_length_eq_zero h0
    subst this
    simp only [List.append_nil] at h hk ⊢
    exact hl k h hk
  · rw [List.length_append] at hk
    rw [List.getElem_append_right (by omega)]
    exact hm _ _ (by omega)
theorem opt_ends (has : Bool) (n : Nat) : endsLow (optL has n) := by
  unfold optL
  split
  · exact lebL_last n
  · intro k h; simp at h
theorem ev_ends {d e : Ev} (f : EvFits e) (h : putE d e = 0) : endsLow (evBytes d e) := by
  obtain ⟨hc, -⟩ := putE_zero h
  have g := check_fine f.cnt f.cyc f.a f.b f.v hc
  have gk1 := g.k1
  have gk2 := g.k2
  have hh : endsLow [UInt8.ofNat e.kind.toNat] := by
    intro k h _
    simp only [List.length_cons, List.length_nil] at h
    have : k = 0 := by omega
    subst this
    simp; omega
  exact ends_append hh (ends_append (lebL_last _) (ends_append (lebL_last _) (ends_append (opt_ends _ _) (ends_append (opt_ends _ _) (opt_ends _ _)))))
theorem coil_ends : ∀ (l : List Ev) (b : Ev), (∀ e ∈ l, EvFits e) → endsLow (coilGo b l).1
  | [], b, _ => by intro k h; simp [coilGo] at h
  | e :: l, b, hf => by
    unfold coilGo
    split
    · rename_i hp
      unfold joinP
      split
      · exact ends_append (ev_ends (hf e (by simp)) hp) (coil_ends l e (fun x hx => hf x (by simp [hx])))
      · intro k h; simp at h
    · intro k h; simp at h

end Go.Proofs.YtobioiicbdhboaaDoor
