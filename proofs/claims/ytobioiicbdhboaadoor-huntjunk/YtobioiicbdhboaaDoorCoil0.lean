/-
  Layer 6 (coil): the plain mathematics of events as bytes: steps, an event's bytes behind another one, the bytes of a list, what bytes are read as, and that both lead to each other; how many bytes, and how many bytes 255 on end. No condition.
-/
import Derived.Test.YtobioiicbdhboaaDoorEvK
import Derived.Test.YtobioiicbdhboaaDoorLeb2
namespace Go.Proofs.YtobioiicbdhboaaDoor
open Go
set_option linter.unusedVariables false

/-! ### Printing -/

def stepN (b e : Ev) : Nat := e.cnt - b.cnt
def driftZ (b e : Ev) : Int := ((e.cyc - b.cyc : Nat) : Int) - ((e.cnt - b.cnt : Nat) : Int)
/-- The steps can be told. -/
def told (b e : Ev) : Bool := decide (b.cnt ≤ e.cnt ∧ b.cyc ≤ e.cyc ∧ e.cnt - b.cnt ≤ 4294967295 ∧ -2147483648 ≤ driftZ b e ∧ driftZ b e ≤ 2147483647)
def foldN (b e : Ev) : Nat := (fold (driftZ b e)).toNat
def optL (h : Bool) (n : Nat) : List UInt8 := if h = true then lebL n else []
/-- An event's bytes behind another one. -/
def evBytes (b e : Ev) : List UInt8 := UInt8.ofNat e.kind.toNat :: (lebL (stepN b e) ++ (lebL (foldN b e) ++ (optL (hasA e.kind) e.a ++ (optL (hasB e.kind) e.b ++ optL (hasV e.kind) e.v))))
/-- The error of an event behind another one; 0: none. -/
def putE (b e : Ev) : Int := if checkN e = 0 then (if told b e = true then 0 else 5) else 3

/-- What was there, and what comes, unless there is an error. -/
def joinP {α : Type} (acc : List α) (r : List α × Int) : List α × Int := if r.2 = 0 then (acc ++ r.1, 0) else ([], r.2)
theorem joinP_nil {α : Type} {r : List α × Int} (h : r.2 ≠ 0 → r.1 = []) : joinP [] r = r := by
  unfold joinP
  obtain ⟨a, c⟩ := r
  split
  · rename_i h0; simp only at h0; rw [h0]; rfl
  · rename_i h0; have := h h0; simp only at this; rw [this]
theorem joinP_join {α : Type} (a b : List α) (r : List α × Int) : joinP a (joinP b r) = joinP (a ++ b) r := by
  unfold joinP
  by_cases h : r.2 = 0
  · simp [h]
  · simp [h]
theorem joinP_ok {α : Type} (a b : List α) : joinP a (b, 0) = (a ++ b, 0) := rfl
theorem joinP_err {α : Type} (a b : List α) (c : Int) (h : c ≠ 0) : joinP a (b, c) = ([], c) := by unfold joinP; rw [if_neg h]
theorem joinP_zero {α : Type} {a : List α} {r : List α × Int} (h : (joinP a r).2 = 0) : r.2 = 0 ∧ joinP a r = (a ++ r.1, 0) := by
  unfold joinP at h ⊢
  by_cases h0 : r.2 = 0
  · exact ⟨h0, by rw [if_pos h0]⟩
  · rw [if_neg h0] at h; exact absurd h h0

def coilGo : Ev → List Ev → List UInt8 × Int
  | _, [] => ([], 0)
  | b, e :: l => if putE b e = 0 then joinP (evBytes b e) (coilGo e l) else ([], putE b e)
/-- The bytes of some events, and the error. -/
def coilL (l : List Ev) : List UInt8 × Int := coilGo (l.getD 0 ev0) l
/-- The one ahead of place i; of the first one itself. -/
def befE (l : List Ev) (i : Nat) : Ev := l.getD (i - 1) ev0

theorem coil_err {b : Ev} {l : List Ev} (h : (coilGo b l).2 ≠ 0) : (coilGo b l).1 = [] := by
  cases l with
  | nil => exact absurd rfl h
  | cons e l =>
    unfold coilGo at h ⊢
    split
    · rename_i h0
      rw [if_pos h0] at h
      unfold joinP at h ⊢
      split
      · rename_i h1; rw [if_pos h1] at h; exact absurd rfl h
      · rfl
    · rfl

theorem coil_start (l : List Ev) : coilL l = joinP [] (coilGo (befE l 0) (l.drop 0)) := by
  rw [joinP_nil coil_err]; rfl
theorem bef_at (l : List Ev) (i : Nat) (h : i < l.length) : befE l (i + 1) = l[i] := by
  unfold befE; rw [Nat.add_sub_cancel, List.getD_eq_getElem?_getD, List.getElem?_eq_getElem h]; rfl
theorem coil_bad {l : List Ev} {acc : List UInt8} {i : Nat} (h : i < l.length) (hl : coilL l = joinP acc (coilGo (befE l i) (l.drop i))) (hp : putE (befE l i) l[i] ≠ 0) : coilL l = ([], putE (befE l i) l[i]) := by
  rw [hl, List.drop_eq_getElem_cons h, coilGo, if_neg hp, joinP_err _ _ _ hp]
theorem coil_go {l : List Ev} {acc : List UInt8} {i : Nat} (h : i < l.length) (hl : coilL l = joinP acc (coilGo (befE l i) (l.drop i))) (hp : putE (befE l i) l[i] = 0) :
    coilL l = joinP (acc ++ evBytes (befE l i) l[i]) (coilGo (befE l (i + 1)) (l.drop (i + 1))) := by
  rw [hl, List.drop_eq_getElem_cons h, coilGo, if_pos hp, joinP_join, bef_at l i h]
theorem coil_end {l : List Ev} {acc : List UInt8} {i : Nat} (h : ¬ i < l.length) (hl : coilL l = joinP acc (coilGo (befE l i) (l.drop i))) : coilL l = (acc, 0) := by
  rw [hl, List.drop_eq_nil_of_le (by omega), coilGo, joinP_ok, List.append_nil]

theorem told_fold {b e : Ev} (h : told b e = true) : stepN b e ≤ 4294967295 ∧ foldN b e ≤ 4294967295 ∧ b.cnt ≤ e.cnt ∧ b.cyc ≤ e.cyc := by
  unfold told at h
  have h := of_decide_eq_true h
  unfold stepN foldN fold
  split <;> omega

/-! ### Reading -/

/-- A number at place k, where there is one and no error came: the number, the place behind it, the error. -/
def numS (L : List UInt8) (has : Bool) (k err : Nat) : Nat × Nat × Nat :=
  if has = true ∧ err = 0 then ((lebMost (L.drop k) 4294967295).1, k + (lebMost (L.drop k) 4294967295).2.2, (lebMost (L.drop k) 4294967295).2.1) else (0, k, err)
def flag (kind : Int) : Nat → Bool
  | 0 => true
  | 1 => true
  | 2 => hasA kind
  | 3 => hasB kind
  | _ => hasV kind
/-- The i-th number's, behind the kind at k: as it stands behind i numbers. -/
def nst (L : List UInt8) (kind : Int) (k : Nat) : Nat → Nat × Nat × Nat
  | 0 => (0, k, 0)
  | i + 1 => numS L (flag kind i) (nst L kind k i).2.1 (nst L kind k i).2.2

def growZ (L : List UInt8) (kind : Int) (k : Nat) : Int := ((nst L kind k 1).1 : Int) + unfold' (nst L kind k 2).1
def nextE (b : Ev) (L : List UInt8) (kind : Int) (k : Nat) : Ev :=
  ⟨kind, ((b.cyc : Int) + growZ L kind k).toNat, b.cnt + (nst L kind k 1).1, (nst L kind k 3).1, (nst L kind k 4).1, (nst L kind k 5).1⟩
def fwdOk (b : Ev) (L : List UInt8) (kind : Int) (k : Nat) : Bool :=
  decide (0 ≤ growZ L kind k ∧ b.cnt + (nst L kind k 1).1 ≤ 18446744073709551615 ∧ (b.cyc : Int) + growZ L kind k ≤ 18446744073709551615)
def kindAt (L : List UInt8) (k : Nat) : Int := ((L.getD k 0).toNat : Nat)
/-- The event at place k: the event, the error, the place behind it. -/
def nextC (b : Ev) (L : List UInt8) (k : Nat) : Ev × Int × Nat :=
  if knownB (kindAt L k) = false then (ev0, 1, 0)
  else if (nst L (kindAt L k) (k + 1) 5).2.2 ≠ 0 then (ev0, ((nst L (kindAt L k) (k + 1) 5).2.2 : Nat), 0)
  else if fwdOk b L (kindAt L k) (k + 1) = true ∧ checkN (nextE b L (kindAt L k) (k + 1)) = 0 then (nextE b L (kindAt L k) (k + 1), 0, (nst L (kindAt L k) (k + 1) 5).2.1)
  else (ev0, 5, 0)
def readGo (L : List UInt8) : Nat → Ev → Nat → List Ev × Int
  | 0, _, _ => ([], 0)
  | f + 1, b, k => if L.length ≤ k then ([], 0) else if (nextC b L k).2.1 = 0 then joinP [(nextC b L k).1] (readGo L f (nextC b L k).1 (nextC b L k).2.2) else ([], (nextC b L k).2.1)
/-- The events that bytes are, and the error. -/
def readL (cyc cnt : Nat) (L : List UInt8) : List Ev × Int := readGo L L.length ⟨0, cyc, cnt, 0, 0, 0⟩ 0

theorem read_err {L : List UInt8} {f : Nat} {b : Ev} {k : Nat} (h : (readGo L f b k).2 ≠ 0) : (readGo L f b k).1 = [] := by
  cases f with
  | zero => exact absurd rfl h
  | succ f =>
    unfold readGo at h ⊢
    split
    · rfl
    · rename_i h0
      rw [if_neg h0] at h
      split
      · rename_i h1
        rw [if_pos h1] at h
        unfold joinP at h ⊢
        split
        · rename_i h2; rw [if_pos h2] at h; exact absurd rfl h
        · rfl
      · rfl
theorem read_start (cyc cnt : Nat) (L : List UInt8) : readL cyc cnt L = joinP [] (readGo L L.length ⟨0, cyc, cnt, 0, 0, 0⟩ 0) := by
  rw [joinP_nil read_err]; rfl

/-- The state of a reading: so much is read, from k on so much is to come. -/
def ReadAt (R : List Ev × Int) (L : List UInt8) (acc : List Ev) (b : Ev) (k : Nat) : Prop := k ≤ L.length ∧ ∃ f, L.length ≤ k + f ∧ R = joinP acc (readGo L f b k)
theorem read_init (cyc cnt : Nat) (L : List UInt8) : ReadAt (readL cyc cnt L) L [] ⟨0, cyc, cnt, 0, 0, 0⟩ 0 := ⟨by omega, L.length, by omega, read_start cyc cnt L⟩
theorem read_bad {R : List Ev × Int} {L : List UInt8} {acc : List Ev} {b : Ev} {k : Nat} (h : ReadAt R L acc b k) (hk : k < L.length) (hp : (nextC b L k).2.1 ≠ 0) : R = ([], (nextC b L k).2.1) := by
  obtain ⟨_, f, hf, h⟩ := h
  cases f with
  | zero => omega
  | succ f => rw [h, readGo, if_neg (by omega), if_neg hp, joinP_err _ _ _ hp]
theorem read_end {R : List Ev × Int} {L : List UInt8} {acc : List Ev} {b : Ev} {k : Nat} (h : ReadAt R L acc b k) (hk : ¬ k < L.length) : R = (acc, 0) := by
  obtain ⟨_, f, hf, h⟩ := h
  rw [h]
  cases f with
  | zero => rw [readGo, joinP_ok, List.append_nil]
  | succ f => rw [readGo, if_pos (by omega), joinP_ok, List.append_nil]

/-! ### Numbers, there and back -/

theorem lebScan_inv : ∀ (l : List UInt8) (k a n m : Nat), lebScan k a l = (n, 0, m) →
    ∃ x, n = a + 128 ^ k * x ∧ m = k + (lebL x).length ∧ l = lebL x ++ l.drop (lebL x).length ∧ (0 < k → x ≠ 0)
  | [], k, a, n, m, h => by simp [lebScan] at h
  | c :: l, k, a, n, m, h => by
    simp only [lebScan] at h
    split at h
    · simp at h
    · rename_i hb
      split at h
      · rename_i hl
        simp only [Prod.mk.injEq] at h
        have e : UInt8.ofNat c.toNat = c := UInt8.ofNat_toNat
        refine ⟨c.toNat, ?_, ?_, ?_, ?_⟩
        · rw [← h.1, Nat.mod_eq_of_lt hl]
        · rw [lebL_lt hl]; simp; omega
        · rw [lebL_lt hl, e]; simp
        · intro h0 hc
          simp [lebBad] at hb
          have := hb.1 hc
          omega
      · rename_i hl
        obtain ⟨x, h1, h2, h3, h4⟩ := lebScan_inv l _ _ _ _ h
        have hx := h4 (by omega)
        have hc := c.toNat_lt
        have hge : 128 ≤ c.toNat % 128 + 128 * x := by omega
        have hL := lebL_ge hge
        rw [show (c.toNat % 128 + 128 * x) % 128 + 128 = c.toNat by omega, show (c.toNat % 128 + 128 * x) / 128 = x by omega, UInt8.ofNat_toNat] at hL
        refine ⟨c.toNat % 128 + 128 * x, ?_, ?_, ?_, fun _ => by omega⟩
        · rw [h1, Nat.pow_succ, Nat.mul_add, Nat.mul_assoc]; omega
        · rw [h2, hL]; simp; omega
        · rw [hL]; simp only [List.length_cons, List.drop_succ_cons, List.cons_append]; rw [← h3]
theorem lebGet_inv {l : List UInt8} {n m : Nat} (h : lebGet l = (n, 0, m)) : m = (lebL n).length ∧ l = lebL n ++ l.drop m := by
  unfold lebGet lebAt at h
  obtain ⟨x, h1, h2, h3, _⟩ := lebScan_inv _ _ _ _ _ h
  rw [List.take_zero, val] at h1
  obtain rfl : n = x := by omega
  have hm : m = (lebL n).length := by omega
  rw [List.drop_zero] at h3
  rw [hm]
  exact ⟨rfl, h3⟩

theorem num_put {L rest : List UInt8} {has : Bool} {k n : Nat} (h : L.drop k = optL has n ++ rest) (hn : n ≤ 4294967295) (h0 : has = false → n = 0) :
    numS L has k 0 = (n, k + (optL has n).length, 0) ∧ L.drop (k + (optL has n).length) = rest := by
  refine ⟨?_, ?_⟩
  · cases has with
    | false => simp [numS, optL, h0 rfl]
    | true =>
      simp only [numS, optL, if_true, and_self] at h ⊢
      have : lebMost (L.drop k) 4294967295 = (n, 0, (lebL n).length) := by
        unfold lebMost
        rw [h, lebGet_put n rest (by omega)]
        simp; omega
      rw [this]
  · rw [← List.drop_drop, h, List.drop_left]

theorem num_get {L : List UInt8} {has : Bool} {k n k' : Nat} (h : numS L has k 0 = (n, k', 0)) :
    L.drop k = optL has n ++ L.drop k' ∧ n ≤ 4294967295 ∧ (has = false → n = 0) ∧ k' = k + (optL has n).length := by
  cases has with
  | false =>
    simp [numS] at h
    obtain ⟨rfl, rfl⟩ := h
    simp [optL]
  | true =>
    simp only [numS, optL, if_true, and_self] at h ⊢
    unfold lebMost at h
    split at h
    · simp at h
    · rename_i hc
      simp only [Prod.mk.injEq] at h
      obtain ⟨e1, e2, e3⟩ := h
      have hg : lebGet (L.drop k) = (n, 0, (lebGet (L.drop k)).2.2) := Prod.ext e1 (Prod.ext e3 rfl)
      obtain ⟨h1, h2⟩ := lebGet_inv hg
      have hn : n ≤ 4294967295 := by
        rcases Nat.lt_or_ge 4294967295 n with h | h
        · exact absurd ⟨e3, by rw [e1]; exact h⟩ hc
        · exact h
      have hk : k' = k + (lebL n).length := by omega
      refine ⟨?_, hn, by simp, hk⟩
      rw [hk, ← List.drop_drop, ← h1]
      exact h2

theorem numS_err {L : List UInt8} {has : Bool} {k err : Nat} (h : err ≠ 0) : numS L has k err = (0, k, err) := by
  unfold numS; rw [if_neg (fun x => h x.2)]
theorem numS_no {L : List UInt8} {k err : Nat} : numS L false k err = (0, k, err) := by
  unfold numS; rw [if_neg (fun x => by simp at x)]
theorem numS_yes {L : List UInt8} {k : Nat} : numS L true k 0 = ((lebMost (L.drop k) 4294967295).1, k + (lebMost (L.drop k) 4294967295).2.2, (lebMost (L.drop k) 4294967295).2.1) := by
  unfold numS; rw [if_pos ⟨rfl, rfl⟩]

theorem lebMost_lt (l : List UInt8) : (lebMost l 4294967295).1 ≤ 4294967295 := by
  unfold lebMost
  split
  · simp
  · rename_i h
    by_cases h0 : (lebGet l).2.1 = 0
    · rcases Nat.lt_or_ge 4294967295 (lebGet l).1 with h1 | h1
      · exact absurd ⟨h0, h1⟩ h
      · exact h1
    · have := (lebScan_err _ _ _ h0).1
      have e : (lebGet l).1 = 0 := this
      omega
theorem lebMost_room (l : List UInt8) : (lebMost l 4294967295).2.2 ≤ l.length := by
  unfold lebMost
  split
  · simp
  · have := lebScan_room l 0 (val (l.take 0))
    simpa [lebGet, lebAt] using this
theorem lebMost_code (l : List UInt8) : (lebMost l 4294967295).2.1 ≤ 5 := by
  unfold lebMost
  split
  · simp
  · have := lebScan_code l 0 (val (l.take 0))
    have e : (lebGet l).2.1 ≤ 3 := by simpa [lebGet, lebAt] using this
    omega
theorem numS_lt (L : List UInt8) (has : Bool) (k err : Nat) : (numS L has k err).1 ≤ 4294967295 := by
  unfold numS; split
  · exact lebMost_lt _
  · simp
theorem numS_room {L : List UInt8} {has : Bool} {k err : Nat} (h : k ≤ L.length) : k ≤ (numS L has k err).2.1 ∧ (numS L has k err).2.1 ≤ L.length := by
  unfold numS; split
  · have := lebMost_room (L.drop k)
    rw [List.length_drop] at this
    simp only
    omega
  · exact ⟨Nat.le_refl _, h⟩
theorem numS_code {L : List UInt8} {has : Bool} {k err : Nat} (h : err ≤ 5) : (numS L has k err).2.2 ≤ 5 := by
  unfold numS; split
  · exact lebMost_code _
  · exact h

theorem nst_lt (L : List UInt8) (kind : Int) (k i : Nat) : (nst L kind k i).1 ≤ 4294967295 := by
  cases i with
  | zero => simp [nst]
  | succ i => exact numS_lt _ _ _ _
theorem nst_room (L : List UInt8) (kind : Int) (k : Nat) (h : k ≤ L.length) : ∀ i, k ≤ (nst L kind k i).2.1 ∧ (nst L kind k i).2.1 ≤ L.length
  | 0 => ⟨Nat.le_refl _, h⟩
  | i + 1 => by
    have ih := nst_room L kind k h i
    have := numS_room (has := flag kind i) (err := (nst L kind k i).2.2) ih.2
    simp only [nst]
    omega
theorem nst_code (L : List UInt8) (kind : Int) (k : Nat) : ∀ i, (nst L kind k i).2.2 ≤ 5
  | 0 => by simp [nst]
  | i + 1 => numS_code (nst_code L kind k i)
theorem nst_succ (L : List UInt8) (kind : Int) (k i : Nat) : nst L kind k (i + 1) = numS L (flag kind i) (nst L kind k i).2.1 (nst L kind k i).2.2 := rfl
/-- An error stays. -/
theorem nst_err {L : List UInt8} {kind : Int} {k i : Nat} (h : (nst L kind k i).2.2 ≠ 0) : ∀ d, (nst L kind k (i + d)).2.2 = (nst L kind k i).2.2
  | 0 => rfl
  | d + 1 => by
    have ih := nst_err h d
    rw [show i + (d + 1) = (i + d) + 1 from rfl, nst_succ, numS_err (by rw [ih]; exact h), ih]
theorem nst_noerr {L : List UInt8} {kind : Int} {k j : Nat} (h : (nst L kind k j).2.2 = 0) (i : Nat) (hi : i ≤ j) : (nst L kind k i).2.2 = 0 := by
  rcases Nat.eq_zero_or_pos (nst L kind k i).2.2 with h0 | h0
  · exact h0
  · have := nst_err (L := L) (kind := kind) (k := k) (i := i) (by omega) (j - i)
    rw [show i + (j - i) = j by omega] at this
    omega

theorem nextC_room {b : Ev} {L : List UInt8} {k : Nat} (hk : k < L.length) (h : (nextC b L k).2.1 = 0) : k < (nextC b L k).2.2 ∧ (nextC b L k).2.2 ≤ L.length := by
  have hr := nst_room L (kindAt L k) (k + 1) (by omega) 5
  unfold nextC at h ⊢
  split
  · rename_i h0; rw [if_pos h0] at h; cases h
  · rename_i h0
    rw [if_neg h0] at h
    split
    · rename_i h1
      rw [if_pos h1] at h
      simp only at h
      omega
    · rename_i h1
      rw [if_neg h1] at h
      split
      · exact ⟨by simp only; omega, by simp only; omega⟩
      · rename_i h2; rw [if_neg h2] at h; cases h
theorem read_go {R : List Ev × Int} {L : List UInt8} {acc : List Ev} {b : Ev} {k : Nat} (h : ReadAt R L acc b k) (hk : k < L.length) (hp : (nextC b L k).2.1 = 0) : ReadAt R L (acc ++ [(nextC b L k).1]) (nextC b L k).1 (nextC b L k).2.2 := by
  have hr := nextC_room hk hp
  obtain ⟨_, f, hf, h⟩ := h
  cases f with
  | zero => omega
  | succ f => exact ⟨hr.2, f, by omega, by rw [h, readGo, if_neg (by omega), if_pos hp, joinP_join]⟩

/-- An event that is read fits. -/
theorem nextC_fits {b : Ev} {L : List UInt8} {k : Nat} (h : (nextC b L k).2.1 = 0) :
    (nextC b L k).1.cyc < 18446744073709551616 ∧ (nextC b L k).1.cnt < 18446744073709551616 ∧ (nextC b L k).1.a < 4294967296 ∧ (nextC b L k).1.b < 4294967296 ∧ (nextC b L k).1.v < 4294967296 ∧
    0 ≤ (nextC b L k).1.kind ∧ (nextC b L k).1.kind ≤ 255 := by
  unfold nextC at h ⊢
  split
  · rename_i h0; rw [if_pos h0] at h; cases h
  · rename_i h0
    rw [if_neg h0] at h
    split
    · rename_i h1
      rw [if_pos h1] at h
      simp only at h
      omega
    · rename_i h1
      rw [if_neg h1] at h
      split
      · rename_i h2
        have f := of_decide_eq_true h2.1
        have h3 := nst_lt L (kindAt L k) (k + 1) 3
        have h4 := nst_lt L (kindAt L k) (k + 1) 4
        have h5 := nst_lt L (kindAt L k) (k + 1) 5
        have hb := (L.getD k 0).toNat_lt
        simp only [nextE]
        unfold kindAt at *
        refine ⟨by omega, by omega, by omega, by omega, by omega, by omega, by omega⟩
      · rename_i h2; rw [if_neg h2] at h; cases h

/-! ### There and back -/

theorem drop_head {L r : List UInt8} {k : Nat} {c : UInt8} (h : L.drop k = c :: r) : k < L.length ∧ L.getD k 0 = c ∧ L.drop (k + 1) = r := by
  have hk : k < L.length := by
    rcases Nat.lt_or_ge k L.length with h' | h'
    · exact h'
    · rw [List.drop_eq_nil_of_le h'] at h; cases h
  rw [List.drop_eq_getElem_cons hk] at h
  simp only [List.cons.injEq] at h
  refine ⟨hk, ?_, h.2⟩
  rw [List.getD_eq_getElem?_getD, List.getElem?_eq_getElem hk]
  exact h.1

theorem putE_zero {b e : Ev} (h : putE b e = 0) : checkN e = 0 ∧ told b e = true := by
  unfold putE at h
  split at h
  · rename_i hc
    split at h
    · rename_i ht; exact ⟨hc, ht⟩
    · cases h
  · cases h

theorem optL_true (n : Nat) : optL true n = lebL n := by simp [optL]

/-- An event's bytes are read as the event. -/
theorem next_back {b e : Ev} {L rest : List UInt8} {k : Nat} (hp : putE b e = 0) (f : Fine e) (h : L.drop k = evBytes b e ++ rest) :
    nextC b L k = (e, 0, k + (evBytes b e).length) := by
  obtain ⟨hc, ht⟩ := putE_zero hp
  obtain ⟨t1, t2, t3, t4⟩ := told_fold ht
  have k1 := f.k1
  have k2 := f.k2
  unfold evBytes at h
  rw [List.cons_append] at h
  obtain ⟨hk, hkind, hd⟩ := drop_head h
  have hkd : kindAt L k = e.kind := by
    unfold kindAt; rw [hkind]; simp; omega
  rw [List.append_assoc, List.append_assoc, List.append_assoc, List.append_assoc] at hd
  obtain ⟨s1, d1⟩ := num_put (has := true) (by rw [optL_true]; exact hd) t1 (by simp)
  obtain ⟨s2, d2⟩ := num_put (has := true) (by rw [optL_true]; exact d1) t2 (by simp)
  obtain ⟨s3, d3⟩ := num_put d2 (by have := f.a; omega) f.za
  obtain ⟨s4, d4⟩ := num_put d3 (by have := f.b; omega) f.zb
  obtain ⟨s5, d5⟩ := num_put d4 (by have := f.v; omega) f.zv
  have q1 := (nst_succ L e.kind (k + 1) 0).trans s1
  have q2 := nst_succ L e.kind (k + 1) 1
  rw [q1] at q2
  replace q2 := q2.trans s2
  have q3 := nst_succ L e.kind (k + 1) 2
  rw [q2] at q3
  replace q3 := q3.trans s3
  have q4 := nst_succ L e.kind (k + 1) 3
  rw [q3] at q4
  replace q4 := q4.trans s4
  have q5 := nst_succ L e.kind (k + 1) 4
  rw [q4] at q5
  replace q5 := q5.trans s5
  simp only [Nat.zero_add, Nat.reduceAdd] at q1 q2 q3 q4 q5
  have hu : unfold' (foldN b e) = driftZ b e := unfold_fold _
  have hg : growZ L e.kind (k + 1) = ((e.cyc - b.cyc : Nat) : Int) := by
    unfold growZ
    rw [q1, q2]
    simp only
    rw [hu]
    unfold stepN driftZ
    omega
  have hE : nextE b L e.kind (k + 1) = e := by
    unfold nextE
    rw [hg, q1, q3, q4, q5]
    simp only
    unfold stepN
    obtain ⟨kind, cyc, cnt, a, bb, v⟩ := e
    simp only at *
    congr 1 <;> omega
  have hF : fwdOk b L e.kind (k + 1) = true := by
    unfold fwdOk
    rw [hg, q1]
    refine decide_eq_true ?_
    simp only
    have := f.cnt
    have := f.cyc
    unfold stepN
    omega
  unfold nextC
  rw [hkd, if_neg (by simp [knownB, k1, k2]), if_neg (by rw [q5]; simp), if_pos ⟨hF, by rw [hE]; exact hc⟩, hE, q5]
  refine Prod.ext rfl (Prod.ext rfl ?_)
  simp only [evBytes, List.length_cons, List.length_append, optL_true]
  omega

/-- Bytes that are read as an event are its bytes. -/
theorem next_one {b e : Ev} {L : List UInt8} {k k' : Nat} (hk : k < L.length) (h : nextC b L k = (e, 0, k')) : L.drop k = evBytes b e ++ L.drop k' ∧ putE b e = 0 := by
  unfold nextC at h
  split at h
  · cases h
  · rename_i h0
    split at h
    · rename_i h1
      simp only [Prod.mk.injEq] at h
      omega
    · rename_i h1
      split at h
      · rename_i h2
        simp only [Prod.mk.injEq] at h
        obtain ⟨he, _, hk'⟩ := h
        obtain ⟨hF, hC⟩ := h2
        rw [he] at hC
        have hkd : e.kind = kindAt L k := by rw [← he]; rfl
        have hkn : (e.kind.toNat : Int) = ((L.getD k 0).toNat : Nat) := by rw [hkd]; unfold kindAt; simp
        generalize kindAt L k = kd at *
        subst hkd
        have e5 : (nst L e.kind (k + 1) 5).2.2 = 0 := by omega
        have r : ∀ i, i ≤ 5 → (nst L e.kind (k + 1) i).2.2 = 0 := fun i hi => nst_noerr e5 i hi
        have n1 := num_get (L := L) (has := true) (k := k + 1) (n := (nst L e.kind (k + 1) 1).1) (k' := (nst L e.kind (k + 1) 1).2.1) (Prod.ext rfl (Prod.ext rfl (r 1 (by omega))))
        have step : ∀ i, i < 5 → numS L (flag e.kind i) (nst L e.kind (k + 1) i).2.1 0 = ((nst L e.kind (k + 1) (i + 1)).1, (nst L e.kind (k + 1) (i + 1)).2.1, 0) := by
          intro i hi
          have a := r i (by omega)
          have c := r (i + 1) (by omega)
          have : nst L e.kind (k + 1) (i + 1) = numS L (flag e.kind i) (nst L e.kind (k + 1) i).2.1 0 := by rw [← a]; rfl
          rw [← this]
          exact Prod.ext rfl (Prod.ext rfl c)
        have n2 := num_get (step 1 (by omega))
        have n3 := num_get (step 2 (by omega))
        have n4 := num_get (step 3 (by omega))
        have n5 := num_get (step 4 (by omega))
        have f := of_decide_eq_true hF
        have hs : stepN b e = (nst L e.kind (k + 1) 1).1 := by
          have : e.cnt = b.cnt + (nst L e.kind (k + 1) 1).1 := (congrArg Ev.cnt he).symm
          unfold stepN; omega
        have hcyc : (e.cyc : Int) = (b.cyc : Int) + growZ L e.kind (k + 1) := by
          have : e.cyc = ((b.cyc : Int) + growZ L e.kind (k + 1)).toNat := (congrArg Ev.cyc he).symm
          omega
        have hcnt : e.cnt = b.cnt + (nst L e.kind (k + 1) 1).1 := (congrArg Ev.cnt he).symm
        have hd : driftZ b e = unfold' (nst L e.kind (k + 1) 2).1 := by
          have hg : growZ L e.kind (k + 1) = ((nst L e.kind (k + 1) 1).1 : Int) + unfold' (nst L e.kind (k + 1) 2).1 := rfl
          have f0 := f.1
          unfold driftZ
          omega
        have hf : foldN b e = (nst L e.kind (k + 1) 2).1 := by
          unfold foldN; rw [hd, fold_unfold]; simp
        have ha : e.a = (nst L e.kind (k + 1) 3).1 := (congrArg Ev.a he).symm
        have hb : e.b = (nst L e.kind (k + 1) 4).1 := (congrArg Ev.b he).symm
        have hv : e.v = (nst L e.kind (k + 1) 5).1 := (congrArg Ev.v he).symm
        have hdr : -2147483648 ≤ driftZ b e ∧ driftZ b e ≤ 2147483647 := by
          have hlt : (nst L e.kind (k + 1) 2).1 ≤ 4294967295 := n2.2.1
          clear n1 n2 n3 n4 n5 step r f
          rw [hd]
          generalize (nst L e.kind (k + 1) 2).1 = nn at *
          unfold unfold'
          split <;> omega
        refine ⟨?_, ?_⟩
        · rw [List.drop_eq_getElem_cons hk]
          have hbyte : L[k] = UInt8.ofNat e.kind.toNat := by
            have e1 : L.getD k 0 = L[k] := by rw [List.getD_eq_getElem?_getD, List.getElem?_eq_getElem hk]; rfl
            rw [e1] at hkn
            have : e.kind.toNat = L[k].toNat := by omega
            rw [this, UInt8.ofNat_toNat]
          unfold evBytes
          rw [List.cons_append, hbyte, List.append_assoc, List.append_assoc, List.append_assoc, List.append_assoc, hs, hf, ha, hb, hv, ← hk']
          congr 1
          rw [n1.1, optL_true, n2.1, n3.1, n4.1, n5.1]
          rfl
        · unfold putE
          rw [if_pos hC, if_pos]
          unfold told
          refine decide_eq_true ⟨by omega, ?_, ?_, hdr.1, hdr.2⟩
          · have f0 := f.1; omega
          · have := n1.2.1; unfold stepN at hs; omega
      · cases h

/-- What is printed is read. -/
theorem read_back : ∀ (l : List Ev) (b : Ev) (L rest : List UInt8) (k f : Nat), (∀ e ∈ l, Fine e) → (coilGo b l).2 = 0 → L.drop k = (coilGo b l).1 → k ≤ L.length → L.length ≤ k + f → readGo L f b k = (l, 0)
  | [], b, L, rest, k, f, _, _, h, hk, hf => by
    have : L.length ≤ k := by
      have := congrArg List.length h
      simp [coilGo] at this
      omega
    cases f with
    | zero => rfl
    | succ f => rw [readGo, if_pos this]
  | e :: l, b, L, rest, k, f, hfine, h0, h, hk, hf => by
    unfold coilGo at h0 h
    split at h0
    · rename_i hp
      rw [if_pos hp] at h
      obtain ⟨h1, h2⟩ := joinP_zero h0
      rw [h2] at h
      simp only at h
      have hn := next_back hp (hfine e (by simp)) h
      have hlen := congrArg List.length h
      have hpos : 0 < (evBytes b e).length := by simp [evBytes]
      rw [List.length_drop, List.length_append] at hlen
      cases f with
      | zero => omega
      | succ f =>
        rw [readGo, if_neg (by omega), hn]
        simp only
        rw [if_pos trivial, read_back l e L rest _ f (fun x hx => hfine x (by simp [hx])) h1 (by rw [← List.drop_drop, h, List.drop_left]) (by omega) (by omega)]
        rfl
    · rename_i hp; exact absurd h0 hp

/-- Bytes that are read are printed. -/
theorem read_one : ∀ (f : Nat) (b : Ev) (L : List UInt8) (k : Nat) (l : List Ev), k ≤ L.length → L.length ≤ k + f → readGo L f b k = (l, 0) → coilGo b l = (L.drop k, 0)
  | 0, b, L, k, l, hk, hf, h => by
    simp [readGo] at h
    subst h
    rw [List.drop_eq_nil_of_le (by omega)]; rfl
  | f + 1, b, L, k, l, hk, hf, h => by
    unfold readGo at h
    split at h
    · simp only [Prod.mk.injEq] at h
      rw [← h.1, List.drop_eq_nil_of_le (by omega)]; rfl
    · rename_i hlt
      split at h
      · rename_i h0
        obtain ⟨h1, h2⟩ := joinP_zero (by rw [h])
        rw [h] at h2
        simp only [Prod.mk.injEq, and_true] at h2
        have hr := nextC_room (by omega) h0
        obtain ⟨q1, q2⟩ := next_one (b := b) (e := (nextC b L k).1) (k' := (nextC b L k).2.2) (by omega) (Prod.ext rfl (Prod.ext h0 rfl))
        have ih := read_one f (nextC b L k).1 L (nextC b L k).2.2 (readGo L f (nextC b L k).1 (nextC b L k).2.2).1 hr.2 (by omega) (Prod.ext rfl h1)
        rw [h2, List.singleton_append, coilGo, if_pos q2, ih, joinP_ok, q1]
      · rename_i h0
        simp only [Prod.mk.injEq] at h
        exact absurd h.2 h0

/-- Of the one ahead only the stamps play a part. -/
theorem go_stamps {b b' : Ev} (h1 : b.cnt = b'.cnt) (h2 : b.cyc = b'.cyc) (l : List Ev) : coilGo b l = coilGo b' l := by
  cases l with
  | nil => rfl
  | cons e l =>
    have hs : stepN b e = stepN b' e := by unfold stepN; rw [h1]
    have hd : driftZ b e = driftZ b' e := by unfold driftZ; rw [h1, h2]
    have ht : told b e = told b' e := by unfold told; rw [hd, h1, h2]
    have hp : putE b e = putE b' e := by unfold putE; rw [ht]
    have hb : evBytes b e = evBytes b' e := by unfold evBytes foldN; rw [hs, hd]
    unfold coilGo
    rw [hp, hb]
theorem next_stamps {b b' : Ev} (h1 : b.cnt = b'.cnt) (h2 : b.cyc = b'.cyc) (L : List UInt8) (k : Nat) : nextC b L k = nextC b' L k := by
  unfold nextC fwdOk nextE
  rw [h1, h2]

end Go.Proofs.YtobioiicbdhboaaDoor
