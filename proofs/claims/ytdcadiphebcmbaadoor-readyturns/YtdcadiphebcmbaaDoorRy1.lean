/-
  The mathematics of the ready queues, further: tasks chained to rings, linked and unlinked; what the words and chains hold, held against rows of tasks level by level; what each call does to the rows. No condition.
-/
import Derived.Test.YtdcadiphebcmbaaDoorRy0
import Derived.Lib.TrailingZeros
namespace Go.Proofs.YtdcadiphebcmbaaDoor
set_option linter.unusedVariables false

/-! ### Rings -/
def Ln (R : Nat → Nat → Prop) : List Nat → Prop
  | x :: y :: r => R x y ∧ Ln R (y :: r)
  | _ => True

theorem Ln.split (R : Nat → Nat → Prop) : ∀ (A : List Nat) (y : Nat) (B : List Nat), Ln R (A ++ y :: B) ↔ Ln R (A ++ [y]) ∧ Ln R (y :: B)
  | [], y, B => by simp [Ln]
  | [a], y, B => by simp [Ln]
  | a :: a' :: A, y, B => by
    have h := Ln.split R (a' :: A) y B
    have e1 : Ln R ((a :: a' :: A) ++ y :: B) ↔ R a a' ∧ Ln R ((a' :: A) ++ y :: B) := Iff.rfl
    have e2 : Ln R ((a :: a' :: A) ++ [y]) ↔ R a a' ∧ Ln R ((a' :: A) ++ [y]) := Iff.rfl
    rw [e1, e2, h, and_assoc]

theorem Ln.imp2 {R R' : Nat → Nat → Prop} : ∀ (rest : List Nat) (m : Nat), Ln R (m :: rest) → (∀ x ∈ (m :: rest).dropLast, ∀ y ∈ rest, R x y → R' x y) → Ln R' (m :: rest)
  | [], m, _, _ => trivial
  | y :: rest, m, h, hi => by
    refine ⟨hi m (by simp) y (by simp) h.1, Ln.imp2 rest y h.2 fun x hx z hz => hi x ?_ z (List.mem_cons_of_mem _ hz)⟩
    rw [List.dropLast_cons_of_ne_nil (by simp)]
    exact List.mem_cons_of_mem _ hx

theorem dropLast_mem {x : Nat} {l : List Nat} (h : x ∈ l.dropLast) : x ∈ l := List.dropLast_subset _ h
theorem Ln.imp {R R' : Nat → Nat → Prop} : ∀ (l : List Nat), Ln R l → (∀ x ∈ l, ∀ y ∈ l, R x y → R' x y) → Ln R' l
  | [], _, _ => trivial
  | m :: rest, h, hi => Ln.imp2 rest m h fun x hx y hy => hi x (dropLast_mem hx) y (List.mem_cons_of_mem _ hy)

/-- Each is followed by the next one, and the last one by the first. -/
def Ring (R : Nat → Nat → Prop) (L : List Nat) : Prop := Ln R (L ++ L.take 1)

theorem Ring.rot (R : Nat → Nat → Prop) : ∀ (A B : List Nat), Ring R (A ++ B) ↔ Ring R (B ++ A)
  | [], B => by simp
  | A, [] => by simp
  | a :: A, b :: B => by
    have h1 : Ring R (a :: A ++ b :: B) ↔ Ln R ((a :: A) ++ b :: (B ++ [a])) := by simp [Ring]
    have h2 : Ring R (b :: B ++ a :: A) ↔ Ln R ((b :: B) ++ a :: (A ++ [b])) := by simp [Ring]
    have h3 := Ln.split R (a :: A) b (B ++ [a])
    have h4 := Ln.split R (b :: B) a (A ++ [b])
    rw [h1, h2, h3, h4, and_comm]
    rfl

theorem Ring.imp {R R' : Nat → Nat → Prop} {L : List Nat} (h : Ring R L) (hi : ∀ x ∈ L, ∀ y ∈ L, R x y → R' x y) : Ring R' L := by
  refine Ln.imp _ h fun x hx y hy => hi x ?_ y ?_
  · rcases List.mem_append.1 hx with h | h
    · exact h
    · exact List.mem_of_mem_take h
  · rcases List.mem_append.1 hy with h | h
    · exact h
    · exact List.mem_of_mem_take h

theorem Ring.closed {R : Nat → Nat → Prop} {m z : Nat} {rest init : List Nat} (e : m :: rest = init ++ [z]) : Ring R (m :: rest) ↔ Ln R (m :: rest) ∧ R z m := by
  have h1 : Ring R (m :: rest) ↔ Ln R (init ++ z :: [m]) := by
    have : (m :: rest) ++ (m :: rest).take 1 = init ++ z :: [m] := by
      rw [show (m :: rest).take 1 = [m] by rfl, e]; simp
    unfold Ring; rw [this]
  rw [h1, Ln.split, ← e]
  simp [Ln]
theorem Ring.front {R : Nat → Nat → Prop} {t m z : Nat} {rest init : List Nat} (e : m :: rest = init ++ [z]) : Ring R (t :: m :: rest) ↔ R t m ∧ Ln R (m :: rest) ∧ R z t := by
  have h1 : Ring R (t :: m :: rest) ↔ R t m ∧ Ln R (init ++ z :: [t]) := by
    have : (t :: m :: rest) ++ (t :: m :: rest).take 1 = t :: ((m :: rest) ++ [t]) := by simp
    have e2 : Ring R (t :: m :: rest) ↔ R t m ∧ Ln R ((m :: rest) ++ [t]) := by
      unfold Ring; rw [this]; exact Iff.rfl
    rw [e2, e]; simp
  rw [h1, Ln.split, ← e]
  simp [Ln]
theorem ends (m : Nat) (rest : List Nat) : ∃ init z, m :: rest = init ++ [z] := ⟨(m :: rest).dropLast, (m :: rest).getLast (by simp), (List.dropLast_concat_getLast (by simp)).symm⟩
theorem not_last {m z : Nat} {rest init : List Nat} (e : m :: rest = init ++ [z]) (nd : (m :: rest).Nodup) : ∀ x ∈ (m :: rest).dropLast, x ≠ z := by
  intro x hx hz
  rw [e] at hx nd
  rw [List.dropLast_concat] at hx
  subst hz
  rw [List.nodup_append] at nd
  exact nd.2.2 x hx x (by simp) rfl

/-! ### The code's queues in plain numbers -/
def up (f : Nat → Nat) (i v : Nat) : Nat → Nat := fun k => if k = i then v else f k
theorem up_same (f : Nat → Nat) (i v : Nat) : up f i v i = v := if_pos rfl
theorem up_other (f : Nat → Nat) {i k : Nat} (v : Nat) (h : k ≠ i) : up f i v k = f k := if_neg h

/-- The words of bits, the fronts, and of each task its level and those next to it. -/
structure QSt where
  S : Nat
  F : Nat
  fr : Nat → Nat
  lv : Nat → Nat
  ah : Nat → Nat
  bh : Nat → Nat
def QSt.R (s : QSt) (x y : Nat) : Prop := s.bh x = y ∧ s.ah y = x
def QSt.front (s : QSt) (t l : Nat) : Nat := if s.F.testBit l then s.fr l else t
def QSt.back (s : QSt) (t l : Nat) : Nat := if s.F.testBit l then s.ah (s.fr l) else t
def QSt.link (s : QSt) (t l : Nat) : QSt :=
  { S := bset s.S t, F := bset s.F l, fr := up s.fr l (s.front t l), lv := up s.lv t l,
    ah := up (up s.ah t (s.back t l)) (s.front t l) t, bh := up (up s.bh t (s.front t l)) (s.back t l) t }
def QSt.unlink (s : QSt) (t : Nat) : QSt :=
  { S := bclr s.S t, F := if s.bh t = t then bclr s.F (s.lv t) else s.F,
    fr := if s.bh t = t then s.fr else if s.fr (s.lv t) = t then up s.fr (s.lv t) (s.bh t) else s.fr, lv := s.lv,
    ah := up s.ah (s.bh t) (s.ah t), bh := up s.bh (s.ah t) (s.bh t) }

/-! ### Rows -/
abbrev Rws := Nat → List Nat
def setR (r : Rws) (l : Nat) (x : List Nat) : Rws := fun k => if k = l then x else r k
theorem setR_same (r : Rws) (l : Nat) (x : List Nat) : setR r l x l = x := if_pos rfl
theorem setR_other (r : Rws) {l k : Nat} (x : List Nat) (h : k ≠ l) : setR r l x k = r k := if_neg h

structure ROk (r : Rws) : Prop where
  lv : ∀ l, 32 ≤ l → r l = []
  tk : ∀ l t, t ∈ r l → t < 64
  nd : ∀ l, (r l).Nodup
  dj : ∀ l k t, t ∈ r l → t ∈ r k → l = k

structure Holds (s : QSt) (r : Rws) : Prop where
  s64 : s.S < 2 ^ 64
  f32 : s.F < 2 ^ 32
  st : ∀ t, s.S.testBit t = true ↔ ∃ l, t ∈ r l
  fl : ∀ l, s.F.testBit l = true ↔ r l ≠ []
  fr : ∀ l t rest, r l = t :: rest → s.fr l = t
  lv : ∀ l t, t ∈ r l → s.lv t = l
  rg : ∀ l, Ring s.R (r l)

def pushR (r : Rws) (l t : Nat) : Rws := setR r l (r l ++ [t])
def dropR (r : Rws) (l t : Nat) : Rws := setR r l ((r l).filter (· != t))

theorem ROk.push {r : Rws} (h : ROk r) {t l : Nat} (ht : t < 64) (hl : l < 32) (hn : ∀ k, t ∉ r k) : ROk (pushR r l t) := by
  have key : ∀ k x, x ∈ pushR r l t k → x ∈ r k ∨ (k = l ∧ x = t) := by
    intro k x hx
    by_cases hk : k = l
    · subst hk
      rw [pushR, setR_same] at hx
      rcases List.mem_append.1 hx with h | h
      · exact .inl h
      · exact .inr ⟨rfl, by simpa using h⟩
    · rw [pushR, setR_other _ _ hk] at hx; exact .inl hx
  refine ⟨fun k hk => ?_, fun k x hx => ?_, fun k => ?_, fun k k' x hx hx' => ?_⟩
  · rw [pushR, setR_other _ _ (by omega)]; exact h.lv k hk
  · rcases key k x hx with h1 | ⟨_, rfl⟩
    · exact h.tk k x h1
    · exact ht
  · by_cases hk : k = l
    · subst hk
      rw [pushR, setR_same, List.nodup_append]
      refine ⟨h.nd k, by simp, fun a ha b hb e => ?_⟩
      simp at hb; subst hb; subst e; exact hn k ha
    · rw [pushR, setR_other _ _ hk]; exact h.nd k
  · rcases key k x hx with h1 | ⟨rfl, rfl⟩ <;> rcases key k' x hx' with h2 | ⟨rfl, h2⟩
    · exact h.dj k k' x h1 h2
    · subst h2; exact absurd h1 (hn k)
    · exact absurd h2 (hn k')
    · rfl
theorem drop_mem {r : Rws} {l t k x : Nat} : x ∈ dropR r l t k ↔ x ∈ r k ∧ ¬ (k = l ∧ x = t) := by
  by_cases hk : k = l
  · subst hk; rw [dropR, setR_same]; simp
  · rw [dropR, setR_other _ _ hk]; simp [hk]
theorem ROk.drop {r : Rws} (h : ROk r) (l t : Nat) : ROk (dropR r l t) := by
  refine ⟨fun k hk => ?_, fun k x hx => h.tk k x (drop_mem.1 hx).1, fun k => ?_, fun k k' x hx hx' => h.dj k k' x (drop_mem.1 hx).1 (drop_mem.1 hx').1⟩
  · by_cases e : k = l
    · subst e; rw [dropR, setR_same, h.lv k hk]; rfl
    · rw [dropR, setR_other _ _ e]; exact h.lv k hk
  · by_cases e : k = l
    · subst e; rw [dropR, setR_same]; exact (h.nd k).filter _
    · rw [dropR, setR_other _ _ e]; exact h.nd k
theorem ROk.gone {r : Rws} (h : ROk r) {l t : Nat} (ht : t ∈ r l) : ∀ k, t ∉ dropR r l t k := by
  intro k hk
  obtain ⟨h1, h2⟩ := drop_mem.1 hk
  exact h2 ⟨h.dj k l t h1 ht, rfl⟩
theorem filter_out {A B : List Nat} {t : Nat} (nd : (A ++ t :: B).Nodup) : (A ++ t :: B).filter (· != t) = A ++ B := by
  rw [List.nodup_append] at nd
  obtain ⟨n1, n2, n3⟩ := nd
  rw [List.nodup_cons] at n2
  rw [List.filter_append, List.filter_cons, if_neg (by simp)]
  congr 1
  · exact List.filter_eq_self.2 fun a ha => by simp; exact n3 a ha t (by simp)
  · exact List.filter_eq_self.2 fun a ha => by simp; intro e; subst e; exact n2.1 ha

theorem QSt.front_is {s : QSt} {r : Rws} (h : Holds s r) {t l m : Nat} {rest : List Nat} (e : r l = m :: rest) : s.front t l = m := by
  unfold QSt.front; rw [if_pos ((h.fl l).2 (by rw [e]; simp)), h.fr l m rest e]
theorem QSt.back_is {s : QSt} {r : Rws} (h : Holds s r) {t l m z : Nat} {rest init : List Nat} (e : r l = m :: rest) (e2 : m :: rest = init ++ [z]) : s.back t l = z := by
  unfold QSt.back; rw [if_pos ((h.fl l).2 (by rw [e]; simp)), h.fr l m rest e]
  have := h.rg l
  rw [e, Ring.closed e2] at this
  exact this.2.2
theorem QSt.front_none {s : QSt} {r : Rws} (h : Holds s r) {t l : Nat} (e : r l = []) : s.front t l = t ∧ s.back t l = t := by
  have : ¬ (s.F.testBit l = true) := fun hf => (h.fl l).1 hf e
  unfold QSt.front QSt.back; rw [if_neg this, if_neg this]; exact ⟨rfl, rfl⟩

theorem Holds.link {s : QSt} {r : Rws} (h : Holds s r) (ok : ROk r) {t l : Nat} (ht : t < 64) (hl : l < 32) (hn : ∀ k, t ∉ r k) : Holds (s.link t l) (pushR r l t) := by
  have hk : ∀ k, k ≠ l → pushR r l t k = r k := fun k hk => by rw [pushR, setR_other _ _ hk]
  have hs : pushR r l t l = r l ++ [t] := by rw [pushR, setR_same]
  refine ⟨bset_lt h.s64 ht, bset_lt h.f32 hl, fun x => ?_, fun k => ?_, fun k x rest e => ?_, fun k x hx => ?_, fun k => ?_⟩
  · show (bset s.S t).testBit x = true ↔ _
    rw [bset_bit, Bool.or_eq_true, h.st, decide_eq_true_eq]
    constructor
    · rintro (⟨k, hx⟩ | rfl)
      · by_cases e : k = l
        · subst e; exact ⟨k, by rw [hs]; exact List.mem_append_left _ hx⟩
        · exact ⟨k, by rw [hk k e]; exact hx⟩
      · exact ⟨l, by rw [hs]; simp⟩
    · rintro ⟨k, hx⟩
      by_cases e : k = l
      · subst e
        rw [hs] at hx
        rcases List.mem_append.1 hx with h | h
        · exact .inl ⟨k, h⟩
        · exact .inr (by simp at h; exact h.symm)
      · rw [hk k e] at hx; exact .inl ⟨k, hx⟩
  · show (bset s.F l).testBit k = true ↔ _
    rw [bset_bit, Bool.or_eq_true, h.fl, decide_eq_true_eq]
    by_cases e : k = l
    · subst e; rw [hs]; simp
    · rw [hk k e]; simp [Ne.symm e]
  · show up s.fr l (s.front t l) k = x
    by_cases ek : k = l
    · subst ek
      rw [up_same]
      rw [hs] at e
      cases hr : r k with
      | nil => rw [hr] at e; simp at e; rw [(QSt.front_none h hr).1]; exact e.1
      | cons m rest' => rw [hr] at e; simp at e; rw [QSt.front_is h hr]; exact e.1
    · rw [up_other _ _ ek]; rw [hk k ek] at e; exact h.fr k x rest e
  · show up s.lv t l x = k
    by_cases e : k = l
    · subst e
      rw [hs] at hx
      rcases List.mem_append.1 hx with hx | hx
      · rw [up_other _ _ (show x ≠ t from fun e => hn k (e ▸ hx))]; exact h.lv k x hx
      · obtain rfl : x = t := by simpa using hx
        rw [up_same]
    · rw [hk k e] at hx
      rw [up_other _ _ (show x ≠ t from fun e => hn k (e ▸ hx))]; exact h.lv k x hx
  · by_cases e : k = l
    · subst e
      rw [hs]
      cases hr : r k with
      | nil =>
        obtain ⟨e1, e2⟩ := QSt.front_none h hr (t := t)
        show Ln _ [t, t]
        refine ⟨⟨?_, ?_⟩, trivial⟩
        · show up (up s.bh t (s.front t k)) (s.back t k) t t = t
          rw [e2, up_same]
        · show up (up s.ah t (s.back t k)) (s.front t k) t t = t
          rw [e1, up_same]
      | cons m rest =>
        obtain ⟨init, z, ez⟩ := ends m rest
        have e1 := QSt.front_is h hr (t := t)
        have e2 := QSt.back_is h hr ez (t := t)
        have nd := ok.nd k
        rw [hr] at nd
        have hg := h.rg k
        rw [hr, Ring.closed ez] at hg
        have hM : ∀ x ∈ m :: rest, x ≠ t := fun x hx e => hn k (by rw [hr]; exact e ▸ hx)
        have hzm : z ∈ m :: rest := by rw [ez]; simp
        have hzt := hM z hzm
        have hmt := hM m (by simp)
        rw [Ring.rot]
        show Ring _ (t :: m :: rest)
        rw [Ring.front ez]
        refine ⟨⟨?_, ?_⟩, ?_, ?_, ?_⟩
        · show up (up s.bh t (s.front t k)) (s.back t k) t t = m
          rw [e1, e2, up_other _ _ (Ne.symm hzt), up_same]
        · show up (up s.ah t (s.back t k)) (s.front t k) t m = t
          rw [e1, up_same]
        · refine Ln.imp2 _ _ hg.1 fun x hx y hy hxy => ⟨?_, ?_⟩
          · show up (up s.bh t (s.front t k)) (s.back t k) t x = y
            rw [e2, up_other _ _ (not_last ez nd x hx), up_other _ _ (hM x (dropLast_mem hx))]; exact hxy.1
          · show up (up s.ah t (s.back t k)) (s.front t k) t y = x
            rw [e1, up_other _ _ (show y ≠ m from fun e => (List.nodup_cons.1 nd).1 (e ▸ hy)), up_other _ _ (hM y (List.mem_cons_of_mem _ hy))]; exact hxy.2
        · show up (up s.bh t (s.front t k)) (s.back t k) t z = t
          rw [e2, up_same]
        · show up (up s.ah t (s.back t k)) (s.front t k) t t = z
          rw [e1, e2, up_other _ _ (Ne.symm hmt), up_same]
    · rw [hk k e]
      have hb : ∀ x ∈ r k, x ≠ s.front t l ∧ x ≠ s.back t l := by
        intro x hx
        cases hr : r l with
        | nil => rw [(QSt.front_none h hr).1, (QSt.front_none h hr).2]; exact ⟨fun e => hn k (e ▸ hx), fun e => hn k (e ▸ hx)⟩
        | cons m rest =>
          obtain ⟨init, z, ez⟩ := ends m rest
          rw [QSt.front_is h hr, QSt.back_is h hr ez]
          exact ⟨fun e1 => e (ok.dj k l x hx (by rw [hr, e1]; simp)), fun e1 => e (ok.dj k l x hx (by rw [hr, ez, e1]; simp))⟩
      have ht' : ∀ x ∈ r k, x ≠ t := fun x hx e => hn k (e ▸ hx)
      refine (h.rg k).imp fun x hx y hy hxy => ⟨?_, ?_⟩
      · show up (up s.bh t (s.front t l)) (s.back t l) t x = y
        rw [up_other _ _ (hb x hx).2, up_other _ _ (ht' x hx)]; exact hxy.1
      · show up (up s.ah t (s.back t l)) (s.front t l) t y = x
        rw [up_other _ _ (hb y hy).1, up_other _ _ (ht' y hy)]; exact hxy.2

theorem Holds.unlink {s : QSt} {r : Rws} (h : Holds s r) (ok : ROk r) {t l : Nat} (ht : t ∈ r l) : Holds (s.unlink t) (dropR r l t) := by
  have hk : ∀ k, k ≠ l → dropR r l t k = r k := fun k hk => by rw [dropR, setR_other _ _ hk]
  obtain ⟨A, B, hAB⟩ := List.append_of_mem ht
  have nd := ok.nd l
  rw [hAB] at nd
  have hs : dropR r l t l = A ++ B := by rw [dropR, setR_same, hAB, filter_out nd]
  have elv := h.lv l t ht
  have hg := h.rg l
  rw [hAB, Ring.rot] at hg
  have hg' : Ring s.R (t :: (B ++ A)) := hg
  have ndM : (t :: (B ++ A)).Nodup := by
    have : (A ++ t :: B).Perm (t :: (B ++ A)) := by
      have := List.perm_append_comm (l₁ := A) (l₂ := t :: B)
      exact this
    exact this.nodup_iff.1 nd
  -- what stands beside t
  have key : (B ++ A = [] ∧ s.bh t = t ∧ s.ah t = t) ∨ (∃ m rest init z, B ++ A = m :: rest ∧ m :: rest = init ++ [z] ∧ s.bh t = m ∧ s.ah t = z ∧ m ≠ t ∧ z ≠ t ∧ Ln s.R (m :: rest) ∧ (m :: rest).Nodup) := by
    cases hM : B ++ A with
    | nil =>
      rw [hM] at hg'
      have h2 : Ln s.R [t, t] := hg'
      exact .inl ⟨rfl, h2.1.1, h2.1.2⟩
    | cons m rest =>
      obtain ⟨init, z, ez⟩ := ends m rest
      rw [hM, Ring.front ez] at hg'
      rw [hM] at ndM
      obtain ⟨n1, n2⟩ := List.nodup_cons.1 ndM
      exact .inr ⟨m, rest, init, z, rfl, ez, hg'.1.1, hg'.2.2.2, fun e => n1 (by rw [e]; simp), fun e => n1 (by rw [ez, e]; simp), hg'.2.1, n2⟩
  have hmem : ∀ x, x ∈ B ++ A → x ∈ r l := by
    intro x hx; rw [hAB]
    rcases List.mem_append.1 hx with h | h
    · exact List.mem_append_right _ (List.mem_cons_of_mem _ h)
    · exact List.mem_append_left _ h
  refine ⟨bclr_lt h.s64, ?_, fun x => ?_, fun k => ?_, fun k x rest e => ?_, fun k x hx => h.lv k x (drop_mem.1 hx).1, fun k => ?_⟩
  · show (if s.bh t = t then bclr s.F (s.lv t) else s.F) < 2 ^ 32
    split
    · exact bclr_lt h.f32
    · exact h.f32
  · show (bclr s.S t).testBit x = true ↔ _
    rw [bclr_bit, Bool.and_eq_true, h.st, Bool.not_eq_true', decide_eq_false_iff_not]
    constructor
    · rintro ⟨⟨k, hx⟩, hne⟩
      exact ⟨k, drop_mem.2 ⟨hx, fun e => hne e.2.symm⟩⟩
    · rintro ⟨k, hx⟩
      obtain ⟨h1, h2⟩ := drop_mem.1 hx
      exact ⟨⟨k, h1⟩, fun e => h2 ⟨ok.dj k l x h1 (e ▸ ht), e.symm⟩⟩
  · show (if s.bh t = t then bclr s.F (s.lv t) else s.F).testBit k = true ↔ _
    rcases key with ⟨hM, hb, ha⟩ | ⟨m, rest, init, z, hM, ez, hb, ha, hmt, hzt, -, -⟩
    · rw [if_pos hb, elv, bclr_bit, Bool.and_eq_true, h.fl, Bool.not_eq_true', decide_eq_false_iff_not]
      by_cases e : k = l
      · subst e
        rw [hs]
        have : A ++ B = [] := by
          obtain ⟨h1, h2⟩ := List.append_eq_nil_iff.1 hM
          rw [h1, h2]; rfl
        rw [this]; simp
      · rw [hk k e]; simp [Ne.symm e]
    · rw [if_neg (by rw [hb]; exact hmt), h.fl]
      by_cases e : k = l
      · subst e
        rw [hs, hAB]
        have : A ++ B ≠ [] := by
          intro h0
          obtain ⟨h1, h2⟩ := List.append_eq_nil_iff.1 h0
          rw [h1, h2] at hM; cases hM
        simp [this]
      · rw [hk k e]
  · show (if s.bh t = t then s.fr else if s.fr (s.lv t) = t then up s.fr (s.lv t) (s.bh t) else s.fr) k = x
    rw [elv]
    rcases key with ⟨hM, hb, ha⟩ | ⟨m, rest', init, z, hM, ez, hb, ha, hmt, hzt, -, -⟩
    · rw [if_pos hb]
      by_cases ek : k = l
      · subst ek
        rw [hs] at e
        obtain ⟨h1, h2⟩ := List.append_eq_nil_iff.1 hM
        rw [h1, h2] at e; cases e
      · rw [hk k ek] at e; exact h.fr k x rest e
    · rw [if_neg (by rw [hb]; exact hmt)]
      by_cases ek : k = l
      · subst ek
        rw [hs] at e
        cases hA : A with
        | nil =>
          rw [hA] at hAB hM e
          rw [List.append_nil] at hM
          rw [if_pos (h.fr k t B hAB), up_same, hb]
          rw [List.nil_append, hM] at e
          cases e; rfl
        | cons a A' =>
          rw [hA] at hAB e nd
          obtain rfl : a = x := by simpa using (List.cons.inj e).1
          have hat : a ≠ t := by
            intro e1
            rw [List.cons_append, List.nodup_cons] at nd
            exact nd.1 (by rw [e1]; simp)
          have hf := h.fr k a (A' ++ t :: B) hAB
          rw [if_neg (by rw [hf]; exact hat), hf]
      · rw [hk k ek] at e
        split
        · rw [up_other _ _ ek]; exact h.fr k x rest e
        · exact h.fr k x rest e
  · by_cases e : k = l
    · subst e
      rw [hs, Ring.rot]
      rcases key with ⟨hM, hb, ha⟩ | ⟨m, rest, init, z, hM, ez, hb, ha, hmt, hzt, hln, nd2⟩
      · rw [hM]; trivial
      · rw [hM, Ring.closed ez]
        refine ⟨Ln.imp2 _ _ hln fun x hx y hy hxy => ⟨?_, ?_⟩, ?_, ?_⟩
        · show up s.bh (s.ah t) (s.bh t) x = y
          rw [ha, up_other _ _ (not_last ez nd2 x hx)]; exact hxy.1
        · show up s.ah (s.bh t) (s.ah t) y = x
          rw [hb, up_other _ _ (show y ≠ m from fun e => (List.nodup_cons.1 nd2).1 (e ▸ hy))]; exact hxy.2
        · show up s.bh (s.ah t) (s.bh t) z = m
          rw [ha, up_same, hb]
        · show up s.ah (s.bh t) (s.ah t) m = z
          rw [hb, up_same, ha]
    · rw [hk k e]
      have hb : ∀ x ∈ r k, x ≠ s.ah t ∧ x ≠ s.bh t := by
        intro x hx
        rcases key with ⟨hM, hb, ha⟩ | ⟨m, rest, init, z, hM, ez, hb, ha, hmt, hzt, -, -⟩
        · rw [ha, hb]; exact ⟨fun e1 => e (ok.dj k l x hx (e1 ▸ ht)), fun e1 => e (ok.dj k l x hx (e1 ▸ ht))⟩
        · rw [ha, hb]
          exact ⟨fun e1 => e (ok.dj k l x hx (hmem x (by rw [hM, ez, e1]; simp))), fun e1 => e (ok.dj k l x hx (hmem x (by rw [hM, e1]; simp)))⟩
      refine (h.rg k).imp fun x hx y hy hxy => ⟨?_, ?_⟩
      · show up s.bh (s.ah t) (s.bh t) x = y
        rw [up_other _ _ (hb x hx).1]; exact hxy.1
      · show up s.ah (s.bh t) (s.ah t) y = x
        rw [up_other _ _ (hb y hy).2]; exact hxy.2

/-- What link and unlink owe of where they go. -/
theorem Holds.back_lt {s : QSt} {r : Rws} (h : Holds s r) (ok : ROk r) {t l : Nat} (ht : t < 64) : s.front t l < 64 ∧ s.back t l < 64 := by
  cases hr : r l with
  | nil => rw [(QSt.front_none h hr).1, (QSt.front_none h hr).2]; exact ⟨ht, ht⟩
  | cons m rest =>
    obtain ⟨init, z, ez⟩ := ends m rest
    rw [QSt.front_is h hr, QSt.back_is h hr ez]
    exact ⟨ok.tk l m (by rw [hr]; simp), ok.tk l z (by rw [hr, ez]; simp)⟩
theorem Holds.beside {s : QSt} {r : Rws} (h : Holds s r) (ok : ROk r) {t l : Nat} (ht : t ∈ r l) : s.ah t ∈ r l ∧ s.bh t ∈ r l := by
  obtain ⟨A, B, hAB⟩ := List.append_of_mem ht
  have hg := h.rg l
  rw [hAB, Ring.rot] at hg
  have hg' : Ring s.R (t :: (B ++ A)) := hg
  have hmem : ∀ x, x ∈ B ++ A → x ∈ r l := by
    intro x hx; rw [hAB]
    rcases List.mem_append.1 hx with h | h
    · exact List.mem_append_right _ (List.mem_cons_of_mem _ h)
    · exact List.mem_append_left _ h
  cases hM : B ++ A with
  | nil =>
    rw [hM] at hg'
    have h2 : Ln s.R [t, t] := hg'
    rw [h2.1.1, h2.1.2]; exact ⟨ht, ht⟩
  | cons m rest =>
    obtain ⟨init, z, ez⟩ := ends m rest
    rw [hM, Ring.front ez] at hg'
    rw [hg'.1.1, hg'.2.2.2]
    exact ⟨hmem z (by rw [hM, ez]; simp), hmem m (by rw [hM]; simp)⟩

end Go.Proofs.YtdcadiphebcmbaaDoor
