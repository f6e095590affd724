/-
  The mathematics of the ready queues, at last: what each call does to the rows; the first level that has tasks, and how many tasks there are, out of the words of bits. No condition.
-/
import Derived.Test.YtdcadiphebcmbaaDoorRy1
namespace Go.Proofs.YtdcadiphebcmbaaDoor
set_option linter.unusedVariables false

/-- At which level a task stands. -/
def at? (r : Rws) (t : Int) : Option Nat := (List.range 32).find? fun l => (r l).any fun x => (x : Int) == t
def lvl (r : Rws) (t : Int) : Int := match at? r t with | some l => l | none => -1
theorem at?_none {r : Rws} {t : Int} : at? r t = none ↔ ∀ l, l < 32 → ∀ x ∈ r l, (x : Int) ≠ t := by
  unfold at?
  rw [List.find?_eq_none]
  simp
theorem at?_some {r : Rws} {t : Int} {l : Nat} (h : at? r t = some l) : l < 32 ∧ ∃ x : Nat, t = x ∧ x ∈ r l := by
  have h1 := List.find?_some h
  have h2 := List.mem_of_find?_eq_some h
  simp at h1 h2
  obtain ⟨x, hx, e⟩ := h1
  exact ⟨h2, x, e.symm, hx⟩
theorem at?_of {r : Rws} {t : Int} {l : Nat} (hl : l < 32) (hx : ∃ x ∈ r l, (x : Int) = t) (hb : ∀ k, k < l → ∀ x ∈ r k, (x : Int) ≠ t) : at? r t = some l := by
  unfold at?
  rw [List.find?_range_eq_some]
  obtain ⟨x, h1, h2⟩ := hx
  exact ⟨by simp; exact ⟨x, h1, h2⟩, by simp [hl], fun j hj => by simp; exact hb j hj⟩
theorem ROk.lt {r : Rws} (ok : ROk r) {x l : Nat} (h : x ∈ r l) : l < 32 := by
  rcases Nat.lt_or_ge l 32 with h1 | h1
  · exact h1
  · rw [ok.lv l h1] at h; cases h
theorem at?_mem {r : Rws} (ok : ROk r) {x l : Nat} (h : x ∈ r l) : at? r x = some l :=
  at?_of (ok.lt h) ⟨x, h, rfl⟩ fun k hk y hy e => by
    have e' : y = x := by omega
    subst e'
    have := ok.dj k l y hy h
    omega
theorem at?_nowhere {r : Rws} (ok : ROk r) {t : Nat} (h : at? r t = none) : ∀ k, t ∉ r k := fun k hk => at?_none.1 h k (ok.lt hk) t hk rfl

def rput (r : Rws) (t l : Int) : Option Rws := if 0 ≤ t ∧ t ≤ 63 ∧ 0 ≤ l ∧ l ≤ 31 ∧ at? r t = none then some (pushR r l.toNat t.toNat) else none
def rrem (r : Rws) (t : Int) : Option Rws := (at? r t).map fun l => dropR r l t.toNat
def rturn (r : Rws) (t : Int) : Option Rws := (at? r t).map fun l => pushR (dropR r l t.toNat) l t.toNat
def rmove (r : Rws) (t l : Int) : Option Rws := (at? r t).bind fun k => if l < 0 ∨ 31 < l ∨ (k : Int) = l then none else some (pushR (dropR r k t.toNat) l.toNat t.toNat)

theorem ROk.rput {r r' : Rws} (ok : ROk r) {t l : Int} (h : rput r t l = some r') : ROk r' := by
  unfold Proofs.YtdcadiphebcmbaaDoor.rput at h
  split at h
  · rename_i hc
    obtain ⟨h1, h2, h3, h4, h5⟩ := hc
    cases h
    refine ok.push (by omega) (by omega) (at?_nowhere ok ?_)
    rw [show ((t.toNat : Nat) : Int) = t by omega]; exact h5
  · cases h
theorem ROk.rrem {r r' : Rws} (ok : ROk r) {t : Int} (h : rrem r t = some r') : ROk r' := by
  unfold Proofs.YtdcadiphebcmbaaDoor.rrem at h
  obtain ⟨l, h1, rfl⟩ := Option.map_eq_some_iff.1 h
  exact ok.drop _ _
theorem ROk.again {r : Rws} (ok : ROk r) {t : Int} {k l : Nat} (h : at? r t = some k) (hl : l < 32) : ROk (pushR (dropR r k t.toNat) l t.toNat) := by
  obtain ⟨h1, x, rfl, hx⟩ := at?_some h
  rw [Int.toNat_natCast]
  exact (ok.drop k x).push (ok.tk k x hx) hl (ok.gone hx)
theorem ROk.rturn {r r' : Rws} (ok : ROk r) {t : Int} (h : rturn r t = some r') : ROk r' := by
  unfold Proofs.YtdcadiphebcmbaaDoor.rturn at h
  obtain ⟨l, h1, rfl⟩ := Option.map_eq_some_iff.1 h
  exact ok.again h1 (at?_some h1).1
theorem ROk.rmove {r r' : Rws} (ok : ROk r) {t l : Int} (h : rmove r t l = some r') : ROk r' := by
  unfold Proofs.YtdcadiphebcmbaaDoor.rmove at h
  obtain ⟨k, h1, h2⟩ := Option.bind_eq_some_iff.1 h
  split at h2
  · cases h2
  · rename_i hc
    cases h2
    exact ok.again h1 (by omega)

/-- The first level that has tasks. -/
def low? (r : Rws) : Option Nat := (List.range 32).find? fun l => !(r l).isEmpty
def rfirst (r : Rws) : Option Nat := (low? r).bind fun l => (r l).head?
theorem low?_of {r : Rws} {l : Nat} (hl : l < 32) (h : r l ≠ []) (hb : ∀ k, k < l → r k = []) : low? r = some l := by
  unfold low?
  rw [List.find?_range_eq_some]
  refine ⟨by simp; exact h, by simp [hl], fun j hj => by simp; exact hb j hj⟩
theorem low?_some {r : Rws} {l : Nat} (h : low? r = some l) : l < 32 ∧ r l ≠ [] ∧ ∀ k, k < l → r k = [] := by
  unfold low? at h
  rw [List.find?_range_eq_some] at h
  obtain ⟨h1, h2, h3⟩ := h
  refine ⟨by simpa using h2, by simpa using h1, fun k hk => by simpa using h3 k hk⟩
theorem low?_none {r : Rws} : low? r = none ↔ ∀ l, l < 32 → r l = [] := by
  unfold low?
  rw [List.find?_eq_none]
  simp
theorem rfirst_of {r : Rws} {l x : Nat} {rest : List Nat} (h : low? r = some l) (e : r l = x :: rest) : rfirst r = some x := by
  unfold rfirst; rw [h]; show (r l).head? = _; rw [e]; rfl
theorem rfirst_none {r : Rws} (h : low? r = none) : rfirst r = none := by unfold rfirst; rw [h]; rfl

theorem Holds.none {s : QSt} {r : Rws} (h : Holds s r) (ok : ROk r) : s.F = 0 ↔ low? r = none := by
  rw [low?_none]
  constructor
  · intro h0 l _
    cases hr : r l with
    | nil => rfl
    | cons a b =>
      have := (h.fl l).2 (by rw [hr]; simp)
      rw [h0] at this; simp at this
  · intro h0
    apply Nat.eq_of_testBit_eq
    intro i
    rw [Nat.zero_testBit]
    cases hb : s.F.testBit i with
    | false => rfl
    | true =>
      exfalso
      have h1 := (h.fl i).1 hb
      rcases Nat.lt_or_ge i 32 with h2 | h2
      · exact h1 (h0 i h2)
      · exact h1 (ok.lv i h2)
theorem Holds.low {s : QSt} {r : Rws} (h : Holds s r) (ok : ROk r) (h0 : s.F ≠ 0) : low? r = some (Lib.ctz 32 s.F) ∧ Lib.ctz 32 s.F < 32 := by
  have hc : Lib.ctz 32 s.F = Lib.ctzFrom 32 s.F := by unfold Lib.ctz; rw [if_neg h0]
  obtain ⟨m, hm, hk⟩ := Lib.ctzFrom_spec 32 s.F (by omega) h.f32
  rw [hc]
  generalize Lib.ctzFrom 32 s.F = k at *
  have hb : ∀ i, s.F.testBit i = (decide (k ≤ i) && (2 * m + 1).testBit (i - k)) := by
    intro i; rw [hm, Nat.mul_comm, Nat.testBit_mul_two_pow]
  refine ⟨low?_of hk ?_ ?_, hk⟩
  · refine (h.fl k).1 ?_
    rw [hb, Nat.sub_self, Nat.testBit_zero]; simp
  · intro i hi
    cases hr : r i with
    | nil => rfl
    | cons a b =>
      have := (h.fl i).2 (by rw [hr]; simp)
      rw [hb, show decide (k ≤ i) = false by simp; omega] at this
      cases this

/-- How many tasks there are. -/
def rlen (r : Rws) : Nat := ((List.range 32).map fun l => (r l).length).sum
theorem Holds.len {s : QSt} {r : Rws} (h : Holds s r) (ok : ROk r) : pop 64 s.S = rlen r := by
  have e : rlen r = ((List.range 32).flatMap r).length := by
    rw [List.length_flatMap]; rfl
  rw [pop_len, e]
  have nd1 : ((List.range 64).filter fun i => s.S.testBit i).Nodup := List.nodup_range.filter _
  have nd2 : ((List.range 32).flatMap r).Nodup := by
    unfold List.Nodup
    rw [List.pairwise_flatMap]
    refine ⟨fun a _ => ok.nd a, ?_⟩
    refine List.Pairwise.imp ?_ (show List.Pairwise (· ≠ ·) (List.range 32) from List.nodup_range)
    intro a b hab x hx y hy hxy
    subst hxy
    exact hab (ok.dj a b x hx hy)
  refine Nat.le_antisymm (sub_len nd1 ?_) (sub_len nd2 ?_)
  · intro x hx
    simp only [List.mem_filter, List.mem_range] at hx
    obtain ⟨l, hl⟩ := (h.st x).1 hx.2
    exact List.mem_flatMap.2 ⟨l, by simpa using ok.lt hl, hl⟩
  · intro x hx
    obtain ⟨l, _, hl⟩ := List.mem_flatMap.1 hx
    simp only [List.mem_filter, List.mem_range]
    exact ⟨ok.tk l x hl, (h.st x).2 ⟨l, hl⟩⟩
theorem rlen_le {s : QSt} {r : Rws} (h : Holds s r) (ok : ROk r) : rlen r ≤ 64 := by rw [← h.len ok]; exact pop_le _ _
theorem ROk.row_le {r : Rws} (ok : ROk r) (l : Nat) : (r l).length ≤ 64 := by
  have := sub_len (ok.nd l) (m := List.range 64) fun x hx => by simpa using ok.tk l x hx
  simpa using this

def QSt.zero : QSt := ⟨0, 0, fun _ => 0, fun _ => 0, fun _ => 0, fun _ => 0⟩
theorem holds_zero : Holds QSt.zero (fun _ => []) :=
  ⟨by decide, by decide, fun t => by simp [QSt.zero], fun l => by simp [QSt.zero], fun l t rest e => (by cases e), fun l t ht => (by cases ht), fun l => trivial⟩
theorem rok_zero : ROk (fun _ => []) := ⟨fun _ _ => rfl, fun _ _ h => (by cases h), fun _ => List.nodup_nil, fun _ _ _ h => (by cases h)⟩

/-- A task stands just if its bit is 1. -/
theorem Holds.stands {s : QSt} {r : Rws} (h : Holds s r) (ok : ROk r) (t : Nat) : s.S.testBit t = (at? r t).isSome := by
  cases hb : at? r t with
  | none =>
    cases hs : s.S.testBit t with
    | false => rfl
    | true =>
      obtain ⟨l, hl⟩ := (h.st t).1 hs
      exact absurd hl (at?_nowhere ok hb l)
  | some l =>
    obtain ⟨_, x, e, hx⟩ := at?_some hb
    obtain rfl : t = x := by omega
    exact (h.st t).2 ⟨l, hx⟩

end Go.Proofs.YtdcadiphebcmbaaDoor
