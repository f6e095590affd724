/-
  Rings in blocks: rows of texts of one's own (from any place of a row on), the ring's six fields, and what the small functions of package ring answer. Over this seat's translation.
-/
import Derived.Test.YtjdnjkniiippkaaRi0
import Derived.Test.YtjdnjkniiippkaaFoot
import Derived.Test.YtjdnjkniiippkaaChecked
import Derived.Deep.QuietTactic
import Derived.BigQuiet
import Derived.ProofKit
import Derived.Lib.SliceRun
import Derived.Laws.OwnMore
namespace Go.Proofs.Ytjdnjkniiippkaa
open Go.RowKit
set_option linter.unusedVariables false

theorem blt {w : World} {b : Nat} {o : Obj} (h : w.heap[b]? = some o) : b < w.heap.size := by
  rcases Nat.lt_or_ge b w.heap.size with h' | h'
  · exact h'
  · rw [Array.getElem?_eq_none h'] at h; cases h

/-- A row of texts: cells from a place on, with room behind them; nothing of it is frozen. -/
def Txts (w : World) (v : Value) (l : List ByteArray) : Prop :=
  (v = .slice none 0 0 ∧ l = []) ∨
  ∃ g off cap cur, v = .slice (some ⟨g, off, none⟩) l.length cap ∧ l.length ≤ cap ∧ cap ≤ maxLen ∧ w.heap[g]? = some (.cells cur 9 (0, 0)) ∧ off + cap ≤ cur.size ∧
    ∀ j t, l[j]? = some t → cur[off + j]? = some (.string t)

theorem Txts.lt {w : World} {v : Value} {l : List ByteArray} (h : Txts w v l) : ∀ k, v.ownBlock = some k → k < w.heap.size := by
  intro k hk
  rcases h with ⟨rfl, _⟩ | ⟨g, off, cap, cur, rfl, _, _, hg, _⟩
  · cases hk
  · simp only [Value.ownBlock, Option.some.injEq] at hk
    subst hk
    exact blt hg
theorem Txts.only {w w' : World} {v : Value} {l : List ByteArray} {S : Nat → Prop} (h : Txts w v l) (ho : Only w w' S) (hn : ∀ k, v.ownBlock = some k → ¬ S k) : Txts w' v l := by
  rcases h with h | ⟨g, off, cap, cur, rfl, h1, h2, hg, h3, h4⟩
  · exact .inl h
  · exact .inr ⟨g, off, cap, cur, rfl, h1, h2, (ho.block g (blt hg) (hn g rfl)).trans hg, h3, h4⟩
theorem Txts.shape {w : World} {v : Value} {l : List ByteArray} (h : Txts w v l) : ∃ ao cap, v = .slice ao l.length cap ∧ l.length ≤ cap := by
  rcases h with ⟨rfl, rfl⟩ | ⟨g, off, cap, cur, rfl, h1, _⟩
  · exact ⟨none, 0, rfl, Nat.le_refl _⟩
  · exact ⟨_, cap, rfl, h1⟩
theorem Txts.nil (w : World) : Txts w (.slice none 0 0) [] := .inl ⟨rfl, rfl⟩
/-- Where one text stands. -/
theorem Txts.at {w : World} {v : Value} {l : List ByteArray} (h : Txts w v l) (i : Nat) (hi : i < l.length) : ∃ g off cap, v = .slice (some ⟨g, off, none⟩) l.length cap ∧ g < w.heap.size ∧ l.length ≤ cap ∧
    (∀ j t, l[j]? = some t → w.cell? ⟨g, off + j, none⟩ = some (.string t)) ∧ ∀ j, w.frozen? ⟨g, j, none⟩ = false := by
  rcases h with ⟨rfl, rfl⟩ | ⟨g, off, cap, cur, rfl, h1, h2, hg, h3, h4⟩
  · simp at hi
  · exact ⟨g, off, cap, rfl, blt hg, h1, fun j t hj => (cell_of_row w g _ cur _ (0, 0) hg).trans (h4 j t hj), fun j => frozen_of_row w g j cur _ hg⟩
/-- Without the first ones. -/
theorem Txts.drop {w : World} {ao : Option Addr} {n cap : Nat} {l : List ByteArray} (h : Txts w (.slice ao n cap) l) (k : Nat) (hk : k ≤ l.length) : Txts w (sliced ao k n cap 1) (l.drop k) ∧ ∀ q, (sliced ao k n cap 1).ownBlock = some q → (Value.slice ao n cap).ownBlock = some q := by
  rcases h with ⟨h, rfl⟩ | ⟨g, off, cap', cur, h, h1, h2, hg, h3, h4⟩
  · simp only [Value.slice.injEq] at h
    obtain ⟨rfl, rfl, rfl⟩ := h
    simp at hk
    subst hk
    exact ⟨.inl ⟨rfl, rfl⟩, fun q hq => hq⟩
  · simp only [Value.slice.injEq] at h
    obtain ⟨rfl, rfl, rfl⟩ := h
    unfold sliced
    have ha : (⟨g, off, none⟩ : Addr).add (k * 1) = ⟨g, off + k, none⟩ := by unfold Addr.add; split <;> simp_all
    split
    · rename_i hc
      refine ⟨.inr ⟨g, off, cap - k, cur, by simp, by simp; omega, by omega, hg, by omega, fun j t hj => ?_⟩, fun q hq => hq⟩
      have : (l.drop k).length = 0 := by simp; omega
      rw [List.eq_nil_of_length_eq_zero this] at hj
      simp at hj
    · simp only [Option.map_some, ha]
      refine ⟨.inr ⟨g, off + k, cap - k, cur, by simp, by simp; omega, by omega, hg, by omega, fun j t hj => ?_⟩, fun q hq => hq⟩
      rw [Nat.add_assoc]
      exact h4 (k + j) t (by rw [← hj, List.getElem?_drop])
/-- One text stored. -/
theorem Txts.set {w : World} {g off n cap : Nat} {l : List ByteArray} (h : Txts w (.slice (some ⟨g, off, none⟩) n cap) l) (i : Nat) (t : ByteArray) (hi : i < l.length) :
    Txts (w.setCell ⟨g, off + i, none⟩ (.string t)) (.slice (some ⟨g, off, none⟩) n cap) (l.set i t) := by
  rcases h with ⟨h, rfl⟩ | ⟨g', off', cap', cur, h, h1, h2, hg, h3, h4⟩
  · cases h
  · simp only [Value.slice.injEq, Option.some.injEq, Addr.mk.injEq, and_true] at h
    obtain ⟨⟨rfl, rfl⟩, rfl, rfl⟩ := h
    refine .inr ⟨g, off, cap, _, by simp, by simpa using h1, h2, heap_setCell_same w g _ cur _ _ hg, by simpa using h3, fun j u hj => ?_⟩
    rw [Array.getElem?_setIfInBounds]
    by_cases hij : i = j
    · subst hij
      rw [List.getElem?_set_self hi] at hj
      cases hj
      rw [if_pos rfl, if_pos (by omega)]
    · rw [if_neg (by omega)]
      rw [List.getElem?_set_ne hij] at hj
      exact h4 j u hj
/-- Another block is turned. -/
theorem Txts.setCell {w : World} {v : Value} {l : List ByteArray} (h : Txts w v l) (b i : Nat) (u : Value) (hn : v.ownBlock ≠ some b) : Txts (w.setCell ⟨b, i, none⟩ u) v l :=
  h.only (Only.setCell w b i u (fun k => k = b) rfl) (fun k hk e => hn (by rw [hk, e]))
/-- The first ones are cleared: what is behind them stays. -/
theorem only_setCells (b : Nat) : ∀ (vs : List Value) (o : Nat) (w : World), Only w (w.setCells b o vs) (fun k => k = b)
  | [], _, w => Only.refl _ _
  | v :: r, o, w => by
    have h1 := Only.setCell w b o v (fun k => k = b) rfl
    have h2 := only_setCells b r (o + 1) (w.setCell ⟨b, o, none⟩ v)
    exact h1.trans h2 (fun k _ h => h)
theorem heap_setCells (g : Nat) (e : TypeId) : ∀ (vs : List Value) (o : Nat) (w : World) (cur : Array Value), w.heap[g]? = some (.cells cur e (0, 0)) →
    ∃ cur', (w.setCells g o vs).heap[g]? = some (.cells cur' e (0, 0)) ∧ cur'.size = cur.size ∧ (∀ j, (j < o ∨ o + vs.length ≤ j) → cur'[j]? = cur[j]?) ∧ ∀ j (hj : j < vs.length), o + j < cur.size → cur'[o + j]? = some vs[j]
  | [], o, w, cur, h => ⟨cur, h, rfl, fun j _ => rfl, fun j hj => by simp at hj⟩
  | v :: r, o, w, cur, h => by
    obtain ⟨cur', h1, h2, h3, h4⟩ := heap_setCells g e r (o + 1) (w.setCell ⟨g, o, none⟩ v) _ (heap_setCell_same w g o cur e v h)
    refine ⟨cur', h1, by rw [h2]; simp, fun j hj => ?_, fun j hj hc => ?_⟩
    · rw [h3 j (by simp at hj; omega), Array.getElem?_setIfInBounds_ne (by simp at hj; omega)]
    · cases j with
      | zero => rw [Nat.add_zero, h3 o (by omega), Array.getElem?_setIfInBounds, if_pos rfl, if_pos (by simpa using hc)]; rfl
      | succ j => rw [show o + (j + 1) = o + 1 + j by omega, h4 j (by simpa using hj) (by simp; omega)]; rfl
/-- More texts behind the last one, in place. -/
theorem Txts.more {w : World} {g off n cap : Nat} {l : List ByteArray} (h : Txts w (.slice (some ⟨g, off, none⟩) n cap) l) (m : List ByteArray) (hr : n + m.length ≤ cap) :
    Txts (w.setCells g (off + n * 1) (m.map Value.string)) (.slice (some ⟨g, off, none⟩) (n + m.length) cap) (l ++ m) := by
  rcases h with ⟨h, rfl⟩ | ⟨g', off', cap', cur, h, h1, h2, hg, h3, h4⟩
  · cases h
  · simp only [Value.slice.injEq, Option.some.injEq, Addr.mk.injEq, and_true] at h
    obtain ⟨⟨rfl, rfl⟩, rfl, rfl⟩ := h
    obtain ⟨cur', e1, e2, e3, e4⟩ := heap_setCells g 9 (m.map Value.string) (off + l.length * 1) w cur hg
    refine .inr ⟨g, off, cap, cur', by simp, by simpa using hr, h2, e1, by omega, fun j t hj => ?_⟩
    rcases Nat.lt_or_ge j l.length with hjl | hjl
    · rw [List.getElem?_append_left hjl] at hj
      rw [e3 _ (by omega)]
      exact h4 j t hj
    · rw [List.getElem?_append_right hjl] at hj
      obtain ⟨hlt, he⟩ := List.getElem?_eq_some_iff.1 hj
      have := e4 (j - l.length) (by simpa using hlt) (by omega)
      rw [show off + l.length * 1 + (j - l.length) = off + j by omega] at this
      rw [this]
      simp [he]
theorem Txts.cleared {w : World} {g off n cap : Nat} {l : List ByteArray} (h : Txts w (.slice (some ⟨g, off, none⟩) n cap) l) (k : Nat) (hk : k ≤ l.length) (z : Value) :
    Txts (w.setCells g off (List.replicate k z)) (sliced (some ⟨g, off, none⟩) k n cap 1) (l.drop k) := by
  rcases h with ⟨h, rfl⟩ | ⟨g', off', cap', cur, h, h1, h2, hg, h3, h4⟩
  · cases h
  · simp only [Value.slice.injEq, Option.some.injEq, Addr.mk.injEq, and_true] at h
    obtain ⟨⟨rfl, rfl⟩, rfl, rfl⟩ := h
    obtain ⟨cur', e1, e2, e3, e4⟩ := heap_setCells g 9 (List.replicate k z) off w cur hg
    unfold sliced
    have ha : (⟨g, off, none⟩ : Addr).add (k * 1) = ⟨g, off + k, none⟩ := by unfold Addr.add; split <;> simp_all
    split
    · rename_i hc
      refine .inr ⟨g, off, cap - k, cur', by simp, by simp; omega, by omega, e1, by omega, fun j t hj => ?_⟩
      have : (l.drop k).length = 0 := by simp; omega
      rw [List.eq_nil_of_length_eq_zero this] at hj
      simp at hj
    · simp only [Option.map_some, ha]
      refine .inr ⟨g, off + k, cap - k, cur', by simp, by simp; omega, by omega, e1, by omega, fun j t hj => ?_⟩
      rw [Nat.add_assoc, e3 _ (by simp)]
      exact h4 (k + j) t (by rw [← hj, List.getElem?_drop])
theorem Txts.of_own {w : World} {B : Nat} {v : Value} {l : List ByteArray} (h : w.ownsRow B 9 1 v l.length (l.map Value.string)) : Txts w v l := by
  rcases h.2 with ⟨rfl, hn⟩ | ⟨g, cap, cur, rfl, hb, hg, hnc, hcm, hcs, ht⟩
  · exact .inl ⟨rfl, List.eq_nil_of_length_eq_zero hn⟩
  · refine .inr ⟨g, 0, cap, cur, rfl, hnc, hcm, hg, by omega, fun j t hj => ?_⟩
    obtain ⟨hlt, he⟩ := List.getElem?_eq_some_iff.1 hj
    have : (cur.toList.take (l.length * 1))[j]? = some (.string t) := by rw [ht]; simp [hj]
    rw [List.getElem?_take, if_pos (by omega)] at this
    rw [Nat.zero_add]
    simpa using this

/-- The six fields of a ring in block b. -/
structure Rg (w : World) (b : Nat) (v : Value) (room pol used : Int) (begun : Bool) (lost : Int) (l : List ByteArray) : Prop where
  blk : w.heap[b]? = some (.cells #[.int .i64 room, .int .i64 pol, v, .int .i64 used, .bool begun, .int .u64 lost] 46 (0, 0))
  row : Txts w v l
  ne : v.ownBlock ≠ some b

section
variable {w w' : World} {b : Nat} {v : Value} {room pol used : Int} {begun : Bool} {lost : Int} {l : List ByteArray}
theorem Rg.lt (h : Rg w b v room pol used begun lost l) : b < w.heap.size := blt h.blk
theorem Rg.c (h : Rg w b v room pol used begun lost l) : w.cell? ⟨b, 0, none⟩ = some (.int .i64 room) ∧ w.cell? ⟨b, 1, none⟩ = some (.int .i64 pol) ∧ w.cell? ⟨b, 2, none⟩ = some v ∧
    w.cell? ⟨b, 3, none⟩ = some (.int .i64 used) ∧ w.cell? ⟨b, 4, none⟩ = some (.bool begun) ∧ w.cell? ⟨b, 5, none⟩ = some (.int .u64 lost) :=
  ⟨(cell_of_row w b 0 _ _ (0, 0) h.blk).trans rfl, (cell_of_row w b 1 _ _ (0, 0) h.blk).trans rfl, (cell_of_row w b 2 _ _ (0, 0) h.blk).trans rfl, (cell_of_row w b 3 _ _ (0, 0) h.blk).trans rfl, (cell_of_row w b 4 _ _ (0, 0) h.blk).trans rfl, (cell_of_row w b 5 _ _ (0, 0) h.blk).trans rfl⟩
theorem Rg.free (h : Rg w b v room pol used begun lost l) (j : Nat) : w.frozen? ⟨b, j, none⟩ = false := frozen_of_row w b j _ _ h.blk
theorem Rg.only {S : Nat → Prop} (h : Rg w b v room pol used begun lost l) (ho : Only w w' S) (hb : ¬ S b) (hn : ∀ k, v.ownBlock = some k → ¬ S k) : Rg w' b v room pol used begun lost l :=
  ⟨(ho.block b h.lt hb).trans h.blk, h.row.only ho hn, h.ne⟩
theorem Rg.drewN (h : Rg w b v room pol used begun lost l) (n : Nat) : Rg (w.drewN n) b v room pol used begun lost l := h.only (Only.drewN w n (fun _ => False)) (by simp) (by simp)
theorem Rg.alloc (h : Rg w b v room pol used begun lost l) (o : Obj) : Rg (w.alloc o) b v room pol used begun lost l := h.only (Only.alloc w o (fun _ => False)) (by simp) (by simp)
theorem Rg.set_row (h : Rg w b v room pol used begun lost l) {v' : Value} {l' : List ByteArray} (h' : Txts w v' l') (hne : v'.ownBlock ≠ some b) : Rg (w.setCell ⟨b, 2, none⟩ v') b v' room pol used begun lost l' :=
  ⟨(heap_setCell_same w b 2 _ _ _ h.blk).trans rfl, h'.setCell b 2 v' hne, hne⟩
theorem Rg.set_used (h : Rg w b v room pol used begun lost l) (u : Int) : Rg (w.setCell ⟨b, 3, none⟩ (.int .i64 u)) b v room pol u begun lost l :=
  ⟨(heap_setCell_same w b 3 _ _ _ h.blk).trans rfl, h.row.setCell b 3 _ h.ne, h.ne⟩
theorem Rg.set_begun (h : Rg w b v room pol used begun lost l) (u : Bool) : Rg (w.setCell ⟨b, 4, none⟩ (.bool u)) b v room pol used u lost l :=
  ⟨(heap_setCell_same w b 4 _ _ _ h.blk).trans rfl, h.row.setCell b 4 _ h.ne, h.ne⟩
theorem Rg.set_lost (h : Rg w b v room pol used begun lost l) (u : Int) : Rg (w.setCell ⟨b, 5, none⟩ (.int .u64 u)) b v room pol used begun u l :=
  ⟨(heap_setCell_same w b 5 _ _ _ h.blk).trans rfl, h.row.setCell b 5 _ h.ne, h.ne⟩
end

/-- A ring in block b, as it stands. -/
def RingAt (w : World) (b : Nat) (v : Value) (s : RSt) : Prop := Rg w b v s.cap s.pol s.used s.begun s.lost s.fs

/-- What a call turns that is told of a ring. -/
def Turned (w w' : World) (b : Nat) (v v' : Value) : Prop :=
  Only w w' (fun k => k = b ∨ v.ownBlock = some k) ∧ ∀ k, v'.ownBlock = some k → v.ownBlock = some k ∨ w.heap.size ≤ k
theorem Turned.refl (w : World) (b : Nat) (v : Value) : Turned w w b v v := ⟨Only.refl _ _, fun k h => .inl h⟩
theorem Turned.trans {w w1 w2 : World} {b : Nat} {v v1 v2 : Value} (h : Turned w w1 b v v1) (g : Turned w1 w2 b v1 v2) : Turned w w2 b v v2 := by
  refine ⟨h.1.trans g.1 ?_, ?_⟩
  · intro k hk hT
    rcases hT with e | e
    · exact .inl e
    · rcases h.2 k e with e | e
      · exact .inr e
      · omega
  · intro k hk
    have hs := h.1.size
    rcases g.2 k hk with e | e
    · exact h.2 k e
    · exact .inr (by omega)
theorem Turned.cell (w : World) (b i : Nat) (v u : Value) : Turned w (w.setCell ⟨b, i, none⟩ u) b v v := ⟨Only.setCell w b i u _ (.inl rfl), fun k h => .inl h⟩
theorem Turned.drewN (w : World) (b n : Nat) (v : Value) : Turned w (w.drewN n) b v v := ⟨Only.drewN w n _, fun k h => .inl h⟩
theorem Turned.below {w w' : World} (h : Below w.heap.size w w') (b : Nat) (v : Value) : Turned w w' b v v := ⟨Only.of_below h _, fun k h => .inl h⟩

set_option maxHeartbeats 400000 in
theorem rg_used {w : World} {b : Nat} {v : Value} {room pol used : Int} {begun : Bool} {lost : Int} {l : List ByteArray} (h : Rg w b v room pol used begun lost l) :
    Calls Try.prog 16 #[.pointer (some ⟨b, 0, none⟩)] w fun e w' => e = .returned (.int .i64 used) ∧ w = w' := by
  obtain ⟨c0, c1, c2, c3, c4, c5⟩ := h.c
  clear h
  go_enter Try.func16, Try.ntmps16
  go_wp2
  go_ret
  exact ⟨rfl, rfl⟩

set_option maxHeartbeats 400000 in
theorem rg_held {w : World} {b : Nat} {v : Value} {room pol used : Int} {begun : Bool} {lost : Int} {l : List ByteArray} (h : Rg w b v room pol used begun lost l) :
    Calls Try.prog 17 #[.pointer (some ⟨b, 0, none⟩)] w fun e w' => e = .returned (.int .i64 l.length) ∧ w = w' := by
  obtain ⟨c0, c1, c2, c3, c4, c5⟩ := h.c
  obtain ⟨ao, cap, rfl, _⟩ := h.row.shape
  clear h
  go_enter Try.func17, Try.ntmps17
  go_wp2
  go_ret
  exact ⟨rfl, rfl⟩

set_option maxHeartbeats 400000 in
theorem rg_begun {w : World} {b : Nat} {v : Value} {room pol used : Int} {begun : Bool} {lost : Int} {l : List ByteArray} (h : Rg w b v room pol used begun lost l) :
    Calls Try.prog 18 #[.pointer (some ⟨b, 0, none⟩)] w fun e w' => e = .returned (.bool begun) ∧ w = w' := by
  obtain ⟨c0, c1, c2, c3, c4, c5⟩ := h.c
  clear h
  go_enter Try.func18, Try.ntmps18
  go_wp2
  go_ret
  exact ⟨rfl, rfl⟩

set_option maxHeartbeats 400000 in
theorem rg_lost {w : World} {b : Nat} {v : Value} {room pol used : Int} {begun : Bool} {lost : Int} {l : List ByteArray} (h : Rg w b v room pol used begun lost l) :
    Calls Try.prog 19 #[.pointer (some ⟨b, 0, none⟩)] w fun e w' => e = .returned (.int .u64 lost) ∧ w = w' := by
  obtain ⟨c0, c1, c2, c3, c4, c5⟩ := h.c
  clear h
  go_enter Try.func19, Try.ntmps19
  go_wp2
  go_ret
  exact ⟨rfl, rfl⟩

set_option maxHeartbeats 400000 in
theorem rg_rest {w : World} {b : Nat} {v : Value} {s : RSt} (h : RingAt w b v s) (ok : s.Ok) :
    Calls Try.prog 29 #[.pointer (some ⟨b, 0, none⟩)] w fun e w' => e = .returned (.int .i64 s.rest) ∧ w = w' := by
  obtain ⟨c0, c1, c2, c3, c4, c5⟩ := h.c
  have hb := ok.b
  have hr : s.rest = sz (s.fs.take s.first) := rfl
  unfold RSt.first at hr
  have hrow := h.row
  clear h
  cases hbg : s.begun with
  | false =>
    rw [hbg] at c4 hr
    simp [sz] at hr
    rw [hr]
    clear hrow hr
    go_enter Try.func29, Try.ntmps29
    go_wp2
    go_ret
    exact ⟨rfl, rfl⟩
  | true =>
    have hne := hb hbg
    rw [hbg] at c4 hr
    cases hfs : s.fs with
    | nil => exact absurd hfs hne
    | cons f r =>
      rw [hfs] at hr hrow
      simp [sz] at hr
      rw [hr]
      obtain ⟨g, off, cap, rfl, _, hc, hcell, _⟩ := hrow.at 0 (by simp)
      have d0 := hcell 0 f rfl
      simp only [Nat.add_zero] at d0
      have hl : (0 : Int) < ((f :: r).length : Int) := by simp only [List.length_cons]; omega
      generalize (f :: r).length = n at *
      clear hcell hrow hr hne hfs
      go_enter Try.func29, Try.ntmps29
      go_wp2
      go_ret
      exact ⟨rfl, rfl⟩

end Go.Proofs.Ytjdnjkniiippkaa
