/-
  A ring and the document's ring side by side, of the call's own; what a list of calls leaves of them. Over this seat's translation.
-/
import Derived.Test.YtjdnjkniiippkaaRi12
namespace Go.Proofs.Ytjdnjkniiippkaa
open Go.RowKit
set_option linter.unusedVariables false

/-- Both, apart from each other. -/
structure Both (w0 w : World) (b : Nat) (v : Value) (m : Nat) (vl vg : Value) (s s2 : RSt) : Prop where
  rb : RB w0 w b v s
  mt : Mt w m vl vg s2
  ok2 : s2.Ok
  hm : w0.heap.size ≤ m
  hl : ∀ k, vl.ownBlock = some k ∨ vg.ownBlock = some k → w0.heap.size ≤ k
  bm : b ≠ m
  bl : vl.ownBlock ≠ some b
  bg : vg.ownBlock ≠ some b
  vm : v.ownBlock ≠ some m
  vv : ∀ k, v.ownBlock = some k → vl.ownBlock ≠ some k ∧ vg.ownBlock ≠ some k

theorem Both.ring {w0 w w' : World} {b m : Nat} {v v' vl vg : Value} {s s' s2 : RSt} (h : Both w0 w b v m vl vg s s2) (hr : RingAt w' b v' s') (ok : s'.Ok) (ht : Turned w w' b v v') : Both w0 w' b v' m vl vg s' s2 := by
  have hml := h.mt.lt
  have hll := h.mt.rl.lt
  have hgl := h.mt.rg.lt
  refine ⟨h.rb.turned hr ok ht, h.mt.only ht.1 ?_ ?_ ?_, h.ok2, h.hm, h.hl, h.bm, h.bl, h.bg, ?_, ?_⟩
  · rintro (e | e)
    · exact h.bm e.symm
    · exact h.vm e
  · rintro k hk (e | e)
    · exact h.bl (by rw [← e]; exact hk)
    · exact (h.vv k e).1 hk
  · rintro k hk (e | e)
    · exact h.bg (by rw [← e]; exact hk)
    · exact (h.vv k e).2 hk
  · intro e
    rcases ht.2 m e with e1 | e1
    · exact h.vm e1
    · omega
  · intro k hk
    rcases ht.2 k hk with e1 | e1
    · exact h.vv k e1
    · exact ⟨fun e => by have := hll k e; omega, fun e => by have := hgl k e; omega⟩

theorem Both.ref {w0 w w' : World} {b m : Nat} {v vl vg vl' vg' : Value} {s s2 s2' : RSt} (h : Both w0 w b v m vl vg s s2) (hm : Mt w' m vl' vg' s2') (ok : s2'.Ok) (ht : TurnedM w w' m vl vg vl' vg') : Both w0 w' b v m vl' vg' s s2' := by
  have hbl : b < w.heap.size := Rg.lt h.rb.ring
  have hvl := h.rb.ring.row.lt
  have hz := h.rb.below.size
  have hS : ∀ k, (k = m ∨ vl.ownBlock = some k ∨ vg.ownBlock = some k) → w0.heap.size ≤ k := by
    rintro k (e | e)
    · have := h.hm; omega
    · exact h.hl k e
  have hring : RingAt w' b v s := Rg.only h.rb.ring ht.1 (by
    rintro (e | e | e)
    · exact h.bm e
    · exact h.bl e
    · exact h.bg e) (by
    rintro k hk (e | e | e)
    · exact h.vm (by rw [← e]; exact hk)
    · exact (h.vv k hk).1 e
    · exact (h.vv k hk).2 e)
  refine ⟨⟨hring, h.rb.ok, h.rb.below.trans (ht.1.below hz hS), h.rb.hb, h.rb.hv⟩, hm, ok, h.hm, ?_, h.bm, ?_, ?_, h.vm, ?_⟩
  · intro k hk
    rcases ht.2 k hk with e | e | e
    · exact h.hl k (.inl e)
    · exact h.hl k (.inr e)
    · omega
  · intro e
    rcases ht.2 b (.inl e) with e | e | e
    · exact h.bl e
    · exact h.bg e
    · omega
  · intro e
    rcases ht.2 b (.inr e) with e | e | e
    · exact h.bl e
    · exact h.bg e
    · omega
  · intro k hk
    have hkl := hvl k hk
    constructor
    · intro e
      rcases ht.2 k (.inl e) with e | e | e
      · exact (h.vv k hk).1 e
      · exact (h.vv k hk).2 e
      · omega
    · intro e
      rcases ht.2 k (.inr e) with e | e | e
      · exact (h.vv k hk).1 e
      · exact (h.vv k hk).2 e
      · omega

theorem Both.kept {w0 w w' : World} {b m : Nat} {v vl vg : Value} {s s2 : RSt} (h : Both w0 w b v m vl vg s s2) (hb : Below w.heap.size w w') : Both w0 w' b v m vl vg s s2 :=
  h.ring (h.rb.kept hb).ring h.rb.ok (Turned.below hb b v)
theorem Both.drewN {w0 w : World} {b m : Nat} {v vl vg : Value} {s s2 : RSt} (h : Both w0 w b v m vl vg s s2) (q : Nat) : Both w0 (w.drewN q) b v m vl vg s s2 :=
  h.ring (Rg.drewN h.rb.ring q) h.rb.ok (Turned.drewN w b q v)
theorem Both.alloc {w0 w : World} {b m : Nat} {v vl vg : Value} {s s2 : RSt} (h : Both w0 w b v m vl vg s s2) (o : Obj) : Both w0 (w.alloc o) b v m vl vg s s2 :=
  h.kept ((Below.refl _ _).alloc (Nat.le_refl _) o)

/-- The document's ring, new, beside a ring. -/
theorem both_new {w0 w : World} {b : Nat} {v : Value} {s : RSt} (h : RB w0 w b v s) (cap pol : Nat) (ok : (⟨cap, pol, [], false, 0, []⟩ : RSt).Ok) :
    Both w0 (w.alloc (.cells #[.int .i64 cap, .int .i64 pol, .slice none 0 0, .bool false, .int .u64 0, .slice none 0 0] 33)) b v w.heap.size (.slice none 0 0) (.slice none 0 0) s ⟨cap, pol, [], false, 0, []⟩ := by
  have hbl : b < w.heap.size := Rg.lt h.ring
  have hz := h.below.size
  refine ⟨h.kept ((Below.refl _ _).alloc (Nat.le_refl _) _), ⟨heap_alloc_new w _, Txts.nil _, Txts.nil _, by simp [Value.ownBlock], by simp [Value.ownBlock], by simp [Value.ownBlock]⟩, ok, hz, by simp [Value.ownBlock], by omega, by simp [Value.ownBlock], by simp [Value.ownBlock], ?_, by simp [Value.ownBlock]⟩
  intro e
  have := h.ring.row.lt _ e
  omega

/-- What is counted of a state: what was put, and how often. -/
structure Cnt (s : RSt) (n z : Nat) : Prop where
  fr : s.lost + s.fs.length ≤ n
  go : s.gone.length = s.lost
  us : s.used ≤ z

theorem Cnt.more {s : RSt} {n z n' z' : Nat} (h : Cnt s n z) (hn : n ≤ n') (hz : z ≤ z') : Cnt s n' z' := ⟨by have := h.fr; omega, h.go, by have := h.us; omega⟩
theorem losing_len (s : RSt) (k : Nat) (hk : k ≤ s.tail.length) : (s.losing k).fs.length + k = s.fs.length ∧ (s.losing k).gone.length = s.gone.length + k := by
  have h1 := congrArg List.length s.fs_parts
  rw [List.length_append] at h1
  constructor
  · show (s.head ++ s.tail.drop k).length + k = _
    rw [List.length_append, List.length_drop]; omega
  · show (s.gone ++ s.tail.take k).length = _
    rw [List.length_append, List.length_take]; omega
theorem Cnt.put {s : RSt} {n z : Nat} (h : Cnt s n z) (t : ByteArray) : Cnt (s.put t).2 (n + 1) (z + t.size) := by
  have h1 := h.fr
  have h2 := h.go
  have h3 := h.us
  unfold RSt.put
  split
  · exact h.more (by omega) (by omega)
  · split
    · refine ⟨?_, ?_, ?_⟩
      · show s.lost + 1 + s.fs.length ≤ _; omega
      · show (s.gone ++ [t]).length = s.lost + 1; simp; omega
      · show s.used ≤ _; omega
    · have h4 := losing_len s (s.shed t.size) (s.shed_le t.size)
      have h5 := s.losing_used (s.shed t.size)
      refine ⟨?_, ?_, ?_⟩
      · show s.lost + s.shed t.size + ((s.losing (s.shed t.size)).fs ++ [t]).length ≤ _
        simp; omega
      · show (s.losing (s.shed t.size)).gone.length = s.lost + s.shed t.size; omega
      · show sz ((s.losing (s.shed t.size)).fs ++ [t]) ≤ _
        rw [sz_append, sz_one]
        have : sz (s.losing (s.shed t.size)).fs = (s.losing (s.shed t.size)).used := rfl
        omega
theorem Cnt.drain {s : RSt} {n z : Nat} (h : Cnt s n z) (m : Nat) : Cnt (s.drain m) n z := by
  have h1 := drn_len s.fs m s.begun
  have h2 := drn_sz s.fs m s.begun
  have h3 := h.us
  refine ⟨?_, h.go, ?_⟩
  · have := h.fr
    show s.lost + (drn s.fs m s.begun).2.1.length ≤ n
    omega
  · show sz (drn s.fs m s.begun).2.1 ≤ z
    have : sz s.fs = s.used := rfl
    omega
theorem cnt_new (cap pol : Nat) : Cnt ⟨cap, pol, [], false, 0, []⟩ 0 0 := ⟨Nat.le_refl _, rfl, Nat.le_refl _⟩

end Go.Proofs.Ytjdnjkniiippkaa
