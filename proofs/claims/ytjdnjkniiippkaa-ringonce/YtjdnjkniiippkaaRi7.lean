/-
  The document's ring (taffrailref08): its six fields in a block, its two rows of texts; Used and Put. Over this seat's translation.
-/
import Derived.Test.YtjdnjkniiippkaaRi4
namespace Go.Proofs.Ytjdnjkniiippkaa
open Go.RowKit
set_option linter.unusedVariables false

/-- The document's ring in block m. -/
structure Mt (w : World) (m : Nat) (vl vg : Value) (s : RSt) : Prop where
  blk : w.heap[m]? = some (.cells #[.int .i64 s.cap, .int .i64 s.pol, vl, .bool s.begun, .int .u64 s.lost, vg] 33 (0, 0))
  rl : Txts w vl s.fs
  rg : Txts w vg s.gone
  nl : vl.ownBlock ≠ some m
  ng : vg.ownBlock ≠ some m
  nn : ∀ k, vl.ownBlock = some k → vg.ownBlock ≠ some k

def TurnedM (w w' : World) (m : Nat) (vl vg vl' vg' : Value) : Prop :=
  Only w w' (fun k => k = m ∨ vl.ownBlock = some k ∨ vg.ownBlock = some k) ∧ ∀ k, vl'.ownBlock = some k ∨ vg'.ownBlock = some k → vl.ownBlock = some k ∨ vg.ownBlock = some k ∨ w.heap.size ≤ k
theorem TurnedM.refl (w : World) (m : Nat) (vl vg : Value) : TurnedM w w m vl vg vl vg := ⟨Only.refl _ _, fun k h => by rcases h with h | h <;> simp [h]⟩
theorem TurnedM.trans {w w1 w2 : World} {m : Nat} {vl vg vl1 vg1 vl2 vg2 : Value} (h : TurnedM w w1 m vl vg vl1 vg1) (g : TurnedM w1 w2 m vl1 vg1 vl2 vg2) : TurnedM w w2 m vl vg vl2 vg2 := by
  refine ⟨h.1.trans g.1 ?_, ?_⟩
  · intro k hk hT
    rcases hT with e | e
    · exact .inl e
    · rcases h.2 k e with e | e | e
      · exact .inr (.inl e)
      · exact .inr (.inr e)
      · omega
  · intro k hk
    have hs := h.1.size
    rcases g.2 k hk with e | e | e
    · exact h.2 k (.inl e)
    · exact h.2 k (.inr e)
    · exact .inr (.inr (by omega))
theorem TurnedM.only {w w' : World} {m : Nat} (vl vg : Value) (h : Only w w' (fun k => k = m)) : TurnedM w w' m vl vg vl vg :=
  ⟨h.mono (fun k _ e => .inl e), fun k h => by rcases h with h | h <;> simp [h]⟩
theorem TurnedM.drewN (w : World) (m n : Nat) (vl vg : Value) : TurnedM w (w.drewN n) m vl vg vl vg := TurnedM.only vl vg (Only.drewN w n _)
theorem TurnedM.cell (w : World) (m i : Nat) (vl vg u : Value) : TurnedM w (w.setCell ⟨m, i, none⟩ u) m vl vg vl vg := TurnedM.only vl vg (Only.setCell w m i u _ rfl)
theorem TurnedM.alloc (w : World) (m : Nat) (o : Obj) (vl vg : Value) : TurnedM w (w.alloc o) m vl vg vl vg := TurnedM.only vl vg (Only.alloc w o _)

section
variable {w w' : World} {m : Nat} {vl vg : Value} {s : RSt}
theorem Mt.lt (h : Mt w m vl vg s) : m < w.heap.size := blt h.blk
theorem Mt.c (h : Mt w m vl vg s) : w.cell? ⟨m, 0, none⟩ = some (.int .i64 s.cap) ∧ w.cell? ⟨m, 1, none⟩ = some (.int .i64 s.pol) ∧ w.cell? ⟨m, 2, none⟩ = some vl ∧
    w.cell? ⟨m, 3, none⟩ = some (.bool s.begun) ∧ w.cell? ⟨m, 4, none⟩ = some (.int .u64 s.lost) ∧ w.cell? ⟨m, 5, none⟩ = some vg :=
  ⟨(cell_of_row w m 0 _ _ (0, 0) h.blk).trans rfl, (cell_of_row w m 1 _ _ (0, 0) h.blk).trans rfl, (cell_of_row w m 2 _ _ (0, 0) h.blk).trans rfl, (cell_of_row w m 3 _ _ (0, 0) h.blk).trans rfl, (cell_of_row w m 4 _ _ (0, 0) h.blk).trans rfl, (cell_of_row w m 5 _ _ (0, 0) h.blk).trans rfl⟩
theorem Mt.free (h : Mt w m vl vg s) (j : Nat) : w.frozen? ⟨m, j, none⟩ = false := frozen_of_row w m j _ _ h.blk
theorem Mt.only {S : Nat → Prop} (h : Mt w m vl vg s) (ho : Only w w' S) (hm : ¬ S m) (hl : ∀ k, vl.ownBlock = some k → ¬ S k) (hg : ∀ k, vg.ownBlock = some k → ¬ S k) : Mt w' m vl vg s :=
  ⟨(ho.block m h.lt hm).trans h.blk, h.rl.only ho hl, h.rg.only ho hg, h.nl, h.ng, h.nn⟩
theorem Mt.drewN (h : Mt w m vl vg s) (n : Nat) : Mt (w.drewN n) m vl vg s := h.only (Only.drewN w n (fun _ => False)) (by simp) (by simp) (by simp)
theorem Mt.alloc (h : Mt w m vl vg s) (o : Obj) : Mt (w.alloc o) m vl vg s := h.only (Only.alloc w o (fun _ => False)) (by simp) (by simp) (by simp)
theorem Mt.set_lost (h : Mt w m vl vg s) (n : Nat) : Mt (w.setCell ⟨m, 4, none⟩ (.int .u64 n)) m vl vg { s with lost := n } :=
  ⟨(heap_setCell_same w m 4 _ _ _ h.blk).trans rfl, h.rl.setCell m 4 _ h.nl, h.rg.setCell m 4 _ h.ng, h.nl, h.ng, h.nn⟩
theorem Mt.set_begun (h : Mt w m vl vg s) (b : Bool) : Mt (w.setCell ⟨m, 3, none⟩ (.bool b)) m vl vg { s with begun := b } :=
  ⟨(heap_setCell_same w m 3 _ _ _ h.blk).trans rfl, h.rl.setCell m 3 _ h.nl, h.rg.setCell m 3 _ h.ng, h.nl, h.ng, h.nn⟩
/-- A row that is new, or the old one, grown: into Gone. -/
theorem Mt.put_gone (h : Mt w m vl vg s) {vg' : Value} {l' : List ByteArray} (hA : Appd w w' vg vg' l') : Mt (w'.setCell ⟨m, 5, none⟩ vg') m vl vg' { s with gone := l' } ∧ TurnedM w (w'.setCell ⟨m, 5, none⟩ vg') m vl vg vl vg' ∧ w'.heap[m]? = w.heap[m]? := by
  have hb := hA.only.block m h.lt h.ng
  have hne : vg'.ownBlock ≠ some m := fun e => by
    rcases hA.new m e with e1 | e1
    · exact h.ng e1
    · have := h.lt; omega
  have hrl : Txts w' vl s.fs := h.rl.only hA.only (fun k hk => h.nn k hk)
  refine ⟨⟨(heap_setCell_same w' m 5 _ _ _ (hb.trans h.blk)).trans rfl, hrl.setCell m 5 _ h.nl, hA.row.setCell m 5 _ hne, h.nl, hne, fun k hk e => ?_⟩, ⟨?_, fun k hk => ?_⟩, hb⟩
  · rcases hA.new k e with e1 | e1
    · exact h.nn k hk e1
    · have := h.rl.lt k hk; omega
  · exact (hA.only.mono fun k _ e => Or.inr (.inr e)).trans (Only.setCell w' m 5 vg' (fun k => k = m) rfl) (fun k _ e => .inl e)
  · rcases hk with hk | hk
    · exact .inl hk
    · rcases hA.new k hk with e1 | e1
      · exact .inr (.inl e1)
      · exact .inr (.inr e1)
/-- Into L: a row that is the old one, grown, or a new one. -/
theorem Mt.put_row (h : Mt w m vl vg s) {vl' : Value} {l' : List ByteArray} (hr : Txts w' vl' l') (ho : Only w w' (fun k => vl.ownBlock = some k)) (hn : ∀ k, vl'.ownBlock = some k → vl.ownBlock = some k ∨ w.heap.size ≤ k) :
    Mt (w'.setCell ⟨m, 2, none⟩ vl') m vl' vg { s with fs := l' } ∧ TurnedM w (w'.setCell ⟨m, 2, none⟩ vl') m vl vg vl' vg ∧ w'.heap[m]? = w.heap[m]? := by
  have hb := ho.block m h.lt h.nl
  have hne : vl'.ownBlock ≠ some m := fun e => by
    rcases hn m e with e1 | e1
    · exact h.nl e1
    · have := h.lt; omega
  have hrg : Txts w' vg s.gone := h.rg.only ho (fun k hk e => h.nn k e hk)
  refine ⟨⟨(heap_setCell_same w' m 2 _ _ _ (hb.trans h.blk)).trans rfl, hr.setCell m 2 _ hne, hrg.setCell m 2 _ h.ng, hne, h.ng, fun k hk e => ?_⟩, ⟨?_, fun k hk => ?_⟩, hb⟩
  · rcases hn k hk with e1 | e1
    · exact h.nn k e1 e
    · have := h.rg.lt k e; omega
  · exact (ho.mono fun k _ e => Or.inr (.inl e)).trans (Only.setCell w' m 2 vl' (fun k => k = m) rfl) (fun k _ e => .inl e)
  · rcases hk with hk | hk
    · rcases hn k hk with e1 | e1
      · exact .inl e1
      · exact .inr (.inr e1)
    · exact .inr (.inl hk)
end

theorem Txts.lit0 (w : World) : Txts (w.alloc (.cells #[] 9)) (.slice (some ⟨w.heap.size, 0, none⟩) 0 0) [] :=
  .inr ⟨w.heap.size, 0, 0, #[], rfl, Nat.le_refl _, Nat.zero_le _, heap_alloc_new w _, Nat.zero_le _, fun j t hj => by simp at hj⟩
theorem Txts.lit1 (w : World) (t : ByteArray) : Txts (w.alloc (.cells #[.string t] 9)) (.slice (some ⟨w.heap.size, 0, none⟩) 1 1) [t] :=
  .inr ⟨w.heap.size, 0, 1, #[.string t], rfl, Nat.le_refl _, by unfold maxLen; omega, heap_alloc_new w _, Nat.le_refl _, fun j u hj => by cases j with | zero => simp at hj; subst hj; rfl | succ j => simp at hj⟩
/-- The first ones alone. -/
theorem Txts.take {w : World} {ao : Option Addr} {n cap : Nat} {l : List ByteArray} (h : Txts w (.slice ao n cap) l) (k : Nat) (hk : k ≤ l.length) : Txts w (.slice ao k cap) (l.take k) := by
  rcases h with ⟨h, rfl⟩ | ⟨g, off, cap', cur, h, h1, h2, hg, h3, h4⟩
  · simp only [Value.slice.injEq] at h
    obtain ⟨rfl, rfl, rfl⟩ := h
    simp at hk
    subst hk
    exact .inl ⟨rfl, rfl⟩
  · simp only [Value.slice.injEq] at h
    obtain ⟨rfl, rfl, rfl⟩ := h
    refine .inr ⟨g, off, cap, cur, by simp [Nat.min_eq_left hk], by simp; omega, h2, hg, h3, fun j t hj => h4 j t ?_⟩
    rw [List.getElem?_take] at hj
    split at hj
    · exact hj
    · cases hj

theorem Txts.some {w : World} {v : Value} {l : List ByteArray} (h : Txts w v l) {ad : Addr} {n c : Nat} (hv : v = .slice (some ad) n c) : n = l.length ∧ ∀ j t, l[j]? = some t → w.cell? (ad.add j) = some (.string t) := by
  rcases h with ⟨rfl, _⟩ | ⟨g, off, cap, cur, rfl, h1, h2, hg, h3, h4⟩
  · cases hv
  · simp only [Value.slice.injEq, Option.some.injEq] at hv
    obtain ⟨rfl, rfl, rfl⟩ := hv
    refine ⟨rfl, fun j t hj => ?_⟩
    rw [Addr.add_lit]
    exact (cell_of_row w g _ cur _ (0, 0) hg).trans (h4 j t hj)

set_option maxHeartbeats 1000000 in
theorem mt_used {w : World} {m : Nat} {vl vg : Value} {s : RSt} (h : Mt w m vl vg s) (hu : s.used ≤ 1048576) (hl : s.fs.length ≤ 1048576) :
    Calls Try.prog 24 #[.pointer (some ⟨m, 0, none⟩)] w fun e w' => e = .returned (.int .i64 s.used) ∧ w = w' := by
  obtain ⟨c0, c1, c2, c3, c4, c5⟩ := h.c
  obtain ⟨ao, cap, rfl, hcap⟩ := h.rl.shape
  have H := Lib.hid h.rl
  have HU := Lib.hid (show s.used = sz s.fs from rfl)
  clear h
  generalize hM : s.fs.length = M at *
  have HM := Lib.hid hM
  clear hM
  go_enter Try.func24, Try.ntmps24
  go_wp2_with fail
  go_loopw [3, 4] (fun n i wr => ∃ k z : Nat, k ≤ M ∧ i = .int .i64 k ∧ n = .int .i64 z ∧ z = sz (s.fs.take k) ∧ wr = w) (fun _ i _ => M - (intOf i).toNat)
  case atStart => exact ⟨0, 0, Nat.zero_le _, rfl, rfl, rfl, rfl⟩
  case round =>
    obtain ⟨k, z, hk, rfl, rfl, hz, rfl⟩ := hrel
    have Hz := Lib.hid hz
    have hzu : z ≤ s.used := by rw [hz, HU.out]; have := sz_take_drop s.fs k; omega
    clear hz
    by_cases hlt : k < M
    · have hk' : k < s.fs.length := by rw [HM.out]; exact hlt
      obtain ⟨g, off, cap', hv, -, -, hcell, -⟩ := H.out.at k hk'
      simp only [Value.slice.injEq] at hv
      obtain ⟨rfl, -, rfl⟩ := hv
      have hget : s.fs[k]? = some s.fs[k] := List.getElem?_eq_getElem hk'
      have d0 := hcell k _ hget
      have hstep : sz (s.fs.take (k + 1)) = sz (s.fs.take k) + s.fs[k].size := by
        rw [List.take_add_one, hget, Option.toList_some, sz_append, sz_one]
      have hfu : s.fs[k].size ≤ 1048576 := by
        have h1 := sz_take_drop s.fs (k + 1)
        have h2 := HU.out
        omega
      generalize s.fs[k] = f at *
      have Hs := Lib.hid (show z + f.size = sz (s.fs.take (k + 1)) by rw [hstep, Hz.out])
      clear hcell hget hstep
      go_wp2
      go_roundw
      case rel => exact ⟨k + 1, z + f.size, by omega, by go_num, by go_num, Hs.out, by trivial⟩
      case measure => simp [intOf]; omega
    · have hkM : k = M := by omega
      have Hz' := Lib.hid (show s.used = z by rw [HU.out, Hz.out, List.take_of_length_le (by rw [HM.out]; omega)])
      subst hkM
      clear Hz hzu
      go_wp2
      go_ret
      rw [Hz'.out]
      exact ⟨rfl, rfl⟩

end Go.Proofs.Ytjdnjkniiippkaa
