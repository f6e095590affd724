/-
  The writer of package cursor, with its footprint: Put turns the writer's block and its row's block, and no other; the row's block stays, or is a new one. Over this seat's translation.
-/
import Derived.Test.YtjfoepknlleonaaDoorCurKit
import Derived.Test.YtjfoepknlleonaaDoorFoot
namespace Go.Proofs.YtjfoepknlleonaaDoor
open Go.RowKit
set_option linter.unusedVariables false

/-- A writer in block b holds the slice v of its own, with the bytes l. -/
structure WrF (w : World) (b : Nat) (v : Value) (l : List UInt8) : Prop where
  blk : w.heap[b]? = some (.cells #[v] 60 (0, 0))
  own : w.ownsRow 0 5 1 v l.length (cellsOf l)
  ne : v.ownBlock ≠ some b

theorem WrF.lt {w : World} {b : Nat} {v : Value} {l : List UInt8} (h : WrF w b v l) : b < w.heap.size := lt_of_block h.blk
theorem WrF.row_lt {w : World} {b : Nat} {v : Value} {l : List UInt8} (h : WrF w b v l) : ∀ k, v.ownBlock = some k → k < w.heap.size := fun k hk => (h.own.lt k hk).2
theorem WrF.only {w w' : World} {S : Nat → Prop} {b : Nat} {v : Value} {l : List UInt8} (h : WrF w b v l) (hg : Only w w' S) (hb : ¬ S b) (hr : ∀ k, v.ownBlock = some k → ¬ S k) : WrF w' b v l :=
  ⟨(hg.block b h.lt hb).trans h.blk, row_only h.own hg hr, h.ne⟩
theorem wrf_new (w : World) : WrF (w.alloc (.cells #[.slice none 0 0] 60)) w.heap.size (.slice none 0 0) [] :=
  ⟨heap_alloc_new w _, World.ownsRow_nil _ _ _ _, by simp [Value.ownBlock]⟩
theorem WrF.alloc {w : World} {b : Nat} {v : Value} {l : List UInt8} (h : WrF w b v l) (o : Obj) : WrF (w.alloc o) b v l :=
  h.only (Only.alloc w o (fun _ => False)) (by simp) (by simp)
theorem WrF.wr {w : World} {b : Nat} {v : Value} {l : List UInt8} (h : WrF w b v l) (hb : ∀ k, v.ownBlock = some k → b < k) : Wr w b l :=
  ⟨v, h.blk, row_base h.own hb⟩

/-- What a call does that writes into a writer. -/
def Wrote (w w' : World) (b : Nat) (v : Value) (l : List UInt8) : Prop :=
  ∃ v', WrF w' b v' l ∧ Only w w' (fun k => k = b ∨ v.ownBlock = some k) ∧ ∀ k, v'.ownBlock = some k → v.ownBlock = some k ∨ w.heap.size ≤ k

theorem Wrote.refl {w : World} {b : Nat} {v : Value} {l : List UInt8} (h : WrF w b v l) : Wrote w w b v l := ⟨v, h, Only.refl _ _, fun k hk => .inl hk⟩
/-- One write behind another one. -/
theorem Wrote.trans {w w1 w2 : World} {b : Nat} {v v1 : Value} {l : List UInt8} (ho : Only w w1 (fun k => k = b ∨ v.ownBlock = some k)) (hf : ∀ k, v1.ownBlock = some k → v.ownBlock = some k ∨ w.heap.size ≤ k)
    (h : Wrote w1 w2 b v1 l) : Wrote w w2 b v l := by
  obtain ⟨v2, h2, o2, f2⟩ := h
  refine ⟨v2, h2, ho.trans o2 ?_, ?_⟩
  · intro k hk hT
    rcases hT with e | e
    · exact .inl e
    · rcases hf k e with e | e
      · exact .inr e
      · omega
  · intro k hk
    have hs := ho.size
    rcases f2 k hk with e | e
    · exact hf k e
    · exact .inr (by omega)

theorem wrf_put {w w1 : World} {b : Nat} {v v' : Value} {l l' : List UInt8} (h : WrF w b v l) (hown' : w1.ownsRow 0 5 1 v' l'.length (cellsOf l'))
    (ho : Only w w1 (fun k => v.ownBlock = some k)) (hf : ∀ k, v'.ownBlock = some k → v.ownBlock = some k ∨ w.heap.size ≤ k) :
    w1.heap[b]? = some (.cells #[v] 60 (0, 0)) ∧ Wrote w (w1.setCell ⟨b, 0, none⟩ v') b v l' := by
  have hlt := h.lt
  have hv1 : w1.heap[b]? = some (.cells #[v] 60 (0, 0)) := (ho.block b hlt h.ne).trans h.blk
  have hne' : v'.ownBlock ≠ some b := fun e => by
    rcases hf b e with e | e
    · exact h.ne e
    · omega
  refine ⟨hv1, v', ⟨one_setCell hv1, ownsRow_setCell_other hown' hne' v', hne'⟩, ?_, hf⟩
  exact (ho.mono fun k _ hk => Or.inr hk).trans (Only.setCell w1 b 0 v' (fun k => k = b) rfl) (fun k _ hk => .inl hk)

set_option maxHeartbeats 400000 in
theorem put_foot (w : World) (b : Nat) (v : Value) (l : List UInt8) (h : WrF w b v l) (ad : Addr) (c : Nat) (news : List UInt8)
    (hnews : ∀ j u, (cellsOf news)[j]? = some u → w.cell? (ad.add j) = some u) (hsz : l.length + news.length ≤ 140737488355328) :
    Calls Tryd.prog 61 #[.pointer (some ⟨b, 0, none⟩), .slice (some ad) news.length c] w fun e w' => e = .returned (.tuple #[]) ∧ Wrote w w' b v (l ++ news) := by
  obtain ⟨ao, cv, rfl⟩ := own_slice' h.own
  obtain ⟨i0, hi, hz0, hz1, hz2⟩ := info_parts Tryd.infoU8
  have c0 := cell_of_one h.blk
  have Hn := Lib.hid hnews
  have Hw := Lib.hid h
  clear hnews h
  go_enter Tryd.func61, Tryd.ntmps61
  go_wp2_with (at_builtin; refine wpList_append_foot _ rfl _ _ 58 rfl 5 i0 (.int .u8 0) 1 1 Tryd.underlying58 hi hz0 hz1 hz2 rfl (by decide) _ _ _ rfl Hw.out.own ad news.length c (cellsOf news) rfl (by simp [cellsOf_length]) Hn.out (cellsOf_one _) (by unfold maxLen; omega) (by omega) ?_)
  intro v' w1 hown' ho hf
  rw [← cellsOf_append, ← List.length_append] at hown'
  have hw := wrf_put Hw.out hown' ho hf
  obtain ⟨ao', cv', hv'⟩ := own_slice' hown'
  have c1 := cell_of_one hw.1
  have f1 := free_of_one hw.1
  have Hw := Lib.hid hw
  clear hw hown' ho hf
  generalize (l ++ _).length = nn at hv'
  rw [hv'] at Hw ⊢
  clear hv'
  go_wp2
  go_end0
  exact ⟨rfl, Hw.out.2⟩

/-- A byte is put, as the call lays it. -/
theorem put_one_foot (w : World) (b : Nat) (v : Value) (l : List UInt8) (h : WrF w b v l) (x : UInt8) (y : Int) (hy : y = (x.toNat : Int)) (c : Nat) (hsz : l.length + 1 ≤ 140737488355328) :
    Calls Tryd.prog 61 #[.pointer (some ⟨b, 0, none⟩), .slice (some ⟨w.heap.size, 0, none⟩) 1 c] (w.alloc (.cells #[.int .u8 y] 5)) fun e w' => e = .returned (.tuple #[]) ∧ Wrote w w' b v (l ++ [x]) := by
  refine (put_foot _ b v l (h.alloc _) ⟨w.heap.size, 0, none⟩ c [x] (seg_one w x y hy) hsz).mono ?_
  rintro e w' ⟨rfl, h1⟩
  exact ⟨rfl, Wrote.trans (Only.alloc w _ _) (fun k hk => .inl hk) h1⟩

theorem WrF.shape {w : World} {b : Nat} {v : Value} {l : List UInt8} (h : WrF w b v l) : ∃ ao cap, w.cell? ⟨b, 0, none⟩ = some (.slice ao l.length cap) ∧
    ((ao = none ∧ l = []) ∨ ∃ g, ao = some ⟨g, 0, none⟩ ∧ ∀ j (hj : j < l.length), w.cell? ((⟨g, 0, none⟩ : Addr).add j) = some (.int .u8 (l[j].toNat : Int))) := by
  have c0 := cell_of_one h.blk
  have hown := h.own
  rcases hown.2 with ⟨rfl, hn⟩ | ⟨g, cap, cur, rfl, hb, hg, r⟩
  · exact ⟨none, 0, by rw [hn]; exact c0, .inl ⟨rfl, List.eq_nil_of_length_eq_zero hn⟩⟩
  · refine ⟨_, cap, c0, .inr ⟨g, rfl, fun j hj => ?_⟩⟩
    exact hown.cells (g := g) rfl j _ (by simp [cellsOf, hj])

set_option maxHeartbeats 400000 in
theorem string_foot (w : World) (b : Nat) (v : Value) (l : List UInt8) (h : WrF w b v l) :
    Calls Tryd.prog 26 #[.pointer (some ⟨b, 0, none⟩)] w fun e w' => e = .returned (.string ⟨l.toArray⟩) ∧ w = w' := by
  obtain ⟨ao, cap, c0, hsh⟩ := h.shape
  clear h
  rcases hsh with ⟨rfl, rfl⟩ | ⟨g, rfl, hc⟩
  · have hcv := run_convert_bytes_nil (P := Tryd.prog) w 58 5 Tryd.underlying58 Tryd.underlying5 0 cap 9 Tryd.underlying9
    simp only [List.length_nil] at c0
    go_enter Tryd.func26, Tryd.ntmps26
    go_wp2
    go_ret
    exact ⟨rfl, rfl⟩
  · have hcv := run_convert_bytes_back (P := Tryd.prog) w 58 9 5 ⟨g, 0, none⟩ cap l Tryd.underlying58 Tryd.underlying5 Tryd.underlying9 hc
    clear hc
    go_enter Tryd.func26, Tryd.ntmps26
    go_wp2
    go_ret
    exact ⟨rfl, rfl⟩

end Go.Proofs.YtjfoepknlleonaaDoor
