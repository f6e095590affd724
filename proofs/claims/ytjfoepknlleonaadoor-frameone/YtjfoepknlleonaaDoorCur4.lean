/-
  The writer of package cursor over this seat's translation: what Put, Text, Len and String do. Conditions: the writer's bytes stay below 2^47.
-/
import Derived.Test.YtjfoepknlleonaaDoorCur
import Derived.Lib.AppendStr
import Derived.Laws.AppendOwnNone
import Derived.Laws.BytesArg
namespace Go.Proofs.YtjfoepknlleonaaDoor
open Go.RowKit
set_option linter.unusedVariables false

theorem Tryd.infoU8 : (Tryd.prog.info? 5).map (fun i => (i.zero, i.size, i.bytes)) = some (some (.int .u8 0), 1, 1) := by kernel_rfl

/-- A list of bytes as cells. -/
def cellsOf (l : List UInt8) : List Value := l.map fun c => Value.int .u8 c.toNat

/-- A writer lies in block b, and has the bytes l; its row lies behind it. -/
def Wr (w : World) (b : Nat) (l : List UInt8) : Prop :=
  ∃ v, w.heap[b]? = some (.cells #[v] 60 (0, 0)) ∧ w.ownsRow (b + 1) 5 1 v l.length (cellsOf l)

theorem Wr.lt {w : World} {b : Nat} {l : List UInt8} (h : Wr w b l) : b < w.heap.size := by
  obtain ⟨v, hv, _⟩ := h
  by_cases hb : b < w.heap.size
  · exact hb
  · rw [Array.getElem?_eq_none (by omega)] at hv; cases hv

theorem Wr.drewN {w : World} {b : Nat} {l : List UInt8} (h : Wr w b l) (n : Nat) : Wr (w.drewN n) b l := h

theorem wr_new (w : World) : Wr (w.alloc (.cells #[.slice none 0 0] 60)) w.heap.size [] :=
  ⟨_, heap_alloc_new w _, World.ownsRow_nil _ _ _ _⟩

theorem wr_put {w w1 : World} {b : Nat} {v v' : Value} {n : Nat} {xs : List Value} {l : List UInt8} (hv : w.heap[b]? = some (.cells #[v] 60 (0, 0))) (hown : w.ownsRow (b + 1) 5 1 v n xs)
    (hown' : w1.ownsRow (b + 1) 5 1 v' l.length (cellsOf l)) (hg : w.grownBy w1 v.ownBlock) :
    w1.heap[b]? = some (.cells #[v] 60 (0, 0)) ∧ Wr (w1.setCell ⟨b, 0, none⟩ v') b l ∧ Below b w (w1.setCell ⟨b, 0, none⟩ v') := by
  have hlt : b < w.heap.size := lt_of_block hv
  have hne : some b ≠ v.ownBlock := fun e => by have := (hown.lt b e.symm).1; omega
  have hne' : v'.ownBlock ≠ some b := fun e => by have := (hown'.lt b e).1; omega
  have hv1 : w1.heap[b]? = some (.cells #[v] 60 (0, 0)) := (hg.block b hlt hne).trans hv
  refine ⟨hv1, ⟨v', one_setCell hv1, ownsRow_setCell_other hown' hne' v'⟩, ?_⟩
  exact ((Below.refl b w).grown hg (by omega) (fun k hk => by have := (hown.lt k hk).1; omega)).setCell (Nat.le_refl _) _

theorem own_slice {w : World} {B : Nat} {e : TypeId} {v : Value} {n : Nat} {xs : List Value} (h : w.ownsRow B e 1 v n xs) : ∃ ao c, v = .slice ao n c := by
  rcases h.2 with ⟨rfl, rfl⟩ | ⟨g, cap, cur, rfl, _⟩
  · exact ⟨_, _, rfl⟩
  · exact ⟨_, _, rfl⟩

theorem cellsOf_append (l m : List UInt8) : cellsOf (l ++ m) = cellsOf l ++ cellsOf m := by simp [cellsOf]
theorem cellsOf_length (l : List UInt8) : (cellsOf l).length = l.length := by simp [cellsOf]
theorem cellsOf_one (l : List UInt8) : ∀ u ∈ cellsOf l, u.oneCell' = true := by
  intro u hu
  simp only [cellsOf, List.mem_map] at hu
  obtain ⟨c, _, rfl⟩ := hu
  rfl

set_option maxHeartbeats 400000 in
theorem put_nil (w : World) (x : Value) :
    Calls Tryd.prog 61 #[.pointer none, x] w fun e w' => e = .returned (.tuple #[]) ∧ w = w' := by
  go_enter Tryd.func61, Tryd.ntmps61
  go_wp2
  (try simp only [Exit.inBlock, Exit.then])
  refine bodyPost_ret (results_none rfl _ _ _) rfl ?_
  exact ⟨rfl, rfl⟩

set_option maxHeartbeats 400000 in
theorem put_any (w : World) (b : Nat) (l : List UInt8) (h : Wr w b l) (ad : Addr) (c : Nat) (news : List UInt8)
    (hnews : ∀ j u, (cellsOf news)[j]? = some u → w.cell? (ad.add j) = some u) (hsz : l.length + news.length ≤ 140737488355328) :
    Calls Tryd.prog 61 #[.pointer (some ⟨b, 0, none⟩), .slice (some ad) news.length c] w fun e w' => e = .returned (.tuple #[]) ∧ Wr w' b (l ++ news) ∧ Below b w w' := by
  obtain ⟨v, hv, hown⟩ := h
  obtain ⟨ao, cv, rfl⟩ := own_slice hown
  obtain ⟨i0, hi, hz0, hz1, hz2⟩ := info_parts Tryd.infoU8
  have hlt : b < w.heap.size := lt_of_block hv
  have c0 := cell_of_one hv
  have Hv := Lib.hid hv
  have Hn := Lib.hid hnews
  clear hv hnews
  go_enter Tryd.func61, Tryd.ntmps61
  go_wp2_with (at_builtin; refine wpList_append_own _ rfl _ _ 58 rfl (b + 1) 5 i0 (.int .u8 0) 1 1 Tryd.underlying58 hi hz0 hz1 hz2 rfl (by decide) _ _ _ rfl hown ad news.length c (cellsOf news) rfl (by simp [cellsOf_length]) Hn.out (cellsOf_one _) (by unfold maxLen; omega) (by omega) (by omega) ?_)
  intro v' w1 hown' hgrow _
  rw [← cellsOf_append, ← List.length_append] at hown'
  have hw := wr_put Hv.out hown hown' hgrow
  obtain ⟨ao', cv', hv'⟩ := own_slice hown'
  have c1 := cell_of_one hw.1
  have f1 := free_of_one hw.1
  have Hw := Lib.hid hw
  clear hw hown hown' hgrow
  generalize (l ++ _).length = nn at hv'
  rw [hv'] at Hw ⊢
  clear hv'
  go_wp2
  go_end0
  exact ⟨rfl, Hw.out.2⟩

set_option maxHeartbeats 400000 in
theorem text_nil (w : World) (x : Value) :
    Calls Tryd.prog 23 #[.pointer none, x] w fun e w' => e = .returned (.tuple #[]) ∧ w = w' := by
  go_enter Tryd.func23, Tryd.ntmps23
  go_wp2
  (try simp only [Exit.inBlock, Exit.then])
  refine bodyPost_ret (results_none rfl _ _ _) rfl ?_
  exact ⟨rfl, rfl⟩

set_option maxHeartbeats 400000 in
theorem text_any (w : World) (b : Nat) (l : List UInt8) (h : Wr w b l) (s : ByteArray) (hsz : l.length + s.size ≤ 140737488355328) :
    Calls Tryd.prog 23 #[.pointer (some ⟨b, 0, none⟩), .string s] w fun e w' => e = .returned (.tuple #[]) ∧ Wr w' b (l ++ s.data.toList) ∧ Below b w w' := by
  obtain ⟨v, hv, hown⟩ := h
  obtain ⟨ao, cv, rfl⟩ := own_slice hown
  obtain ⟨i0, hi, hz0, hz1, hz2⟩ := info_parts Tryd.infoU8
  have hlt : b < w.heap.size := lt_of_block hv
  have c0 := cell_of_one hv
  have Hv := Lib.hid hv
  clear hv
  go_enter Tryd.func23, Tryd.ntmps23
  go_wp2_with (at_builtin; refine Lib.wpList_append_own_string _ rfl _ _ 58 9 rfl (b + 1) 5 i0 Tryd.underlying58 Tryd.underlying9 hi hz0 hz1 hz2 _ _ _ rfl hown s rfl (by unfold maxLen; omega) (by omega) (by omega) ?_)
  intro v' w1 hown' hgrow _
  rw [show Lib.strCells s = cellsOf s.data.toList from rfl, ← cellsOf_append, show l.length + s.size = (l ++ s.data.toList).length from by simp] at hown'
  have hw := wr_put Hv.out hown hown' hgrow
  obtain ⟨ao', cv', hv'⟩ := own_slice hown'
  have c1 := cell_of_one hw.1
  have f1 := free_of_one hw.1
  have Hw := Lib.hid hw
  clear hw hown hown' hgrow
  generalize (l ++ _).length = nn at hv'
  rw [hv'] at Hw ⊢
  clear hv'
  go_wp2
  go_end0
  exact ⟨rfl, Hw.out.2⟩

theorem Wr.shape {w : World} {b : Nat} {l : List UInt8} (h : Wr w b l) : ∃ ao cap, w.cell? ⟨b, 0, none⟩ = some (.slice ao l.length cap) ∧
    ((ao = none ∧ l = []) ∨ ∃ g, ao = some ⟨g, 0, none⟩ ∧ ∀ j (hj : j < l.length), w.cell? ((⟨g, 0, none⟩ : Addr).add j) = some (.int .u8 (l[j].toNat : Int))) := by
  obtain ⟨v, hv, hown⟩ := h
  have c0 := cell_of_one hv
  rcases hown.2 with ⟨rfl, hn⟩ | ⟨g, cap, cur, rfl, hb, hg, r⟩
  · exact ⟨none, 0, by rw [hn]; exact c0, .inl ⟨rfl, List.eq_nil_of_length_eq_zero hn⟩⟩
  · refine ⟨_, cap, c0, .inr ⟨g, rfl, fun j hj => ?_⟩⟩
    exact hown.cells (g := g) rfl j _ (by simp [cellsOf, hj])

set_option maxHeartbeats 400000 in
theorem string_nil (w : World) :
    Calls Tryd.prog 26 #[.pointer none] w fun e w' => e = .returned (.string ⟨#[]⟩) ∧ w = w' := by
  go_enter Tryd.func26, Tryd.ntmps26
  go_wp2
  go_ret
  exact ⟨rfl, rfl⟩

set_option maxHeartbeats 400000 in
theorem string_any (w : World) (b : Nat) (l : List UInt8) (h : Wr w b l) :
    Calls Tryd.prog 26 #[.pointer (some ⟨b, 0, none⟩)] w fun e w' => e = .returned (.string ⟨l.toArray⟩) ∧ w = w' := by
  obtain ⟨ao, cap, c0, hsh⟩ := h.shape
  clear h
  rcases hsh with ⟨rfl, rfl⟩ | ⟨g, rfl, hc⟩
  · have hcv := run_convert_bytes_nil (P := Tryd.prog) w 58 5 Tryd.underlying58 Tryd.underlying5 0 cap 9 Tryd.underlying9
    simp only [List.length_nil] at c0
    go_enter Tryd.func26, Tryd.ntmps26
    go_wp2
    go_ret
    exact ⟨rfl, rfl⟩
  · have hcv := run_convert_bytes_back (P := Tryd.prog) w 58 9 5 ⟨g, 0, none⟩ cap l Tryd.underlying58 Tryd.underlying5 Tryd.underlying9 hc
    clear hc
    go_enter Tryd.func26, Tryd.ntmps26
    go_wp2
    go_ret
    exact ⟨rfl, rfl⟩

end Go.Proofs.YtjfoepknlleonaaDoor
