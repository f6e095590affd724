/-
  strings.Builder and strings.Join over this seat's translation (where the panic of copyCheck is cut off): what a builder of one's own holds behind each call. No condition but on sizes.
-/
import Derived.Test.YtlnlfeninjjkmaaDoorLsF
import Derived.Test.YtlnlfeninjjkmaaDoorFoot
import Derived.Lib.Builder
import Derived.Lib.AppendStr
import Derived.Laws.Externs
import Derived.Laws.OwnMore
namespace Go.Proofs.YtlnlfeninjjkmaaDoor
open Go.RowKit
set_option linter.unusedVariables false
set_option linter.unusedSimpArgs false

theorem Tryd.infoB : (Tryd.prog.info? 5).map (fun i => (i.zero, i.size, i.bytes)) = some (some (.int .u8 0), 1, 1) := by kernel_rfl
theorem Tryd.sizeBuilder : (Tryd.prog.info? 74).map (·.size) = some 2 := by kernel_rfl
theorem Tryd.liesBuilder : liesAt Tryd.prog Tryd.prog.depth 74 (2 / Tryd.prog.cellsOf 74) 0 74 1 = true := by kernel_rfl

/-- A builder's two cells, used or not. -/
theorem builder_cells {B b : Nat} {bs : List Value} {w : World} (h : Lib.IsBuilder 74 5 B b bs w) : ∃ p v, (p = .pointer none ∨ p = .pointer (some ⟨b, 0, none⟩)) ∧ Lib.BuilderAt 74 5 B b p bs w ∧
    w.heap[b]? = some (.cells #[p, v] 74 (0, 0)) ∧ w.ownsRow B 5 1 v bs.length bs ∧ v.ownBlock ≠ some b ∧ B ≤ b := by
  rcases h with h | h
  · exact ⟨_, _, .inl rfl, h, h.2.choose_spec.1, h.2.choose_spec.2.1, h.2.choose_spec.2.2, h.1⟩
  · exact ⟨_, _, .inr rfl, h, h.2.choose_spec.1, h.2.choose_spec.2.1, h.2.choose_spec.2.2, h.1⟩

set_option maxHeartbeats 1000000 in
set_option maxRecDepth 100000 in
theorem bd_check (B b : Nat) (bs : List Value) (w : World) (h : Lib.IsBuilder 74 5 B b bs w) :
    Calls Tryd.prog 52 #[.pointer (some ⟨b, 0, none⟩)] w fun e w' => e = .returned (.tuple #[]) ∧ Lib.BuilderAt 74 5 B b (.pointer (some ⟨b, 0, none⟩)) bs w' ∧ Below B w w' := by
  obtain ⟨p, v, hp, hat, hblk, -, -, hB⟩ := builder_cells h
  obtain ⟨j, hj, hj2⟩ := Option.map_eq_some_iff.1 Tryd.sizeBuilder
  have c0 : w.cell? ⟨b, 0, none⟩ = some p := (cell_of_row w b 0 _ _ (0, 0) hblk).trans rfl
  have f0 : w.frozen? ⟨b, 0, none⟩ = false := frozen_of_row w b 0 _ _ hblk
  have hsh := hat.shape
  have a1 := Lib.run_to_unsafe (P := Tryd.prog) w ⟨b, 0, none⟩ Tryd.underlying71 Tryd.underlying102 hj (by omega) hsh (show 0 < 2 by decide)
  have a2 : (callFunc 63 #[.pointer (some ⟨b, 0, none⟩)]).run Tryd.prog w = .ok (.value (.pointer (some ⟨b, 0, none⟩))) w := by
    rw [run_callFunc_extern Tryd.func63 (by kernel_rfl) (by kernel_rfl) (by kernel_rfl) (e := Extern.AbiNoEscape.same) (by kernel_rfl), Lib.run_noEscape]
    rfl
  have a3 := Lib.run_from_unsafe (P := Tryd.prog) w ⟨b, 0, none⟩ Tryd.underlying102 Tryd.underlying71 hj hsh Tryd.liesBuilder
  have a4 := Lib.run_neq_ptr_same (P := Tryd.prog) w ⟨b, 0, none⟩ Tryd.underlying71 hj
  have HA := Lib.hid hat
  clear hat hblk hsh h
  rcases hp with rfl | rfl
  · go_enter Tryd.func52, Tryd.ntmps52
    go_wp2
    go_end0
    exact ⟨rfl, HA.out.used _, (Below.refl B w).setCell (p := ⟨b, 0, none⟩) hB _⟩
  · go_enter Tryd.func52, Tryd.ntmps52
    go_wp2
    go_end0
    exact ⟨rfl, HA.out, Below.refl B _⟩

/-- Behind append: the builder, and what it turned. -/
theorem builder_put {B b : Nat} {p v v' : Value} {bs l : List Value} {n : Nat} {w w1 : World} (hblk : w.heap[b]? = some (.cells #[p, v] 74 (0, 0))) (hown : w.ownsRow B 5 1 v bs.length bs) (hne : v.ownBlock ≠ some b) (hB : B ≤ b) (hw : B ≤ w.heap.size)
    (ho : w1.ownsRow B 5 1 v' n l) (hn : n = l.length) (hg : w.grownBy w1 v.ownBlock) :
    w1.heap[b]? = some (.cells #[p, v] 74 (0, 0)) ∧ Lib.BuilderAt 74 5 B b p l (w1.setCell ⟨b, 1, none⟩ v') ∧ Below B w (w1.setCell ⟨b, 1, none⟩ v') := by
  subst hn
  have h1 := (hg.block b (blk_lt hblk) (fun e => hne e.symm)).trans hblk
  exact ⟨h1, Lib.BuilderAt.put hB h1 ho (by decide), ((Below.refl B w).grown hg hw (fun k hk => (hown.lt k hk).1)).setCell (p := ⟨b, 1, none⟩) hB v'⟩

set_option maxHeartbeats 1000000 in
set_option maxRecDepth 100000 in
theorem bd_write (B b : Nat) (bs : List Value) (s : ByteArray) (w : World) (h : Lib.IsBuilder 74 5 B b bs w) (hlen : bs.length + s.size ≤ 140737488355328) (hBw : B ≤ w.heap.size) :
    Calls Tryd.prog 38 #[.pointer (some ⟨b, 0, none⟩), .string s] w fun e w' => e = .returned (.tuple #[.int .i64 s.size, .nilIface]) ∧ Lib.BuilderAt 74 5 B b (.pointer (some ⟨b, 0, none⟩)) (bs ++ Lib.strCells s) w' ∧ Below B w w' := by
  obtain ⟨i0, hi, hz0, hz1, hz2⟩ := info_parts Tryd.infoB
  have HC := Lib.hid (bd_check B b bs w h)
  have hsl : bs.length + s.size = (bs ++ Lib.strCells s).length := by rw [List.length_append, Lib.strCells_length]
  have HSL := Lib.hid hsl
  clear h hsl
  go_enter Tryd.func38, Tryd.ntmps38
  go_wp2_with fail
  refine HC.out.mono ?_
  rintro e w1 ⟨rfl, ⟨hB, v, hblk, hown, hne⟩, b1⟩
  have hw1 : B ≤ w1.heap.size := Nat.le_trans hBw b1.size
  obtain ⟨al, cl, rfl⟩ := own_slice' hown
  have x1 : w1.cell? ⟨b, 1, none⟩ = some (.slice al bs.length cl) := (cell_of_row w1 b 1 _ _ (0, 0) hblk).trans rfl
  go_wp2_with (at_builtin; refine Lib.wpList_append_own_string _ rfl (.tmp 12) (.tmp 13) 72 9 rfl B 5 i0 Tryd.underlying72 Tryd.underlying9 hi hz0 hz1 hz2 _ _ _ rfl hown s rfl (by unfold maxLen; omega) (by omega) hw1 ?_)
  intro v2 w2 ho hg _
  obtain ⟨a2, k2, rfl⟩ := own_slice' ho
  obtain ⟨hb2, hat, hbel⟩ := builder_put hblk hown hne hB hw1 ho HSL.out hg
  have y1 : w2.cell? ⟨b, 1, none⟩ = some (.slice al bs.length cl) := (cell_of_row w2 b 1 _ _ (0, 0) hb2).trans rfl
  have z1 : w2.frozen? ⟨b, 1, none⟩ = false := frozen_of_row w2 b 1 _ _ hb2
  have HF := Lib.hid (And.intro hat (b1.trans hbel))
  clear hblk hown hne ho hg hb2 hat hbel b1 x1
  go_wp2
  go_ret2
  exact ⟨rfl, HF.out.1, HF.out.2⟩

set_option maxHeartbeats 1000000 in
set_option maxRecDepth 100000 in
theorem bd_byte (B b : Nat) (bs : List Value) (c : Nat) (hc : c < 256) (w : World) (h : Lib.IsBuilder 74 5 B b bs w) (hlen : bs.length + 1 ≤ 140737488355328) (hBw : B ≤ w.heap.size) :
    Calls Tryd.prog 39 #[.pointer (some ⟨b, 0, none⟩), .int .u8 (c : Int)] w fun e w' => e = .returned .nilIface ∧ Lib.BuilderAt 74 5 B b (.pointer (some ⟨b, 0, none⟩)) (bs ++ [.int .u8 (c : Int)]) w' ∧ Below B w w' := by
  obtain ⟨i0, hi, hz0, hz1, hz2⟩ := info_parts Tryd.infoB
  have HC := Lib.hid (bd_check B b bs w h)
  have hsl : bs.length + 1 = (bs ++ [Value.int .u8 (c : Int)]).length := by simp
  have HSL := Lib.hid hsl
  clear h hsl
  go_enter Tryd.func39, Tryd.ntmps39
  go_wp2_with fail
  refine HC.out.mono ?_
  rintro e w1 ⟨rfl, ⟨hB, v, hblk, hown, hne⟩, b1⟩
  have hw1 : B ≤ w1.heap.size := Nat.le_trans hBw b1.size
  obtain ⟨al, cl, rfl⟩ := own_slice' hown
  have x1 : w1.cell? ⟨b, 1, none⟩ = some (.slice al bs.length cl) := (cell_of_row w1 b 1 _ _ (0, 0) hblk).trans rfl
  obtain ⟨w2, e2⟩ : ∃ w2, w2 = w1.alloc (.cells #[.int .u8 (c : Int)] 5) := ⟨_, rfl⟩
  obtain ⟨s2, n2, b2⟩ := new_size e2
  have hown2 : w2.ownsRow B 5 1 (.slice al bs.length cl) bs.length bs := by rw [e2]; exact World.ownsRow.alloc hown _
  have hblk2 := blk_on b2 hblk
  have hw2 : B ≤ w2.heap.size := by omega
  have b12 : Below B w1 w2 := b2.mono hw1
  have hseg : ∀ j u, [Value.int .u8 (c : Int)][j]? = some u → w2.cell? ((⟨w1.heap.size, 0, none⟩ : Addr).add j) = some u := by
    intro j u hj
    match j, hj with
    | 0, hj => simp at hj; subst hj; simp [Addr.add, World.cell?, n2]
  have HX := Lib.hid hown2
  have HY := Lib.hid hblk2
  have HS := Lib.hid (And.intro s2 n2)
  clear hblk hown hown2 hblk2 n2 s2 b2
  go_wp2_with (rw [← e2]; at_builtin; refine wpList_append_own _ rfl _ _ 72 rfl B 5 i0 (.int .u8 0) 1 1 Tryd.underlying72 hi hz0 hz1 hz2 rfl (by decide) _ _ _ rfl HX.out _ 1 1 [Value.int .u8 (c : Int)] rfl rfl hseg (by simp [Value.oneCell']) (by unfold maxLen; omega) (by omega) hw2 ?_)
  intro v2 w3 ho hg _
  rw [← e2] at hg
  obtain ⟨a2, k2, rfl⟩ := own_slice' ho
  obtain ⟨hb2, hat, hbel⟩ := builder_put HY.out HX.out hne hB hw2 ho HSL.out hg
  have y1 : w3.cell? ⟨b, 1, none⟩ = some (.slice al bs.length cl) := (cell_of_row w3 b 1 _ _ (0, 0) hb2).trans rfl
  have z1 : w3.frozen? ⟨b, 1, none⟩ = false := frozen_of_row w3 b 1 _ _ hb2
  have HF := Lib.hid (And.intro hat ((b1.trans b12).trans hbel))
  clear hne ho hg hb2 hat hbel b1 x1 e2 b12 hseg
  go_wp2
  go_ret
  exact ⟨rfl, HF.out.1, HF.out.2⟩

theorem builder_only {T e : TypeId} {B b : Nat} {bs : List Value} {w w' : World} {S : Nat → Prop} (h : Lib.IsBuilder T e B b bs w) (ho : Only w w' S) (hS : ∀ k, S k → k < B) : Lib.IsBuilder T e B b bs w' := by
  have key : ∀ p, Lib.BuilderAt T e B b p bs w → Lib.BuilderAt T e B b p bs w' := by
    rintro p ⟨hB, v, hb, hown, hne⟩
    refine ⟨hB, v, (ho.block b (blk_lt hb) (fun hs => by have := hS b hs; omega)).trans hb, row_only hown ho (fun k hk hs => ?_), hne⟩
    have h1 := (hown.lt k hk).1
    have h2 := hS k hs
    omega
  rcases h with h | h
  · exact .inl (key _ h)
  · exact .inr (key _ h)

theorem builder_below {T e : TypeId} {B b : Nat} {bs : List Value} {w w' : World} (h : Lib.IsBuilder T e B b bs w) (hb : Below w.heap.size w w') : Lib.IsBuilder T e B b bs w' :=
  builder_only h (Only.of_below hb (fun _ => False)) (fun k hk => hk.elim)

end Go.Proofs.YtlnlfeninjjkmaaDoor
