/-
  strings.Builder's copyCheck and WriteString over this seat's translation (whose panic is cut off), and take and Drain of package ring.
-/
import Derived.Test.YtjdnjkniiippkaaRi4
import Derived.Lib.Builder
import Derived.Lib.AppendStr
import Derived.Laws.Externs
namespace Go.Proofs.Ytjdnjkniiippkaa
open Go.RowKit
set_option linter.unusedVariables false

theorem Try.infoB : (Try.prog.info? 5).map (fun i => (i.zero, i.size, i.bytes)) = some (some (.int .u8 0), 1, 1) := by kernel_rfl
theorem Try.sizeBuilder : (Try.prog.info? 54).map (·.size) = some 2 := by kernel_rfl
theorem Try.liesBuilder : liesAt Try.prog Try.prog.depth 54 (2 / Try.prog.cellsOf 54) 0 54 1 = true := by kernel_rfl

/-- A builder's two cells, used or not. -/
theorem builder_cells {B b : Nat} {bs : List Value} {w : World} (h : Lib.IsBuilder 54 5 B b bs w) : ∃ p v, (p = .pointer none ∨ p = .pointer (some ⟨b, 0, none⟩)) ∧ Lib.BuilderAt 54 5 B b p bs w ∧
    w.heap[b]? = some (.cells #[p, v] 54 (0, 0)) ∧ w.ownsRow B 5 1 v bs.length bs ∧ v.ownBlock ≠ some b ∧ B ≤ b := by
  rcases h with h | h
  · exact ⟨_, _, .inl rfl, h, h.2.choose_spec.1, h.2.choose_spec.2.1, h.2.choose_spec.2.2, h.1⟩
  · exact ⟨_, _, .inr rfl, h, h.2.choose_spec.1, h.2.choose_spec.2.1, h.2.choose_spec.2.2, h.1⟩

set_option maxHeartbeats 1000000 in
set_option maxRecDepth 100000 in
theorem bd_check (B b : Nat) (bs : List Value) (w : World) (h : Lib.IsBuilder 54 5 B b bs w) :
    Calls Try.prog 33 #[.pointer (some ⟨b, 0, none⟩)] w fun e w' => e = .returned (.tuple #[]) ∧ Lib.BuilderAt 54 5 B b (.pointer (some ⟨b, 0, none⟩)) bs w' ∧ Below B w w' := by
  obtain ⟨p, v, hp, hat, hblk, -, -, hB⟩ := builder_cells h
  obtain ⟨j, hj, hj2⟩ := Option.map_eq_some_iff.1 Try.sizeBuilder
  have c0 : w.cell? ⟨b, 0, none⟩ = some p := (cell_of_row w b 0 _ _ (0, 0) hblk).trans rfl
  have f0 : w.frozen? ⟨b, 0, none⟩ = false := frozen_of_row w b 0 _ _ hblk
  have hsh := hat.shape
  have a1 := Lib.run_to_unsafe (P := Try.prog) w ⟨b, 0, none⟩ Try.underlying51 Try.underlying63 hj (by omega) hsh (show 0 < 2 by decide)
  have a2 : (callFunc 34 #[.pointer (some ⟨b, 0, none⟩)]).run Try.prog w = .ok (.value (.pointer (some ⟨b, 0, none⟩))) w := by
    rw [run_callFunc_extern Try.func34 (by kernel_rfl) (by kernel_rfl) (by kernel_rfl) (e := Extern.AbiNoEscape.same) (by kernel_rfl), Lib.run_noEscape]
    rfl
  have a3 := Lib.run_from_unsafe (P := Try.prog) w ⟨b, 0, none⟩ Try.underlying63 Try.underlying51 hj hsh Try.liesBuilder
  have a4 := Lib.run_neq_ptr_same (P := Try.prog) w ⟨b, 0, none⟩ Try.underlying51 hj
  have HA := Lib.hid hat
  clear hat hblk hsh h
  rcases hp with rfl | rfl
  · go_enter Try.func33, Try.ntmps33
    go_wp2
    go_end0
    exact ⟨rfl, HA.out.used _, (Below.refl B w).setCell (p := ⟨b, 0, none⟩) hB _⟩
  · go_enter Try.func33, Try.ntmps33
    go_wp2
    go_end0
    exact ⟨rfl, HA.out, Below.refl B _⟩

/-- Behind append: the builder, and what it turned. -/
theorem builder_put {B b : Nat} {p v v' : Value} {bs l : List Value} {n : Nat} {w w1 : World} (hblk : w.heap[b]? = some (.cells #[p, v] 54 (0, 0))) (hown : w.ownsRow B 5 1 v bs.length bs) (hne : v.ownBlock ≠ some b) (hB : B ≤ b) (hw : B ≤ w.heap.size)
    (ho : w1.ownsRow B 5 1 v' n l) (hn : n = l.length) (hg : w.grownBy w1 v.ownBlock) :
    w1.heap[b]? = some (.cells #[p, v] 54 (0, 0)) ∧ Lib.BuilderAt 54 5 B b p l (w1.setCell ⟨b, 1, none⟩ v') ∧ Below B w (w1.setCell ⟨b, 1, none⟩ v') := by
  subst hn
  have h1 := (hg.block b (blt hblk) (fun e => hne e.symm)).trans hblk
  exact ⟨h1, Lib.BuilderAt.put hB h1 ho (by decide), ((Below.refl B w).grown hg hw (fun k hk => (hown.lt k hk).1)).setCell (p := ⟨b, 1, none⟩) hB v'⟩

set_option maxHeartbeats 1000000 in
set_option maxRecDepth 100000 in
theorem bd_write (B b : Nat) (bs : List Value) (s : ByteArray) (w : World) (h : Lib.IsBuilder 54 5 B b bs w) (hlen : bs.length + s.size ≤ 140737488355328) (hBw : B ≤ w.heap.size) :
    Calls Try.prog 26 #[.pointer (some ⟨b, 0, none⟩), .string s] w fun e w' => e = .returned (.tuple #[.int .i64 s.size, .nilIface]) ∧ Lib.BuilderAt 54 5 B b (.pointer (some ⟨b, 0, none⟩)) (bs ++ Lib.strCells s) w' ∧ Below B w w' := by
  obtain ⟨i0, hi, hz0, hz1, hz2⟩ := info_parts Try.infoB
  have HC := Lib.hid (bd_check B b bs w h)
  have hsl : bs.length + s.size = (bs ++ Lib.strCells s).length := by rw [List.length_append, Lib.strCells_length]
  have HSL := Lib.hid hsl
  clear h hsl
  go_enter Try.func26, Try.ntmps26
  go_wp2_with fail
  refine HC.out.mono ?_
  rintro e w1 ⟨rfl, ⟨hB, v, hblk, hown, hne⟩, b1⟩
  have hw1 : B ≤ w1.heap.size := Nat.le_trans hBw b1.size
  obtain ⟨al, cl, rfl⟩ := own_slice' hown
  have x1 : w1.cell? ⟨b, 1, none⟩ = some (.slice al bs.length cl) := (cell_of_row w1 b 1 _ _ (0, 0) hblk).trans rfl
  go_wp2_with (at_builtin; refine Lib.wpList_append_own_string _ rfl (.tmp 12) (.tmp 13) 52 9 rfl B 5 i0 Try.underlying52 Try.underlying9 hi hz0 hz1 hz2 _ _ _ rfl hown s rfl (by unfold maxLen; omega) (by omega) hw1 ?_)
  intro v2 w2 ho hg _
  obtain ⟨a2, k2, rfl⟩ := own_slice' ho
  obtain ⟨hb2, hat, hbel⟩ := builder_put hblk hown hne hB hw1 ho HSL.out hg
  have y1 : w2.cell? ⟨b, 1, none⟩ = some (.slice al bs.length cl) := (cell_of_row w2 b 1 _ _ (0, 0) hb2).trans rfl
  have z1 : w2.frozen? ⟨b, 1, none⟩ = false := frozen_of_row w2 b 1 _ _ hb2
  have HF := Lib.hid (And.intro hat (b1.trans hbel))
  clear hblk hown hne ho hg hb2 hat hbel b1 x1
  go_wp2
  go_ret2
  exact ⟨rfl, HF.out.1, HF.out.2⟩

/-- The first m bytes of the first frame are taken. -/
def RSt.taken (s : RSt) (f : ByteArray) (r : List ByteArray) (m : Nat) : RSt := { s with fs := if f.size ≤ m then r else f.extract m f.size :: r, begun := decide (m < f.size) }
theorem RSt.taken_eq {s : RSt} {f : ByteArray} {r : List ByteArray} (hfs : s.fs = f :: r) {m : Nat} (hm : m ≠ 0) :
    s.drained m = (f.extract 0 (min m f.size)).data.toList ++ (s.taken f r m).drained (m - min m f.size) ∧ s.drain m = (s.taken f r m).drain (m - min m f.size) := by
  have hx : (f.extract 0 (min m f.size)).data.toList = f.data.toList.take m := by
    rw [ByteArray.data_extract, Array.toList_extract, List.extract_eq_take_drop]
    simp only [List.drop_zero, Nat.sub_zero]
    rw [← size_list f, ← List.take_take, List.take_length]
  rw [hx]
  unfold RSt.drained RSt.drain RSt.taken
  rw [hfs]
  by_cases h : f.size ≤ m
  · rw [if_pos h, drn_whole hm h, show decide (m < f.size) = false by simp; omega, Nat.min_eq_right h, List.take_of_length_le (by rw [size_list]; exact h)]
    exact ⟨rfl, rfl⟩
  · rw [if_neg h, drn_part hm h, show decide (m < f.size) = true by simp; omega, Nat.min_eq_left (by omega), Nat.sub_self, drn_zero]
    exact ⟨by simp, rfl⟩
theorem RSt.taken_ok {s : RSt} (ok : s.Ok) {f : ByteArray} {r : List ByteArray} (hfs : s.fs = f :: r) {m : Nat} : (s.taken f r m).Ok ∧ (s.taken f r m).used + min m f.size = s.used := by
  have hu : s.used = f.size + sz r := by unfold RSt.used; rw [hfs]; rfl
  have hk := ok.u
  have he : ∀ g ∈ r, 1 ≤ g.size := fun g hg => ok.e g (by rw [hfs]; exact List.mem_cons_of_mem _ hg)
  unfold RSt.taken
  by_cases h : f.size ≤ m
  · rw [if_pos h]
    refine ⟨⟨ok.c1, ok.c2, ok.p, by show sz r ≤ s.cap; omega, he, fun hb => by simp at hb; omega⟩, ?_⟩
    show sz r + _ = _
    omega
  · rw [if_neg h]
    have hs := size_extract f m (by omega)
    refine ⟨⟨ok.c1, ok.c2, ok.p, ?_, ?_, fun hb => by simp⟩, ?_⟩
    · show (f.extract m f.size).size + sz r ≤ s.cap
      omega
    · intro g hg
      rcases List.mem_cons.1 hg with rfl | hg
      · omega
      · exact he g hg
    · show (f.extract m f.size).size + sz r + _ = _
      omega

set_option maxRecDepth 100000 in
set_option maxHeartbeats 1000000 in
theorem rg_take {w : World} {b : Nat} {v : Value} {s : RSt} (h : RingAt w b v s) (ok : s.Ok) {f : ByteArray} {r : List ByteArray} (hfs : s.fs = f :: r) (m : Nat) (hm : m ≠ 0) (hm2 : m ≤ 9223372036854775807) :
    Calls Try.prog 27 #[.pointer (some ⟨b, 0, none⟩), .int .i64 m] w fun e w' => e = .returned (.string (f.extract 0 (min m f.size))) ∧ ∃ v', RingAt w' b v' (s.taken f r m) ∧ Turned w w' b v v' ∧ Stays v v' := by
  obtain ⟨okt, hut⟩ := RSt.taken_ok ok hfs (m := m)
  have hu : s.used = f.size + sz r := by unfold RSt.used; rw [hfs]; rfl
  have hk1 := ok.u
  have hk2 := ok.c2
  have hlen := len_le_sz s.fs ok.e
  have hlu : sz s.fs = s.used := rfl
  have hl1 : s.fs.length = r.length + 1 := by rw [hfs]; rfl
  obtain ⟨c0, c1, c2, c3, c4, c5⟩ := h.c
  have f3 := h.free 3
  have f4 := h.free 4
  obtain ⟨g, off, cap, rfl, hg, hc, hcell, hfree⟩ := h.row.at 0 (by omega)
  have d0 := hcell 0 f (by rw [hfs]; rfl)
  simp only [Nat.add_zero] at d0
  have g0 := hfree off
  have hn0 : (0 : Int) < (s.fs.length : Int) := by omega
  have hU : (s.used : Int) - ((min m f.size : Nat) : Int) = ((s.taken f r m).used : Nat) := by omega
  by_cases hfm : f.size ≤ m
  · have hmn : min m f.size = f.size := Nat.min_eq_right hfm
    rw [hmn] at hU ⊢
    have hmin : min (m : Int) (f.size : Int) = (f.size : Int) := by omega
    have hd : decide ((f.size : Int) < (f.size : Int)) = false := by simp
    have h2 := (h.set_used ((s.used : Int) - (f.size : Int))).set_begun false
    have hdr := rg_drop h2 1 (by omega) (by omega)
    have T2 := Lib.hid ((Turned.cell w b 3 (.slice (some ⟨g, off, none⟩) s.fs.length cap) (.int .i64 ((s.used : Int) - (f.size : Int)))).trans (Turned.cell _ b 4 (.slice (some ⟨g, off, none⟩) s.fs.length cap) (.bool false)))
    have hfin : (s.taken f r m).fs = s.fs.drop 1 := by rw [hfs]; show (if f.size ≤ m then r else _) = r; rw [if_pos hfm]
    have hbg : (s.taken f r m).begun = false := by show decide (m < f.size) = false; simp; omega
    have HF := Lib.hid hfin
    have HB := Lib.hid hbg
    have HD := Lib.hid hdr
    have HU := Lib.hid hU
    have HX := Lib.hid (show f.extract 0 f.size = f by apply ByteArray.ext; simp)
    generalize hM : s.fs.length = M at *
    have hfz : f.size ≤ 1048576 := by omega
    clear h hcell hfree hut hmn hU hlen hlu hl1 hu okt h2 hdr hfin hbg
    go_enter Try.func27, Try.ntmps27
    go_wp2_with fail
    refine HD.out.mono ?_
    rintro e w2 ⟨rfl, v2, r2, t2, st2⟩
    have HR := Lib.hid r2
    have HT := Lib.hid t2
    have HS := Lib.hid st2
    clear r2 t2 st2 HD
    go_wp2_with fail
    go_ret
    refine ⟨by rw [HX.out]; rfl, v2, ?_, T2.out.trans HT.out, HS.out⟩
    have h3 := HR.out
    rw [HU.out, ← HF.out, ← HB.out] at h3
    exact h3
  · have hmn : min m f.size = m := Nat.min_eq_left (by omega)
    rw [hmn] at hU ⊢
    have hmin : min (m : Int) (f.size : Int) = (m : Int) := by omega
    have hd : decide ((m : Int) < (f.size : Int)) = true := by simp; omega
    have hmf : (m : Int) ≤ (f.size : Int) := by omega
    have h2 := ((h.set_used ((s.used : Int) - (m : Int))).set_begun true).stored 0 (f.extract m f.size) (by omega)
    have hfin : (s.taken f r m).fs = s.fs.set 0 (f.extract m f.size) := by rw [hfs]; show (if f.size ≤ m then r else _) = _; rw [if_neg hfm]; rfl
    have hbg : (s.taken f r m).begun = true := by show decide (m < f.size) = true; simp; omega
    have HF := Lib.hid hfin
    have HB := Lib.hid hbg
    have H2 := Lib.hid h2
    have T2 := Lib.hid ((Turned.cell w b 3 (.slice (some ⟨g, off, none⟩) s.fs.length cap) (.int .i64 ((s.used : Int) - (m : Int)))).trans (Turned.cell _ b 4 (.slice (some ⟨g, off, none⟩) s.fs.length cap) (.bool true)))
    have HU := Lib.hid hU
    have hgb : g ≠ b := fun e => h.ne (by rw [e]; rfl)
    generalize hM : s.fs.length = M at *
    have hfz : f.size ≤ 1048576 := by omega
    clear h hcell hfree hut hmn hU hlen hlu hl1 hu okt h2 hfin hbg
    go_enter Try.func27, Try.ntmps27
    go_wp2_with fail
    go_region
    go_wp2_with fail
    go_ret
    refine ⟨rfl, _, ?_, (T2.out.trans H2.out.2).trans (Turned.drewN _ b 1 _), fun k h => h⟩
    have h3 := H2.out.1.drewN 1
    rw [HU.out, ← HF.out, ← HB.out] at h3
    rw [HU.out, ← HB.out]
    exact h3

end Go.Proofs.Ytjdnjkniiippkaa
