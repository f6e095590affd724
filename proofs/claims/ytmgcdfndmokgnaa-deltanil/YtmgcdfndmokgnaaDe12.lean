/-
  That the statements' awake is true; calls and numbers that came in. No condition.
-/
import Derived.Test.YtmgcdfndmokgnaaDe11
import Derived.OpenShut
import Derived.HandedShaped
namespace Go.Proofs.Ytmgcdfndmokgnaa
open Go Go.ChangeShapes Go.WideShapes Go.ChangeAt Go.RowKit
set_option linter.unusedVariables false
set_option linter.unusedSimpArgs false

/-- A row of another kind stays behind a call of the code's. -/
theorem OL.keeps {α : Type} {ty : TypeId} {n : Nat} {f : α → List Value} {w0 w w' : World} {m B : Nat} {v v' x : Value} {D : List Ck} {l : List α} (h : OL w0 w m v D) (r : OwnR ty n f w B x l) (h1 : ty ≠ 26) (h2 : ty ≠ 53) (g : Foot m v v' w w') : OwnR ty n f w' B x l := by
  obtain ⟨L, hk, _⟩ := h.st
  refine r.only g.only (fun k hk2 e => ?_)
  rcases e with rfl | e
  · obtain ⟨c1, g1⟩ := r.kind hk2
    rw [hk.blk] at g1
    injection g1 with g1
    injection g1 with _ g1 _
    exact h1 g1.symm
  · exact kinds_apart r hk.row h2 k hk2 e
theorem awk_put {w0 w : World} {m : Nat} {v : Value} {D : List Ck} (h : OL w0 w m v D) (id t : Int) (D' : List Ck) (hk : putK D id t = true) (hD : putD D id t = D') :
    Calls Try.prog 9 #[.pointer (some ⟨m, 0, none⟩), .int .i64 id, .int .i64 t] w fun e w' => e = .returned (.int .i64 0) ∧ ∃ v', OL w0 w' m v' D' ∧ Foot m v v' w w' := by
  have := ol_put h id t
  rw [hk, hD] at this
  exact this
theorem awk_bad {w0 w : World} {m : Nat} {v : Value} {D : List Ck} (h : OL w0 w m v D) (id t : Int) (hk : putK D id t = false) :
    Calls Try.prog 9 #[.pointer (some ⟨m, 0, none⟩), .int .i64 id, .int .i64 t] w fun e w' => e = .returned (.int .i64 1) ∧ ∃ v', OL w0 w' m v' D ∧ Foot m v v' w w' := by
  have := ol_put h id t
  unfold putD at this
  rw [hk] at this
  exact this
theorem awk_tick {w0 w : World} {m : Nat} {v : Value} {D : List Ck} (h : OL w0 w m v D) (o : List Nat) (k : Nat) (D' : List Ck) (h1 : overD D = o) (h2 : o.length = k) (h3 : tickD D = D') :
    Calls Try.prog 14 #[.pointer (some ⟨m, 0, none⟩)] w fun e w' => ∃ ao cap, e = .returned (.slice ao k cap) ∧ OwnI w' w.heap.size (.slice ao k cap) o ∧ ∃ v', OL w0 w' m v' D' ∧ Foot m v v' w w' := by
  have := ol_tick h
  rw [h1, h2, h3] at this
  exact this
theorem awk_dues {w0 w : World} {m : Nat} {v : Value} {D : List Ck} (h : OL w0 w m v D) (S : List Ck) (k : Nat) (h1 : srt D = S) (h2 : D.length = k) :
    Calls Try.prog 17 #[.pointer (some ⟨m, 0, none⟩)] w fun e w' => ∃ bo bc, e = .returned (.slice bo k bc) ∧ OwnD w' w.heap.size (.slice bo k bc) S ∧ Below w.heap.size w w' := by
  have := ol_dues h
  rw [h1, h2] at this
  exact this

set_option maxRecDepth 100000 in
set_option maxHeartbeats 8000000 in
theorem awake15_any (w : World) : Calls Try.prog 8 #[] w fun e w' => e = .returned (.bool true) ∧ Below w.heap.size w w' := by
  obtain ⟨w1, e1⟩ : ∃ w1, w1 = w.alloc (.cells #[.slice none 0 0] 26) := ⟨_, rfl⟩
  have O1 := ol_new e1
  obtain ⟨Z, hZ⟩ : ∃ Z, w.heap.size = Z := ⟨_, rfl⟩
  rw [hZ] at O1
  have HZ := Lib.hid hZ
  have K1 := Lib.hid (awk_put O1 7 2 [(7, 2)] (by decide) (by decide))
  clear hZ O1
  go_enter Try.func8, Try.ntmps8
  go_upto_region 2 with fail
  rw [← e1, HZ.out]
  clear e1
  go_wp2_with fail
  refine K1.out.mono ?_
  rintro e w2 ⟨rfl, v2, o2, -⟩
  have K2 := Lib.hid (awk_put o2 3 1 [(7, 2), (3, 1)] (by decide) (by decide))
  clear o2 K1
  go_wp2_with fail
  refine K2.out.mono ?_
  rintro e w3 ⟨rfl, v3, o3, -⟩
  have K3 := Lib.hid (awk_put o3 5 2 [(7, 2), (3, 1), (5, 2)] (by decide) (by decide))
  clear o3 K2
  go_wp2_with fail
  refine K3.out.mono ?_
  rintro e w4 ⟨rfl, v4, o4, -⟩
  have K4 := Lib.hid (awk_dues o4 [(3, 1), (7, 2), (5, 2)] 3 (by decide) rfl)
  have O4 := Lib.hid o4
  clear o4 K3
  go_wp2_with fail
  refine K4.out.mono ?_
  rintro e w5 ⟨bo, bc, rfl, d5, b5⟩
  have O5 := Lib.hid (O4.out.kept b5)
  have D5 := Lib.hid d5
  clear d5 b5 K4 O4
  obtain ⟨w6, e6⟩ : ∃ w6, w6 = w5.alloc (.cells #[.int .i64 3, .int .i64 1, .int .i64 7, .int .i64 2, .int .i64 5, .int .i64 2] 48) := ⟨_, rfl⟩
  obtain ⟨-, -, b6⟩ := new_size e6
  have hl6 := lit_row (w := w5) (n := w5.heap.size) [(3, 1), (7, 2), (5, 2)] #[.int .i64 3, .int .i64 1, .int .i64 7, .int .i64 2, .int .i64 5, .int .i64 2] rfl rfl (by decide) (by decide)
  rw [← e6] at hl6
  have K6 := same_own (D5.out.below b6) hl6 (by decide)
  rw [show decide (([(3, 1), (7, 2), (5, 2)] : List Ck) = [(3, 1), (7, 2), (5, 2)]) = true from by decide] at K6
  have HK6 := Lib.hid K6
  have O6 := Lib.hid (O5.out.kept b6)
  have E6 := Lib.hid e6
  clear K6 hl6 b6 e6
  go_wp2_with fail
  rw [← E6.out]
  refine HK6.out.mono ?_
  rintro e w7 ⟨rfl, q7, rfl⟩
  have O7 := Lib.hid (O6.out.drewN q7)
  generalize w6.drewN q7 = w7 at *
  have K7 := Lib.hid (awk_tick O7.out [3] 1 [(7, 1), (5, 1)] (by decide) rfl (by decide))
  clear HK6 O6 E6 D5 O5
  go_wp2_with fail
  refine K7.out.mono ?_
  rintro e w8 ⟨a8, c8, rfl, r8, v8, o8, -⟩
  have K8 := Lib.hid (awk_put o8 9 1 [(7, 1), (5, 1), (9, 1)] (by decide) (by decide))
  have R8 := Lib.hid r8
  have O8 := Lib.hid o8
  clear r8 o8 K7 O7
  go_wp2_with fail
  refine K8.out.mono ?_
  rintro e w9 ⟨rfl, v9, o9, f9⟩
  have R9 := Lib.hid (O8.out.keeps R8.out (by decide) (by decide) f9)
  have K9 := Lib.hid (awk_tick o9 [7, 5, 9] 3 [] (by decide) rfl (by decide))
  have O9 := Lib.hid o9
  clear o9 f9 R8 K8 O8
  go_wp2_with fail
  refine K9.out.mono ?_
  rintro e w10 ⟨a10, c10, rfl, r10, v10, o10, f10⟩
  have R10 := Lib.hid (O9.out.keeps R9.out (by decide) (by decide) f10)
  have S10 := Lib.hid r10
  have O10 := Lib.hid o10
  clear r10 o10 f10 R9 K9 O9
  obtain ⟨w11, e11⟩ : ∃ w11, w11 = w10.alloc (.cells #[.int .i64 3] 3) := ⟨_, rfl⟩
  obtain ⟨-, -, b11⟩ := new_size e11
  have hl11 := lit_nums (w := w10) (n := w10.heap.size) [3] #[.int .i64 3] rfl rfl (by decide)
  rw [← e11] at hl11
  have K11 := ints_own (R10.out.below b11) hl11 (by decide)
  rw [show decide (([3] : List Nat) = [3]) = true from by decide] at K11
  have HK11 := Lib.hid K11
  have O11 := Lib.hid (O10.out.kept b11)
  have S11 := Lib.hid (S10.out.below b11)
  have E11 := Lib.hid e11
  clear K11 hl11 b11 e11 S10 O10
  go_wp2_with fail
  rw [← E11.out]
  refine HK11.out.mono ?_
  rintro e w12 ⟨rfl, q12, rfl⟩
  have O12 := Lib.hid (O11.out.drewN q12)
  have S12 := Lib.hid (OwnR.below S11.out (below_drewN (Below.refl _ _) q12))
  generalize w11.drewN q12 = w12 at *
  clear HK11 O11 S11 E11 R10
  obtain ⟨w13, e13⟩ : ∃ w13, w13 = w12.alloc (.cells #[.int .i64 7, .int .i64 5, .int .i64 9] 3) := ⟨_, rfl⟩
  obtain ⟨-, -, b13⟩ := new_size e13
  have hl13 := lit_nums (w := w12) (n := w12.heap.size) [7, 5, 9] #[.int .i64 7, .int .i64 5, .int .i64 9] rfl rfl (by decide)
  rw [← e13] at hl13
  have K13 := ints_own (S12.out.below b13) hl13 (by decide)
  rw [show decide (([7, 5, 9] : List Nat) = [7, 5, 9]) = true from by decide] at K13
  have HK13 := Lib.hid K13
  have O13 := Lib.hid (O12.out.kept b13)
  have E13 := Lib.hid e13
  clear K13 hl13 b13 e13 S12 O12
  go_wp2_with fail
  rw [← E13.out]
  refine HK13.out.mono ?_
  rintro e w14 ⟨rfl, q14, rfl⟩
  have O14 := Lib.hid (O13.out.drewN q14)
  generalize w13.drewN q14 = w14 at *
  have K14 := Lib.hid (awk_bad O14.out 256 1 (by decide))
  clear HK13 O13 E13
  go_wp2_with fail
  refine K14.out.mono ?_
  rintro e w15 ⟨rfl, v15, o15, -⟩
  have K15 := Lib.hid (awk_bad o15 1 0 (by decide))
  clear o15 K14 O14
  go_wp2_with fail
  refine K15.out.mono ?_
  rintro e w16 ⟨rfl, v16, o16, -⟩
  have B16 := Lib.hid o16.bel
  clear o16 K15
  go_wp2_with fail
  go_ret
  exact ⟨rfl, B16.out⟩

/-! ### What came in -/
def op3 (o : Int × Int × Int) : List Value := [.int .i64 o.1, .int .i64 o.2.1, .int .i64 o.2.2]
theorem op3_len (o : Int × Int × Int) : (op3 o).length = 3 := rfl
def z1 (z : Int) : List Value := [.int .i64 z]
theorem z1_len (z : Int) : (z1 z).length = 1 := rfl
abbrev SeenOp (w : World) (ao : Option Addr) (cap : Nat) (l : List (Int × Int × Int)) : Prop := SeenR 3 op3 w ao cap l
abbrev SeenZ (w : World) (ao : Option Addr) (cap : Nat) (l : List Int) : Prop := SeenR 1 z1 w ao cap l
theorem seenOp_at {w : World} {ao : Option Addr} {cap : Nat} {l : List (Int × Int × Int)} (h : SeenOp w ao cap l) (i : Nat) (hi : i < l.length) : ∃ b off, ao = some ⟨b, off, none⟩ ∧ b < w.heap.size ∧
    w.cell? ⟨b, off + i * 3, none⟩ = some (.int .i64 (l[i]).1) ∧ w.cell? ⟨b, off + i * 3 + 1, none⟩ = some (.int .i64 (l[i]).2.1) ∧ w.cell? ⟨b, off + i * 3 + 2, none⟩ = some (.int .i64 (l[i]).2.2) := by
  obtain ⟨b, off, h1, h2, h3⟩ := h.at i hi
  exact ⟨b, off, h1, h2, h3 0 (by omega), h3 1 (by omega), h3 2 (by omega)⟩
theorem seenZ_at {w : World} {ao : Option Addr} {cap : Nat} {l : List Int} (h : SeenZ w ao cap l) (i : Nat) (hi : i < l.length) : ∃ b off, ao = some ⟨b, off, none⟩ ∧ b < w.heap.size ∧ w.cell? ⟨b, off + i, none⟩ = some (.int .i64 l[i]) := by
  obtain ⟨b, off, h1, h2, h3⟩ := h.at i hi
  have := h3 0 (by omega)
  rw [Nat.mul_one, Nat.add_zero] at this
  exact ⟨b, off, h1, h2, this⟩
theorem open_num {H : Type} {enc : TypeId × Value → H} {W : World} (fuel : Nat) (cs : List Value) (x : DataW H × List MemPlace)
    (h : DataW.trod enc Try.prog W 0 (fun _ => true) true fuel 3 cs = some x) : ∃ n : Int, cs = z1 n ∧ (Lit.int .i64 n).wf = true := by
  obtain ⟨z0, e0, _, g0⟩ := DataW.trod_int Try.underlying3 h
  exact ⟨z0, e0, g0⟩
theorem open_zs {H : Type} {enc : TypeId × Value → H} {W : World} {ao : Option Addr} {len cap : Nat} {d : DataW H} {ps : List MemPlace}
    (h : DataW.Trod enc Try.prog W 0 (fun _ => true) true 38 (.slice ao len cap) d ps) : ∃ l : List Int, l.length = len ∧ SeenZ W ao cap l ∧ ∀ z ∈ l, (Lit.int .i64 z).wf = true :=
  open_rows Try.underlying38 (show Try.prog.cellsOf 3 = 1 from by kernel_rfl) (by decide) z1_len (fun z => (Lit.int .i64 z).wf = true) 0 (by decide) (open_num (H := H) (enc := enc) (W := W)) h

set_option maxRecDepth 100000 in
theorem open_one {H : Type} {enc : TypeId × Value → H} {W : World} (fuel : Nat) (cs : List Value) (x : DataW H × List MemPlace)
    (h : DataW.trod enc Try.prog W 0 (fun _ => true) true fuel 32 cs = some x) : ∃ o : Int × Int × Int, cs = op3 o ∧ ((Lit.int .i64 o.1).wf = true ∧ (Lit.int .i64 o.2.1).wf = true ∧ (Lit.int .i64 o.2.2).wf = true) := by
  obtain ⟨xs, n, _, _, hl, hxl, hg⟩ := DataW.trod_struct Try.underlying32 h
  rw [show Try.prog.cellsOf 32 = 3 from by kernel_rfl] at hl
  have hx : xs.length = 3 := hxl
  match cs, hl, xs, hx with
  | [c0, c1, c2], _, [y0, y1, y2], _ =>
    have f0 : DataW.trod enc Try.prog W 0 (fun _ => true) true n 3 (([c0, c1, c2].drop 0).take (Try.prog.cellsOf 3)) = some y0 := hg 0 _ rfl
    have f1 : DataW.trod enc Try.prog W 0 (fun _ => true) true n 3 (([c0, c1, c2].drop 1).take (Try.prog.cellsOf 3)) = some y1 := hg 1 _ rfl
    have f2 : DataW.trod enc Try.prog W 0 (fun _ => true) true n 3 (([c0, c1, c2].drop 2).take (Try.prog.cellsOf 3)) = some y2 := hg 2 _ rfl
    rw [show Try.prog.cellsOf 3 = 1 from by kernel_rfl] at f0 f1 f2
    obtain ⟨z0, e0, _, g0⟩ := DataW.trod_int Try.underlying3 f0
    obtain ⟨z1, e1, _, g1⟩ := DataW.trod_int Try.underlying3 f1
    obtain ⟨z2, e2, _, g2⟩ := DataW.trod_int Try.underlying3 f2
    simp at e0 e1 e2
    exact ⟨(z0, z1, z2), by rw [e0, e1, e2]; rfl, g0, g1, g2⟩
theorem open_ops {H : Type} {enc : TypeId × Value → H} {W : World} {ao : Option Addr} {len cap : Nat} {d : DataW H} {ps : List MemPlace}
    (h : DataW.Trod enc Try.prog W 0 (fun _ => true) true 22 (.slice ao len cap) d ps) : ∃ l : List (Int × Int × Int), l.length = len ∧ SeenOp W ao cap l ∧ ∀ o ∈ l, ((Lit.int .i64 o.1).wf = true ∧ (Lit.int .i64 o.2.1).wf = true ∧ (Lit.int .i64 o.2.2).wf = true) :=
  open_rows Try.underlying22 (show Try.prog.cellsOf 32 = 3 from by kernel_rfl) (by decide) op3_len (fun o => (Lit.int .i64 o.1).wf = true ∧ (Lit.int .i64 o.2.1).wf = true ∧ (Lit.int .i64 o.2.2).wf = true) (0, 0, 0) (by decide) (open_one (H := H) (enc := enc) (W := W)) h
theorem op_cells {w : World} {k : Nat} {u0 u1 u2 : Value} (h : w.heap[k]? = some (.cells #[u0, u1, u2] 32 (0, 0))) : w.cell? ⟨k, 0, none⟩ = some u0 ∧ w.cell? ⟨k, 1, none⟩ = some u1 ∧ w.cell? ⟨k, 2, none⟩ = some u2 := by
  refine ⟨?_, ?_, ?_⟩ <;> simp [World.cell?, h]

end Go.Proofs.Ytmgcdfndmokgnaa
