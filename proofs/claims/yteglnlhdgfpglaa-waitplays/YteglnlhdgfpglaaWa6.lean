/-
  That the statements' awake is true; lists of calls and of levels that came in. No condition.
-/
import Derived.Test.YteglnlhdgfpglaaWa5
namespace Go.Proofs.Yteglnlhdgfpglaa
open Go Go.RowKit
set_option linter.unusedVariables false
set_option linter.unusedSimpArgs false

/-! ### awake -/
theorem lit_own {w : World} {n : Nat} (l : List Int) (cs : Array Value) (hn : n = w.heap.size) (hc : cs = (l.flatMap lv1).toArray) (hl : l.length ≤ 1000) : OwnL (w.alloc (.cells cs 3)) w.heap.size (.slice (some ⟨n, 0, none⟩) l.length l.length) l := by
  subst hn hc
  exact ownR_of (rest := []) lv1_len (by rw [List.append_nil]; exact heap_alloc_new w _) (Nat.le_refl _) (Nat.le_refl _) (by unfold maxLen; omega) (by simp)
theorem own_seenL {w : World} {B m cap : Nat} {ao : Option Addr} {l : List Int} (h : OwnL w B (.slice ao m cap) l) : SeenL w ao cap l := by
  obtain ⟨a', c', e', hs, -⟩ := OwnR.seen lv1_len h
  cases e'
  exact hs
theorem lit_lv {w : World} {n : Nat} (l : List Int) (cs : Array Value) (hn : n = w.heap.size) (hc : cs = (l.flatMap lv1).toArray) (hl : l.length ≤ 1000) : SeenL (w.alloc (.cells cs 3)) (some ⟨n, 0, none⟩) l.length l :=
  own_seenL (lit_own l cs hn hc hl)
section
variable {w0 w : World} {m : Nat} {v : Value} {l l' : List Nat}
theorem awk_add (h : OW w0 w m v l) (t : Int) (e1 : addK l t = true) (e2 : addW l t = l') : Calls Try.prog 10 #[.pointer (some ⟨m, 0, none⟩), .int .i64 t] w fun e w' => e = .returned (.int .i64 0) ∧ ∃ v', OW w0 w' m v' l' := by
  refine (ow_add h t).mono ?_
  rintro e w' ⟨rfl, v', h1, h2⟩
  exact ⟨by rw [if_pos e1], v', by rw [← e2]; exact h1⟩
theorem awk_bad (h : OW w0 w m v l) (t : Int) (e1 : addK l t = false) : Calls Try.prog 10 #[.pointer (some ⟨m, 0, none⟩), .int .i64 t] w fun e w' => e = .returned (.int .i64 1) ∧ w = w' := wadd_no h.st t e1
theorem awk_remove (h : OW w0 w m v l) (t : Int) (b : Bool) (e1 : inW l t = b) (e2 : remW l t = l') : Calls Try.prog 11 #[.pointer (some ⟨m, 0, none⟩), .int .i64 t] w fun e w' => e = .returned (.bool b) ∧ ∃ v', OW w0 w' m v' l' := by
  refine (ow_remove h t).mono ?_
  rintro e w' ⟨rfl, v', h1, h2⟩
  exact ⟨by rw [e1], v', by rw [← e2]; exact h1⟩
theorem awk_has (h : OW w0 w m v l) (t : Int) (b : Bool) (e1 : inW l t = b) : Calls Try.prog 17 #[.pointer (some ⟨m, 0, none⟩), .int .i64 t] w fun e w' => e = .returned (.bool b) ∧ w = w' := by
  have := ow_has h t
  rw [e1] at this
  exact this
theorem awk_best (h : OW w0 w m v l) {bo : Option Addr} {bc n : Nat} {lv : List Int} (g : SeenL w bo bc lv) (t : Nat) (hn : lv.length = n) (e1 : bestW lv l = some t) : Calls Try.prog 13 #[.pointer (some ⟨m, 0, none⟩), .slice bo n bc] w fun e w' => e = .returned (.tuple #[.int .i64 (t : Int), .bool true]) ∧ ∃ q, w' = w.drewN q := by
  have := ow_best h g
  rw [hn, show bestV lv l = .tuple #[.int .i64 (t : Int), .bool true] by unfold bestV; rw [e1]] at this
  exact this
end

set_option maxRecDepth 100000 in
set_option maxHeartbeats 8000000 in
theorem awake16_any (w : World) : Calls Try.prog 8 #[] w fun e w' => e = .returned (.bool true) ∧ Below w.heap.size w w' := by
  obtain ⟨w1, e1⟩ : ∃ w1, w1 = w.alloc (.cells #[.slice none 0 0] 26) := ⟨_, rfl⟩
  have O1 := ow_new e1
  obtain ⟨Z, hZ⟩ : ∃ Z, w.heap.size = Z := ⟨_, rfl⟩
  rw [hZ] at O1
  have HZ := Lib.hid hZ
  have K1 := Lib.hid (awk_add O1 4 (by decide) (show addW [] 4 = [4] by decide))
  clear hZ O1
  go_enter Try.func8, Try.ntmps8
  go_upto_region 2 with fail
  rw [← e1, HZ.out]
  clear e1
  go_wp2_with fail
  refine K1.out.mono ?_
  rintro e w2 ⟨rfl, v2, o2⟩
  have K2 := Lib.hid (awk_add o2 1 (by decide) (show addW [4] 1 = [4, 1] by decide))
  clear o2 K1
  go_wp2_with fail
  refine K2.out.mono ?_
  rintro e w3 ⟨rfl, v3, o3⟩
  have K3 := Lib.hid (awk_add o3 2 (by decide) (show addW [4, 1] 2 = [4, 1, 2] by decide))
  clear o3 K2
  go_wp2_with fail
  refine K3.out.mono ?_
  rintro e w4 ⟨rfl, v4, o4⟩
  obtain ⟨w5, e5⟩ : ∃ w5, w5 = w4.alloc (.cells #[.int .i64 0, .int .i64 5, .int .i64 5, .int .i64 0, .int .i64 9] 3) := ⟨_, rfl⟩
  obtain ⟨-, -, b5⟩ := new_size e5
  have hl5 := lit_lv (w := w4) (n := w4.heap.size) [0, 5, 5, 0, 9] #[.int .i64 0, .int .i64 5, .int .i64 5, .int .i64 0, .int .i64 9] rfl rfl (by decide)
  rw [← e5] at hl5
  have O5 := o4.kept b5
  have K5 := Lib.hid (awk_best (n := 5) O5 hl5 1 rfl (by decide))
  have HO5 := Lib.hid O5
  have E5 := Lib.hid e5
  clear o4 hl5 b5 e5 O5 K3
  go_wp2_with fail
  rw [← E5.out]
  refine K5.out.mono ?_
  rintro e w6 ⟨rfl, q6, rfl⟩
  have O6 := HO5.out.drewN q6
  generalize w5.drewN q6 = w6 at *
  have K6 := Lib.hid (awk_remove O6 1 true (by decide) (show remW [4, 1, 2] 1 = [4, 2] by decide))
  clear O6 HO5 K5 E5
  go_wp2_with fail
  refine K6.out.mono ?_
  rintro e w7 ⟨rfl, v7, o7⟩
  obtain ⟨w8, e8⟩ : ∃ w8, w8 = w7.alloc (.cells #[.int .i64 0, .int .i64 5, .int .i64 7] 3) := ⟨_, rfl⟩
  obtain ⟨-, -, b8⟩ := new_size e8
  have hl8 := lit_lv (w := w7) (n := w7.heap.size) [0, 5, 7] #[.int .i64 0, .int .i64 5, .int .i64 7] rfl rfl (by decide)
  rw [← e8] at hl8
  have O8 := o7.kept b8
  have K8 := Lib.hid (awk_best (n := 3) O8 hl8 2 rfl (by decide))
  have HO8 := Lib.hid O8
  have E8 := Lib.hid e8
  clear o7 hl8 b8 e8 O8 K6
  go_wp2_with fail
  rw [← E8.out]
  refine K8.out.mono ?_
  rintro e w9 ⟨rfl, q9, rfl⟩
  have O9 := HO8.out.drewN q9
  generalize w8.drewN q9 = w9 at *
  have K9 := Lib.hid (awk_bad O9 4 (by decide))
  have K10 := Lib.hid (awk_has O9 4 true (by decide))
  have K11 := Lib.hid (awk_has O9 1 false (by decide))
  have B9 := Lib.hid O9.bel
  clear O9 HO8 K8 E8
  go_wp2_with fail
  refine K9.out.mono ?_
  rintro e w10 ⟨rfl, rfl⟩
  go_wp2_with fail
  refine K10.out.mono ?_
  rintro e w10 ⟨rfl, rfl⟩
  go_wp2_with fail
  refine K11.out.mono ?_
  rintro e w10 ⟨rfl, rfl⟩
  go_wp2_with fail
  go_ret
  exact ⟨rfl, B9.out⟩

/-! ### What came in -/
def wop (o : Int × Int) : List Value := [.int .i64 o.1, .int .i64 o.2]
theorem wop_len (o : Int × Int) : (wop o).length = 2 := rfl
abbrev SeenW (w : World) (ao : Option Addr) (cap : Nat) (l : List (Int × Int)) : Prop := SeenR 2 wop w ao cap l
theorem seenW_at {w : World} {ao : Option Addr} {cap : Nat} {l : List (Int × Int)} (h : SeenW w ao cap l) (i : Nat) (hi : i < l.length) : ∃ b off, ao = some ⟨b, off, none⟩ ∧ b < w.heap.size ∧
    w.cell? ⟨b, off + i * 2, none⟩ = some (.int .i64 (l[i]).1) ∧ w.cell? ⟨b, off + i * 2 + 1, none⟩ = some (.int .i64 (l[i]).2) := by
  obtain ⟨b, off, h1, h2, h3⟩ := h.at i hi
  exact ⟨b, off, h1, h2, h3 0 (by omega), h3 1 (by omega)⟩
theorem open_lv1 {H : Type} {enc : TypeId × Value → H} {W : World} (fuel : Nat) (cs : List Value) (x : DataW H × List MemPlace)
    (h : DataW.trod enc Try.prog W 0 (fun _ => true) true fuel 3 cs = some x) : ∃ n : Int, cs = lv1 n ∧ (Lit.int .i64 n).wf = true := by
  obtain ⟨z0, e0, _, g0⟩ := DataW.trod_int Try.underlying3 h
  exact ⟨z0, e0, g0⟩
theorem open_lvs {H : Type} {enc : TypeId × Value → H} {W : World} {ao : Option Addr} {len cap : Nat} {d : DataW H} {ps : List MemPlace}
    (h : DataW.Trod enc Try.prog W 0 (fun _ => true) true 23 (.slice ao len cap) d ps) : ∃ l : List Int, l.length = len ∧ SeenL W ao cap l ∧ ∀ z ∈ l, (Lit.int .i64 z).wf = true :=
  open_rows Try.underlying23 (show Try.prog.cellsOf 3 = 1 from by kernel_rfl) (by decide) lv1_len (fun z => (Lit.int .i64 z).wf = true) 0 (by decide) (open_lv1 (H := H) (enc := enc) (W := W)) h
set_option maxRecDepth 100000 in
theorem open_wop {H : Type} {enc : TypeId × Value → H} {W : World} (fuel : Nat) (cs : List Value) (x : DataW H × List MemPlace)
    (h : DataW.trod enc Try.prog W 0 (fun _ => true) true fuel 28 cs = some x) : ∃ o : Int × Int, cs = wop o ∧ ((Lit.int .i64 o.1).wf = true ∧ (Lit.int .i64 o.2).wf = true) := by
  obtain ⟨xs, n, _, _, hl, hxl, hg⟩ := DataW.trod_struct Try.underlying28 h
  rw [show Try.prog.cellsOf 28 = 2 from by kernel_rfl] at hl
  have hx : xs.length = 2 := hxl
  match cs, hl, xs, hx with
  | [c0, c1], _, [y0, y1], _ =>
    have f0 : DataW.trod enc Try.prog W 0 (fun _ => true) true n 3 (([c0, c1].drop 0).take (Try.prog.cellsOf 3)) = some y0 := hg 0 _ rfl
    have f1 : DataW.trod enc Try.prog W 0 (fun _ => true) true n 3 (([c0, c1].drop 1).take (Try.prog.cellsOf 3)) = some y1 := hg 1 _ rfl
    rw [show Try.prog.cellsOf 3 = 1 from by kernel_rfl] at f0 f1
    obtain ⟨z0, e0, _, g0⟩ := DataW.trod_int Try.underlying3 f0
    obtain ⟨z1, e1, _, g1⟩ := DataW.trod_int Try.underlying3 f1
    simp at e0 e1
    exact ⟨(z0, z1), by rw [e0, e1]; rfl, g0, g1⟩
theorem open_wops {H : Type} {enc : TypeId × Value → H} {W : World} {ao : Option Addr} {len cap : Nat} {d : DataW H} {ps : List MemPlace}
    (h : DataW.Trod enc Try.prog W 0 (fun _ => true) true 22 (.slice ao len cap) d ps) : ∃ l : List (Int × Int), l.length = len ∧ SeenW W ao cap l ∧ ∀ o ∈ l, ((Lit.int .i64 o.1).wf = true ∧ (Lit.int .i64 o.2).wf = true) :=
  open_rows Try.underlying22 (show Try.prog.cellsOf 28 = 2 from by kernel_rfl) (by decide) wop_len (fun o => (Lit.int .i64 o.1).wf = true ∧ (Lit.int .i64 o.2).wf = true) (0, 0) (by decide) (open_wop (H := H) (enc := enc) (W := W)) h
theorem wop_cells {w : World} {k : Nat} {u0 u1 : Value} (h : w.heap[k]? = some (.cells #[u0, u1] 28 (0, 0))) : w.cell? ⟨k, 0, none⟩ = some u0 ∧ w.cell? ⟨k, 1, none⟩ = some u1 := by
  refine ⟨?_, ?_⟩ <;> simp [World.cell?, h]

end Go.Proofs.Yteglnlhdgfpglaa
