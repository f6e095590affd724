/-
  A context's block written out, cell by cell; the document's copy of a context. Conditions: a context in memory.
-/
import Derived.Test.YtoalgajbahlpjaaDoorCpL
import Derived.Deep.DeepCutAuto
import Derived.BigQuiet
namespace Go.Proofs.YtoalgajbahlpjaaDoor
open Go Go.RowKit
set_option linter.unusedVariables false
set_option linter.unusedSimpArgs false

/-- The cells, one by one. -/
def cx10 (p : Int) (r0 r1 r2 r3 r4 r5 r6 r7 : Nat) (v : Value) : Array Value :=
  #[.int .i64 p, .int .u32 (r0 : Int), .int .u32 (r1 : Int), .int .u32 (r2 : Int), .int .u32 (r3 : Int), .int .u32 (r4 : Int), .int .u32 (r5 : Int), .int .u32 (r6 : Int), .int .u32 (r7 : Int), v]
def cxZ : Array Value := #[.int .i64 0, .int .u32 0, .int .u32 0, .int .u32 0, .int .u32 0, .int .u32 0, .int .u32 0, .int .u32 0, .int .u32 0, .slice none 0 0]
theorem cxA_10 (p : Int) (r0 r1 r2 r3 r4 r5 r6 r7 : Nat) (m : List Nat) (v : Value) : cxA ⟨p, [r0, r1, r2, r3, r4, r5, r6, r7], m⟩ v = cx10 p r0 r1 r2 r3 r4 r5 r6 r7 v := rfl
theorem eight {l : List Nat} (h : l.length = 8) : ∃ r0 r1 r2 r3 r4 r5 r6 r7, l = [r0, r1, r2, r3, r4, r5, r6, r7] := by
  match l, h with
  | [r0, r1, r2, r3, r4, r5, r6, r7], _ => exact ⟨r0, r1, r2, r3, r4, r5, r6, r7, rfl⟩

structure At10 (w : World) (b : Nat) (p : Int) (r0 r1 r2 r3 r4 r5 r6 r7 : Nat) (v : Value) : Prop where
  c0 : w.cell? ⟨b, 0, none⟩ = some (.int .i64 p)
  c1 : w.cell? ⟨b, 1, none⟩ = some (.int .u32 (r0 : Int))
  c2 : w.cell? ⟨b, 2, none⟩ = some (.int .u32 (r1 : Int))
  c3 : w.cell? ⟨b, 3, none⟩ = some (.int .u32 (r2 : Int))
  c4 : w.cell? ⟨b, 4, none⟩ = some (.int .u32 (r3 : Int))
  c5 : w.cell? ⟨b, 5, none⟩ = some (.int .u32 (r4 : Int))
  c6 : w.cell? ⟨b, 6, none⟩ = some (.int .u32 (r5 : Int))
  c7 : w.cell? ⟨b, 7, none⟩ = some (.int .u32 (r6 : Int))
  c8 : w.cell? ⟨b, 8, none⟩ = some (.int .u32 (r7 : Int))
  c9 : w.cell? ⟨b, 9, none⟩ = some v
theorem cells10 {w : World} {b : Nat} {p : Int} {r0 r1 r2 r3 r4 r5 r6 r7 : Nat} {v : Value} (h : w.heap[b]? = some (.cells (cx10 p r0 r1 r2 r3 r4 r5 r6 r7 v) 26)) : At10 w b p r0 r1 r2 r3 r4 r5 r6 r7 v := by
  refine ⟨?_, ?_, ?_, ?_, ?_, ?_, ?_, ?_, ?_, ?_⟩ <;> simp [World.cell?, h, cx10]
theorem froz10' {w : World} {D : Nat} {cs : Array Value} (h : w.heap[D]? = some (.cells cs 26)) : ∀ j, w.frozen? ⟨D, j, none⟩ = false := fun j => frozen_row h j
theorem setsA_all : ∀ (vs pre post : List Value), post.length = vs.length → setsA (pre ++ post).toArray pre.length vs = (pre ++ vs).toArray
  | [], pre, post, h => by
    obtain rfl : post = [] := List.eq_nil_of_length_eq_zero (by simpa using h)
    rfl
  | v :: r, pre, [], h => by simp at h
  | v :: r, pre, q :: post, h => by
    have ih := setsA_all r (pre ++ [v]) post (by simpa using h)
    have e : ((pre ++ q :: post).toArray.setIfInBounds pre.length v) = (pre ++ [v] ++ post).toArray := by
      rw [List.setIfInBounds_toArray, List.set_append_right _ _ (Nat.le_refl _)]
      simp
    rw [setsA, e, show pre.length + 1 = (pre ++ [v]).length by simp, ih]
    simp
/-- A context stored in a block of ten cells. -/
theorem cx_stored {w : World} {D : Nat} {cs : Array Value} (p : Int) (r0 r1 r2 r3 r4 r5 r6 r7 : Nat) (v : Value) (h : w.heap[D]? = some (.cells cs 26)) (hcs : cs.size = 10) :
    (stN w D 0 (cx10 p r0 r1 r2 r3 r4 r5 r6 r7 v).toList).heap[D]? = some (.cells (cx10 p r0 r1 r2 r3 r4 r5 r6 r7 v) 26) := by
  have := stN_block (cx10 p r0 r1 r2 r3 r4 r5 r6 r7 v).toList w 0 _ h
  have e := setsA_all (cx10 p r0 r1 r2 r3 r4 r5 r6 r7 v).toList [] cs.toList (by rw [Array.length_toList, hcs]; rfl)
  rw [List.nil_append, List.nil_append, Array.toArray_toList, Array.toArray_toList] at e
  have e' : setsA cs 0 (cx10 p r0 r1 r2 r3 r4 r5 r6 r7 v).toList = cx10 p r0 r1 r2 r3 r4 r5 r6 r7 v := e
  rw [e'] at this
  exact this
/-- What a function returns whose result is a context in a block. -/
theorem ret_cx {fn : Func} {q : Tmp} (hr : fn.results = #[.cell q 26]) {tmps : Array Value} {D : Nat} {p : Int} {r0 r1 r2 r3 r4 r5 r6 r7 : Nat} {v : Value} {w : World} (ht : tmps.getD q undef = .pointer (some ⟨D, 0, none⟩))
    (hh : w.heap[D]? = some (.cells (cx10 p r0 r1 r2 r3 r4 r5 r6 r7 v) 26)) :
    (results fn tmps).run Tryd.prog w = .ok (.agg (cx10 p r0 r1 r2 r3 r4 r5 r6 r7 v)) w := by
  obtain ⟨c0, c1, c2, c3, c4, c5, c6, c7, c8, c9⟩ := cells10 hh
  rw [results_cell1 hr, ht]
  unfold cx10
  go_simp

theorem Tryd.infoW : (Tryd.prog.info? 22).map (fun i => (i.zero, i.size, i.bytes)) = some (some (.int .u32 0), 1, 4) := by kernel_rfl
theorem Tryd.infoW3 : ∃ i, Tryd.prog.info? 22 = some i ∧ i.zero = some (.int .u32 0) ∧ i.size = 1 ∧ i.bytes = 4 := by
  have h := Tryd.infoW
  cases hi : Tryd.prog.info? 22 with
  | none => rw [hi] at h; cases h
  | some i =>
    rw [hi] at h
    simp only [Option.map_some, Option.some.injEq, Prod.mk.injEq] at h
    exact ⟨i, rfl, h.1, h.2.1, h.2.2⟩

/-- append([]uint32{}, l...): a row of one's own with the same words. -/
theorem wpList_copyW {w : World} {ops : Array Oper} {rest : List Oper} {o : Oper} {a : Act} {Q : Exit → Act → World → Prop} (hgd : o.guard = none) (s x : Operand)
    (ho : o.op = .call { callee := .builtin .append, args := #[s, x], argTypes := #[24, 24] }) (base : Nat) (v : Value) (hs : a.eval s = v)
    (hown : OwnW w base v []) (ao : Option Addr) (cap : Nat) (l : List Nat) (hx : a.eval x = .slice ao l.length cap) (hl : SeenW w ao cap l) (hn : l.length ≤ 1000000) (hbase : base ≤ w.heap.size)
    (h : ∀ bo bc w', OwnW w' base (.slice bo l.length bc) l → w.grownBy w' v.ownBlock → wpList Tryd.prog ops Q rest (a.put o.dst (.slice bo l.length bc)) w') : wpList Tryd.prog ops Q (o :: rest) a w := by
  obtain ⟨i0, hi, hz0, hz1, hz2⟩ := Tryd.infoW3
  cases ao with
  | none =>
    obtain ⟨rfl, rfl⟩ := hl.nn rfl
    obtain ⟨bo, bc, rfl⟩ := OwnR.shape hown
    exact wpList_append_own_none hgd s x _ ho base _ i0 1 Tryd.underlying24 hi _ 0 [] hs hown hx (h bo bc w hown ⟨rfl, rfl, rfl, Nat.le_refl _, fun _ _ _ => rfl⟩)
  | some ad =>
    refine wpList_append_own _ hgd s x _ ho base _ i0 _ 1 4 Tryd.underlying24 hi hz0 hz1 hz2 rfl (by decide) v 0 [] hs hown ad l.length cap (l.flatMap w1c) hx (flat_len w1c_len l) (hl.seg w1c_len)
      (fun u hu => by obtain ⟨e, _, h⟩ := List.mem_flatMap.1 hu; exact w1c_one e u h) (by unfold maxLen; omega) (by omega) hbase ?_
    intro v' w' h1 h2 _
    rw [Nat.zero_add, List.nil_append] at h1
    obtain ⟨bo, bc, rfl⟩ := own_slice' h1
    exact h bo bc w' h1 h2

set_option maxRecDepth 100000 in
set_option maxHeartbeats 4000000 in
theorem rcopy_walk (p : Int) (r0 r1 r2 r3 r4 r5 r6 r7 : Nat) (ao : Option Addr) (cap : Nat) (l : List Nat) (w : World) (hs : SeenW w ao cap l) (hn : l.length ≤ 1000000) :
    Calls Tryd.prog 10 #[.agg (cx10 p r0 r1 r2 r3 r4 r5 r6 r7 (.slice ao l.length cap))] w fun r w' => ∃ bo bc, r = .returned (.agg (cx10 p r0 r1 r2 r3 r4 r5 r6 r7 (.slice bo l.length bc))) ∧ OwnW w' w.heap.size (.slice bo l.length bc) l ∧ Below w.heap.size w w' := by
  obtain ⟨w1, e1⟩ : ∃ w1, w1 = w.alloc (.cells (cx10 p r0 r1 r2 r3 r4 r5 r6 r7 (.slice ao l.length cap)) 26) := ⟨_, rfl⟩
  obtain ⟨s1, n1, b1⟩ := new_size e1
  obtain ⟨w2, e2⟩ : ∃ w2, w2 = w1.alloc (.cells cxZ 26) := ⟨_, rfl⟩
  obtain ⟨s2, n2, b2⟩ := new_size e2
  obtain ⟨w3, e3⟩ : ∃ w3, w3 = w2.alloc (.cells #[] 22) := ⟨_, rfl⟩
  obtain ⟨s3, -, b3⟩ := new_size e3
  have n1' := blk_on b3 (blk_on b2 n1)
  have n2' := blk_on b3 n2
  obtain ⟨D, hD⟩ : ∃ D, w.heap.size = D := ⟨_, rfl⟩
  obtain ⟨E, hE⟩ : ∃ E, D + 1 = E := ⟨_, rfl⟩
  obtain ⟨F, hF⟩ : ∃ F, E + 1 = F := ⟨_, rfl⟩
  rw [hD] at n1'
  rw [s1, hD, hE] at n2'
  have H2 : w2.heap.size = F := by rw [s2, s1, hD, hE, hF]
  have O3 := Lib.hid (show OwnW w3 F (.slice (some ⟨F, 0, none⟩) 0 0) [] by rw [← H2, e3]; exact World.ownsRow_lit w2 #[] 0 (Nat.le_refl _) (by decide) rfl)
  have b13 := below_on (below_on b1 b2) b3
  have B3 := Lib.hid b13
  have S3 := Lib.hid (hs.below b13)
  have N1 := Lib.hid n1'
  have N2 := Lib.hid n2'
  have Z3 := Lib.hid (show F ≤ w3.heap.size by omega)
  have ZZ := Lib.hid (show w.heap.size = D ∧ D + 1 = E ∧ E + 1 = F from ⟨hD, hE, hF⟩)
  have HD := Lib.hid hD
  have HE := Lib.hid hE
  have HF := Lib.hid H2
  have Hn := Lib.hid hn
  obtain ⟨c0, c1, c2, c3, c4, c5, c6, c7, c8, c9⟩ := cells10 n1'
  clear s1 n1 b1 s2 n2 b2 s3 b3 b13 n1' n2' hD hE hF H2 hs hn
  have c9' := c9
  rw [e3] at c9'
  unfold cx10 at *
  unfold cxZ at e2
  go_enter Tryd.func10, Tryd.ntmps10
  go_upto_region 1 with fail
  rw [← e1, HD.out, ← e2, HE.out]
  clear e1 e2
  go_wp2_with (at_builtin; rw [← e3, HF.out]; refine wpList_copyW rfl _ _ rfl F _ rfl O3.out ao cap l rfl S3.out Hn.out Z3.out ?_)
  intro bo bc w4 o4 g4
  rw [← e3] at g4
  clear c0 c1 c2 c3 c4 c5 c6 c7 c8 c9 c9'
  have N4 := Lib.hid ((g4.block D (blk_lt N1.out) (by have := ZZ.out; simp [Value.ownBlock]; omega)).trans N1.out)
  have M4 := Lib.hid ((g4.block E (blk_lt N2.out) (by have := ZZ.out; simp [Value.ownBlock]; omega)).trans N2.out)
  have B4 : Hid (Below w.heap.size w w4) := Lib.hid (B3.out.grown g4 (by have := ZZ.out; have := Z3.out; omega) (fun j hj => by have := ZZ.out; simp [Value.ownBlock] at hj; omega))
  have O4 := Lib.hid o4
  obtain ⟨c0, c1, c2, c3, c4, c5, c6, c7, c8, c9⟩ := cells10 N4.out
  have fz := froz10' N4.out 9
  clear o4 g4
  obtain ⟨z0, z1, z2, z3, z4, z5, z6, z7, z8, z9⟩ := cells10 (p := 0) (r0 := 0) (r1 := 0) (r2 := 0) (r3 := 0) (r4 := 0) (r5 := 0) (r6 := 0) (r7 := 0) (v := .slice none 0 0) M4.out
  have gz := froz10' M4.out
  have g0 := gz 0
  have g1 := gz 1
  have g2 := gz 2
  have g3 := gz 3
  have g4 := gz 4
  have g5 := gz 5
  have g6 := gz 6
  have g7 := gz 7
  have g8 := gz 8
  have g9 := gz 9
  have hED : E ≠ D := by have := ZZ.out; omega
  have hDE : D ≠ E := by have := ZZ.out; omega
  clear gz
  obtain ⟨w6, e6⟩ : ∃ w6, w6 = stN (w4.setCell ⟨D, 9, none⟩ (.slice bo l.length bc)) E 0 (cx10 p r0 r1 r2 r3 r4 r5 r6 r7 (.slice bo l.length bc)).toList := ⟨_, rfl⟩
  have hE6 : w6.heap[E]? = some (.cells (cx10 p r0 r1 r2 r3 r4 r5 r6 r7 (.slice bo l.length bc)) 26) := by
    rw [e6]
    exact cx_stored p r0 r1 r2 r3 r4 r5 r6 r7 _ ((heap_setCell_other w4 _ E _ hED).trans M4.out) rfl
  have on6 : Only w4 w6 (fun k => k = D ∨ k = E) := by
    rw [e6]
    exact (Only.setCell w4 D 9 _ (fun k => k = D ∨ k = E) (.inl rfl)).trans (stN_only _ _ _) (fun k _ h => .inr h)
  have ob : ∀ k, (Value.slice bo l.length bc).ownBlock = some k → ¬ (k = D ∨ k = E) := by
    intro k hk hh
    have := (O4.out.lt k hk).1
    have := ZZ.out
    omega
  have O6 := Lib.hid ((O4.out.only on6 ob).mono (show w.heap.size ≤ F by have := ZZ.out; omega))
  have B6 : Hid (Below w.heap.size w w6) := Lib.hid ⟨on6.os.trans B4.out.os, on6.tape.trans B4.out.tape, on6.output.trans B4.out.output, Nat.le_trans B4.out.size on6.size, fun k hk => (on6.block k (by have := B4.out.size; omega) (by have := ZZ.out; omega)).trans (B4.out.block k hk)⟩
  have E6 := Lib.hid hE6
  simp only [stN, cx10] at e6
  clear hE6 on6 ob
  go_wp2_with fail
  rw [← e6]
  exact bodyPost_ret (ret_cx rfl rfl E6.out) rfl ⟨bo, bc, rfl, O6.out, B6.out⟩

theorem rcopy_any (x : Ctx) (hr : x.regs.length = 8) (ao : Option Addr) (cap : Nat) (w : World) (hs : SeenW w ao cap x.mem) (hn : x.mem.length ≤ 1000000) :
    Calls Tryd.prog 10 #[cxV x (.slice ao x.mem.length cap)] w fun r w' => ∃ bo bc, r = .returned (cxV x (.slice bo x.mem.length bc)) ∧ OwnW w' w.heap.size (.slice bo x.mem.length bc) x.mem ∧ Below w.heap.size w w' := by
  obtain ⟨p, regs, m⟩ := x
  obtain ⟨r0, r1, r2, r3, r4, r5, r6, r7, rfl⟩ := eight hr
  exact rcopy_walk p r0 r1 r2 r3 r4 r5 r6 r7 ao cap m w hs hn

end Go.Proofs.YtoalgajbahlpjaaDoor
