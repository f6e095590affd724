/-
  What read and Parse of package listing do, over this seat's translation. Conditions: the listed variables (LsL).
-/
import Derived.Test.YtlnlfeninjjkmaaDoorLsR
import Derived.Laws.ResultCell
import Derived.Deep.DeepCutAuto
namespace Go.Proofs.YtlnlfeninjjkmaaDoor
open Go.RowKit
set_option linter.unusedVariables false
set_option linter.unusedSimpArgs false

set_option maxRecDepth 100000 in
theorem iclocked_any (i : Ins) (d : Bool) (w : World) :
    Calls Tryd.prog 24 #[insV i, .bool d] w fun r w' => r = .returned (.bool (!d || decide (i.d = 2))) ∧ Below w.heap.size w w' := by
  obtain ⟨op, a, b, c, e, k⟩ := i
  unfold insV
  simp only
  cases d with
  | false =>
    go_enter Tryd.func24, Tryd.ntmps24
    go_wp2
    go_ret
    exact ⟨rfl, below_box _⟩
  | true =>
    go_enter Tryd.func24, Tryd.ntmps24
    go_wp2
    go_ret
    exact ⟨rfl, below_box _⟩

/-- While a line is read: the result's block, the reader's, the instruction's. -/
structure RsI (w0 w : World) (E : Nat) (i : Ins) (ws : List (List UInt8)) (ok : Bool) : Prop where
  rs : w.heap[w0.heap.size]? = some (insO ins0)
  rd : RdL w (w0.heap.size + 1) ws (!ws.isEmpty) ok
  ins : w.heap[E]? = some (insO i)
  bel : Below w0.heap.size w0 w
  lt : w0.heap.size + 1 < E

def insC (i : Ins) : Array Value := #[.int .i64 i.op, .int .i64 i.a, .int .i64 i.b, .int .i64 i.c, .int .i64 i.d, .int .u32 (i.k : Int)]

theorem RsI.call {w0 w w' : World} {E : Nat} {i : Ins} {ws ws' : List (List UInt8)} {ok ok' : Bool} (h : RsI w0 w E i ws ok) (hg : Only w w' (fun k => k = w0.heap.size + 1)) (hr : RdL w' (w0.heap.size + 1) ws' (!ws'.isEmpty) ok') : RsI w0 w' E i ws' ok' := by
  have := h.lt
  have hs := h.bel.size
  refine ⟨(hg.block _ (blk_lt h.rs) (by omega)).trans h.rs, hr, (hg.block _ (blk_lt h.ins) (by omega)).trans h.ins, h.bel.trans (hg.below hs (fun k e => by omega)), h.lt⟩
theorem RsI.lsl {w0 w : World} {E : Nat} {i : Ins} {ws : List (List UInt8)} {ok : Bool} (h : RsI w0 w E i ws ok) (hL : LsL w0) : LsL w := hL.below h.bel
theorem RsI.ons {w0 w w' : World} {E : Nat} {i : Ins} {ws : List (List UInt8)} {ok : Bool} (h : RsI w0 w E i ws ok) (hL : LsL w0) (ho : Only w w' (fun k => k = w0.heap.size + 1)) : LsL w' :=
  hL.below (h.bel.trans (ho.below h.bel.size (fun k e => by omega)))
theorem RsI.set {w0 w : World} {E : Nat} {i i' : Ins} {ws : List (List UInt8)} {ok : Bool} (h : RsI w0 w E i ws ok) (j : Nat) (v : Value) (hv : (insC i).setIfInBounds j v = insC i') : RsI w0 (w.setCell ⟨E, j, none⟩ v) E i' ws ok := by
  have := h.lt
  have hsame := heap_setCell_same w E j (insC i) 24 v h.ins
  rw [hv] at hsame
  exact ⟨(heap_setCell_other w _ _ v (by simp; omega)).trans h.rs, h.rd.only (Only.setCell w E j v (fun k => k = E) rfl) (by omega), hsame, h.bel.setCell (by simp; omega) v, h.lt⟩
theorem RsI.cells {w0 w : World} {E : Nat} {i : Ins} {ws : List (List UInt8)} {ok : Bool} (h : RsI w0 w E i ws ok) : ∀ j, w.frozen? ⟨E, j, none⟩ = false := by
  have := h.ins
  intro j
  simp [World.frozen?, this, insO]
theorem RsI.below {w0 w w' : World} {E : Nat} {i : Ins} {ws : List (List UInt8)} {ok : Bool} (h : RsI w0 w E i ws ok) (hb : Below w.heap.size w w') : RsI w0 w' E i ws ok :=
  h.call (Only.of_below hb _) (h.rd.only (Only.of_below hb (fun _ => False)) (fun h => h))

theorem rs_reg {w0 w : World} {E R : Nat} {i : Ins} {ws ws' : List (List UInt8)} {ok ok' : Bool} {n : Nat} (h : RsI w0 w E i ws ok) (hL : LsL w0) (q : fieldR true regN ws ok = (n, ws', ok')) (hR : w0.heap.size + 1 = R) :
    Calls Tryd.prog 48 #[.pointer (some ⟨R, 0, none⟩)] w fun r w' => r = .returned (.int .i64 (n : Int)) ∧ RsI w0 w' E i ws' ok' := by
  subst hR
  unfold fieldR at q
  simp only [if_true, Prod.mk.injEq] at q
  obtain ⟨rfl, rfl, rfl⟩ := q
  exact (rreg_any w _ ws _ ok h.rd (h.lsl hL)).mono fun r w' hr => ⟨hr.1, h.call hr.2.2 hr.2.1⟩
theorem rs_mode {w0 w : World} {E R : Nat} {i : Ins} {ws ws' : List (List UInt8)} {ok ok' : Bool} {n : Nat} (h : RsI w0 w E i ws ok) (hL : LsL w0) (q : fieldR true modeN ws ok = (n, ws', ok')) (hR : w0.heap.size + 1 = R) :
    Calls Tryd.prog 49 #[.pointer (some ⟨R, 0, none⟩)] w fun r w' => r = .returned (.int .i64 (n : Int)) ∧ RsI w0 w' E i ws' ok' := by
  subst hR
  unfold fieldR at q
  simp only [if_true, Prod.mk.injEq] at q
  obtain ⟨rfl, rfl, rfl⟩ := q
  exact (rmode_any w _ ws _ ok h.rd (h.lsl hL) (fun w' ho => h.ons hL ho)).mono fun r w' hr => ⟨hr.1, h.call hr.2.2 hr.2.1⟩
theorem rs_num {w0 w : World} {E R : Nat} {i : Ins} {ws ws' : List (List UInt8)} {ok ok' : Bool} {n : Nat} (h : RsI w0 w E i ws ok) (hL : LsL w0) (q : fieldR true (numOk 32) ws ok = (n, ws', ok')) (hR : w0.heap.size + 1 = R) :
    Calls Tryd.prog 50 #[.pointer (some ⟨R, 0, none⟩)] w fun r w' => r = .returned (.int .u32 (n : Int)) ∧ RsI w0 w' E i ws' ok' := by
  subst hR
  unfold fieldR at q
  simp only [if_true, Prod.mk.injEq] at q
  obtain ⟨rfl, rfl, rfl⟩ := q
  exact (rnumber_any w _ ws _ ok h.rd (h.lsl hL) (fun w' ho => h.ons hL ho)).mono fun r w' hr => ⟨hr.1, h.call hr.2.2 hr.2.1⟩

theorem field_false {f : List UInt8 → Option Nat} {ws ws' : List (List UInt8)} {ok ok' : Bool} {n : Nat} (q : fieldR false f ws ok = (n, ws', ok')) : n = 0 ∧ ws' = ws ∧ ok' = ok := by
  unfold fieldR at q
  simp only [Bool.false_eq_true, if_false, Prod.mk.injEq] at q
  exact ⟨q.1.symm, q.2.1.symm, q.2.2.symm⟩

set_option maxRecDepth 100000 in
set_option maxHeartbeats 4000000 in
theorem read_walk (U : ByteArray) (op : Nat) (fA fB fC fD fK cc : Bool) (t tA tB tD tC tK : List (List UInt8)) (k0 kA kB kD kC kK : Bool) (a b d c k : Nat) (w : World) (hL : LsL w)
    (qA : Hid (fieldR fA regN t k0 = (a, tA, kA))) (qB : Hid (fieldR fB regN tA kA = (b, tB, kB))) (qD : Hid (fieldR fD modeN tB kB = (d, tD, kD))) (qC : Hid (fieldR cc regN tD kD = (c, tC, kC))) (qK : Hid (fieldR fK (numOk 32) tC kC = (k, tK, kK)))
    (hcc : Hid (cc = (fC && (!fD || decide ((d : Int) = 2)))))
    (HU : Hid (∀ w', IsL w' → Calls Tryd.prog 22 #[.int .i64 (op : Int)] w' fun e w'' => e = .returned (.tuple #[.bool fA, .bool fB, .bool fC, .bool fD, .bool fK]) ∧ w' = w''))
    (HO : Hid (∀ w1 w2 : World, w1 = w.alloc (insO ins0) → w2 = w1.alloc (.cells #[.string U, .bool false, .bool true] 89) → Calls Tryd.prog 47 #[.pointer (some ⟨w.heap.size + 1, 0, none⟩)] w2 fun r w3 => r = .returned (.int .i64 (op : Int)) ∧
      RdL w3 (w.heap.size + 1) t (!t.isEmpty) k0 ∧ Only w2 w3 (fun k => k = w.heap.size + 1))) :
    Calls Tryd.prog 33 #[.string U] w fun r w' => r = .returned (.tuple #[insV ⟨op, a, b, c, d, k⟩, .bool (kK && tK.isEmpty)]) ∧ Below w.heap.size w w' := by
  obtain ⟨w1, e1⟩ : ∃ w1, w1 = w.alloc (insO ins0) := ⟨_, rfl⟩
  obtain ⟨s1, n1, b1⟩ := new_size e1
  obtain ⟨w2, e2⟩ : ∃ w2, w2 = w1.alloc (.cells #[.string U, .bool false, .bool true] 89) := ⟨_, rfl⟩
  obtain ⟨s2, n2, b2⟩ := new_size e2
  have HO2 := HO.out w1 w2 e1 e2
  have B2 := Lib.hid (below_on b1 b2)
  have N2 := Lib.hid (blk_on b2 n1)
  obtain ⟨Z, hZ⟩ : ∃ Z, w.heap.size = Z := ⟨_, rfl⟩
  obtain ⟨R, hR⟩ : ∃ R, w.heap.size + 1 = R := ⟨_, rfl⟩
  rw [hR] at HO2
  have HR := Lib.hid hR
  have HZ := Lib.hid hZ
  have HO3 := Lib.hid HO2
  have HL := Lib.hid hL
  have S2 := Lib.hid (show w2.heap.size = w.heap.size + 1 + 1 by rw [s2, s1])
  clear HO HO2 hR hZ s1 n1 b1 s2 n2 b2 hL
  replace e1 : w1 = w.alloc (.cells #[.int .i64 0, .int .i64 0, .int .i64 0, .int .i64 0, .int .i64 0, .int .u32 0] 24) := e1
  go_enter Tryd.func33, Tryd.ntmps33
  go_wp2_with fail
  rw [← e1, ← e2, HR.out, HZ.out]
  clear e1 e2
  refine HO3.out.mono ?_
  rintro e w3 ⟨rfl, h3, o3⟩
  obtain ⟨E, hE⟩ : ∃ E, w3.heap.size = E := ⟨_, rfl⟩
  obtain ⟨w4, e4⟩ : ∃ w4, w4 = w3.alloc (insO ⟨op, 0, 0, 0, 0, 0⟩) := ⟨_, rfl⟩
  obtain ⟨s4, n4, b4⟩ := new_size e4
  have hX : RsI w w4 E ⟨op, 0, 0, 0, 0, 0⟩ t k0 := by
    have hs3 := o3.size
    have hs2 := S2.out
    rw [hE] at n4
    rw [← HR.out] at h3 o3
    refine ⟨blk_on b4 ((o3.block _ (blk_lt N2.out) (by omega)).trans N2.out), h3.only (Only.of_below b4 (fun _ => False)) (fun h => h), n4, ?_, by omega⟩
    exact (B2.out.trans (o3.below (by omega) (fun k e => by omega))).trans (b4.mono (by omega))
  have HE := Lib.hid hE
  have X0 := Lib.hid hX
  obtain ⟨c0, c1, c2, c3, c4, c5⟩ := inscells hX.ins
  simp only at c0 c1 c2 c3 c4 c5
  clear h3 o3 hE s4 n4 b4 hX S2 N2 B2 HO3
  replace e4 : w4 = w3.alloc (.cells #[.int .i64 (op : Int), .int .i64 0, .int .i64 0, .int .i64 0, .int .i64 0, .int .u32 0] 24) := e4
  go_wp2_with fail
  rw [← e4, HE.out]
  clear e4 HE
  refine (HU.out w4 (X0.out.lsl HL.out).is).mono ?_
  rintro e w5 ⟨rfl, rfl⟩
  clear HU c0 c1 c2 c3 c4 c5
  go_upto_if 24 with fail
  go_cut [] (fun wx => Hid (RsI w wx E ⟨op, a, 0, 0, 0, 0⟩ tA kA))
  case first =>
    cases fA
    · obtain ⟨rfl, rfl, rfl⟩ := field_false qA.out
      go_wp2_with fail
      go_meet
      exact X0
    · have HC := Lib.hid (rs_reg X0.out HL.out qA.out HR.out)
      go_wp2_with fail
      refine HC.out.mono ?_
      rintro e wy ⟨rfl, hy⟩
      have Y := Lib.hid hy
      obtain ⟨c0, c1, c2, c3, c4, c5⟩ := inscells hy.ins
      simp only at c0 c1 c2 c3 c4 c5
      have zz := hy.cells 1
      clear hy HC
      go_wp2_with fail
      go_meet
      exact Lib.hid (Y.out.set 1 _ rfl)
  case rest =>
  have X1 := hcut
  clear hcut X0
  go_upto_if 27 with fail
  go_cut [] (fun wx => Hid (RsI w wx E ⟨op, a, b, 0, 0, 0⟩ tB kB))
  case first =>
    cases fB
    · obtain ⟨rfl, rfl, rfl⟩ := field_false qB.out
      go_wp2_with fail
      go_meet
      exact X1
    · have HC := Lib.hid (rs_reg X1.out HL.out qB.out HR.out)
      go_wp2_with fail
      refine HC.out.mono ?_
      rintro e wy ⟨rfl, hy⟩
      have Y := Lib.hid hy
      obtain ⟨c0, c1, c2, c3, c4, c5⟩ := inscells hy.ins
      simp only at c0 c1 c2 c3 c4 c5
      have zz := hy.cells 2
      clear hy HC
      go_wp2_with fail
      go_meet
      exact Lib.hid (Y.out.set 2 _ rfl)
  case rest =>
  have X2 := hcut
  clear hcut X1
  go_upto_if 30 with fail
  go_cut [] (fun wx => Hid (RsI w wx E ⟨op, a, b, 0, d, 0⟩ tD kD))
  case first =>
    cases fD
    · obtain ⟨rfl, rfl, rfl⟩ := field_false qD.out
      go_wp2_with fail
      go_meet
      exact X2
    · have HC := Lib.hid (rs_mode X2.out HL.out qD.out HR.out)
      go_wp2_with fail
      refine HC.out.mono ?_
      rintro e wy ⟨rfl, hy⟩
      have Y := Lib.hid hy
      obtain ⟨c0, c1, c2, c3, c4, c5⟩ := inscells hy.ins
      simp only at c0 c1 c2 c3 c4 c5
      have zz := hy.cells 4
      clear hy HC
      go_wp2_with fail
      go_meet
      exact Lib.hid (Y.out.set 4 _ rfl)
  case rest =>
  have X3 := hcut
  clear hcut X2
  go_upto_region 10 with fail
  go_cut [38] (fun x wx => x = .bool cc ∧ Hid (RsI w wx E ⟨op, a, b, 0, d, 0⟩ tD kD))
  case first =>
    cases fC
    · obtain rfl : cc = false := hcc.out
      go_wp2_with fail
      go_meet
      exact ⟨rfl, X3⟩
    · have HD := Lib.hid (show (!fD || decide ((d : Int) = 2)) = cc by rw [hcc.out]; rfl)
      have hX := X3.out
      obtain ⟨c0, c1, c2, c3, c4, c5⟩ := inscells hX.ins
      simp only at c0 c1 c2 c3 c4 c5
      clear hX
      go_wp2_with fail
      refine (iclocked_any ⟨op, a, b, 0, d, 0⟩ fD wc).mono ?_
      rintro e wy ⟨rfl, hy⟩
      have Y := Lib.hid (X3.out.below hy)
      clear hy c0 c1 c2 c3 c4 c5
      simp only [HD.out]
      go_wp2_with fail
      go_meet
      exact ⟨rfl, Y⟩
  case rest =>
  obtain ⟨rfl, X4⟩ := hcut
  clear X3
  go_upto_if 38 with fail
  go_cut [] (fun wx => Hid (RsI w wx E ⟨op, a, b, c, d, 0⟩ tC kC))
  case first =>
    cases cc
    · obtain ⟨rfl, rfl, rfl⟩ := field_false qC.out
      go_wp2_with fail
      go_meet
      exact X4
    · have HC := Lib.hid (rs_reg X4.out HL.out qC.out HR.out)
      go_wp2_with fail
      refine HC.out.mono ?_
      rintro e wy ⟨rfl, hy⟩
      have Y := Lib.hid hy
      obtain ⟨c0, c1, c2, c3, c4, c5⟩ := inscells hy.ins
      simp only at c0 c1 c2 c3 c4 c5
      have zz := hy.cells 3
      clear hy HC
      go_wp2_with fail
      go_meet
      exact Lib.hid (Y.out.set 3 _ rfl)
  case rest =>
  have X5 := hcut
  clear hcut X4
  go_upto_if 41 with fail
  go_cut [] (fun wx => Hid (RsI w wx E ⟨op, a, b, c, d, k⟩ tK kK))
  case first =>
    cases fK
    · obtain ⟨rfl, rfl, rfl⟩ := field_false qK.out
      go_wp2_with fail
      go_meet
      exact X5
    · have HC := Lib.hid (rs_num X5.out HL.out qK.out HR.out)
      go_wp2_with fail
      refine HC.out.mono ?_
      rintro e wy ⟨rfl, hy⟩
      have Y := Lib.hid hy
      obtain ⟨c0, c1, c2, c3, c4, c5⟩ := inscells hy.ins
      simp only at c0 c1 c2 c3 c4 c5
      have zz := hy.cells 5
      clear hy HC
      go_wp2_with fail
      go_meet
      exact Lib.hid (Y.out.set 5 _ rfl)
  case rest =>
  have X6 := hcut
  clear hcut X5
  have hX := X6.out
  obtain ⟨c0, c1, c2, c3, c4, c5⟩ := inscells hX.ins
  obtain ⟨-, r1, r2, -⟩ := hX.rd.cells
  rw [HR.out] at r1 r2
  have hrs := hX.rs
  rw [HZ.out] at hrs
  obtain ⟨o0, o1, o2, o3, o4, o5⟩ := inscells hrs
  have HB := Lib.hid hX.bel
  have f0 : wc.frozen? ⟨Z, 0, none⟩ = false := by simp [World.frozen?, hrs, insO]
  have f1 : wc.frozen? ⟨Z, 1, none⟩ = false := by simp [World.frozen?, hrs, insO]
  have f2 : wc.frozen? ⟨Z, 2, none⟩ = false := by simp [World.frozen?, hrs, insO]
  have f3 : wc.frozen? ⟨Z, 3, none⟩ = false := by simp [World.frozen?, hrs, insO]
  have f4 : wc.frozen? ⟨Z, 4, none⟩ = false := by simp [World.frozen?, hrs, insO]
  have f5 : wc.frozen? ⟨Z, 5, none⟩ = false := by simp [World.frozen?, hrs, insO]
  simp only [ins0] at c0 c1 c2 c3 c4 c5 o0 o1 o2 o3 o4 o5
  have hlt := hX.lt
  rw [HR.out] at hlt
  have hZE : Z ≠ E := by have := HZ.out; have := HR.out; omega
  have hZR : Z ≠ R := by have := HZ.out; have := HR.out; omega
  have hZl := Lib.hid (show w.heap.size ≤ Z by rw [HZ.out]; exact Nat.le_refl _)
  obtain ⟨mo, hmo⟩ : ∃ mo, tK.isEmpty = mo := ⟨_, rfl⟩
  rw [hmo] at r1
  have HM := Lib.hid hmo
  clear hX hrs hlt hmo X6
  cases kK <;> cases mo
  case true.true =>
    go_wp2_with fail
    go_region
    all_goals
      go_wp2_with fail
      refine bodyPost_ret (v := .tuple #[.agg #[.int .i64 (op : Int), .int .i64 (a : Int), .int .i64 (b : Int), .int .i64 (c : Int), .int .i64 (d : Int), .int .u32 (k : Int)], .bool true]) (by rw [results_cell_tmp rfl]; go_simp) rfl ⟨?_, ?_⟩
      · rw [HM.out]; rfl
      · exact below_drew ((((((HB.out.setCell hZl.out _).setCell hZl.out _).setCell hZl.out _).setCell hZl.out _).setCell hZl.out _).setCell hZl.out _)
  all_goals
    go_wp2_with fail
    go_region
    all_goals
      go_wp2_with fail
      refine bodyPost_ret (v := .tuple #[.agg #[.int .i64 (op : Int), .int .i64 (a : Int), .int .i64 (b : Int), .int .i64 (c : Int), .int .i64 (d : Int), .int .u32 (k : Int)], .bool false]) (by rw [results_cell_tmp rfl]; go_simp) rfl ⟨?_, ?_⟩
      · rw [HM.out]; rfl
      · exact below_drew ((((((HB.out.setCell hZl.out _).setCell hZl.out _).setCell hZl.out _).setCell hZl.out _).setCell hZl.out _).setCell hZl.out _)

theorem words_size (l : List UInt8) : (unwords (words l)).length = l.length := by rw [unwords_words]

theorem iread_any (s : ByteArray) (hs : s.size ≤ 1000000) (w : World) (hL : LsL w) :
    Calls Tryd.prog 33 #[.string s] w fun r w' => r = .returned (.tuple #[insV (readI (words s.data.toList)).1, .bool (readI (words s.data.toList)).2]) ∧ Below w.heap.size w w' := by
  obtain ⟨x, t, hw⟩ : ∃ x t, words s.data.toList = x :: t := by
    cases h : words s.data.toList with
    | nil => exact absurd h (words_ne _)
    | cons x t => exact ⟨x, t, rfl⟩
  have hc := words_clean s.data.toList
  have hU : bytesOf (unwords (x :: t)) = s := by rw [← hw, unwords_words, bytesOf_list]
  have hsz : (unwords (x :: t)).length ≤ 1000000 := by rw [← hw, words_size, list_len]; exact hs
  rw [hw] at hc ⊢
  unfold readI
  simp only
  refine read_walk s (opOf x) _ _ (hasF 2 (opOf x)) _ _ _ t _ _ _ _ _ (decide (opOf x ≠ 0)) _ _ _ _ _ _ _ _ _ _ w hL (Lib.hid rfl) (Lib.hid rfl) (Lib.hid rfl) (Lib.hid rfl) (Lib.hid rfl) (Lib.hid rfl) (Lib.hid (fun w' h' => iuses_any _ w' h')) (Lib.hid ?_)
  intro w1 w2 e1 e2
  obtain ⟨s1, n1, b1⟩ := new_size e1
  obtain ⟨s2, n2, b2⟩ := new_size e2
  rw [s1] at n2
  have hB := below_on b1 b2
  have hL2 := hL.below hB
  have := rop_any w2 (w.heap.size + 1) (x :: t) false true ⟨by rw [n2, rdO, hU], hc, hsz⟩ hL2 (fun w' ho => hL.below (hB.trans (ho.below (by omega) (fun k e => by omega))))
  simpa using this

theorem insfree {w : World} {E : Nat} {i : Ins} (h : w.heap[E]? = some (insO i)) : w.frozen? ⟨E, 0, none⟩ = false ∧ w.frozen? ⟨E, 1, none⟩ = false ∧ w.frozen? ⟨E, 2, none⟩ = false ∧ w.frozen? ⟨E, 3, none⟩ = false ∧ w.frozen? ⟨E, 4, none⟩ = false ∧ w.frozen? ⟨E, 5, none⟩ = false := by
  refine ⟨?_, ?_, ?_, ?_, ?_, ?_⟩ <;> simp [World.frozen?, h, insO]
theorem below_set6 {w w1 : World} {Z : Nat} (h : Below w.heap.size w w1) (hz : w.heap.size ≤ Z) (a b c d e f : Value) :
    Below w.heap.size w ((((((w1.setCell ⟨Z, 0, none⟩ a).setCell ⟨Z, 1, none⟩ b).setCell ⟨Z, 2, none⟩ c).setCell ⟨Z, 3, none⟩ d).setCell ⟨Z, 4, none⟩ e).setCell ⟨Z, 5, none⟩ f) :=
  (((((h.setCell hz _).setCell hz _).setCell hz _).setCell hz _).setCell hz _).setCell hz _

set_option maxRecDepth 100000 in
set_option maxHeartbeats 2000000 in
theorem iparse_walk (s : ByteArray) (i j : Ins) (ok : Bool) (f e : Int) (hj : Hid (ok = false ∧ j = ins0 ∧ e = 3 ∨ ok = true ∧ f ≠ 0 ∧ j = ins0 ∧ e = f ∨ ok = true ∧ f = 0 ∧ j = i ∧ e = 0)) (w : World) (hL : LsL w)
    (HR : Hid (∀ w', LsL w' → Calls Tryd.prog 33 #[.string s] w' fun r w'' => r = .returned (.tuple #[insV i, .bool ok]) ∧ Below w'.heap.size w' w''))
    (HF : Hid (∀ w', IsL w' → Calls Tryd.prog 20 #[insV i] w' fun r w'' => r = .returned (.int .i64 f) ∧ Below w'.heap.size w' w'')) :
    Calls Tryd.prog 13 #[.string s] w fun r w' => r = .returned (.tuple #[insV j, .int .i64 e]) ∧ Below w.heap.size w w' := by
  obtain ⟨w1, e1⟩ : ∃ w1, w1 = w.alloc (insO ins0) := ⟨_, rfl⟩
  obtain ⟨s1, n1, b1⟩ := new_size e1
  have HR1 := Lib.hid (HR.out w1 (hL.below b1))
  have B1 := Lib.hid b1
  have N1 := Lib.hid n1
  have HL := Lib.hid hL
  replace e1 : w1 = w.alloc (.cells #[.int .i64 0, .int .i64 0, .int .i64 0, .int .i64 0, .int .i64 0, .int .u32 0] 24) := e1
  clear HR hL b1 n1 s1
  obtain ⟨Z, hZ⟩ : ∃ Z, w.heap.size = Z := ⟨_, rfl⟩
  have HZ := Lib.hid hZ
  clear hZ
  obtain ⟨op, a, b, c, d, k⟩ := i
  unfold insV at *
  simp only at *
  go_enter Tryd.func13, Tryd.ntmps13
  go_wp2_with fail
  rw [← e1, HZ.out]
  clear e1
  refine HR1.out.mono ?_
  rintro r w2 ⟨rfl, h2⟩
  have b2 := below_on B1.out h2
  obtain ⟨w3, e3⟩ : ∃ w3, w3 = w2.alloc (insO ⟨op, a, b, c, d, k⟩) := ⟨_, rfl⟩
  obtain ⟨s3, n3, b3⟩ := new_size e3
  obtain ⟨E, hE⟩ : ∃ E, w2.heap.size = E := ⟨_, rfl⟩
  rw [hE] at n3
  have B3 := Lib.hid (below_on b2 b3)
  have N3 := Lib.hid n3
  have hr3 := blk_on b3 (blk_on h2 N1.out)
  rw [HZ.out] at hr3
  have R3 := Lib.hid hr3
  clear hr3
  have hZE : Z ≠ E := by
    have := blk_lt (blk_on h2 N1.out)
    have := HZ.out
    omega
  have HE := Lib.hid hE
  replace e3 : w3 = w2.alloc (.cells #[.int .i64 op, .int .i64 a, .int .i64 b, .int .i64 c, .int .i64 d, .int .u32 (k : Int)] 24) := e3
  have hZl := Lib.hid (show w.heap.size ≤ Z by rw [HZ.out]; exact Nat.le_refl _)
  clear h2 b2 s3 n3 b3 hE HR1 B1 N1
  rcases hj.out with ⟨rfl, rfl, rfl⟩ | ⟨rfl, hf, rfl, rfl⟩ | ⟨rfl, rfl, rfl, rfl⟩
  · have hr3 := R3.out
    obtain ⟨o0, o1, o2, o3, o4, o5⟩ := inscells hr3
    obtain ⟨z0, z1, z2, z3, z4, z5⟩ := insfree hr3
    simp only [ins0] at o0 o1 o2 o3 o4 o5
    have HE2 := HE.out
    clear hr3 hj
    subst e3
    have HE3 := Lib.hid HE2
    clear HE2
    go_wp2_with fail
    refine bodyPost_ret (v := .tuple #[.agg #[.int .i64 0, .int .i64 0, .int .i64 0, .int .i64 0, .int .i64 0, .int .u32 0], .int .i64 3]) (by rw [results_cell_tmp rfl]; go_simp) rfl ⟨rfl, ?_⟩
    exact below_set6 B3.out hZl.out _ _ _ _ _ _
  · have hf' : (e != 0) = true := by simp [hf]
    have HF3 := Lib.hid (HF.out w3 (HL.out.below B3.out).is)
    have hn3 := N3.out
    obtain ⟨c0, c1, c2, c3, c4, c5⟩ := inscells hn3
    simp only at c0 c1 c2 c3 c4 c5
    clear hn3 hj hf
    go_wp2_with fail
    rw [← e3]
    clear e3 c0 c1 c2 c3 c4 c5 HF
    refine HF3.out.mono ?_
    rintro r w4 ⟨rfl, h4⟩
    have B4 := Lib.hid (below_on B3.out h4)
    have hr4 := blk_on h4 R3.out
    obtain ⟨o0, o1, o2, o3, o4, o5⟩ := inscells hr4
    obtain ⟨z0, z1, z2, z3, z4, z5⟩ := insfree hr4
    simp only [ins0] at o0 o1 o2 o3 o4 o5
    clear hr4 h4 HF3
    go_wp2_with fail
    refine bodyPost_ret (v := .tuple #[.agg #[.int .i64 0, .int .i64 0, .int .i64 0, .int .i64 0, .int .i64 0, .int .u32 0], .int .i64 e]) (by rw [results_cell_tmp rfl]; go_simp) rfl ⟨rfl, ?_⟩
    exact below_set6 B4.out hZl.out _ _ _ _ _ _
  · have HF3 := Lib.hid (HF.out w3 (HL.out.below B3.out).is)
    have hn3 := N3.out
    obtain ⟨c0, c1, c2, c3, c4, c5⟩ := inscells hn3
    simp only at c0 c1 c2 c3 c4 c5
    clear hn3 hj
    go_wp2_with fail
    rw [← e3]
    clear e3 c0 c1 c2 c3 c4 c5 HF
    refine HF3.out.mono ?_
    rintro r w4 ⟨rfl, h4⟩
    have B4 := Lib.hid (below_on B3.out h4)
    have hr4 := blk_on h4 R3.out
    have hn4 := blk_on h4 N3.out
    obtain ⟨o0, o1, o2, o3, o4, o5⟩ := inscells hr4
    obtain ⟨z0, z1, z2, z3, z4, z5⟩ := insfree hr4
    obtain ⟨c0, c1, c2, c3, c4, c5⟩ := inscells hn4
    simp only [ins0] at o0 o1 o2 o3 o4 o5 c0 c1 c2 c3 c4 c5
    clear hr4 h4 HF3 hn4
    have hEE := HE.out
    subst hEE
    go_wp2_with fail
    refine bodyPost_ret (v := .tuple #[.agg #[.int .i64 op, .int .i64 a, .int .i64 b, .int .i64 c, .int .i64 d, .int .u32 (k : Int)], .int .i64 0]) (by rw [results_cell_tmp rfl]; go_simp) rfl ⟨rfl, ?_⟩
    exact below_set6 B4.out hZl.out _ _ _ _ _ _

theorem iparse_any (s : ByteArray) (hs : s.size ≤ 1000000) (w : World) (hL : LsL w) :
    Calls Tryd.prog 13 #[.string s] w fun r w' => r = .returned (.tuple #[insV (parseI s.data.toList).1, .int .i64 (parseI s.data.toList).2]) ∧ Below w.heap.size w w' := by
  refine iparse_walk s (readI (words s.data.toList)).1 _ (readI (words s.data.toList)).2 (formI (readI (words s.data.toList)).1) _ (Lib.hid ?_) w hL (Lib.hid (fun w' h' => iread_any s hs w' h')) (Lib.hid (fun w' h' => iform_any _ w' h'))
  unfold parseI
  rcases readI_opt (words s.data.toList) with ⟨h1, h2⟩ | ⟨h1, h2⟩
  · rw [h2]
    unfold parseO
    simp only
    by_cases hf : formI (readI (words s.data.toList)).1 = 0
    · rw [if_pos hf]; exact .inr (.inr ⟨h1, hf, rfl, rfl⟩)
    · rw [if_neg hf]; exact .inr (.inl ⟨h1, hf, rfl, rfl⟩)
  · rw [h2]; exact .inl ⟨h1, rfl, rfl⟩

end Go.Proofs.YtlnlfeninjjkmaaDoor
