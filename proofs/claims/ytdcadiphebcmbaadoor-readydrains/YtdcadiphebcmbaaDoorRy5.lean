/-
  The code's queues: a task linked to the back of a level, and unlinked. No condition.
-/
import Derived.Test.YtdcadiphebcmbaaDoorRy4
import Derived.Deep.DeepCutAuto
namespace Go.Proofs.YtdcadiphebcmbaaDoor
open Go Go.RowKit
set_option linter.unusedVariables false
set_option linter.unusedSimpArgs false

/-- From w to w' block b is turned alone, and holds this now. -/
structure QT (w : World) (b : Nat) (s : QSt) (w' : World) : Prop where
  q : QS w' b s
  o : Only w w' (fun k => k = b)
theorem QT.on {w w' w2 : World} {b : Nat} {s s' : QSt} (h : QT w b s w') (q : QS w2 b s') (o : Only w' w2 (fun k => k = b)) : QT w b s' w2 := ⟨q, h.o.trans o fun _ _ e => e⟩
theorem only_cell (w : World) (b i : Nat) (v : Value) : Only w (w.setCell ⟨b, i, none⟩ v) (fun k => k = b) := Only.setCell w b i v _ rfl

theorem QT.drew {w w' : World} {b : Nat} {s : QSt} (h : QT w b s w') : QT w b s w'.drew := by
  have hb : Below w'.heap.size w' w'.drew := ⟨rfl, rfl, rfl, Nat.le_refl _, fun _ _ => rfl⟩
  exact ⟨h.q.below hb, h.o.trans (Only.of_below hb (fun k => k = b)) fun _ _ e => e⟩
theorem bor32 (F l : Nat) (hF : F < 2 ^ 32) (hl : l < 32) : bits .or .u32 (F : Int) (2 ^ l % 4294967296) = ((bset F l : Nat) : Int) := by
  have hp : 2 ^ l < 2 ^ 32 := Nat.pow_lt_pow_right (by decide) hl
  have hx : bset F l < 2 ^ 32 := bset_lt hF hl
  have e : (2 : Int) ^ l % 4294967296 = ((2 ^ l : Nat) : Int) := by
    have : (2 : Int) ^ l = ((2 ^ l : Nat) : Int) := by rw [Int.natCast_pow]; rfl
    rw [this]; clear hx; generalize 2 ^ l = p at *; omega
  have h1 : (BitVec.ofInt 32 (F : Int)).toNat = F := by
    rw [BitVec.ofInt_natCast, BitVec.toNat_ofNat]; exact Nat.mod_eq_of_lt (by omega)
  have h2 : (BitVec.ofInt 32 ((2 ^ l : Nat) : Int)).toNat = 2 ^ l := by
    rw [BitVec.ofInt_natCast, BitVec.toNat_ofNat]; exact Nat.mod_eq_of_lt hp
  rw [e]
  show IntKind.u32.wrap ((BitVec.ofInt 32 (F : Int) ||| BitVec.ofInt 32 ((2 ^ l : Nat) : Int)).toNat : Int) = _
  rw [BitVec.toNat_or, h1, h2, IntKind.wrap_u32]
  unfold bset at *
  omega
theorem bor64 (S t : Nat) (hS : S < 2 ^ 64) (ht : t < 64) : bits .or .u64 (S : Int) (IntKind.u64.wrap (2 ^ t)) = ((bset S t : Nat) : Int) := by
  have hp : 2 ^ t < 2 ^ 64 := Nat.pow_lt_pow_right (by decide) ht
  have hx : bset S t < 2 ^ 64 := bset_lt hS ht
  have e : IntKind.u64.wrap ((2 : Int) ^ t) = ((2 ^ t : Nat) : Int) := by
    rw [IntKind.wrap_u64]
    have : (2 : Int) ^ t = ((2 ^ t : Nat) : Int) := by rw [Int.natCast_pow]; rfl
    rw [this]; clear hx; generalize 2 ^ t = p at *; omega
  have h1 : (BitVec.ofInt 64 (S : Int)).toNat = S := by
    rw [BitVec.ofInt_natCast, BitVec.toNat_ofNat]; exact Nat.mod_eq_of_lt (by omega)
  have h2 : (BitVec.ofInt 64 ((2 ^ t : Nat) : Int)).toNat = 2 ^ t := by
    rw [BitVec.ofInt_natCast, BitVec.toNat_ofNat]; exact Nat.mod_eq_of_lt hp
  rw [e]
  show IntKind.u64.wrap ((BitVec.ofInt 64 (S : Int) ||| BitVec.ofInt 64 ((2 ^ t : Nat) : Int)).toNat : Int) = _
  rw [BitVec.toNat_or, h1, h2, IntKind.wrap_u64]
  unfold bset at *
  omega
theorem xor_and_le (n S P : Nat) : (S ^^^ (S &&& P)) = S &&& (S ^^^ P) := by
  apply Nat.eq_of_testBit_eq
  intro i
  rw [Nat.testBit_xor, Nat.testBit_and, Nat.testBit_and, Nat.testBit_xor]
  cases S.testBit i <;> cases P.testBit i <;> rfl
theorem bnot_nat (n S P : Nat) (hS : S < 2 ^ n) (hP : P < 2 ^ n) : (BitVec.ofNat n S &&& ~~~(BitVec.ofNat n P)).toNat = S ^^^ (S &&& P) := by
  apply Nat.eq_of_testBit_eq
  intro i
  rw [Nat.testBit_xor, Nat.testBit_and]
  show (BitVec.ofNat n S &&& ~~~(BitVec.ofNat n P)).getLsbD i = _
  rw [BitVec.getLsbD_and, BitVec.getLsbD_not, BitVec.getLsbD_ofNat, BitVec.getLsbD_ofNat]
  by_cases hi : i < n
  · simp only [hi, decide_true, Bool.true_and]
    cases S.testBit i <;> cases P.testBit i <;> rfl
  · have : S.testBit i = false := Nat.testBit_lt_two_pow (Nat.lt_of_lt_of_le hS (Nat.pow_le_pow_right (by decide) (by omega)))
    simp [hi, this]
theorem bclr32 (F l : Nat) (hF : F < 2 ^ 32) (hl : l < 32) : bits .andNot .u32 (F : Int) (2 ^ l % 4294967296) = ((bclr F l : Nat) : Int) := by
  have hp : 2 ^ l < 2 ^ 32 := Nat.pow_lt_pow_right (by decide) hl
  have hx : bclr F l < 2 ^ 32 := bclr_lt hF
  have e : (2 : Int) ^ l % 4294967296 = ((2 ^ l : Nat) : Int) := by
    have : (2 : Int) ^ l = ((2 ^ l : Nat) : Int) := by rw [Int.natCast_pow]; rfl
    rw [this]; clear hx; generalize 2 ^ l = p at *; omega
  rw [e]
  show IntKind.u32.wrap ((BitVec.ofInt 32 (F : Int) &&& ~~~(BitVec.ofInt 32 ((2 ^ l : Nat) : Int))).toNat : Int) = _
  rw [BitVec.ofInt_natCast, BitVec.ofInt_natCast, bnot_nat 32 F (2 ^ l) hF hp, IntKind.wrap_u32]
  unfold bclr at *
  omega
theorem bclr64 (S t : Nat) (hS : S < 2 ^ 64) (ht : t < 64) : bits .andNot .u64 (S : Int) (IntKind.u64.wrap (2 ^ t)) = ((bclr S t : Nat) : Int) := by
  have hp : 2 ^ t < 2 ^ 64 := Nat.pow_lt_pow_right (by decide) ht
  have hx : bclr S t < 2 ^ 64 := bclr_lt hS
  have e : IntKind.u64.wrap ((2 : Int) ^ t) = ((2 ^ t : Nat) : Int) := by
    rw [IntKind.wrap_u64]
    have : (2 : Int) ^ t = ((2 ^ t : Nat) : Int) := by rw [Int.natCast_pow]; rfl
    rw [this]; clear hx; generalize 2 ^ t = p at *; omega
  rw [e]
  show IntKind.u64.wrap ((BitVec.ofInt 64 (S : Int) &&& ~~~(BitVec.ofInt 64 ((2 ^ t : Nat) : Int))).toNat : Int) = _
  rw [BitVec.ofInt_natCast, BitVec.ofInt_natCast, bnot_nat 64 S (2 ^ t) hS hp, IntKind.wrap_u64]
  unfold bclr at *
  omega

theorem shl_nat (l : Nat) : (2 : Int) ^ l = ((2 ^ l : Nat) : Int) := by rw [Int.natCast_pow]; rfl

set_option maxRecDepth 100000 in
set_option maxHeartbeats 4000000 in
theorem link_any {w : World} {b : Nat} {s : QSt} (h : QS w b s) (hf : s.F < 2 ^ 32) (hs : s.S < 2 ^ 64) (t l : Nat) (ht : t < 64) (hl : l < 32) (hfr : s.front t l < 64) (hbk : s.back t l < 64) :
    Calls Tryd.prog 26 #[.pointer (some ⟨b, 0, none⟩), .int .i64 t, .int .i64 l] w fun e w' => e = .returned (.tuple #[]) ∧ QS w' b (s.link t l) ∧ Only w w' (fun k => k = b) := by
  have HH := Lib.hid (has_any h hf l hl)
  have HQ := Lib.hid h
  have cfr := h.cfr l hl
  have HF := Lib.hid (show s.front t l = if s.F.testBit l then s.fr l else t from rfl)
  have HB := Lib.hid (show s.back t l = if s.F.testBit l then s.ah (s.fr l) else t from rfl)
  have HL := Lib.hid (show s.link t l = { S := bset s.S t, F := bset s.F l, fr := up s.fr l (s.front t l), lv := up s.lv t l, ah := up (up s.ah t (s.back t l)) (s.front t l) t, bh := up (up s.bh t (s.front t l)) (s.back t l) t } from rfl)
  generalize s.front t l = f at *
  generalize s.back t l = k at *
  go_enter Tryd.func26, Tryd.ntmps26
  go_wp2_with fail
  refine HH.out.mono ?_
  rintro e w1 ⟨rfl, rfl⟩
  go_upto_if 12 with fail
  go_cut [6, 7] (fun f' k' wx => f' = .int .i64 f ∧ k' = .int .i64 k ∧ wx = w)
  case first =>
    cases hb : s.F.testBit l with
    | true =>
      rw [hb] at HF HB
      have e1 : s.fr l = f := HF.out.symm
      have e2 : s.ah f = k := by have := HB.out; rw [e1] at this; exact this.symm
      rw [e1] at cfr
      have cah := HQ.out.cah f hfr
      rw [e2] at cah
      clear hb e1 e2 h
      go_wp2_with fail
      go_meet
      exact ⟨rfl, rfl, rfl⟩
    | false =>
      rw [hb] at HF HB
      have e1 : f = t := HF.out
      have e2 : k = t := HB.out
      subst e1 e2
      clear hb h cfr
      go_wp2_with fail
      go_meet
      exact ⟨rfl, rfl, rfl⟩
  case rest =>
  obtain ⟨rfl, rfl, hwc⟩ := hcut
  have hwc' := hwc.symm
  subst hwc'
  clear HF HB HH cfr h
  -- what stands behind each store
  have q1 := ((HQ.out.setLv t l).setAh t k).setBh t f
  have o1 : Only w (((w.setCell ⟨b, 34 + t * 3, none⟩ (.int .i64 (l : Int))).setCell ⟨b, 34 + t * 3 + 1, none⟩ (.int .i64 (k : Int))).setCell ⟨b, 34 + t * 3 + 2, none⟩ (.int .i64 (f : Int))) (fun k => k = b) :=
    ((only_cell w b _ _).trans (only_cell _ b _ _) fun _ _ e => e).trans (only_cell _ b _ _) fun _ _ e => e
  have Q1 := Lib.hid q1
  have O1 := Lib.hid o1
  clear q1 o1
  have a0 := HQ.out.clv t ht
  have a1 := HQ.out.cah t ht
  have a2 := HQ.out.cbh t ht
  have z0 := HQ.out.thawed
  go_upto_region 4 with fail
  go_cut [] (fun wx => QT w b { s with lv := up s.lv t l, ah := up s.ah t k, bh := up s.bh t f } wx)
  case first =>
    go_wp2_with fail
    go_meet
    exact ⟨Q1.out, O1.out⟩
  case rest =>
  obtain ⟨q2, o2⟩ := hcut
  clear a0 a1 a2 z0 Q1 O1
  have a2 := q2.cbh k hbk
  have z0 := q2.thawed
  have Q2 := Lib.hid (q2.setBh k t)
  have O2 := Lib.hid o2
  clear q2 o2
  go_upto_region 5 with fail
  go_cut [] (fun wx => QT w b { s with lv := up s.lv t l, ah := up s.ah t k, bh := up (up s.bh t f) k t } wx)
  case first =>
    go_wp2_with fail
    go_meet
    exact ⟨Q2.out, O2.out.trans (only_cell _ b _ _) fun _ _ e => e⟩
  case rest =>
  obtain ⟨q3, o3⟩ := hcut
  clear a2 z0 Q2 O2
  have a2 := q3.cah f hfr
  have z0 := q3.thawed
  have Q3 := Lib.hid (q3.setAh f t)
  have O3 := Lib.hid o3
  clear q3 o3
  go_upto_region 6 with fail
  go_cut [] (fun wx => QT w b { s with lv := up s.lv t l, ah := up (up s.ah t k) f t, bh := up (up s.bh t f) k t } wx)
  case first =>
    go_wp2_with fail
    go_meet
    exact ⟨Q3.out, O3.out.trans (only_cell _ b _ _) fun _ _ e => e⟩
  case rest =>
  obtain ⟨q4, o4⟩ := hcut
  clear a2 z0 Q3 O3
  have a2 := q4.cfr l hl
  have z0 := q4.thawed
  have Q4 := Lib.hid (q4.setFr l f hl)
  have O4 := Lib.hid o4
  clear q4 o4
  go_upto_region 7 with fail
  go_cut [] (fun wx => QT w b { s with fr := up s.fr l f, lv := up s.lv t l, ah := up (up s.ah t k) f t, bh := up (up s.bh t f) k t } wx)
  case first =>
    go_wp2_with fail
    go_meet
    exact ⟨Q4.out, O4.out.trans (only_cell _ b _ _) fun _ _ e => e⟩
  case rest =>
  obtain ⟨q5, o5⟩ := hcut
  clear a2 z0 Q4 O4
  have a2 := q5.cF
  have z0 := q5.thawed
  have Q5 := Lib.hid (q5.setF (bset s.F l))
  have O5 := Lib.hid o5
  clear q5 o5
  have hor := bor32 s.F l hf hl
  go_upto_region 8 with fail
  go_cut [] (fun wx => QT w b { s with F := bset s.F l, fr := up s.fr l f, lv := up s.lv t l, ah := up (up s.ah t k) f t, bh := up (up s.bh t f) k t } wx)
  case first =>
    go_region
    all_goals
      go_wp2_with fail
      go_meet
      exact QT.drew ⟨Q5.out, O5.out.trans (only_cell _ b _ _) fun _ _ e => e⟩
  case rest =>
  obtain ⟨q6, o6⟩ := hcut
  clear a2 z0 Q5 O5 hor
  have a2 := q6.cS
  have z0 := q6.thawed
  have Q6 := Lib.hid (q6.setS (bset s.S t))
  have O6 := Lib.hid o6
  clear q6 o6
  have hor := bor64 s.S t hs ht
  go_upto_region 9 with fail
  go_region
  all_goals
    go_wp2_with fail
    go_end0
    have q7 := QT.drew ⟨Q6.out, O6.out.trans (only_cell _ b _ _) fun _ _ e => e⟩
    exact ⟨rfl, by rw [HL.out]; exact q7.q, q7.o⟩

/-- The same, and a task's place of its own lies in block D. -/
structure UT (w : World) (b D : Nat) (cs : Array Value) (s : QSt) (w' : World) : Prop where
  t : QT w b s w'
  d : w'.heap[D]? = some (.cells cs 28 (0, 0))
theorem UT.drew {w w' : World} {b D : Nat} {cs : Array Value} {s : QSt} (h : UT w b D cs s w') : UT w b D cs s w'.drew := ⟨h.t.drew, h.d⟩
theorem UT.drewN {w w' : World} {b D : Nat} {cs : Array Value} {s : QSt} (h : UT w b D cs s w') (n : Nat) : UT w b D cs s (w'.drewN n) := by
  have hb : Below w'.heap.size w' (w'.drewN n) := ⟨rfl, rfl, rfl, Nat.le_refl _, fun _ _ => rfl⟩
  exact ⟨⟨h.t.q.below hb, h.t.o.trans (Only.of_below hb (fun k => k = b)) fun _ _ e => e⟩, h.d⟩
theorem UT.store {w w' : World} {b D j : Nat} {cs : Array Value} {s s' : QSt} {v : Value} (h : UT w b D cs s w') (hD : D ≠ b) (q : QS (w'.setCell ⟨b, j, none⟩ v) b s') : UT w b D cs s' (w'.setCell ⟨b, j, none⟩ v) :=
  ⟨⟨q, h.t.o.trans (only_cell _ b _ _) fun _ _ e => e⟩, (heap_setCell_other w' _ D v (fun e => hD (by exact e))).trans h.d⟩
theorem UT.cells {w w' : World} {b D : Nat} {u0 u1 u2 : Value} {s : QSt} (h : UT w b D #[u0, u1, u2] s w') : w'.cell? ⟨D, 0, none⟩ = some u0 ∧ w'.cell? ⟨D, 1, none⟩ = some u1 ∧ w'.cell? ⟨D, 2, none⟩ = some u2 := by
  refine ⟨?_, ?_, ?_⟩ <;> simp [World.cell?, h.d]

set_option maxRecDepth 100000 in
set_option maxHeartbeats 4000000 in
theorem unlink_any {w : World} {b : Nat} {s : QSt} (h : QS w b s) (hf : s.F < 2 ^ 32) (hs : s.S < 2 ^ 64) (t : Nat) (ht : t < 64) (hlv : s.lv t < 32) (hah : s.ah t < 64) (hbh : s.bh t < 64) :
    Calls Tryd.prog 28 #[.pointer (some ⟨b, 0, none⟩), .int .i64 t] w fun e w' => e = .returned (.tuple #[]) ∧ QS w' b (s.unlink t) ∧ Only w w' (fun k => k = b) := by
  have HL := Lib.hid (show s.unlink t = { S := bclr s.S t, F := if s.bh t = t then bclr s.F (s.lv t) else s.F, fr := if s.bh t = t then s.fr else if s.fr (s.lv t) = t then up s.fr (s.lv t) (s.bh t) else s.fr, lv := s.lv, ah := up s.ah (s.bh t) (s.ah t), bh := up s.bh (s.ah t) (s.bh t) } from rfl)
  have a0 := h.clv t ht
  have a1 := h.cah t ht
  have a2 := h.cbh t ht
  have hbl := h.lt
  generalize s.lv t = l at *
  generalize s.ah t = x at *
  generalize s.bh t = y at *
  obtain ⟨w1, e1⟩ : ∃ w1, w1 = w.alloc (.cells #[.int .i64 (l : Int), .int .i64 (x : Int), .int .i64 (y : Int)] 28) := ⟨_, rfl⟩
  obtain ⟨s1, n1, b1⟩ := new_size e1
  obtain ⟨D, hD⟩ : ∃ D, w.heap.size = D := ⟨_, rfl⟩
  rw [hD] at n1
  have HD := Lib.hid hD
  have hDb : D ≠ b := by omega
  have u1 : UT w b D #[.int .i64 (l : Int), .int .i64 (x : Int), .int .i64 (y : Int)] s w1 := ⟨⟨h.below b1, Only.of_below b1 (fun k => k = b)⟩, n1⟩
  have U1 := Lib.hid u1
  obtain ⟨p0, p1, p2⟩ := u1.cells
  have g2 := u1.t.q.cbh x hah
  have z0 := u1.t.q.thawed
  clear h hbl s1 b1 hD u1 n1
  go_enter Tryd.func28, Tryd.ntmps28
  go_upto_region 1 with fail
  rw [← e1, HD.out]
  clear e1 a0 a1 a2
  go_cut [] (fun wx => UT w b D #[.int .i64 (l : Int), .int .i64 (x : Int), .int .i64 (y : Int)] { s with bh := up s.bh x y } wx)
  case first =>
    go_region
    all_goals
      go_wp2_with fail
      go_meet
      exact UT.drew (U1.out.store hDb (U1.out.t.q.setBh x y))
  case rest =>
  have U2 := Lib.hid hcut
  clear p0 p1 p2 g2 z0 U1
  obtain ⟨p0, p1, p2⟩ := hcut.cells
  have g2 := hcut.t.q.cah y hbh
  have z0 := hcut.t.q.thawed
  clear hcut
  go_upto_region 2 with fail
  go_cut [] (fun wx => UT w b D #[.int .i64 (l : Int), .int .i64 (x : Int), .int .i64 (y : Int)] { s with ah := up s.ah y x, bh := up s.bh x y } wx)
  case first =>
    go_region
    all_goals
      go_wp2_with fail
      go_meet
      exact UT.drew (U2.out.store hDb (U2.out.t.q.setAh y x))
  case rest =>
  have U3 := Lib.hid hcut
  clear p0 p1 p2 g2 z0 U2
  obtain ⟨p0, p1, p2⟩ := hcut.cells
  have gF := hcut.t.q.cF
  have gr := hcut.t.q.cfr l hlv
  have z0 := hcut.t.q.thawed
  have hcl := bclr32 s.F l hf hlv
  simp only at gF gr
  clear hcut
  by_cases hy : y = t
  · subst hy
    simp only [if_true] at HL
    have hyt : ((y : Int) == (y : Int)) = true := by simp
    have K := Lib.hid (UT.drew (U3.out.store hDb (U3.out.t.q.setF (bclr s.F l))))
    go_upto_region 4 with fail
    go_region
    go_wp2_with fail
    clear hcl
    have U4 := Lib.hid K.out
    clear p0 p1 p2 gF gr z0 U3 K
    have gS := U4.out.t.q.cS
    have z0 := U4.out.t.q.thawed
    have hcl := bclr64 s.S y hs ht
    simp only at gS
    go_upto_region 7 with fail
    go_region
    all_goals
      go_wp2_with fail
      go_end0
      have q7 := UT.drew (U4.out.store hDb (U4.out.t.q.setS (bclr s.S y)))
      exact ⟨rfl, by rw [HL.out]; exact q7.t.q, q7.t.o⟩
  · have hyt : ((y : Int) == (t : Int)) = false := by simp; omega
    simp only [if_neg hy] at HL
    by_cases hr : s.fr l = t
    · simp only [if_pos hr] at HL
      rw [hr] at gr
      have K := Lib.hid (fun n => UT.drew ((U3.out.drewN n).store hDb ((U3.out.drewN n).t.q.setFr l y hlv)))
      have htt : ((t : Int) == (t : Int)) = true := by simp
      clear hr hcl
      go_upto_region 5 with fail
      go_quiet (fail)
      obtain ⟨w4, hw4⟩ : ∃ w4, w4 = wc.drewN nq := ⟨_, rfl⟩
      have K4 := Lib.hid (K.out nq)
      have V4 := Lib.hid (U3.out.drewN nq)
      rw [← hw4] at K4 V4
      rw [← hw4]
      clear hw4 p0 p1 p2 gF gr z0 K
      obtain ⟨p0, p1, p2⟩ := V4.out.cells
      have gr := V4.out.t.q.cfr l hlv
      have z0 := V4.out.t.q.thawed
      have gF := V4.out.t.q.cF
      have K := Lib.hid True.intro
      simp only at gr gF
      go_upto_region 6 with fail
      go_region
      go_wp2_with fail
      have U4 := Lib.hid K4.out
      clear p0 p1 p2 gF gr z0 U3 K
      have gS := U4.out.t.q.cS
      have z0 := U4.out.t.q.thawed
      have hcl := bclr64 s.S t hs ht
      simp only at gS
      go_upto_region 7 with fail
      go_region
      all_goals
        go_wp2_with fail
        go_end0
        have q7 := UT.drew (U4.out.store hDb (U4.out.t.q.setS (bclr s.S t)))
        exact ⟨rfl, by rw [HL.out]; exact q7.t.q, q7.t.o⟩
    · have hrt : ((s.fr l : Int) == (t : Int)) = false := by simp; omega
      simp only [if_neg hr] at HL
      have K := Lib.hid (fun n => U3.out.drewN n)
      clear hcl hr
      go_upto_region 5 with fail
      go_quiet (fail)
      obtain ⟨w4, hw4⟩ : ∃ w4, w4 = wc.drewN nq := ⟨_, rfl⟩
      have K4 := Lib.hid (K.out nq)
      rw [← hw4] at K4
      rw [← hw4]
      clear hw4
      go_wp2_with fail
      have U4 := Lib.hid K4.out
      clear p0 p1 p2 gF gr z0 U3 K
      have gS := U4.out.t.q.cS
      have z0 := U4.out.t.q.thawed
      have hcl := bclr64 s.S t hs ht
      simp only at gS
      go_upto_region 7 with fail
      go_region
      all_goals
        go_wp2_with fail
        go_end0
        have q7 := UT.drew (U4.out.store hDb (U4.out.t.q.setS (bclr s.S t)))
        exact ⟨rfl, by rw [HL.out]; exact q7.t.q, q7.t.o⟩

end Go.Proofs.YtdcadiphebcmbaaDoor
