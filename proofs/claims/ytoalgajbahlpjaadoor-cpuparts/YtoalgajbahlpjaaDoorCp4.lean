/-
  What Do of package cpu does to a context of one's own. Conditions: the table's cells (IsL).
-/
import Derived.Test.YtoalgajbahlpjaaDoorCp3
namespace Go.Proofs.YtoalgajbahlpjaaDoor
open Go Go.RowKit
set_option linter.unusedVariables false
set_option linter.unusedSimpArgs false

theorem IsL.lt {w : World} (h : IsL w) : 0 < w.heap.size := World.block_lt_of_cell? w _ (h.row 0 (by omega)).1
theorem IsL.belowB {w w' : World} {B : Nat} (h : IsL w) (hb : Below B w w') (hB : 0 < B) : IsL w' := by
  refine ⟨fun k hk => ?_⟩
  obtain ⟨a, b, c⟩ := h.row k hk
  exact ⟨(World.cell?_of_block (w := w) (a := ⟨0, _, none⟩) (hb.block 0 hB)).trans a, (World.cell?_of_block (w := w) (a := ⟨0, _, none⟩) (hb.block 0 hB)).trans b,
    (World.cell?_of_block (w := w) (a := ⟨0, _, none⟩) (hb.block 0 hB)).trans c⟩
/-- What a call turns of a context lies from its base on. -/
theorem Cx.belowB {w w' : World} {B b cap : Nat} {ao : Option Addr} {x : Ctx} (h : Cx w B b ao cap x) (ho : Only w w' (cxS b ao)) : Below B w w' := by
  refine ho.below (Nat.le_trans h.bb (Nat.le_of_lt h.lt)) ?_
  rintro k (rfl | ⟨a, rfl, rfl⟩)
  · exact h.bb
  · exact h.row.1

set_option maxRecDepth 100000 in
theorem cplain_any (i : Ins) (w : World) (hL : IsL w) :
    Calls Tryd.prog 15 #[insV i] w fun r w' => r = .returned (.bool (plainB i)) ∧ Below w.heap.size w w' := by
  obtain ⟨w1, e1⟩ : ∃ w1, w1 = w.alloc (insO i) := ⟨_, rfl⟩
  obtain ⟨-, n1, b1⟩ := new_size e1
  obtain ⟨c0, c1, c2, c3, c4, c5⟩ := inscells n1
  obtain ⟨E, hE⟩ : ∃ E, w.heap.size = E := ⟨_, rfl⟩
  rw [hE] at c0 c1 c2 c3 c4 c5
  have HE := Lib.hid hE
  have B1 := Lib.hid b1
  have HF := Lib.hid (iform_any i w1 (hL.below b1))
  obtain ⟨f, hf⟩ : ∃ f, formI i = f := ⟨_, rfl⟩
  rw [hf] at HF
  have HV := Lib.hid hf
  clear n1 b1 hE hL hf
  obtain ⟨op, a, b, c, d, k⟩ := i
  unfold insO at e1
  unfold insV at *
  simp only at *
  by_cases ho : op ≤ 20
  · have hB : plainB ⟨op, a, b, c, d, k⟩ = (f == 0) := by
      unfold plainB
      rw [HV.out]
      simp only [ho, decide_true, Bool.true_and]
      rfl
    rw [hB]
    clear hB
    go_enter Tryd.func15, Tryd.ntmps15
    go_wp2_with fail
    rw [← e1, HE.out]
    clear e1
    refine HF.out.mono ?_
    rintro r w2 ⟨rfl, h⟩
    have B2 := Lib.hid (below_on B1.out h)
    clear h c0 c1 c2 c3 c4 c5
    go_wp2_with fail
    go_ret
    exact ⟨rfl, B2.out⟩
  · have hd : decide (op ≤ 20) = false := by simp; omega
    have hB : plainB ⟨op, a, b, c, d, k⟩ = false := by simp [plainB, ho]
    rw [hB]
    clear ho hB HF
    go_enter Tryd.func15, Tryd.ntmps15
    go_wp2_with fail
    rw [← e1]
    go_ret
    exact ⟨rfl, B1.out⟩

/-! ### The three kinds, said of an instruction -/

theorem nat8 {n : Int} (h : 0 ≤ n ∧ n < 8) : ∃ m : Nat, n = (m : Int) ∧ m < 8 := ⟨n.toNat, by omega, by omega⟩

theorem cjump_any (i : Ins) (hp : plainB i = true) (hj : i.op = 17 ∨ i.op = 18 ∨ i.op = 19) (hk : i.k < 4294967296) (w : World) (B b cap : Nat) (ao : Option Addr) (x : Ctx) (h : Cx w B b ao cap x) :
    Calls Tryd.prog 16 #[.pointer (some ⟨b, 0, none⟩), insV i] w fun e w' => e = .returned (.tuple #[]) ∧ Cx w' B b ao cap (jumpC x i) ∧ Only w w' (cxS b ao) := by
  obtain ⟨-, -, ha, -, -⟩ := plain_ok hp
  obtain ⟨op, a, b', c', d, k⟩ := i
  obtain ⟨m, rfl, hm⟩ := nat8 ha
  exact (cjump_walk op m b' c' d k _ w B b cap ao x hj hm hk rfl h).mono fun e w' ⟨h1, h2, h3⟩ => ⟨h1, h2, h3.mono fun _ _ e => .inl e⟩
theorem caccess_any (i : Ins) (hp : plainB i = true) (hj : i.op = 15 ∨ i.op = 16) (hk : i.k < 4294967296) (w : World) (B b cap : Nat) (ao : Option Addr) (x : Ctx) (h : Cx w B b ao cap x) :
    Calls Tryd.prog 17 #[.pointer (some ⟨b, 0, none⟩), insV i] w fun e w' => e = .returned (.int .i64 (accE x i)) ∧ Cx w' B b ao cap (accC x i) ∧ Only w w' (cxS b ao) := by
  obtain ⟨-, -, ha, hb, -⟩ := plain_ok hp
  obtain ⟨op, a, b', c', d, k⟩ := i
  obtain ⟨m, rfl, hm⟩ := nat8 ha
  obtain ⟨n, rfl, hn⟩ := nat8 hb
  exact caccess_walk op m n c' d k w B b cap ao x hj hm hn hk h
theorem creckon_any (i : Ins) (hp : plainB i = true) (hj : i.op ≤ 14) (hk : i.k < 4294967296) (w : World) (B b cap : Nat) (ao : Option Addr) (x : Ctx) (h : Cx w B b ao cap x) :
    Calls Tryd.prog 18 #[.pointer (some ⟨b, 0, none⟩), insV i] w fun e w' => e = .returned (.int .i64 (recE x i)) ∧ Cx w' B b ao cap (recC x i) ∧ Only w w' (cxS b ao) := by
  obtain ⟨h1, -, ha, hb, hc⟩ := plain_ok hp
  obtain ⟨op, a, b', c', d, k⟩ := i
  obtain ⟨m, rfl, hm⟩ := nat8 ha
  obtain ⟨n, rfl, hn⟩ := nat8 hb
  obtain ⟨q, rfl, hq⟩ := nat8 hc
  refine (creckon_walk op m n q d k (valC op k (reg x (n : Int)) (reg x (q : Int))) (divB x ⟨op, m, n, q, d, k⟩) w B b cap ao x hm hn hq (valC_lt _ hk (h.fits.reg _) (h.fits.reg _)) rfl ?_ h).mono fun e w' ⟨h1, h2, h3⟩ => ⟨h1, h2, h3.mono fun _ _ e => .inl e⟩
  intro hd w
  refine cvalue_any ⟨op, m, n, q, d, k⟩ h1 hj _ _ (h.fits.reg _) (h.fits.reg _) ?_ w
  intro h67 h0
  have : divB x ⟨op, m, n, q, d, k⟩ = true := by
    unfold divB
    simp only at h67 ⊢
    rw [h0]
    rcases h67 with e | e <;> rw [e] <;> rfl
  rw [this] at hd
  cases hd

/-! ### Do -/

set_option maxRecDepth 100000 in
theorem cdo_nil (i : Ins) (w : World) :
    Calls Tryd.prog 11 #[.pointer none, insV i] w fun e w' => e = .returned (.int .i64 16) ∧ Below w.heap.size w w' := by
  obtain ⟨op, a, b', c', d, k⟩ := i
  unfold insV
  go_enter Tryd.func11, Tryd.ntmps11
  go_wp2_with fail
  go_ret
  exact ⟨rfl, below_box _⟩

set_option maxRecDepth 100000 in
set_option maxHeartbeats 4000000 in
theorem cdo_bad (i : Ins) (hp : plainB i = false) (w : World) (hL : IsL w) (b : Nat) :
    Calls Tryd.prog 11 #[.pointer (some ⟨b, 0, none⟩), insV i] w fun e w' => e = .returned (.int .i64 14) ∧ Below w.heap.size w w' := by
  obtain ⟨w1, e1⟩ : ∃ w1, w1 = w.alloc (insO i) := ⟨_, rfl⟩
  obtain ⟨-, n1, b1⟩ := new_size e1
  obtain ⟨c0, c1, c2, c3, c4, c5⟩ := inscells n1
  obtain ⟨E, hE⟩ : ∃ E, w.heap.size = E := ⟨_, rfl⟩
  rw [hE] at c0 c1 c2 c3 c4 c5
  have HE := Lib.hid hE
  have B1 := Lib.hid b1
  have HP := Lib.hid (hp ▸ cplain_any i w1 (hL.below b1))
  clear n1 b1 hE hL hp
  obtain ⟨op, a, b', c', d, k⟩ := i
  unfold insO at e1
  unfold insV at *
  simp only at *
  go_enter Tryd.func11, Tryd.ntmps11
  go_wp2_with fail
  rw [← e1, HE.out]
  clear e1
  refine HP.out.mono ?_
  rintro r w2 ⟨rfl, h⟩
  have B2 := Lib.hid (below_on B1.out h)
  clear h c0 c1 c2 c3 c4 c5
  go_wp2_with fail
  go_ret
  exact ⟨rfl, B2.out⟩

/-- What every way through Do has in hand once the instruction is plain. -/
theorem cdo_start {i : Ins} {w w1 w2 : World} {B b cap : Nat} {ao : Option Addr} {x : Ctx} (h : Cx w B b ao cap x) (e1 : w1 = w.alloc (insO i)) (h2 : Below w1.heap.size w1 w2) : Cx w2 B b ao cap x ∧ Only w w2 (cxS b ao) ∧ w2.heap[w.heap.size]? = some (insO i) := by
  obtain ⟨-, n1, b1⟩ := new_size e1
  exact ⟨(h.below b1).below h2, Only.of_below (below_on b1 h2) _, blk_on h2 n1⟩
theorem onward_on {w w' : World} {B b cap : Nat} {ao : Option Addr} {x : Ctx} (h : Cx w' B b ao cap x) (ho : Only w w' (cxS b ao)) :
    Cx (w'.setCell ⟨b, 0, none⟩ (.int .i64 (onward x.pl))) B b ao cap { x with pl := onward x.pl } ∧ Only w (w'.setCell ⟨b, 0, none⟩ (.int .i64 (onward x.pl))) (cxS b ao) :=
  ⟨h.setP (onward_fits _).1 (onward_fits _).2, ho.trans (Only.setCell _ b 0 _ (cxS b ao) (.inl rfl)) (fun _ _ h => h)⟩

set_option maxRecDepth 100000 in
set_option maxHeartbeats 4000000 in
theorem cdo_jump (i : Ins) (hp : plainB i = true) (hj : i.op = 17 ∨ i.op = 18 ∨ i.op = 19) (hk : i.k < 4294967296) (w : World) (hL : IsL w) (B b cap : Nat) (ao : Option Addr) (x : Ctx) (h : Cx w B b ao cap x) :
    Calls Tryd.prog 11 #[.pointer (some ⟨b, 0, none⟩), insV i] w fun e w' => e = .returned (.int .i64 0) ∧ Cx w' B b ao cap (jumpC x i) ∧ Only w w' (cxS b ao) := by
  obtain ⟨w1, e1⟩ : ∃ w1, w1 = w.alloc (insO i) := ⟨_, rfl⟩
  obtain ⟨-, n1, b1⟩ := new_size e1
  obtain ⟨c0, c1, c2, c3, c4, c5⟩ := inscells n1
  have HS := Lib.hid (fun w2 h2 => cdo_start h e1 (w2 := w2) h2)
  obtain ⟨E, hE⟩ : ∃ E, w.heap.size = E := ⟨_, rfl⟩
  rw [hE] at c0 c1 c2 c3 c4 c5 HS
  have HE := Lib.hid hE
  have HP := Lib.hid (hp ▸ cplain_any i w1 (hL.below b1))
  have HJ := Lib.hid (fun w2 h2 => cjump_any i hp hj hk w2 B b cap ao x h2)
  clear n1 b1 hE hL hp h hk
  obtain ⟨op, a, b', c', d, k⟩ := i
  unfold insO at *
  unfold insV at *
  simp only at *
  rcases hj with rfl | rfl | rfl
  all_goals
    go_enter Tryd.func11, Tryd.ntmps11
    go_wp2_with fail
    rw [← e1, HE.out]
    clear e1
    refine HP.out.mono ?_
    rintro r w2 ⟨rfl, h2⟩
    obtain ⟨X2, O2, n2⟩ := HS.out w2 h2
    have X2 := Lib.hid X2
    have O2 := Lib.hid O2
    clear h2 HS c0 c1 c2 c3 c4 c5 HP
    obtain ⟨c0, c1, c2, c3, c4, c5⟩ := inscells (i := ⟨_, a, b', c', d, k⟩) n2
    simp only at c0 c1 c2 c3 c4 c5
    clear n2
    go_wp2_with fail
    refine (HJ.out w2 X2.out).mono ?_
    rintro r w3 ⟨rfl, h3, h4⟩
    have X3 := Lib.hid h3
    have O3 := Lib.hid (O2.out.trans h4 (fun _ _ h => h))
    clear h3 h4 c0 c1 c2 c3 c4 c5
    go_wp2_with fail
    go_ret
    exact ⟨rfl, X3.out, O3.out⟩

set_option maxRecDepth 100000 in
set_option maxHeartbeats 4000000 in
theorem cdo_access (i : Ins) (hp : plainB i = true) (hj : i.op = 15 ∨ i.op = 16) (hk : i.k < 4294967296) (w : World) (hL : IsL w) (B b cap : Nat) (ao : Option Addr) (x : Ctx) (h : Cx w B b ao cap x) :
    Calls Tryd.prog 11 #[.pointer (some ⟨b, 0, none⟩), insV i] w fun e w' => e = .returned (.int .i64 (accE x i)) ∧ Cx w' B b ao cap (if accE x i = 0 then { accC x i with pl := onward x.pl } else accC x i) ∧ Only w w' (cxS b ao) := by
  obtain ⟨w1, e1⟩ : ∃ w1, w1 = w.alloc (insO i) := ⟨_, rfl⟩
  obtain ⟨-, n1, b1⟩ := new_size e1
  obtain ⟨c0, c1, c2, c3, c4, c5⟩ := inscells n1
  have HS := Lib.hid (fun w2 h2 => cdo_start h e1 (w2 := w2) h2)
  obtain ⟨E, hE⟩ : ∃ E, w.heap.size = E := ⟨_, rfl⟩
  rw [hE] at c0 c1 c2 c3 c4 c5 HS
  have HE := Lib.hid hE
  have HP := Lib.hid (hp ▸ cplain_any i w1 (hL.below b1))
  have HJ := Lib.hid (fun w2 h2 => caccess_any i hp hj hk w2 B b cap ao x h2)
  have hpl : (accC x i).pl = x.pl := by unfold accC; repeat' split
                                        all_goals rfl
  obtain ⟨y, hy⟩ : ∃ y, accC x i = y := ⟨_, rfl⟩
  obtain ⟨f, hf⟩ : ∃ f, accE x i = f := ⟨_, rfl⟩
  rw [hy] at HJ hpl
  rw [hf] at HJ
  rw [hf, hy, ← hpl]
  clear n1 b1 hE hL hp h hk hy hf hpl
  obtain ⟨op, a, b', c', d, k⟩ := i
  unfold insO at *
  unfold insV at *
  simp only at *
  rcases hj with rfl | rfl
  all_goals
    by_cases h0 : f = 0
    · rw [if_pos h0]
      subst h0
      go_enter Tryd.func11, Tryd.ntmps11
      go_wp2_with fail
      rw [← e1, HE.out]
      clear e1
      refine HP.out.mono ?_
      rintro r w2 ⟨rfl, h2⟩
      obtain ⟨X2, O2, n2⟩ := HS.out w2 h2
      have X2 := Lib.hid X2
      have O2 := Lib.hid O2
      clear h2 HS c0 c1 c2 c3 c4 c5 HP
      obtain ⟨c0, c1, c2, c3, c4, c5⟩ := inscells (i := ⟨_, a, b', c', d, k⟩) n2
      simp only at c0 c1 c2 c3 c4 c5
      clear n2
      go_wp2_with fail
      refine (HJ.out w2 X2.out).mono ?_
      rintro r w3 ⟨rfl, h3, h4⟩
      have X3 := Lib.hid h3
      have O3 := Lib.hid (O2.out.trans h4 (fun _ _ h => h))
      have xp := h3.at.pl
      have fz := froz10 h3.box 0
      clear h3 h4 c0 c1 c2 c3 c4 c5
      go_wp2_with fail
      go_ret
      rw [onward_w]
      exact ⟨rfl, onward_on X3.out O3.out⟩
    · rw [if_neg h0]
      have h0' : (f == 0) = false := by simp [h0]
      clear h0
      go_enter Tryd.func11, Tryd.ntmps11
      go_wp2_with fail
      rw [← e1, HE.out]
      clear e1
      refine HP.out.mono ?_
      rintro r w2 ⟨rfl, h2⟩
      obtain ⟨X2, O2, n2⟩ := HS.out w2 h2
      have X2 := Lib.hid X2
      have O2 := Lib.hid O2
      clear h2 HS c0 c1 c2 c3 c4 c5 HP
      obtain ⟨c0, c1, c2, c3, c4, c5⟩ := inscells (i := ⟨_, a, b', c', d, k⟩) n2
      simp only at c0 c1 c2 c3 c4 c5
      clear n2
      go_wp2_with fail
      refine (HJ.out w2 X2.out).mono ?_
      rintro r w3 ⟨rfl, h3, h4⟩
      have X3 := Lib.hid h3
      have O3 := Lib.hid (O2.out.trans h4 (fun _ _ h => h))
      clear h3 h4 c0 c1 c2 c3 c4 c5
      go_wp2_with fail
      go_ret
      exact ⟨rfl, X3.out, O3.out⟩

end Go.Proofs.YtoalgajbahlpjaaDoor
