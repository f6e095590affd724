/-
  What the listed package-level variable gives the walks (the library's table of bits), and the statements' own test of answers that the document fixes (awake). Conditions: the row's own list of variables, which the card ties to the program's text.
-/
import Derived.Test.YtdcadiphebcmbaaDoorRy8
import Derived.Test.YtdcadiphebcmbaaDoorRows
import Derived.ProofKit
import Derived.OpenShut
import Derived.LaidMore
import Derived.Lay
import Derived.Stop.LaidErr
import Derived.Stop.Joined
import Derived.Lib.LaidTab
import Derived.Deep.Slices
namespace Go.Proofs.YtdcadiphebcmbaaDoor
open Go.ChangeShapes Go.WideShapes Go.ChangeAt Go.RowKit
set_option linter.unusedVariables false
set_option linter.unusedSimpArgs false

def laidL : List (String × DataW Unit) := [("math/bits.deBruijn32tab", Rows.laid_math_bits_deBruijn32tab)]
theorem laid_bits : (Rows.laid_math_bits_deBruijn32tab : DataW Unit) = .agg (Lib.deBruijn32tab.map fun n => .lit (.int .u8 ((n : Nat) : Int))) := by kernel_rfl

set_option maxRecDepth 100000 in
theorem of_laid {W : World} (h0 : laidMetH Tryd.prog laidL W) (hsh : W.ShapedOpen Tryd.prog) : TabL W := by
  rw [MakeChecks.laidMetH_plain _ _ _ (by kernel_rfl)] at h0
  have h : laidMet Tryd.prog (("math/bits.deBruijn32tab", Rows.laid_math_bits_deBruijn32tab) :: []) W := h0
  obtain ⟨ps, ⟨g0, t0, cs0, f0, p0, q0, hg0, ht0, hv0, hd0, _, _⟩, _, _⟩ := h
  obtain rfl := Option.some.inj ((show Tryd.prog.globalNamed "math/bits.deBruijn32tab" = some 0 by kernel_rfl).symm.trans hg0)
  obtain rfl := Option.some.inj ((show (Tryd.prog.globals[0]?).map (·.type) = some 61 by kernel_rfl).symm.trans ht0)
  obtain ⟨xs, m, _, ex, hlen, hl, hel⟩ := DataW.trod_array Tryd.underlying61 hd0
  rw [show Tryd.prog.cellsOf 5 = 1 from by kernel_rfl] at hel
  have hmap : (Lib.deBruijn32tab.map fun n => (.lit (.int .u8 ((n : Nat) : Int)) : DataW Unit)) = xs.map (·.1) := DataW.agg.inj (laid_bits.symm.trans (Prod.mk.inj ex).1)
  intro k hk
  have hE := hel k hk
  rw [List.getElem?_eq_getElem (by omega)] at hE
  have hx1 : (xs[k]'(by omega)).1 = .lit (.int .u8 ((Lib.deBruijn32tab.getD k 0 : Nat) : Int)) := by
    have e := congrArg (·[k]?) hmap
    have hr : Lib.deBruijn32tab.length = 32 := rfl
    simp only [List.getElem?_map, List.getElem?_eq_getElem (show k < Lib.deBruijn32tab.length by omega), List.getElem?_eq_getElem (show k < xs.length by omega), Option.map_some, Option.some.injEq] at e
    rw [← e, List.getD_eq_getElem?_getD, List.getElem?_eq_getElem (show k < Lib.deBruijn32tab.length by omega)]; rfl
  obtain ⟨z0, e0, hz, _⟩ := DataW.trod_int Tryd.underlying5 hE
  rw [hz] at hx1
  simp only [DataW.lit.injEq, Lit.int.injEq, true_and] at hx1
  rw [World.var?_cell hg0 hv0]
  have h1 := congrArg (·[0]?) e0
  simp only [List.getElem?_cons_zero] at h1
  rw [List.getElem?_take, if_pos (by decide), List.getElem?_drop] at h1
  rw [← hx1]
  simpa using h1

/-! ### awake -/
def aw14a : Rws := (rput (fun _ => []) 5 3).getD (fun _ => [])
def aw14b : Rws := (rput aw14a 2 3).getD aw14a
def aw14c : Rws := (rput aw14b 9 1).getD aw14b
def aw14d : Rws := (rrem aw14c 9).getD aw14c
def aw14e : Rws := (rturn aw14d 5).getD aw14d
def aw14f : Rws := (rmove aw14e 5 0).getD aw14e
theorem aw14_put : (rput (fun _ => []) 5 3).isSome = true ∧ (rput aw14a 2 3).isSome = true ∧ (rput aw14b 9 1).isSome = true ∧ (rput aw14f 2 1).isSome = false := by decide +kernel
theorem aw14_do : (rrem aw14c 9).isSome = true ∧ (rturn aw14d 5).isSome = true ∧ (rmove aw14e 5 0).isSome = true := by decide +kernel
theorem aw14_first : rfirst aw14c = some 9 ∧ rfirst aw14e = some 2 ∧ rfirst aw14f = some 5 ∧ rlen ((rput aw14f 2 1).getD aw14f) = 2 := by decide +kernel

/-- A queue of the call's own, in block b. -/
structure OQ (w0 w : World) (b : Nat) (r : Rws) : Prop where
  q : RQ w b r
  t : TabL w
  bel : Below w0.heap.size w0 w
  hb : w0.heap.size ≤ b
  ht : 0 < w0.heap.size
theorem OQ.turn {w0 w w' : World} {b : Nat} {r r' : Rws} (h : OQ w0 w b r) (q : RQ w' b r') (o : Only w w' (fun k => k = b)) : OQ w0 w' b r' := by
  refine ⟨q, h.t.only o (fun e => ?_), h.bel.trans (o.below h.bel.size (fun k e => by have := h.hb; omega)), h.hb, h.ht⟩
  have := h.hb
  have := h.ht
  omega
theorem OQ.kept {w0 w w' : World} {b : Nat} {r : Rws} (h : OQ w0 w b r) (hb : Below w.heap.size w w') : OQ w0 w' b r := ⟨h.q.below hb, h.t.below hb, below_on h.bel hb, h.hb, h.ht⟩
theorem OQ.drewN {w0 w : World} {b : Nat} {r : Rws} (h : OQ w0 w b r) (n : Nat) : OQ w0 (w.drewN n) b r := h.kept ⟨rfl, rfl, rfl, Nat.le_refl _, fun _ _ => rfl⟩
theorem oq_new {w : World} (hT : TabL w) {w1 : World} {Z : Array Value} (e : w1 = w.alloc (.cells Z 31)) (hz : QS (w.alloc (.cells Z 31)) w.heap.size QSt.zero) : OQ w w1 w.heap.size (fun _ => []) := by
  subst e
  exact ⟨⟨rok_zero, _, hz, holds_zero⟩, hT.below (below_box _), below_box _, Nat.le_refl _, hT.lt⟩

set_option maxRecDepth 100000 in
set_option maxHeartbeats 4000000 in
theorem awake14_any (w : World) (hT : TabL w) : Calls Tryd.prog 8 #[] w fun e w' => e = .returned (.bool true) ∧ Below w.heap.size w w' := by
  obtain ⟨Z, hZ, hz⟩ := zero_q
  obtain ⟨w1, e1⟩ : ∃ w1, w1 = w.alloc (.cells Z 31) := ⟨_, rfl⟩
  have Q1 := Lib.hid (oq_new hT e1 (hZ w))
  obtain ⟨D, hD⟩ : ∃ D, w.heap.size = D := ⟨_, rfl⟩
  have HD := Lib.hid hD
  rw [hD] at Q1
  have P1 : ∀ w' r, OQ w w' D r → ∀ t l : Int, Calls Tryd.prog 9 #[.pointer (some ⟨D, 0, none⟩), .int .i64 t, .int .i64 l] w' fun e w'' => e = .returned (.int .i64 (if (rput r t l).isSome then 0 else 1)) ∧ OQ w w'' D ((rput r t l).getD r) :=
    fun w' r h t l => (put_any h.q t l).mono fun e w'' ⟨h1, h2, h3⟩ => ⟨h1, h.turn h2 h3⟩
  have F1 : ∀ w' r, OQ w w' D r → Calls Tryd.prog 19 #[.pointer (some ⟨D, 0, none⟩)] w' fun e w'' => e = .returned (firstV r) ∧ OQ w w'' D r :=
    fun w' r h => (first_any h.q h.t).mono fun e w'' ⟨h1, q, h2⟩ => ⟨h1, by rw [h2]; exact h.drewN q⟩
  have KA := Lib.hid (fun w' h => P1 w' (fun _ => []) h 5 3)
  have KB := Lib.hid (fun w' h => P1 w' aw14a h 2 3)
  have KC := Lib.hid (fun w' h => P1 w' aw14b h 9 1)
  have KF := Lib.hid (fun w' h => F1 w' aw14c h)
  have KR := Lib.hid (fun w' (h : OQ w w' D aw14c) => (remove_any h.q 9).mono (R' := fun e w'' => e = .returned (.bool (rrem aw14c 9).isSome) ∧ OQ w w'' D aw14d) fun e w'' ⟨h1, h2, h3⟩ => ⟨h1, h.turn h2 h3⟩)
  have KT := Lib.hid (fun w' (h : OQ w w' D aw14d) => (turn_any h.q 5).mono (R' := fun e w'' => e = .returned (.bool (rturn aw14d 5).isSome) ∧ OQ w w'' D aw14e) fun e w'' ⟨h1, h2, h3⟩ => ⟨h1, h.turn h2 h3⟩)
  have KG := Lib.hid (fun w' h => F1 w' aw14e h)
  have KM := Lib.hid (fun w' (h : OQ w w' D aw14e) => (move_any h.q 5 0).mono (R' := fun e w'' => e = .returned (.bool (rmove aw14e 5 0).isSome) ∧ OQ w w'' D aw14f) fun e w'' ⟨h1, h2, h3⟩ => ⟨h1, h.turn h2 h3⟩)
  have KH := Lib.hid (fun w' h => F1 w' aw14f h)
  have KP := Lib.hid (fun w' h => P1 w' aw14f h 2 1)
  have KL := Lib.hid (fun w' (h : OQ w w' D ((rput aw14f 2 1).getD aw14f)) => len_any h.q)
  rw [aw14_put.1] at KA
  rw [aw14_put.2.1] at KB
  rw [aw14_put.2.2.1] at KC
  rw [aw14_put.2.2.2] at KP
  rw [aw14_do.1] at KR
  rw [aw14_do.2.1] at KT
  rw [aw14_do.2.2] at KM
  rw [aw14_first.2.2.2] at KL
  rw [show firstV aw14c = .tuple #[.int .i64 9, .bool true] by unfold firstV; rw [aw14_first.1]; rfl] at KF
  rw [show firstV aw14e = .tuple #[.int .i64 2, .bool true] by unfold firstV; rw [aw14_first.2.1]; rfl] at KG
  rw [show firstV aw14f = .tuple #[.int .i64 5, .bool true] by unfold firstV; rw [aw14_first.2.2.1]; rfl] at KH
  change Hid (∀ w', OQ w w' D (fun _ => []) → Calls _ _ _ w' fun e w'' => e = .returned (.int .i64 0) ∧ OQ w w'' D aw14a) at KA
  change Hid (∀ w', OQ w w' D aw14a → Calls _ _ _ w' fun e w'' => e = .returned (.int .i64 0) ∧ OQ w w'' D aw14b) at KB
  change Hid (∀ w', OQ w w' D aw14b → Calls _ _ _ w' fun e w'' => e = .returned (.int .i64 0) ∧ OQ w w'' D aw14c) at KC
  change Hid (∀ w', OQ w w' D aw14f → Calls _ _ _ w' fun e w'' => e = .returned (.int .i64 1) ∧ OQ w w'' D ((rput aw14f 2 1).getD aw14f)) at KP
  generalize (rput aw14f 2 1).getD aw14f = rg at *
  generalize aw14f = rf at *
  generalize aw14e = re at *
  generalize aw14d = rd at *
  generalize aw14c = rc at *
  generalize aw14b = rb at *
  generalize aw14a = ra at *
  clear P1 F1 hD hZ hT
  go_enter Tryd.func8, Tryd.ntmps8
  go_upto_region 2 with fail
  rw [← e1, HD.out]
  clear e1 hz
  go_wp2_with fail
  refine (KA.out w1 Q1.out).mono ?_
  rintro e w2 ⟨rfl, h⟩
  have Q2 := Lib.hid h
  clear h Q1
  go_wp2_with fail
  refine (KB.out w2 Q2.out).mono ?_
  rintro e w3 ⟨rfl, h⟩
  have Q3 := Lib.hid h
  clear h Q2
  go_wp2_with fail
  refine (KC.out w3 Q3.out).mono ?_
  rintro e w4 ⟨rfl, h⟩
  have Q4 := Lib.hid h
  clear h Q3
  go_wp2_with fail
  refine (KF.out w4 Q4.out).mono ?_
  rintro e w5 ⟨rfl, h⟩
  have Q5 := Lib.hid h
  clear h Q4
  go_wp2_with fail
  refine (KR.out w5 Q5.out).mono ?_
  rintro e w6 ⟨rfl, h⟩
  have Q6 := Lib.hid h
  clear h Q5
  go_wp2_with fail
  refine (KT.out w6 Q6.out).mono ?_
  rintro e w7 ⟨rfl, h⟩
  have Q7 := Lib.hid h
  clear h Q6
  go_wp2_with fail
  refine (KG.out w7 Q7.out).mono ?_
  rintro e w8 ⟨rfl, h⟩
  have Q8 := Lib.hid h
  clear h Q7
  go_wp2_with fail
  refine (KM.out w8 Q8.out).mono ?_
  rintro e w9 ⟨rfl, h⟩
  have Q9 := Lib.hid h
  clear h Q8
  go_wp2_with fail
  refine (KH.out w9 Q9.out).mono ?_
  rintro e w10 ⟨rfl, h⟩
  have Q10 := Lib.hid h
  clear h Q9
  go_wp2_with fail
  refine (KP.out w10 Q10.out).mono ?_
  rintro e w11 ⟨rfl, h⟩
  have Q11 := Lib.hid h
  clear h Q10
  go_wp2_with fail
  refine (KL.out w11 Q11.out).mono ?_
  rintro e w12 ⟨rfl, rfl⟩
  go_wp2_with fail
  go_ret
  exact ⟨rfl, Q11.out.bel⟩

end Go.Proofs.YtdcadiphebcmbaaDoor
