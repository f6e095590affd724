/-
  The statements' own test of answers that the document fixes (awake). Conditions: the table's cells (IsL).
-/
import Derived.Test.YtoalgajbahlpjaaDoorCp5
import Derived.Test.YtoalgajbahlpjaaDoorCp7
namespace Go.Proofs.YtoalgajbahlpjaaDoor
open Go Go.RowKit
set_option linter.unusedVariables false
set_option linter.unusedSimpArgs false

def aw13x : Ctx := ⟨0, [0, 4294967295, 2, 0, 0, 0, 0, 0], [5, 6]⟩
def aw13a : Ins := ⟨3, 0, 1, 2, 0, 0⟩
def aw13b : Ins := ⟨6, 3, 1, 4, 0, 0⟩
def aw13c : Ins := ⟨15, 3, 2, 0, 0, 0⟩
def aw13d : Ins := ⟨15, 3, 0, 0, 0, 0⟩
def aw13y : Ctx := doC (doC (doC (doC aw13x aw13a) aw13b) aw13c) aw13d
theorem aw13_e : doE aw13x aw13a = 0 ∧ doE (doC aw13x aw13a) aw13b = 13 ∧ doE (doC (doC aw13x aw13a) aw13b) aw13c = 12 ∧ doE (doC (doC (doC aw13x aw13a) aw13b) aw13c) aw13d = 0 := by decide +kernel
theorem aw13_y : aw13y.pl = 2 ∧ aw13y.regs.getD 0 0 = 1 ∧ aw13y.regs.getD 3 0 = 6 := by decide +kernel
theorem aw13_fits : CtxFits aw13x := ⟨by decide, by decide, rfl, by decide, by decide⟩

set_option maxRecDepth 100000 in
set_option maxHeartbeats 4000000 in
theorem awake13_any (w : World) (hL : IsL w) :
    Calls Tryd.prog 8 #[] w fun r w' => r = .returned (.bool true) ∧ Below w.heap.size w w' := by
  obtain ⟨w1, e1⟩ : ∃ w1, w1 = w.alloc (.cells #[.int .u32 5, .int .u32 6] 22) := ⟨_, rfl⟩
  obtain ⟨s1, n1, b1⟩ := new_size e1
  obtain ⟨D, hD⟩ : ∃ D, w.heap.size = D := ⟨_, rfl⟩
  obtain ⟨E, hE⟩ : ∃ E, D + 1 = E := ⟨_, rfl⟩
  have HD := Lib.hid hD
  have HE := Lib.hid hE
  obtain ⟨w2, e2⟩ : ∃ w2, w2 = w1.alloc (.cells #[.int .i64 0, .int .u32 0, .int .u32 4294967295, .int .u32 2, .int .u32 0, .int .u32 0, .int .u32 0, .int .u32 0, .int .u32 0, .slice (some ⟨D, 0, none⟩) 2 2] 26) := ⟨_, rfl⟩
  obtain ⟨s2, n2, b2⟩ := new_size e2
  rw [s1, hD, hE] at n2
  have O1 : OwnW w1 D (.slice (some ⟨D, 0, none⟩) 2 2) [5, 6] := by rw [← hD, e1]; exact World.ownsRow_lit w #[.int .u32 5, .int .u32 6] 2 (Nat.le_refl _) (by decide) rfl
  have X2 : Cx w2 D E (some ⟨D, 0, none⟩) 2 aw13x := ⟨aw13_fits, n2, by omega, O1.below b2, fun a ha e => by cases ha; simp at e; omega⟩
  have B2 := Lib.hid (below_on b1 b2)
  have hV : 0 < D := by rw [← hD]; exact hL.lt
  have HVV := Lib.hid hV
  have L2 := Lib.hid (hL.below B2.out)
  have HX2 := Lib.hid X2
  have K : ∀ (i : Ins) (x : Ctx), i.k < 4294967296 → ∀ w', IsL w' → Cx w' D E (some ⟨D, 0, none⟩) 2 x → Below w.heap.size w w' → Calls Tryd.prog 11 #[.pointer (some ⟨E, 0, none⟩), insV i] w' fun r w'' => r = .returned (.int .i64 (doE x i)) ∧ Cx w'' D E (some ⟨D, 0, none⟩) 2 (doC x i) ∧ IsL w'' ∧ Below w.heap.size w w'' := by
    intro i x hk w' l' x' b'
    refine (cdo_any i hk w' l' D E 2 _ x x').mono fun r w'' ⟨h1, h2, h3⟩ => ⟨h1, h2, l'.belowB (x'.belowB h3) hV, ?_⟩
    have := x'.belowB h3
    rw [← hD] at this
    exact b'.trans this
  have K1 := Lib.hid (K aw13a aw13x (by decide))
  have K2 := Lib.hid (K aw13b (doC aw13x aw13a) (by decide))
  have K3 := Lib.hid (K aw13c (doC (doC aw13x aw13a) aw13b) (by decide))
  have K4 := Lib.hid (K aw13d (doC (doC (doC aw13x aw13a) aw13b) aw13c) (by decide))
  rw [aw13_e.1] at K1
  rw [aw13_e.2.1] at K2
  rw [aw13_e.2.2.1] at K3
  rw [aw13_e.2.2.2, show doC (doC (doC (doC aw13x aw13a) aw13b) aw13c) aw13d = aw13y from rfl] at K4
  have KY := Lib.hid aw13_y
  generalize doC (doC (doC aw13x aw13a) aw13b) aw13c = x3 at *
  generalize doC (doC aw13x aw13a) aw13b = x2 at *
  generalize doC aw13x aw13a = x1 at *
  generalize aw13y = x4 at *
  generalize aw13x = x0 at *
  unfold insV aw13a at K1
  unfold insV aw13b at K2
  unfold insV aw13c at K3
  unfold insV aw13d at K4
  simp only [Int.cast_ofNat_Int, Int.natCast_zero] at K1 K2 K3 K4
  clear s1 n1 b1 hL hD hE s2 n2 O1 X2 b2 hV K
  go_enter Tryd.func8, Tryd.ntmps8
  go_upto_region 3 with fail
  rw [← e1, HD.out, HE.out, ← e2]
  clear e1 e2
  go_wp2_with fail
  refine (K1.out w2 L2.out HX2.out B2.out).mono ?_
  rintro r w3 ⟨rfl, h1, h2, h3⟩
  have X3 := Lib.hid h1
  have L3 := Lib.hid h2
  have B3 := Lib.hid h3
  clear h1 h2 h3
  go_wp2_with fail
  refine (K2.out w3 L3.out X3.out B3.out).mono ?_
  rintro r w4 ⟨rfl, h1, h2, h3⟩
  have X4 := Lib.hid h1
  have L4 := Lib.hid h2
  have B4 := Lib.hid h3
  clear h1 h2 h3
  go_wp2_with fail
  refine (K3.out w4 L4.out X4.out B4.out).mono ?_
  rintro r w5 ⟨rfl, h1, h2, h3⟩
  have X5 := Lib.hid h1
  have L5 := Lib.hid h2
  have B5 := Lib.hid h3
  clear h1 h2 h3
  go_wp2_with fail
  refine (K4.out w5 L5.out X5.out B5.out).mono ?_
  rintro r w6 ⟨rfl, h1, h2, h3⟩
  have B6 := Lib.hid h3
  obtain ⟨xp, xr, -⟩ := h1.at
  have x0' := xr 0 (by decide)
  have x3' := xr 3 (by decide)
  rw [KY.out.1] at xp
  rw [KY.out.2.1] at x0'
  rw [KY.out.2.2] at x3'
  clear h1 h2 h3 xr
  go_wp2_with fail
  go_ret
  exact ⟨rfl, B6.out⟩

end Go.Proofs.YtoalgajbahlpjaaDoor
