/-
  What jump, access and reckon of package cpu do to a context of one's own. No condition.
-/
import Derived.Test.YtoalgajbahlpjaaDoorCp1
import Derived.BigRegion
import Derived.Deep.DeepCutAuto
namespace Go.Proofs.YtoalgajbahlpjaaDoor
open Go Go.RowKit
set_option linter.unusedVariables false
set_option linter.unusedSimpArgs false

theorem onward_w (p : Int) : wrap64 (p + 1) = onward p := by
  unfold onward wrap64
  rw [IntKind.wrap_i64]
theorem Cx.drewN {w : World} {B b cap : Nat} {ao : Option Addr} {x : Ctx} (h : Cx w B b ao cap x) (n : Nat) : Cx (w.drewN n) B b ao cap x := h.below ⟨rfl, rfl, rfl, Nat.le_refl _, fun _ _ => rfl⟩
theorem cx_only0 {w w1 : World} (hb : Below w.heap.size w w1) (n : Nat) {S : Nat → Prop} : Only w (w1.drewN n) S := (Only.of_below hb S).trans (Only.drewN w1 n S) (fun _ _ h => h)
theorem cx_placed {w w1 : World} {B b cap : Nat} {ao : Option Addr} {x y : Ctx} {q : Int} (h : Cx w1 B b ao cap x) (hb : Below w.heap.size w w1) (n : Nat) (hy : y = { x with pl := q }) (h1 : -9223372036854775808 ≤ q) (h2 : q ≤ 9223372036854775807) :
    Cx ((w1.drewN n).setCell ⟨b, 0, none⟩ (.int .i64 q)) B b ao cap y ∧ Only w ((w1.drewN n).setCell ⟨b, 0, none⟩ (.int .i64 q)) (fun k => k = b) := by
  subst hy
  exact ⟨(h.drewN n).setP h1 h2, ((Only.of_below hb _).trans (Only.drewN w1 n (fun k => k = b)) (fun _ _ h => h)).trans (Only.setCell _ b 0 _ (fun k => k = b) rfl) (fun _ _ h => h)⟩

set_option maxRecDepth 100000 in
set_option maxHeartbeats 2000000 in
theorem cjump_walk (op : Int) (a : Nat) (i2 i3 i4 : Int) (k : Nat) (z : Bool) (w : World) (B b cap : Nat) (ao : Option Addr) (x : Ctx) (hop : op = 17 ∨ op = 18 ∨ op = 19) (ha : a < 8) (hk : k < 4294967296)
    (hz : decide (x.regs.getD a 0 = 0) = z) (h : Cx w B b ao cap x) :
    Calls Tryd.prog 16 #[.pointer (some ⟨b, 0, none⟩), insV ⟨op, a, i2, i3, i4, k⟩] w fun e w' => e = .returned (.tuple #[]) ∧ Cx w' B b ao cap (jumpC x ⟨op, a, i2, i3, i4, k⟩) ∧ Only w w' (fun k => k = b) := by
  obtain ⟨w1, e1⟩ : ∃ w1, w1 = w.alloc (insO ⟨op, a, i2, i3, i4, k⟩) := ⟨_, rfl⟩
  obtain ⟨-, n1, b1⟩ := new_size e1
  obtain ⟨c0, c1, c2, c3, c4, c5⟩ := inscells n1
  have h1 := h.below b1
  obtain ⟨E, hE⟩ : ∃ E, w.heap.size = E := ⟨_, rfl⟩
  rw [hE] at c0 c1 c2 c3 c4 c5
  have HE := Lib.hid hE
  have B1 := Lib.hid b1
  have H1 := Lib.hid h1
  obtain ⟨xp, xr, xm⟩ := h1.at
  have fz := froz10 h1.box 0
  replace xr := xr a ha
  have ha0 : (0 : Int) ≤ (a : Int) := Int.natCast_nonneg _
  have ha8 : (a : Int) < 8 := by omega
  obtain ⟨r, hr⟩ : ∃ r, x.regs.getD a 0 = r := ⟨_, rfl⟩
  have HR := Lib.hid hr
  rw [hr] at xr hz
  obtain ⟨pl, hpl⟩ : ∃ pl, x.pl = pl := ⟨_, rfl⟩
  have HPL := Lib.hid hpl
  rw [hpl] at xp
  clear n1 b1 hE h h1 xm hr hpl ha
  unfold insO at e1
  unfold insV
  simp only at *
  go_enter Tryd.func16, Tryd.ntmps16
  go_wp2_with fail
  rw [← e1, HE.out]
  clear e1
  go_quiet (fail)
  have hz' : ((r : Int) == 0) = z := by rw [← hz]; by_cases h0 : r = 0 <;> simp [h0]
  rw [hz']
  clear hz'
  have HZ := Lib.hid hz
  clear hz
  rcases hop with rfl | rfl | rfl
  all_goals cases z
  all_goals
    go_wp2_with fail
    first
    | go_end0
    | refine bodyPost_ret (results_none rfl _ _ _) rfl ?_
  all_goals
    have hZ := HZ.out
    have hrg : reg x (a : Int) = r := HR.out
    simp only [decide_eq_true_eq, decide_eq_false_iff_not] at hZ
    first
    | exact ⟨rfl, cx_placed H1.out B1.out nq (by simp [jumpC, leapB, hrg, hZ]) (by omega) (by omega)⟩
    | exact ⟨rfl, cx_placed H1.out B1.out nq (by simp [jumpC, leapB, hrg, hZ, HPL.out, onward_w]) (by rw [onward_w]; exact (onward_fits _).1) (by rw [onward_w]; exact (onward_fits _).2)⟩

set_option maxRecDepth 100000 in
set_option maxHeartbeats 4000000 in
theorem caccess_walk (op : Int) (a b' : Nat) (i3 i4 : Int) (k : Nat) (w : World) (B b cap : Nat) (ao : Option Addr) (x : Ctx) (hop : op = 15 ∨ op = 16) (ha : a < 8) (hb' : b' < 8) (hk : k < 4294967296)
    (h : Cx w B b ao cap x) :
    Calls Tryd.prog 17 #[.pointer (some ⟨b, 0, none⟩), insV ⟨op, a, b', i3, i4, k⟩] w fun e w' => e = .returned (.int .i64 (accE x ⟨op, a, b', i3, i4, k⟩)) ∧ Cx w' B b ao cap (accC x ⟨op, a, b', i3, i4, k⟩) ∧ Only w w' (cxS b ao) := by
  obtain ⟨w1, e1⟩ : ∃ w1, w1 = w.alloc (insO ⟨op, a, b', i3, i4, k⟩) := ⟨_, rfl⟩
  obtain ⟨-, n1, b1⟩ := new_size e1
  obtain ⟨c0, c1, c2, c3, c4, c5⟩ := inscells n1
  have h1 := h.below b1
  obtain ⟨E, hE⟩ : ∃ E, w.heap.size = E := ⟨_, rfl⟩
  rw [hE] at c0 c1 c2 c3 c4 c5
  have HE := Lib.hid hE
  have B1 := Lib.hid b1
  have H1 := Lib.hid h1
  obtain ⟨xp, xr, xm⟩ := h1.at
  have fz := froz10 h1.box (1 + a)
  have xb := xr b' hb'
  replace xr := xr a ha
  have ha0 : (0 : Int) ≤ (a : Int) := Int.natCast_nonneg _
  have ha8 : (a : Int) < 8 := by omega
  have hb0 : (0 : Int) ≤ (b' : Int) := Int.natCast_nonneg _
  have hb8 : (b' : Int) < 8 := by omega
  have hrl := h1.fits.reg (a : Int)
  obtain ⟨r, hr⟩ : ∃ r, x.regs.getD a 0 = r := ⟨_, rfl⟩
  have HR := Lib.hid (show reg x (a : Int) = r from hr)
  obtain ⟨s, hs⟩ : ∃ s, x.regs.getD b' 0 = s := ⟨_, rfl⟩
  have HS := Lib.hid (show reg x (b' : Int) = s from hs)
  rw [HR.out] at hrl
  have HRL := Lib.hid hrl
  rw [hr] at xr
  rw [hs] at xb
  obtain ⟨ad, had⟩ : ∃ ad, (s + k) % 4294967296 = ad := ⟨_, rfl⟩
  have HAD := Lib.hid (show adr x ⟨op, a, b', i3, i4, k⟩ = ad by unfold adr; simp only; rw [HS.out]; exact had)
  have had' : IntKind.u32.wrap ((s : Int) + (k : Int)) = (ad : Int) := by rw [IntKind.wrap_u32]; omega
  have had2 : ad < 4294967296 := by omega
  have had0 : (0 : Int) ≤ (ad : Int) := Int.natCast_nonneg _
  have hmx := h1.seen.mx
  unfold maxLen at hmx
  have cell := fun hj => h1.cellM ad hj
  have HC := Lib.hid cell
  obtain ⟨n, hn⟩ : ∃ n, x.mem.length = n := ⟨_, rfl⟩
  have HN := Lib.hid hn
  rw [hn] at xm hmx
  have hn0 : (0 : Int) ≤ (n : Int) := Int.natCast_nonneg _
  have HA := Lib.hid ha
  clear n1 b1 hE h h1 hr hs ha hb' hn cell had hrl xp
  unfold insO at e1
  unfold insV
  simp only at *
  by_cases hlt : ad < n
  case neg =>
    have hge : decide ((n : Int) ≤ (ad : Int)) = true := by simp; omega
    go_enter Tryd.func17, Tryd.ntmps17
    go_wp2_with fail
    rw [← e1, HE.out]
    clear e1
    go_quiet (fail)
    go_wp2_with fail
    go_ret
    have hnl : ¬ adr x ⟨op, a, b', i3, i4, k⟩ < x.mem.length := by rw [HAD.out, HN.out]; exact hlt
    refine ⟨?_, ?_, cx_only0 B1.out nq⟩
    · unfold accE
      rw [if_neg hnl]
      rfl
    · unfold accC
      rw [if_neg hnl]
      exact H1.out.drewN nq
  case pos =>
    have hge : decide ((n : Int) ≤ (ad : Int)) = false := by simp; omega
    obtain ⟨g, rfl, -, cm, fm⟩ := HC.out (by rw [HN.out]; exact hlt)
    rcases hop with rfl | rfl
    · go_enter Tryd.func17, Tryd.ntmps17
      go_wp2_with fail
      rw [← e1, HE.out]
      clear e1
      go_quiet (fail)
      go_wp2_with fail
      go_region
      go_wp2_with fail
      go_ret
      have hyl : adr x ⟨15, a, b', i3, i4, k⟩ < x.mem.length := by rw [HAD.out, HN.out]; exact hlt
      refine ⟨?_, ?_, ?_⟩
      · unfold accE
        rw [if_pos hyl]
        rfl
      · unfold accC
        rw [if_pos hyl, HAD.out]
        exact (H1.out.drewN (nq + 1)).setR a (word x ad) HA.out (H1.out.fits.word ad)
      · exact (cx_only0 B1.out (nq + 1)).trans (Only.setCell _ b (1 + a) _ (cxS b (some ⟨g, 0, none⟩)) (.inl rfl)) (fun _ _ h => h)
    · go_enter Tryd.func17, Tryd.ntmps17
      go_wp2_with fail
      rw [← e1, HE.out]
      clear e1
      go_quiet (fail)
      go_wp2_with fail
      go_region
      go_wp2_with fail
      go_ret
      have hyl : adr x ⟨16, a, b', i3, i4, k⟩ < x.mem.length := by rw [HAD.out, HN.out]; exact hlt
      refine ⟨?_, ?_, ?_⟩
      · unfold accE
        rw [if_pos hyl]
        rfl
      · unfold accC
        rw [if_pos hyl, HAD.out]
        exact (by rw [HR.out]; exact (H1.out.drewN (nq + 1)).setM ad r (by rw [HN.out]; exact hlt) HRL.out)
      · exact (cx_only0 B1.out (nq + 1)).trans (Only.setCell _ g ad _ (cxS b (some ⟨g, 0, none⟩)) (.inr ⟨_, rfl, rfl⟩)) (fun _ _ h => h)

end Go.Proofs.YtoalgajbahlpjaaDoor
