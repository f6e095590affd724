/-
  What reckon of package cpu does to a context of one's own. No condition.
-/
import Derived.Test.YtoalgajbahlpjaaDoorCp2
import Derived.Test.YtoalgajbahlpjaaDoorRel2
namespace Go.Proofs.YtoalgajbahlpjaaDoor
open Go Go.RowKit
set_option linter.unusedVariables false
set_option linter.unusedSimpArgs false

/-- In the midst of the last statement: the register is set, or not yet. -/
structure RK (W w : World) (E b : Nat) (i : Ins) (x x' : Ctx) (mv : Value) : Prop where
  on : Only W w (fun k => k = b)
  ins : w.heap[E]? = some (insO i)
  box : w.heap[b]? = some (cxO x mv) ∨ w.heap[b]? = some (cxO x' mv)
  r1 : x.regs.length = 8
  r2 : x'.regs.length = 8
  ne : E ≠ b

theorem RK.below {W w w' : World} {E b : Nat} {i : Ins} {x x' : Ctx} {mv : Value} (h : RK W w E b i x x' mv) (hb : Below w.heap.size w w') : RK W w' E b i x x' mv :=
  ⟨h.on.trans (Only.of_below hb (fun k => k = b)) (fun _ _ h => h), blk_on hb h.ins, h.box.elim (fun g => .inl (blk_on hb g)) (fun g => .inr (blk_on hb g)), h.r1, h.r2, h.ne⟩
theorem RK.drew {W w : World} {E b : Nat} {i : Ins} {x x' : Ctx} {mv : Value} (h : RK W w E b i x x' mv) : RK W w.drew E b i x x' mv := h.below ⟨rfl, rfl, rfl, Nat.le_refl _, fun _ _ => rfl⟩
theorem RK.cell {W w : World} {E b : Nat} {i : Ins} {x x' : Ctx} {mv : Value} (h : RK W w E b i x x' mv) (a : Nat) (ha : a < 8) : ∃ v, w.cell? ⟨b, 1 + a, none⟩ = some v := by
  rcases h.box with g | g
  · exact ⟨_, (cxcells h.r1 g).reg a ha⟩
  · exact ⟨_, (cxcells h.r2 g).reg a ha⟩
theorem RK.froz {W w : World} {E b : Nat} {i : Ins} {x x' : Ctx} {mv : Value} (h : RK W w E b i x x' mv) (j : Nat) : w.frozen? ⟨b, j, none⟩ = false := by
  rcases h.box with g | g <;> exact froz10 g j
theorem RK.stored {W w : World} {E b : Nat} {i : Ins} {x x' : Ctx} {mv : Value} (h : RK W w E b i x x' mv) {a n : Nat} (hx : x' = { x with regs := x.regs.set a n }) (ha : a < 8) (hn : n < 4294967296) :
    RK W (w.setCell ⟨b, 1 + a, none⟩ (.int .u32 (n : Int))) E b i x x' mv ∧ (w.setCell ⟨b, 1 + a, none⟩ (.int .u32 (n : Int))).heap[b]? = some (cxO x' mv) := by
  have key : (w.setCell ⟨b, 1 + a, none⟩ (.int .u32 (n : Int))).heap[b]? = some (cxO x' mv) := by
    rcases h.box with g | g
    · rw [stR h.r1 g a n ha, hx]
    · rw [stR h.r2 g a n ha, hx]
      simp [List.set_set]
  exact ⟨⟨h.on.trans (Only.setCell w b (1 + a) _ (fun k => k = b) rfl) (fun _ _ h => h), (heap_setCell_other w _ E _ (fun e => h.ne e)).trans h.ins, .inr key, h.r1, h.r2, h.ne⟩, key⟩

/-- Behind it: the context with another register is one's own. -/
theorem Cx.back {W w : World} {B b cap E : Nat} {ao : Option Addr} {i : Ins} {x x' : Ctx} (h : Cx W B b ao cap x) (hk : RK W w E b i x x' (.slice ao x.mem.length cap)) (hf : CtxFits x') (hb : w.heap[b]? = some (cxO x' (.slice ao x.mem.length cap))) (hm : x'.mem = x.mem) : Cx w B b ao cap x' := by
  refine ⟨hf, by rw [hm]; exact hb, h.bb, ?_, h.apart⟩
  rw [hm]
  refine h.mem.only hk.on ?_
  intro k hk' e
  cases ao with
  | none => cases hk'
  | some a =>
    obtain ⟨ao', cap', e', hs, hq⟩ := h.mem.seen w1c_len
    cases e'
    have := (hq a rfl).2.2.1
    rw [hk'] at this
    exact h.apart a rfl ((Option.some.inj this).symm.trans e)

set_option maxRecDepth 100000 in
set_option maxHeartbeats 4000000 in
theorem creckon_walk (op : Int) (a b' c' : Nat) (i4 : Int) (k : Nat) (v : Nat) (d : Bool) (w : World) (B b cap : Nat) (ao : Option Addr) (x : Ctx) (ha : a < 8) (hb' : b' < 8) (hc' : c' < 8)
    (hv : v < 4294967296) (hd : d = divB x ⟨op, a, b', c', i4, k⟩)
    (HV : d = false → ∀ w, Calls Tryd.prog 22 #[insV ⟨op, a, b', c', i4, k⟩, .int .u32 ((reg x (b' : Int) : Nat) : Int), .int .u32 ((reg x (c' : Int) : Nat) : Int)] w fun e w' => e = .returned (.int .u32 (v : Int)) ∧ Below w.heap.size w w')
    (h : Cx w B b ao cap x) :
    Calls Tryd.prog 18 #[.pointer (some ⟨b, 0, none⟩), insV ⟨op, a, b', c', i4, k⟩] w fun e w' => e = .returned (.int .i64 (if d = true then 13 else 0)) ∧ Cx w' B b ao cap (if d = true then x else { x with regs := x.regs.set a v }) ∧ Only w w' (fun k => k = b) := by
  obtain ⟨w1, e1⟩ : ∃ w1, w1 = w.alloc (insO ⟨op, a, b', c', i4, k⟩) := ⟨_, rfl⟩
  obtain ⟨-, n1, b1⟩ := new_size e1
  obtain ⟨c0, c1, c2, c3, c4, c5⟩ := inscells n1
  have h1 := h.below b1
  obtain ⟨E, hE⟩ : ∃ E, w.heap.size = E := ⟨_, rfl⟩
  rw [hE] at c0 c1 c2 c3 c4 c5 n1
  have hEb : E ≠ b := by have := h.lt; omega
  have HE := Lib.hid hE
  have HEb := Lib.hid hEb
  have N1 := Lib.hid n1
  have B1 := Lib.hid b1
  have H1 := Lib.hid h1
  obtain ⟨xp, xr, xm⟩ := h1.at
  have xb := xr b' hb'
  have xc := xr c' hc'
  have hb0 : (0 : Int) ≤ (b' : Int) := Int.natCast_nonneg _
  have hb8 : (b' : Int) < 8 := by omega
  have hc0 : (0 : Int) ≤ (c' : Int) := Int.natCast_nonneg _
  have hc8 : (c' : Int) < 8 := by omega
  have ha0 : (0 : Int) ≤ (a : Int) := Int.natCast_nonneg _
  have ha8 : (a : Int) < 8 := by omega
  obtain ⟨r, hr⟩ : ∃ r, x.regs.getD b' 0 = r := ⟨_, rfl⟩
  obtain ⟨s, hs⟩ : ∃ s, x.regs.getD c' 0 = s := ⟨_, rfl⟩
  have hrr : reg x (b' : Int) = r := hr
  have hrs : reg x (c' : Int) = s := hs
  rw [hrr, hrs] at HV
  rw [hr] at xb
  rw [hs] at xc
  have hd' : d = (decide (s = 0) && (decide (op = 6) || decide (op = 7))) := by rw [hd]; unfold divB; simp only; rw [hrs]
  have hA := Lib.hid ha
  have hRL := Lib.hid hv
  obtain ⟨x', hx'⟩ : ∃ x', x' = { x with regs := x.regs.set a v } := ⟨_, rfl⟩
  have hX := Lib.hid hx'
  have hF' := Lib.hid (show CtxFits x' by rw [hx']; exact h.fits.setR a v hv)
  rw [← hx']
  clear n1 b1 hE hEb h h1 hr hs hrr hrs ha hb' hc' hv hd xr xp xm hx'
  unfold insO at e1
  unfold insV at *
  simp only at *
  cases d with
  | true =>
    clear HV
    have hs0 : s = 0 ∧ (op = 6 ∨ op = 7) := by
      have := hd'.symm
      simpa using this
    clear hd'
    obtain ⟨rfl, hop⟩ := hs0
    rcases hop with rfl | rfl
    all_goals
      go_enter Tryd.func18, Tryd.ntmps18
      go_wp2_with fail
      rw [← e1, HE.out]
      clear e1
      go_quiet (fail)
      go_wp2_with fail
      go_ret
      exact ⟨rfl, H1.out.drewN nq, cx_only0 B1.out nq⟩
  | false =>
    replace HV := Lib.hid (HV rfl)
    have hs0 : ¬ (s = 0 ∧ (op = 6 ∨ op = 7)) := by
      have := hd'.symm
      simpa using this
    clear hd'
    go_enter Tryd.func18, Tryd.ntmps18
    go_wp2_with fail
    rw [← e1, HE.out]
    clear e1
    go_quiet (fail)
    have K2 : Hid (RK (w1.drewN nq) (w1.drewN nq) E b ⟨op, a, b', c', i4, k⟩ x x' (.slice ao x.mem.length cap)) :=
      Lib.hid ⟨Only.refl _ _, N1.out, .inl (H1.out.drewN nq).box, H1.out.fits.rl, hF'.out.rl, HEb.out⟩
    have O2 := Lib.hid (cx_only0 (S := fun k => k = b) B1.out nq)
    have H2 := Lib.hid (H1.out.drewN nq)
    have N2 := Lib.hid (show (w1.drewN nq).heap[E]? = some (insO ⟨op, a, b', c', i4, k⟩) from N1.out)
    generalize w1.drewN nq = w2 at *
    obtain ⟨d0, d1, d2, d3, d4, d5⟩ := inscells N2.out
    simp only at d0 d1 d2 d3 d4 d5
    clear c0 c1 c2 c3 c4 c5 N1 xb xc
    by_cases hs : s = 0
    · have h6 : (op == 6) = false := by simp; intro e; exact hs0 ⟨hs, .inl e⟩
      have h7 : (op == 7) = false := by simp; intro e; exact hs0 ⟨hs, .inr e⟩
      have hs' : ((s : Int) == 0) = true := by simp [hs]
      clear hs0 hs
      go_wp2_with fail
      refine wp_region_vals [some (Value.pointer (some ⟨b, 0, none⟩)), some (Value.pointer (some ⟨E, 1, none⟩)), some (Value.int .i64 (a : Int)), some (Value.agg #[.int .i64 op, .int .i64 (a : Int), .int .i64 (b' : Int), .int .i64 (c' : Int), .int .i64 i4, .int .u32 (k : Int)]), some (Value.int .u32 (r : Int)), some (Value.int .u32 (s : Int)), some (Value.int .u32 (v : Int)), some (Value.pointer (some ⟨b, 0, none⟩)), some (Value.pointer (some ⟨b, 1, none⟩)), some (Value.pointer (some ⟨b, 1 + a, none⟩)), none]
        (fun w' => RK w2 w' E b ⟨op, a, b', c', i4, k⟩ x x' (.slice ao x.mem.length cap)) (fun u u' => u.heap[b]? = some (cxO x' (.slice ao x.mem.length cap)) → u'.heap[b]? = some (cxO x' (.slice ao x.mem.length cap))) (fun j u => j = 10 → u.heap[b]? = some (cxO x' (.slice ao x.mem.length cap))) [(0, 33), (1, 34), (2, 35), (3, 36), (4, 37), (5, 38), (6, 39), (7, 40), (8, 41), (9, 42)] 11 (by kernel_rfl) (by kernel_rfl) (by kernel_rfl) (by kernel_rfl) ?hC ?hF ?hs ?hf
      case hC => exact K2.out.drew
      case hF => exact fun i u u' _ hg hF hi => hg (hF hi)
      case hs =>
        refine stepsV_succ ?s10 (stepsV_succ ?s9 (stepsV_succ ?s8 (stepsV_succ ?s7 (stepsV_succ ?s6 (stepsV_succ ?s5 (stepsV_succ ?s4 (stepsV_succ ?s3 (stepsV_succ ?s2 (stepsV_succ ?s1 (stepsV_succ ?s0 (stepsV_zero)))))))))))
        case s0 =>
          refine stepV0 rfl (by kernel_rfl) ?_
          rintro w' hC
          intro K hK
          go_simp
          exact hK _ _ rfl ⟨rfl, hC, fun h => h, fun h => absurd h (by decide)⟩
        case s1 =>
          refine stepV0 rfl (by kernel_rfl) ?_
          rintro w' hC
          intro K hK
          go_simp
          exact hK _ _ rfl ⟨rfl, hC, fun h => h, fun h => absurd h (by decide)⟩
        case s2 =>
          refine stepV1 1 34 rfl (by kernel_rfl) ?_
          rintro w' hC v1 rfl
          intro K hK
          obtain ⟨c0, c1, c2, c3, c4, c5⟩ := inscells hC.ins
          simp only at c0 c1 c2 c3 c4 c5
          go_simp
          exact hK _ _ rfl ⟨rfl, hC, fun h => h, fun h => absurd h (by decide)⟩
        case s3 =>
          refine stepV0 rfl (by kernel_rfl) ?_
          rintro w' hC
          intro K hK
          obtain ⟨c0, c1, c2, c3, c4, c5⟩ := inscells hC.ins
          simp only at c0 c1 c2 c3 c4 c5
          go_simp
          exact hK _ _ rfl ⟨rfl, hC, fun h => h, fun h => absurd h (by decide)⟩
        case s4 =>
          refine stepV0 rfl (by kernel_rfl) ?_
          rintro w' hC
          intro K hK
          go_simp
          exact hK _ _ rfl ⟨rfl, hC, fun h => h, fun h => absurd h (by decide)⟩
        case s5 =>
          refine stepV0 rfl (by kernel_rfl) ?_
          rintro w' hC
          intro K hK
          go_simp
          exact hK _ _ rfl ⟨rfl, hC, fun h => h, fun h => absurd h (by decide)⟩
        case s6 =>
          refine stepV3 3 36 4 37 5 38 rfl (by kernel_rfl) ?_
          rintro w' hC v1 v2 v3 rfl rfl rfl
          intro K hK
          go_simp
          refine (HV.out w').mono ?_
          rintro e w3 ⟨rfl, h3⟩
          exact hK _ _ rfl ⟨rfl, hC.below h3, fun h => blk_on h3 h, fun h => absurd h (by decide)⟩
        case s7 =>
          refine stepV1 0 33 rfl (by kernel_rfl) ?_
          rintro w' hC v1 rfl
          intro K hK
          go_simp
          exact hK _ _ rfl ⟨rfl, hC, fun h => h, fun h => absurd h (by decide)⟩
        case s8 =>
          refine stepV1 7 40 rfl (by kernel_rfl) ?_
          rintro w' hC v1 rfl
          intro K hK
          go_simp
          exact hK _ _ rfl ⟨rfl, hC, fun h => h, fun h => absurd h (by decide)⟩
        case s9 =>
          refine stepV2 2 35 8 41 rfl (by kernel_rfl) ?_
          rintro w' hC v1 v2 rfl rfl
          intro K hK
          go_simp
          exact hK _ _ rfl ⟨rfl, hC, fun h => h, fun h => absurd h (by decide)⟩
        case s10 =>
          refine stepV2 6 39 9 42 rfl (by kernel_rfl) ?_
          rintro w' hC v1 v2 rfl rfl
          intro K hK
          have xr := hC.cell a hA.out
          have fz := hC.froz (1 + a)
          obtain ⟨old, xr⟩ := xr
          go_simp
          have hst := hC.stored hX.out hA.out hRL.out
          exact hK _ _ rfl ⟨trivial, hst.1, fun _ => hst.2, fun _ => hst.2⟩
      case hf =>
        intro w' hC x9 hx hF
        have hB0 := hF 10 (by omega) rfl
        have e0 : x9 33 = Value.pointer (some ⟨b, 0, none⟩) := hx (0, 33) (by simp)
        have e1 : x9 34 = Value.pointer (some ⟨E, 1, none⟩) := hx (1, 34) (by simp)
        have e2 : x9 35 = Value.int .i64 (a : Int) := hx (2, 35) (by simp)
        have e3 : x9 36 = Value.agg #[.int .i64 op, .int .i64 (a : Int), .int .i64 (b' : Int), .int .i64 (c' : Int), .int .i64 i4, .int .u32 (k : Int)] := hx (3, 36) (by simp)
        have e4 : x9 37 = Value.int .u32 (r : Int) := hx (4, 37) (by simp)
        have e5 : x9 38 = Value.int .u32 (s : Int) := hx (5, 38) (by simp)
        have e6 : x9 39 = Value.int .u32 (v : Int) := hx (6, 39) (by simp)
        have e7 : x9 40 = Value.pointer (some ⟨b, 0, none⟩) := hx (7, 40) (by simp)
        have e8 : x9 41 = Value.pointer (some ⟨b, 1, none⟩) := hx (8, 41) (by simp)
        have e9 : x9 42 = Value.pointer (some ⟨b, 1 + a, none⟩) := hx (9, 42) (by simp)
        simp only [putAll, List.foldl_cons, List.foldl_nil, e0, e1, e2, e3, e4, e5, e6, e7, e8, e9, Act.put, List.setIfInBounds_toArray, List.set_cons_succ, List.set_cons_zero]
        clear hx hF e0 e1 e2 e3 e4 e5 e6 e7 e8 e9
        go_wp2_with fail
        go_ret
        exact ⟨rfl, H2.out.back hC hF'.out hB0 (by rw [hX.out]), O2.out.trans hC.on (fun _ _ h => h)⟩
    · have hs' : ((s : Int) == 0) = false := by simp [hs]
      clear hs0 hs
      go_wp2_with fail
      refine wp_region_vals [some (Value.pointer (some ⟨b, 0, none⟩)), some (Value.pointer (some ⟨E, 1, none⟩)), some (Value.int .i64 (a : Int)), some (Value.agg #[.int .i64 op, .int .i64 (a : Int), .int .i64 (b' : Int), .int .i64 (c' : Int), .int .i64 i4, .int .u32 (k : Int)]), some (Value.int .u32 (r : Int)), some (Value.int .u32 (s : Int)), some (Value.int .u32 (v : Int)), some (Value.pointer (some ⟨b, 0, none⟩)), some (Value.pointer (some ⟨b, 1, none⟩)), some (Value.pointer (some ⟨b, 1 + a, none⟩)), none]
        (fun w' => RK w2 w' E b ⟨op, a, b', c', i4, k⟩ x x' (.slice ao x.mem.length cap)) (fun u u' => u.heap[b]? = some (cxO x' (.slice ao x.mem.length cap)) → u'.heap[b]? = some (cxO x' (.slice ao x.mem.length cap))) (fun j u => j = 10 → u.heap[b]? = some (cxO x' (.slice ao x.mem.length cap))) [(0, 33), (1, 34), (2, 35), (3, 36), (4, 37), (5, 38), (6, 39), (7, 40), (8, 41), (9, 42)] 11 (by kernel_rfl) (by kernel_rfl) (by kernel_rfl) (by kernel_rfl) ?hC_ ?hF_ ?hs_ ?hf_
      case hC_ => exact K2.out.drew
      case hF_ => exact fun i u u' _ hg hF hi => hg (hF hi)
      case hs_ =>
        refine stepsV_succ ?s10_ (stepsV_succ ?s9_ (stepsV_succ ?s8_ (stepsV_succ ?s7_ (stepsV_succ ?s6_ (stepsV_succ ?s5_ (stepsV_succ ?s4_ (stepsV_succ ?s3_ (stepsV_succ ?s2_ (stepsV_succ ?s1_ (stepsV_succ ?s0_ (stepsV_zero)))))))))))
        case s0_ =>
          refine stepV0 rfl (by kernel_rfl) ?_
          rintro w' hC
          intro K hK
          go_simp
          exact hK _ _ rfl ⟨rfl, hC, fun h => h, fun h => absurd h (by decide)⟩
        case s1_ =>
          refine stepV0 rfl (by kernel_rfl) ?_
          rintro w' hC
          intro K hK
          go_simp
          exact hK _ _ rfl ⟨rfl, hC, fun h => h, fun h => absurd h (by decide)⟩
        case s2_ =>
          refine stepV1 1 34 rfl (by kernel_rfl) ?_
          rintro w' hC v1 rfl
          intro K hK
          obtain ⟨c0, c1, c2, c3, c4, c5⟩ := inscells hC.ins
          simp only at c0 c1 c2 c3 c4 c5
          go_simp
          exact hK _ _ rfl ⟨rfl, hC, fun h => h, fun h => absurd h (by decide)⟩
        case s3_ =>
          refine stepV0 rfl (by kernel_rfl) ?_
          rintro w' hC
          intro K hK
          obtain ⟨c0, c1, c2, c3, c4, c5⟩ := inscells hC.ins
          simp only at c0 c1 c2 c3 c4 c5
          go_simp
          exact hK _ _ rfl ⟨rfl, hC, fun h => h, fun h => absurd h (by decide)⟩
        case s4_ =>
          refine stepV0 rfl (by kernel_rfl) ?_
          rintro w' hC
          intro K hK
          go_simp
          exact hK _ _ rfl ⟨rfl, hC, fun h => h, fun h => absurd h (by decide)⟩
        case s5_ =>
          refine stepV0 rfl (by kernel_rfl) ?_
          rintro w' hC
          intro K hK
          go_simp
          exact hK _ _ rfl ⟨rfl, hC, fun h => h, fun h => absurd h (by decide)⟩
        case s6_ =>
          refine stepV3 3 36 4 37 5 38 rfl (by kernel_rfl) ?_
          rintro w' hC v1 v2 v3 rfl rfl rfl
          intro K hK
          go_simp
          refine (HV.out w').mono ?_
          rintro e w3 ⟨rfl, h3⟩
          exact hK _ _ rfl ⟨rfl, hC.below h3, fun h => blk_on h3 h, fun h => absurd h (by decide)⟩
        case s7_ =>
          refine stepV1 0 33 rfl (by kernel_rfl) ?_
          rintro w' hC v1 rfl
          intro K hK
          go_simp
          exact hK _ _ rfl ⟨rfl, hC, fun h => h, fun h => absurd h (by decide)⟩
        case s8_ =>
          refine stepV1 7 40 rfl (by kernel_rfl) ?_
          rintro w' hC v1 rfl
          intro K hK
          go_simp
          exact hK _ _ rfl ⟨rfl, hC, fun h => h, fun h => absurd h (by decide)⟩
        case s9_ =>
          refine stepV2 2 35 8 41 rfl (by kernel_rfl) ?_
          rintro w' hC v1 v2 rfl rfl
          intro K hK
          go_simp
          exact hK _ _ rfl ⟨rfl, hC, fun h => h, fun h => absurd h (by decide)⟩
        case s10_ =>
          refine stepV2 6 39 9 42 rfl (by kernel_rfl) ?_
          rintro w' hC v1 v2 rfl rfl
          intro K hK
          have xr := hC.cell a hA.out
          have fz := hC.froz (1 + a)
          obtain ⟨old, xr⟩ := xr
          go_simp
          have hst := hC.stored hX.out hA.out hRL.out
          exact hK _ _ rfl ⟨trivial, hst.1, fun _ => hst.2, fun _ => hst.2⟩
      case hf_ =>
        intro w' hC x9 hx hF
        have hB0 := hF 10 (by omega) rfl
        have e0 : x9 33 = Value.pointer (some ⟨b, 0, none⟩) := hx (0, 33) (by simp)
        have e1 : x9 34 = Value.pointer (some ⟨E, 1, none⟩) := hx (1, 34) (by simp)
        have e2 : x9 35 = Value.int .i64 (a : Int) := hx (2, 35) (by simp)
        have e3 : x9 36 = Value.agg #[.int .i64 op, .int .i64 (a : Int), .int .i64 (b' : Int), .int .i64 (c' : Int), .int .i64 i4, .int .u32 (k : Int)] := hx (3, 36) (by simp)
        have e4 : x9 37 = Value.int .u32 (r : Int) := hx (4, 37) (by simp)
        have e5 : x9 38 = Value.int .u32 (s : Int) := hx (5, 38) (by simp)
        have e6 : x9 39 = Value.int .u32 (v : Int) := hx (6, 39) (by simp)
        have e7 : x9 40 = Value.pointer (some ⟨b, 0, none⟩) := hx (7, 40) (by simp)
        have e8 : x9 41 = Value.pointer (some ⟨b, 1, none⟩) := hx (8, 41) (by simp)
        have e9 : x9 42 = Value.pointer (some ⟨b, 1 + a, none⟩) := hx (9, 42) (by simp)
        simp only [putAll, List.foldl_cons, List.foldl_nil, e0, e1, e2, e3, e4, e5, e6, e7, e8, e9, Act.put, List.setIfInBounds_toArray, List.set_cons_succ, List.set_cons_zero]
        clear hx hF e0 e1 e2 e3 e4 e5 e6 e7 e8 e9
        go_wp2_with fail
        go_ret
        exact ⟨rfl, H2.out.back hC hF'.out hB0 (by rw [hX.out]), O2.out.trans hC.on (fun _ _ h => h)⟩

end Go.Proofs.YtoalgajbahlpjaaDoor
