/-
  What the document's Do answers, a walk for each kind of instruction: mov, jumps, work. Conditions: a context in memory.
-/
import Derived.Test.YtoalgajbahlpjaaDoorCp10
namespace Go.Proofs.YtoalgajbahlpjaaDoor
open Go Go.RowKit
set_option linter.unusedVariables false
set_option linter.unusedSimpArgs false

theorem Cx.drew {w : World} {B b cap : Nat} {ao : Option Addr} {x : Ctx} (h : Cx w B b ao cap x) : Cx w.drew B b ao cap x := h.below ⟨rfl, rfl, rfl, Nat.le_refl _, fun _ _ => rfl⟩
theorem only_drew (w : World) (S : Nat → Prop) : Only w w.drew S := ⟨rfl, rfl, rfl, Nat.le_refl _, fun _ _ _ => rfl⟩

set_option maxRecDepth 100000 in
set_option maxHeartbeats 8000000 in
theorem rdo_mov (p : Int) (r0 r1 r2 r3 r4 r5 r6 r7 : Nat) (ao : Option Addr) (cap : Nat) (l : List Nat) (a b : Nat) (c' d : Int) (k : Nat) (w : World) (hs : SeenW w ao cap l) (hn : l.length ≤ 1000000) (hfit : CtxFits ⟨p, [r0, r1, r2, r3, r4, r5, r6, r7], l⟩) (ha : a < 8) (hb : b < 8)
    (hf : formI ⟨2, a, b, c', d, k⟩ = 0) (yp : Int) (q0 q1 q2 q3 q4 q5 q6 q7 : Nat) (ym : List Nat) (hY : (⟨yp, [q0, q1, q2, q3, q4, q5, q6, q7], ym⟩ : Ctx) = ⟨onward p, [r0, r1, r2, r3, r4, r5, r6, r7].set a ([r0, r1, r2, r3, r4, r5, r6, r7].getD b 0), l⟩) :
    Calls Tryd.prog 12 #[.agg (cx10 p r0 r1 r2 r3 r4 r5 r6 r7 (.slice ao l.length cap)), insV ⟨2, a, b, c', d, k⟩] w fun r w' => ∃ bo bc, r = .returned (.tuple #[.agg (cx10 yp q0 q1 q2 q3 q4 q5 q6 q7 (.slice bo ym.length bc)), .int .i64 0]) ∧ SeenW w' bo bc ym ∧ Below w.heap.size w w' ∧ (bo = ao ∨ RowW w' bo) := by
  obtain ⟨w1, e1⟩ : ∃ w1, w1 = w.alloc (.cells (cx10 p r0 r1 r2 r3 r4 r5 r6 r7 (.slice ao l.length cap)) 26) := ⟨_, rfl⟩
  obtain ⟨s1, n1, b1⟩ := new_size e1
  obtain ⟨w2, e2⟩ : ∃ w2, w2 = w1.alloc (insO ⟨2, a, b, c', d, k⟩) := ⟨_, rfl⟩
  obtain ⟨s2, n2, b2⟩ := new_size e2
  obtain ⟨w3, e3⟩ : ∃ w3, w3 = w2.alloc (.cells cxZ 26) := ⟨_, rfl⟩
  obtain ⟨s3, n3, b3⟩ := new_size e3
  have n1' := blk_on b3 (blk_on b2 n1)
  have n2' := blk_on b3 n2
  obtain ⟨D, hD⟩ : ∃ D, w.heap.size = D := ⟨_, rfl⟩
  obtain ⟨E, hE⟩ : ∃ E, D + 1 = E := ⟨_, rfl⟩
  obtain ⟨F, hF⟩ : ∃ F, E + 1 = F := ⟨_, rfl⟩
  rw [hD] at n1'
  rw [s1, hD, hE] at n2'
  rw [s2, s1, hD, hE, hF] at n3
  have b13 := below_on (below_on b1 b2) b3
  have B3 := Lib.hid b13
  have HS0 := Lib.hid hs
  have N1 := Lib.hid n1'
  have N2 := Lib.hid n2'
  have N3 := Lib.hid n3
  have ZZ := Lib.hid (show w.heap.size = D ∧ D + 1 = E ∧ E + 1 = F from ⟨hD, hE, hF⟩)
  have HD := Lib.hid hD
  have HE := Lib.hid (show D + 1 = E from hE)
  have HF := Lib.hid (show E + 1 = F from hF)
  have Hn := Lib.hid hn
  have Hf := Lib.hid (hf ▸ riform_any ⟨2, a, b, c', d, k⟩ w3)
  have HFit := Lib.hid hfit
  have HC := Lib.hid (fun w' h' => rcopy_walk p r0 r1 r2 r3 r4 r5 r6 r7 ao cap l w' h' hn)
  have HY := Lib.hid hY
  clear s1 n1 b1 s2 n2 b2 s3 n3 b3 b13 n1' n2' hD hE hF hs hn hf hfit hY
  obtain ⟨i0, i1, i2, i3, i4, i5⟩ := inscells N2.out
  unfold insO at e2
  unfold insV at *
  unfold cx10 at e1 HC
  unfold cxZ at e3
  simp only at i0 i1 i2 i3 i4 i5
  unfold cx10
  go_enter Tryd.func12, Tryd.ntmps12
  go_upto_region 1 with fail
  rw [← e1, HD.out, ← e2, HE.out, ← e3, HF.out]
  clear e1 e2 e3
  go_wp2_with fail
  refine Hf.out.mono ?_
  rintro r w4 ⟨rfl, h4⟩
  have M1 := Lib.hid (blk_on h4 N1.out)
  have M2 := Lib.hid (blk_on h4 N2.out)
  have M3 := Lib.hid (blk_on h4 N3.out)
  have B4 := Lib.hid (below_on B3.out h4)
  clear h4 i0 i1 i2 i3 i4 i5 N1 N2 N3 B3
  obtain ⟨c0, c1, c2, c3, c4, c5, c6, c7, c8, c9⟩ := cells10 M1.out
  go_wp2_with fail
  refine (HC.out w4 (HS0.out.below B4.out)).mono ?_
  rintro r w5 ⟨bo, bc, rfl, o5, h5⟩
  obtain ⟨w6, e6⟩ : ∃ w6, w6 = w5.alloc (.cells (cx10 p r0 r1 r2 r3 r4 r5 r6 r7 (.slice bo l.length bc)) 26) := ⟨_, rfl⟩
  obtain ⟨s6, n6, b6⟩ := new_size e6
  obtain ⟨G, hG⟩ : ∃ G, w5.heap.size = G := ⟨_, rfl⟩
  rw [hG] at n6
  have b46 := below_on h5 b6
  have P1 := Lib.hid (blk_on b46 M1.out)
  have P2 := Lib.hid (blk_on b46 M2.out)
  have P3 := Lib.hid (blk_on b46 M3.out)
  have B6 := Lib.hid (below_on B4.out b46)
  have hFG : F < G := by have := blk_lt (blk_on h5 M3.out); omega
  have X6 : Hid (Cx w6 w.heap.size G bo bc ⟨p, [r0, r1, r2, r3, r4, r5, r6, r7], l⟩) := Lib.hid ⟨HFit.out, n6, by have := ZZ.out; omega, (o5.below b6).mono (Nat.le_trans B4.out.size (Nat.le_refl _)), fun q hq e => by
    subst hq
    have := (o5.lt q.block rfl).2
    omega⟩
  have OF := Lib.hid (show ∀ q, bo = some q → F < q.block from fun q hq => by
    subst hq
    have := (o5.lt q.block rfl).1
    have := blk_lt M3.out
    omega)
  have HG := Lib.hid hG
  have HFG := Lib.hid hFG
  clear s6 n6 b6 hG b46 hFG o5 h5 M1 M2 M3 B4 c0 c1 c2 c3 c4 c5 c6 c7 c8 c9 HC
  unfold cx10 at e6
  go_upto_region 4 with fail
  rw [← e6, HG.out]
  clear e6
  have xp := X6.out.at.pl
  have fz := froz10 X6.out.box 0
  obtain ⟨w7, e7⟩ : ∃ w7, w7 = w6.setCell ⟨G, 0, none⟩ (.int .i64 (wrap64 (p + 1))) := ⟨_, rfl⟩
  have X7 : Hid (Cx w7 w.heap.size G bo bc ⟨onward p, [r0, r1, r2, r3, r4, r5, r6, r7], l⟩) := Lib.hid (by rw [e7, onward_w]; exact X6.out.setP (onward_fits p).1 (onward_fits p).2)
  have on7 : Only w6 w7 (fun k => k = G) := by rw [e7]; exact Only.setCell w6 G 0 _ _ rfl
  have Q1 := Lib.hid ((on7.block D (blk_lt P1.out) (by have := ZZ.out; have := HFG.out; omega)).trans P1.out)
  have Q2 := Lib.hid ((on7.block E (blk_lt P2.out) (by have := ZZ.out; have := HFG.out; omega)).trans P2.out)
  have Q3 := Lib.hid ((on7.block F (blk_lt P3.out) (by have := ZZ.out; have := HFG.out; omega)).trans P3.out)
  have B7 : Hid (Below w.heap.size w w7) := Lib.hid (B6.out.trans (on7.below B6.out.size (fun k hk => by rw [hk]; exact X6.out.bb)))
  clear on7 P1 P2 P3 B6 X6
  go_upto_region 5 with fail
  rw [← e7]
  clear e7 xp fz
  obtain ⟨i0, i1, i2, i3, i4, i5⟩ := inscells Q2.out
  simp only at i0 i1 i2 i3 i4 i5
  have ha0 : (0 : Int) ≤ (a : Int) := Int.natCast_nonneg _
  have ha8 : (a : Int) < 8 := by omega
  have xr := X7.out.at.reg a ha
  have fz := froz10 X7.out.box (1 + a)
  have HA := Lib.hid ha
  have dx := cxcells (x := ⟨p, [r0, r1, r2, r3, r4, r5, r6, r7], l⟩) HFit.out.rl (show w7.heap[D]? = some (cxO ⟨p, [r0, r1, r2, r3, r4, r5, r6, r7], l⟩ (.slice ao l.length cap)) from Q1.out)
  have xb := dx.reg b hb
  have hb0 : (0 : Int) ≤ (b : Int) := Int.natCast_nonneg _
  have hb8 : (b : Int) < 8 := by omega
  obtain ⟨s, hs⟩ : ∃ s, ([r0, r1, r2, r3, r4, r5, r6, r7] : List Nat).getD b 0 = s := ⟨_, rfl⟩
  have vs : s < 4294967296 := by rw [← hs]; exact HFit.out.reg (b : Int)
  have Hs := Lib.hid hs
  have Vs := Lib.hid vs
  rw [show (⟨p, [r0, r1, r2, r3, r4, r5, r6, r7], l⟩ : Ctx).regs.getD b 0 = s from hs] at xb
  clear dx hs vs
  clear ha hb
  go_upto_region 13 with fail
  obtain ⟨w8, e8⟩ : ∃ w8, w8 = (w7.setCell ⟨G, 1 + a, none⟩ (.int .u32 (s : Int))).drew := ⟨_, rfl⟩
  have on8 : Only w7 w8 (cxS G bo) := by rw [e8]; exact (Only.setCell w7 _ _ _ _ (.inl rfl)).trans (only_drew _ (cxS G bo)) (fun _ _ h => h)
  have X8 : Hid (Cx w8 w.heap.size G bo bc ⟨yp, [q0, q1, q2, q3, q4, q5, q6, q7], ym⟩) := Lib.hid (by rw [HY.out, e8]; exact Cx.drew (by rw [Hs.out]; exact X7.out.setR a s HA.out Vs.out))
  have nF : ¬ cxS G bo F := by
    rintro (h | ⟨q, hq, h⟩)
    · have := HFG.out; omega
    · have := OF.out q hq; omega
  have K3 := Lib.hid ((on8.block F (blk_lt Q3.out) nF).trans Q3.out)
  have B8 : Hid (Below w.heap.size w w8) := Lib.hid (B7.out.trans (X7.out.belowB on8))
  clear on8 nF
  go_region
  rw [← e8]
  clear e8
  go_upto_region 31 with fail
  clear i0 i1 i2 i3 i4 i5 xr fz xb
  obtain ⟨d0, d1, d2, d3, d4, d5, d6, d7, d8, d9⟩ := cells10 (show w8.heap[G]? = some (.cells (cx10 yp q0 q1 q2 q3 q4 q5 q6 q7 (.slice bo ym.length bc)) 26) from X8.out.box)
  obtain ⟨z0, z1, z2, z3, z4, z5, z6, z7, z8, z9⟩ := cells10 (p := 0) (r0 := 0) (r1 := 0) (r2 := 0) (r3 := 0) (r4 := 0) (r5 := 0) (r6 := 0) (r7 := 0) (v := .slice none 0 0) K3.out
  have gz := froz10' K3.out
  have g0 := gz 0
  have g1 := gz 1
  have g2 := gz 2
  have g3 := gz 3
  have g4 := gz 4
  have g5 := gz 5
  have g6 := gz 6
  have g7 := gz 7
  have g8 := gz 8
  have g9 := gz 9
  clear gz
  obtain ⟨w9, e9⟩ : ∃ w9, w9 = stN w8 F 0 (cx10 yp q0 q1 q2 q3 q4 q5 q6 q7 (.slice bo ym.length bc)).toList := ⟨_, rfl⟩
  have hF9 : w9.heap[F]? = some (.cells (cx10 yp q0 q1 q2 q3 q4 q5 q6 q7 (.slice bo ym.length bc)) 26) := by
    rw [e9]
    exact cx_stored _ _ _ _ _ _ _ _ _ _ K3.out rfl
  have on9 : Only w8 w9 (fun k => k = F) := by rw [e9]; exact stN_only _ _ _
  have B9 : Hid (Below w.heap.size w w9) := Lib.hid (B8.out.trans (on9.below B8.out.size (fun k hk => by rw [hk]; have := ZZ.out; omega)))
  have S9 := Lib.hid (X8.out.seen.only on9 (fun q hq e => by have := OF.out q hq; omega))
  have R9 := Lib.hid (show bo = ao ∨ RowW w9 bo from .inr (fun q hq => by
    cases hq
    obtain ⟨cs, hc⟩ := X8.out.mem.kind (k := q.block) rfl
    exact ⟨cs, (0, 0), (on9.block _ (blk_lt hc) (fun e => by have h9 : F < q.block := OF.out _ rfl; omega)).trans hc⟩))
  have F9 := Lib.hid hF9
  simp only [stN, cx10] at e9
  clear hF9 on9
  go_wp2_with fail
  rw [← e9]
  exact bodyPost_ret (ret_cxt rfl rfl F9.out) rfl ⟨_, _, rfl, S9.out, B9.out, R9.out⟩

set_option maxRecDepth 100000 in
set_option maxHeartbeats 8000000 in
theorem rdo_jmp (p : Int) (r0 r1 r2 r3 r4 r5 r6 r7 : Nat) (ao : Option Addr) (cap : Nat) (l : List Nat) (a' b' c' d : Int) (k : Nat) (w : World) (hs : SeenW w ao cap l) (hn : l.length ≤ 1000000) (hfit : CtxFits ⟨p, [r0, r1, r2, r3, r4, r5, r6, r7], l⟩) (hk : k < 4294967296)
    (hf : formI ⟨17, a', b', c', d, k⟩ = 0) (yp : Int) (q0 q1 q2 q3 q4 q5 q6 q7 : Nat) (ym : List Nat) (hY : (⟨yp, [q0, q1, q2, q3, q4, q5, q6, q7], ym⟩ : Ctx) = ⟨k, [r0, r1, r2, r3, r4, r5, r6, r7], l⟩) :
    Calls Tryd.prog 12 #[.agg (cx10 p r0 r1 r2 r3 r4 r5 r6 r7 (.slice ao l.length cap)), insV ⟨17, a', b', c', d, k⟩] w fun r w' => ∃ bo bc, r = .returned (.tuple #[.agg (cx10 yp q0 q1 q2 q3 q4 q5 q6 q7 (.slice bo ym.length bc)), .int .i64 0]) ∧ SeenW w' bo bc ym ∧ Below w.heap.size w w' ∧ (bo = ao ∨ RowW w' bo) := by
  obtain ⟨w1, e1⟩ : ∃ w1, w1 = w.alloc (.cells (cx10 p r0 r1 r2 r3 r4 r5 r6 r7 (.slice ao l.length cap)) 26) := ⟨_, rfl⟩
  obtain ⟨s1, n1, b1⟩ := new_size e1
  obtain ⟨w2, e2⟩ : ∃ w2, w2 = w1.alloc (insO ⟨17, a', b', c', d, k⟩) := ⟨_, rfl⟩
  obtain ⟨s2, n2, b2⟩ := new_size e2
  obtain ⟨w3, e3⟩ : ∃ w3, w3 = w2.alloc (.cells cxZ 26) := ⟨_, rfl⟩
  obtain ⟨s3, n3, b3⟩ := new_size e3
  have n1' := blk_on b3 (blk_on b2 n1)
  have n2' := blk_on b3 n2
  obtain ⟨D, hD⟩ : ∃ D, w.heap.size = D := ⟨_, rfl⟩
  obtain ⟨E, hE⟩ : ∃ E, D + 1 = E := ⟨_, rfl⟩
  obtain ⟨F, hF⟩ : ∃ F, E + 1 = F := ⟨_, rfl⟩
  rw [hD] at n1'
  rw [s1, hD, hE] at n2'
  rw [s2, s1, hD, hE, hF] at n3
  have b13 := below_on (below_on b1 b2) b3
  have B3 := Lib.hid b13
  have HS0 := Lib.hid hs
  have N1 := Lib.hid n1'
  have N2 := Lib.hid n2'
  have N3 := Lib.hid n3
  have ZZ := Lib.hid (show w.heap.size = D ∧ D + 1 = E ∧ E + 1 = F from ⟨hD, hE, hF⟩)
  have HD := Lib.hid hD
  have HE := Lib.hid (show D + 1 = E from hE)
  have HF := Lib.hid (show E + 1 = F from hF)
  have Hn := Lib.hid hn
  have Hf := Lib.hid (hf ▸ riform_any ⟨17, a', b', c', d, k⟩ w3)
  have HFit := Lib.hid hfit
  have HC := Lib.hid (fun w' h' => rcopy_walk p r0 r1 r2 r3 r4 r5 r6 r7 ao cap l w' h' hn)
  have HY := Lib.hid hY
  clear s1 n1 b1 s2 n2 b2 s3 n3 b3 b13 n1' n2' hD hE hF hs hn hf hfit hY
  obtain ⟨i0, i1, i2, i3, i4, i5⟩ := inscells N2.out
  unfold insO at e2
  unfold insV at *
  unfold cx10 at e1 HC
  unfold cxZ at e3
  simp only at i0 i1 i2 i3 i4 i5
  unfold cx10
  go_enter Tryd.func12, Tryd.ntmps12
  go_upto_region 1 with fail
  rw [← e1, HD.out, ← e2, HE.out, ← e3, HF.out]
  clear e1 e2 e3
  go_wp2_with fail
  refine Hf.out.mono ?_
  rintro r w4 ⟨rfl, h4⟩
  have M1 := Lib.hid (blk_on h4 N1.out)
  have M2 := Lib.hid (blk_on h4 N2.out)
  have M3 := Lib.hid (blk_on h4 N3.out)
  have B4 := Lib.hid (below_on B3.out h4)
  clear h4 i0 i1 i2 i3 i4 i5 N1 N2 N3 B3
  obtain ⟨c0, c1, c2, c3, c4, c5, c6, c7, c8, c9⟩ := cells10 M1.out
  go_wp2_with fail
  refine (HC.out w4 (HS0.out.below B4.out)).mono ?_
  rintro r w5 ⟨bo, bc, rfl, o5, h5⟩
  obtain ⟨w6, e6⟩ : ∃ w6, w6 = w5.alloc (.cells (cx10 p r0 r1 r2 r3 r4 r5 r6 r7 (.slice bo l.length bc)) 26) := ⟨_, rfl⟩
  obtain ⟨s6, n6, b6⟩ := new_size e6
  obtain ⟨G, hG⟩ : ∃ G, w5.heap.size = G := ⟨_, rfl⟩
  rw [hG] at n6
  have b46 := below_on h5 b6
  have P1 := Lib.hid (blk_on b46 M1.out)
  have P2 := Lib.hid (blk_on b46 M2.out)
  have P3 := Lib.hid (blk_on b46 M3.out)
  have B6 := Lib.hid (below_on B4.out b46)
  have hFG : F < G := by have := blk_lt (blk_on h5 M3.out); omega
  have X6 : Hid (Cx w6 w.heap.size G bo bc ⟨p, [r0, r1, r2, r3, r4, r5, r6, r7], l⟩) := Lib.hid ⟨HFit.out, n6, by have := ZZ.out; omega, (o5.below b6).mono (Nat.le_trans B4.out.size (Nat.le_refl _)), fun q hq e => by
    subst hq
    have := (o5.lt q.block rfl).2
    omega⟩
  have OF := Lib.hid (show ∀ q, bo = some q → F < q.block from fun q hq => by
    subst hq
    have := (o5.lt q.block rfl).1
    have := blk_lt M3.out
    omega)
  have HG := Lib.hid hG
  have HFG := Lib.hid hFG
  clear s6 n6 b6 hG b46 hFG o5 h5 M1 M2 M3 B4 c0 c1 c2 c3 c4 c5 c6 c7 c8 c9 HC
  unfold cx10 at e6
  go_upto_region 4 with fail
  rw [← e6, HG.out]
  clear e6
  have xp := X6.out.at.pl
  have fz := froz10 X6.out.box 0
  obtain ⟨w7, e7⟩ : ∃ w7, w7 = w6.setCell ⟨G, 0, none⟩ (.int .i64 (wrap64 (p + 1))) := ⟨_, rfl⟩
  have X7 : Hid (Cx w7 w.heap.size G bo bc ⟨onward p, [r0, r1, r2, r3, r4, r5, r6, r7], l⟩) := Lib.hid (by rw [e7, onward_w]; exact X6.out.setP (onward_fits p).1 (onward_fits p).2)
  have on7 : Only w6 w7 (fun k => k = G) := by rw [e7]; exact Only.setCell w6 G 0 _ _ rfl
  have Q1 := Lib.hid ((on7.block D (blk_lt P1.out) (by have := ZZ.out; have := HFG.out; omega)).trans P1.out)
  have Q2 := Lib.hid ((on7.block E (blk_lt P2.out) (by have := ZZ.out; have := HFG.out; omega)).trans P2.out)
  have Q3 := Lib.hid ((on7.block F (blk_lt P3.out) (by have := ZZ.out; have := HFG.out; omega)).trans P3.out)
  have B7 : Hid (Below w.heap.size w w7) := Lib.hid (B6.out.trans (on7.below B6.out.size (fun k hk => by rw [hk]; exact X6.out.bb)))
  clear on7 P1 P2 P3 B6 X6
  go_upto_region 5 with fail
  rw [← e7]
  clear e7 xp fz
  obtain ⟨i0, i1, i2, i3, i4, i5⟩ := inscells Q2.out
  simp only at i0 i1 i2 i3 i4 i5
  have xp := X7.out.at.pl
  have fz := froz10 X7.out.box 0
  have HK := Lib.hid hk
  obtain ⟨w8, e8⟩ : ∃ w8, w8 = w7.setCell ⟨G, 0, none⟩ (.int .i64 (k : Int)) := ⟨_, rfl⟩
  have on8 : Only w7 w8 (cxS G bo) := by rw [e8]; exact Only.setCell w7 _ _ _ _ (.inl rfl)
  have X8 : Hid (Cx w8 w.heap.size G bo bc ⟨yp, [q0, q1, q2, q3, q4, q5, q6, q7], ym⟩) := Lib.hid (by rw [HY.out, e8]; exact X7.out.setP (by omega) (by have := HK.out; omega))
  have nF : ¬ cxS G bo F := by
    rintro (h | ⟨q, hq, h⟩)
    · have := HFG.out; omega
    · have := OF.out q hq; omega
  have K3 := Lib.hid ((on8.block F (blk_lt Q3.out) nF).trans Q3.out)
  have B8 : Hid (Below w.heap.size w w8) := Lib.hid (B7.out.trans (X7.out.belowB on8))
  clear on8 nF
  go_upto_region 31 with fail
  rw [← e8]
  clear e8
  clear i0 i1 i2 i3 i4 i5 xp fz hk
  obtain ⟨d0, d1, d2, d3, d4, d5, d6, d7, d8, d9⟩ := cells10 (show w8.heap[G]? = some (.cells (cx10 yp q0 q1 q2 q3 q4 q5 q6 q7 (.slice bo ym.length bc)) 26) from X8.out.box)
  obtain ⟨z0, z1, z2, z3, z4, z5, z6, z7, z8, z9⟩ := cells10 (p := 0) (r0 := 0) (r1 := 0) (r2 := 0) (r3 := 0) (r4 := 0) (r5 := 0) (r6 := 0) (r7 := 0) (v := .slice none 0 0) K3.out
  have gz := froz10' K3.out
  have g0 := gz 0
  have g1 := gz 1
  have g2 := gz 2
  have g3 := gz 3
  have g4 := gz 4
  have g5 := gz 5
  have g6 := gz 6
  have g7 := gz 7
  have g8 := gz 8
  have g9 := gz 9
  clear gz
  obtain ⟨w9, e9⟩ : ∃ w9, w9 = stN w8 F 0 (cx10 yp q0 q1 q2 q3 q4 q5 q6 q7 (.slice bo ym.length bc)).toList := ⟨_, rfl⟩
  have hF9 : w9.heap[F]? = some (.cells (cx10 yp q0 q1 q2 q3 q4 q5 q6 q7 (.slice bo ym.length bc)) 26) := by
    rw [e9]
    exact cx_stored _ _ _ _ _ _ _ _ _ _ K3.out rfl
  have on9 : Only w8 w9 (fun k => k = F) := by rw [e9]; exact stN_only _ _ _
  have B9 : Hid (Below w.heap.size w w9) := Lib.hid (B8.out.trans (on9.below B8.out.size (fun k hk => by rw [hk]; have := ZZ.out; omega)))
  have S9 := Lib.hid (X8.out.seen.only on9 (fun q hq e => by have := OF.out q hq; omega))
  have R9 := Lib.hid (show bo = ao ∨ RowW w9 bo from .inr (fun q hq => by
    cases hq
    obtain ⟨cs, hc⟩ := X8.out.mem.kind (k := q.block) rfl
    exact ⟨cs, (0, 0), (on9.block _ (blk_lt hc) (fun e => by have h9 : F < q.block := OF.out _ rfl; omega)).trans hc⟩))
  have F9 := Lib.hid hF9
  simp only [stN, cx10] at e9
  clear hF9 on9
  go_wp2_with fail
  rw [← e9]
  exact bodyPost_ret (ret_cxt rfl rfl F9.out) rfl ⟨_, _, rfl, S9.out, B9.out, R9.out⟩

set_option maxRecDepth 100000 in
set_option maxHeartbeats 8000000 in
theorem rdo_jz_z (p : Int) (r0 r1 r2 r3 r4 r5 r6 r7 : Nat) (ao : Option Addr) (cap : Nat) (l : List Nat) (a : Nat) (b' c' d : Int) (k : Nat) (w : World) (hs : SeenW w ao cap l) (hn : l.length ≤ 1000000) (hfit : CtxFits ⟨p, [r0, r1, r2, r3, r4, r5, r6, r7], l⟩) (ha : a < 8) (hk : k < 4294967296) (hz : decide ([r0, r1, r2, r3, r4, r5, r6, r7].getD a 0 = 0) = true)
    (hf : formI ⟨18, a, b', c', d, k⟩ = 0) (yp : Int) (q0 q1 q2 q3 q4 q5 q6 q7 : Nat) (ym : List Nat) (hY : (⟨yp, [q0, q1, q2, q3, q4, q5, q6, q7], ym⟩ : Ctx) = ⟨k, [r0, r1, r2, r3, r4, r5, r6, r7], l⟩) :
    Calls Tryd.prog 12 #[.agg (cx10 p r0 r1 r2 r3 r4 r5 r6 r7 (.slice ao l.length cap)), insV ⟨18, a, b', c', d, k⟩] w fun r w' => ∃ bo bc, r = .returned (.tuple #[.agg (cx10 yp q0 q1 q2 q3 q4 q5 q6 q7 (.slice bo ym.length bc)), .int .i64 0]) ∧ SeenW w' bo bc ym ∧ Below w.heap.size w w' ∧ (bo = ao ∨ RowW w' bo) := by
  obtain ⟨w1, e1⟩ : ∃ w1, w1 = w.alloc (.cells (cx10 p r0 r1 r2 r3 r4 r5 r6 r7 (.slice ao l.length cap)) 26) := ⟨_, rfl⟩
  obtain ⟨s1, n1, b1⟩ := new_size e1
  obtain ⟨w2, e2⟩ : ∃ w2, w2 = w1.alloc (insO ⟨18, a, b', c', d, k⟩) := ⟨_, rfl⟩
  obtain ⟨s2, n2, b2⟩ := new_size e2
  obtain ⟨w3, e3⟩ : ∃ w3, w3 = w2.alloc (.cells cxZ 26) := ⟨_, rfl⟩
  obtain ⟨s3, n3, b3⟩ := new_size e3
  have n1' := blk_on b3 (blk_on b2 n1)
  have n2' := blk_on b3 n2
  obtain ⟨D, hD⟩ : ∃ D, w.heap.size = D := ⟨_, rfl⟩
  obtain ⟨E, hE⟩ : ∃ E, D + 1 = E := ⟨_, rfl⟩
  obtain ⟨F, hF⟩ : ∃ F, E + 1 = F := ⟨_, rfl⟩
  rw [hD] at n1'
  rw [s1, hD, hE] at n2'
  rw [s2, s1, hD, hE, hF] at n3
  have b13 := below_on (below_on b1 b2) b3
  have B3 := Lib.hid b13
  have HS0 := Lib.hid hs
  have N1 := Lib.hid n1'
  have N2 := Lib.hid n2'
  have N3 := Lib.hid n3
  have ZZ := Lib.hid (show w.heap.size = D ∧ D + 1 = E ∧ E + 1 = F from ⟨hD, hE, hF⟩)
  have HD := Lib.hid hD
  have HE := Lib.hid (show D + 1 = E from hE)
  have HF := Lib.hid (show E + 1 = F from hF)
  have Hn := Lib.hid hn
  have Hf := Lib.hid (hf ▸ riform_any ⟨18, a, b', c', d, k⟩ w3)
  have HZ := Lib.hid hz
  clear hz
  have HFit := Lib.hid hfit
  have HC := Lib.hid (fun w' h' => rcopy_walk p r0 r1 r2 r3 r4 r5 r6 r7 ao cap l w' h' hn)
  have HY := Lib.hid hY
  clear s1 n1 b1 s2 n2 b2 s3 n3 b3 b13 n1' n2' hD hE hF hs hn hf hfit hY
  obtain ⟨i0, i1, i2, i3, i4, i5⟩ := inscells N2.out
  unfold insO at e2
  unfold insV at *
  unfold cx10 at e1 HC
  unfold cxZ at e3
  simp only at i0 i1 i2 i3 i4 i5
  unfold cx10
  go_enter Tryd.func12, Tryd.ntmps12
  go_upto_region 1 with fail
  rw [← e1, HD.out, ← e2, HE.out, ← e3, HF.out]
  clear e1 e2 e3
  go_wp2_with fail
  refine Hf.out.mono ?_
  rintro r w4 ⟨rfl, h4⟩
  have M1 := Lib.hid (blk_on h4 N1.out)
  have M2 := Lib.hid (blk_on h4 N2.out)
  have M3 := Lib.hid (blk_on h4 N3.out)
  have B4 := Lib.hid (below_on B3.out h4)
  clear h4 i0 i1 i2 i3 i4 i5 N1 N2 N3 B3
  obtain ⟨c0, c1, c2, c3, c4, c5, c6, c7, c8, c9⟩ := cells10 M1.out
  go_wp2_with fail
  refine (HC.out w4 (HS0.out.below B4.out)).mono ?_
  rintro r w5 ⟨bo, bc, rfl, o5, h5⟩
  obtain ⟨w6, e6⟩ : ∃ w6, w6 = w5.alloc (.cells (cx10 p r0 r1 r2 r3 r4 r5 r6 r7 (.slice bo l.length bc)) 26) := ⟨_, rfl⟩
  obtain ⟨s6, n6, b6⟩ := new_size e6
  obtain ⟨G, hG⟩ : ∃ G, w5.heap.size = G := ⟨_, rfl⟩
  rw [hG] at n6
  have b46 := below_on h5 b6
  have P1 := Lib.hid (blk_on b46 M1.out)
  have P2 := Lib.hid (blk_on b46 M2.out)
  have P3 := Lib.hid (blk_on b46 M3.out)
  have B6 := Lib.hid (below_on B4.out b46)
  have hFG : F < G := by have := blk_lt (blk_on h5 M3.out); omega
  have X6 : Hid (Cx w6 w.heap.size G bo bc ⟨p, [r0, r1, r2, r3, r4, r5, r6, r7], l⟩) := Lib.hid ⟨HFit.out, n6, by have := ZZ.out; omega, (o5.below b6).mono (Nat.le_trans B4.out.size (Nat.le_refl _)), fun q hq e => by
    subst hq
    have := (o5.lt q.block rfl).2
    omega⟩
  have OF := Lib.hid (show ∀ q, bo = some q → F < q.block from fun q hq => by
    subst hq
    have := (o5.lt q.block rfl).1
    have := blk_lt M3.out
    omega)
  have HG := Lib.hid hG
  have HFG := Lib.hid hFG
  clear s6 n6 b6 hG b46 hFG o5 h5 M1 M2 M3 B4 c0 c1 c2 c3 c4 c5 c6 c7 c8 c9 HC
  unfold cx10 at e6
  go_upto_region 4 with fail
  rw [← e6, HG.out]
  clear e6
  have xp := X6.out.at.pl
  have fz := froz10 X6.out.box 0
  obtain ⟨w7, e7⟩ : ∃ w7, w7 = w6.setCell ⟨G, 0, none⟩ (.int .i64 (wrap64 (p + 1))) := ⟨_, rfl⟩
  have X7 : Hid (Cx w7 w.heap.size G bo bc ⟨onward p, [r0, r1, r2, r3, r4, r5, r6, r7], l⟩) := Lib.hid (by rw [e7, onward_w]; exact X6.out.setP (onward_fits p).1 (onward_fits p).2)
  have on7 : Only w6 w7 (fun k => k = G) := by rw [e7]; exact Only.setCell w6 G 0 _ _ rfl
  have Q1 := Lib.hid ((on7.block D (blk_lt P1.out) (by have := ZZ.out; have := HFG.out; omega)).trans P1.out)
  have Q2 := Lib.hid ((on7.block E (blk_lt P2.out) (by have := ZZ.out; have := HFG.out; omega)).trans P2.out)
  have Q3 := Lib.hid ((on7.block F (blk_lt P3.out) (by have := ZZ.out; have := HFG.out; omega)).trans P3.out)
  have B7 : Hid (Below w.heap.size w w7) := Lib.hid (B6.out.trans (on7.below B6.out.size (fun k hk => by rw [hk]; exact X6.out.bb)))
  clear on7 P1 P2 P3 B6 X6
  go_upto_region 5 with fail
  rw [← e7]
  clear e7 xp fz
  obtain ⟨i0, i1, i2, i3, i4, i5⟩ := inscells Q2.out
  simp only at i0 i1 i2 i3 i4 i5
  have xp := X7.out.at.pl
  have fz := froz10 X7.out.box 0
  have dx := cxcells (x := ⟨p, [r0, r1, r2, r3, r4, r5, r6, r7], l⟩) HFit.out.rl (show w7.heap[D]? = some (cxO ⟨p, [r0, r1, r2, r3, r4, r5, r6, r7], l⟩ (.slice ao l.length cap)) from Q1.out)
  have xa := dx.reg a ha
  have ha0 : (0 : Int) ≤ (a : Int) := Int.natCast_nonneg _
  have ha8 : (a : Int) < 8 := by omega
  obtain ⟨s, hs⟩ : ∃ s, ([r0, r1, r2, r3, r4, r5, r6, r7] : List Nat).getD a 0 = s := ⟨_, rfl⟩
  have vs : s < 4294967296 := by rw [← hs]; exact HFit.out.reg (a : Int)
  have Hs := Lib.hid hs
  have Vs := Lib.hid vs
  rw [show (⟨p, [r0, r1, r2, r3, r4, r5, r6, r7], l⟩ : Ctx).regs.getD a 0 = s from hs] at xa
  clear dx hs vs
  have HZ := Lib.hid (Hs.out ▸ HZ.out)
  have hz : ((s : Int) == 0) = true := by have := (show decide (s = 0) = true from HZ.out); simp at this ⊢; omega
  have HK := Lib.hid hk
  clear ha
  obtain ⟨w8, e8⟩ : ∃ w8, w8 = w7.setCell ⟨G, 0, none⟩ (.int .i64 (k : Int)) := ⟨_, rfl⟩
  have on8 : Only w7 w8 (cxS G bo) := by rw [e8]; exact Only.setCell w7 _ _ _ _ (.inl rfl)
  have X8 : Hid (Cx w8 w.heap.size G bo bc ⟨yp, [q0, q1, q2, q3, q4, q5, q6, q7], ym⟩) := Lib.hid (by rw [HY.out, e8]; exact X7.out.setP (by omega) (by have := HK.out; omega))
  have nF : ¬ cxS G bo F := by
    rintro (h | ⟨q, hq, h⟩)
    · have := HFG.out; omega
    · have := OF.out q hq; omega
  have K3 := Lib.hid ((on8.block F (blk_lt Q3.out) nF).trans Q3.out)
  have B8 : Hid (Below w.heap.size w w8) := Lib.hid (B7.out.trans (X7.out.belowB on8))
  clear on8 nF
  go_upto_region 31 with fail
  rw [← e8]
  clear e8
  clear i0 i1 i2 i3 i4 i5 xp fz hk xa hz
  obtain ⟨d0, d1, d2, d3, d4, d5, d6, d7, d8, d9⟩ := cells10 (show w8.heap[G]? = some (.cells (cx10 yp q0 q1 q2 q3 q4 q5 q6 q7 (.slice bo ym.length bc)) 26) from X8.out.box)
  obtain ⟨z0, z1, z2, z3, z4, z5, z6, z7, z8, z9⟩ := cells10 (p := 0) (r0 := 0) (r1 := 0) (r2 := 0) (r3 := 0) (r4 := 0) (r5 := 0) (r6 := 0) (r7 := 0) (v := .slice none 0 0) K3.out
  have gz := froz10' K3.out
  have g0 := gz 0
  have g1 := gz 1
  have g2 := gz 2
  have g3 := gz 3
  have g4 := gz 4
  have g5 := gz 5
  have g6 := gz 6
  have g7 := gz 7
  have g8 := gz 8
  have g9 := gz 9
  clear gz
  obtain ⟨w9, e9⟩ : ∃ w9, w9 = stN w8 F 0 (cx10 yp q0 q1 q2 q3 q4 q5 q6 q7 (.slice bo ym.length bc)).toList := ⟨_, rfl⟩
  have hF9 : w9.heap[F]? = some (.cells (cx10 yp q0 q1 q2 q3 q4 q5 q6 q7 (.slice bo ym.length bc)) 26) := by
    rw [e9]
    exact cx_stored _ _ _ _ _ _ _ _ _ _ K3.out rfl
  have on9 : Only w8 w9 (fun k => k = F) := by rw [e9]; exact stN_only _ _ _
  have B9 : Hid (Below w.heap.size w w9) := Lib.hid (B8.out.trans (on9.below B8.out.size (fun k hk => by rw [hk]; have := ZZ.out; omega)))
  have S9 := Lib.hid (X8.out.seen.only on9 (fun q hq e => by have := OF.out q hq; omega))
  have R9 := Lib.hid (show bo = ao ∨ RowW w9 bo from .inr (fun q hq => by
    cases hq
    obtain ⟨cs, hc⟩ := X8.out.mem.kind (k := q.block) rfl
    exact ⟨cs, (0, 0), (on9.block _ (blk_lt hc) (fun e => by have h9 : F < q.block := OF.out _ rfl; omega)).trans hc⟩))
  have F9 := Lib.hid hF9
  simp only [stN, cx10] at e9
  clear hF9 on9
  go_wp2_with fail
  rw [← e9]
  exact bodyPost_ret (ret_cxt rfl rfl F9.out) rfl ⟨_, _, rfl, S9.out, B9.out, R9.out⟩

set_option maxRecDepth 100000 in
set_option maxHeartbeats 8000000 in
theorem rdo_jz_n (p : Int) (r0 r1 r2 r3 r4 r5 r6 r7 : Nat) (ao : Option Addr) (cap : Nat) (l : List Nat) (a : Nat) (b' c' d : Int) (k : Nat) (w : World) (hs : SeenW w ao cap l) (hn : l.length ≤ 1000000) (hfit : CtxFits ⟨p, [r0, r1, r2, r3, r4, r5, r6, r7], l⟩) (ha : a < 8) (hk : k < 4294967296) (hz : decide ([r0, r1, r2, r3, r4, r5, r6, r7].getD a 0 = 0) = false)
    (hf : formI ⟨18, a, b', c', d, k⟩ = 0) (yp : Int) (q0 q1 q2 q3 q4 q5 q6 q7 : Nat) (ym : List Nat) (hY : (⟨yp, [q0, q1, q2, q3, q4, q5, q6, q7], ym⟩ : Ctx) = ⟨onward p, [r0, r1, r2, r3, r4, r5, r6, r7], l⟩) :
    Calls Tryd.prog 12 #[.agg (cx10 p r0 r1 r2 r3 r4 r5 r6 r7 (.slice ao l.length cap)), insV ⟨18, a, b', c', d, k⟩] w fun r w' => ∃ bo bc, r = .returned (.tuple #[.agg (cx10 yp q0 q1 q2 q3 q4 q5 q6 q7 (.slice bo ym.length bc)), .int .i64 0]) ∧ SeenW w' bo bc ym ∧ Below w.heap.size w w' ∧ (bo = ao ∨ RowW w' bo) := by
  obtain ⟨w1, e1⟩ : ∃ w1, w1 = w.alloc (.cells (cx10 p r0 r1 r2 r3 r4 r5 r6 r7 (.slice ao l.length cap)) 26) := ⟨_, rfl⟩
  obtain ⟨s1, n1, b1⟩ := new_size e1
  obtain ⟨w2, e2⟩ : ∃ w2, w2 = w1.alloc (insO ⟨18, a, b', c', d, k⟩) := ⟨_, rfl⟩
  obtain ⟨s2, n2, b2⟩ := new_size e2
  obtain ⟨w3, e3⟩ : ∃ w3, w3 = w2.alloc (.cells cxZ 26) := ⟨_, rfl⟩
  obtain ⟨s3, n3, b3⟩ := new_size e3
  have n1' := blk_on b3 (blk_on b2 n1)
  have n2' := blk_on b3 n2
  obtain ⟨D, hD⟩ : ∃ D, w.heap.size = D := ⟨_, rfl⟩
  obtain ⟨E, hE⟩ : ∃ E, D + 1 = E := ⟨_, rfl⟩
  obtain ⟨F, hF⟩ : ∃ F, E + 1 = F := ⟨_, rfl⟩
  rw [hD] at n1'
  rw [s1, hD, hE] at n2'
  rw [s2, s1, hD, hE, hF] at n3
  have b13 := below_on (below_on b1 b2) b3
  have B3 := Lib.hid b13
  have HS0 := Lib.hid hs
  have N1 := Lib.hid n1'
  have N2 := Lib.hid n2'
  have N3 := Lib.hid n3
  have ZZ := Lib.hid (show w.heap.size = D ∧ D + 1 = E ∧ E + 1 = F from ⟨hD, hE, hF⟩)
  have HD := Lib.hid hD
  have HE := Lib.hid (show D + 1 = E from hE)
  have HF := Lib.hid (show E + 1 = F from hF)
  have Hn := Lib.hid hn
  have Hf := Lib.hid (hf ▸ riform_any ⟨18, a, b', c', d, k⟩ w3)
  have HZ := Lib.hid hz
  clear hz
  have HFit := Lib.hid hfit
  have HC := Lib.hid (fun w' h' => rcopy_walk p r0 r1 r2 r3 r4 r5 r6 r7 ao cap l w' h' hn)
  have HY := Lib.hid hY
  clear s1 n1 b1 s2 n2 b2 s3 n3 b3 b13 n1' n2' hD hE hF hs hn hf hfit hY
  obtain ⟨i0, i1, i2, i3, i4, i5⟩ := inscells N2.out
  unfold insO at e2
  unfold insV at *
  unfold cx10 at e1 HC
  unfold cxZ at e3
  simp only at i0 i1 i2 i3 i4 i5
  unfold cx10
  go_enter Tryd.func12, Tryd.ntmps12
  go_upto_region 1 with fail
  rw [← e1, HD.out, ← e2, HE.out, ← e3, HF.out]
  clear e1 e2 e3
  go_wp2_with fail
  refine Hf.out.mono ?_
  rintro r w4 ⟨rfl, h4⟩
  have M1 := Lib.hid (blk_on h4 N1.out)
  have M2 := Lib.hid (blk_on h4 N2.out)
  have M3 := Lib.hid (blk_on h4 N3.out)
  have B4 := Lib.hid (below_on B3.out h4)
  clear h4 i0 i1 i2 i3 i4 i5 N1 N2 N3 B3
  obtain ⟨c0, c1, c2, c3, c4, c5, c6, c7, c8, c9⟩ := cells10 M1.out
  go_wp2_with fail
  refine (HC.out w4 (HS0.out.below B4.out)).mono ?_
  rintro r w5 ⟨bo, bc, rfl, o5, h5⟩
  obtain ⟨w6, e6⟩ : ∃ w6, w6 = w5.alloc (.cells (cx10 p r0 r1 r2 r3 r4 r5 r6 r7 (.slice bo l.length bc)) 26) := ⟨_, rfl⟩
  obtain ⟨s6, n6, b6⟩ := new_size e6
  obtain ⟨G, hG⟩ : ∃ G, w5.heap.size = G := ⟨_, rfl⟩
  rw [hG] at n6
  have b46 := below_on h5 b6
  have P1 := Lib.hid (blk_on b46 M1.out)
  have P2 := Lib.hid (blk_on b46 M2.out)
  have P3 := Lib.hid (blk_on b46 M3.out)
  have B6 := Lib.hid (below_on B4.out b46)
  have hFG : F < G := by have := blk_lt (blk_on h5 M3.out); omega
  have X6 : Hid (Cx w6 w.heap.size G bo bc ⟨p, [r0, r1, r2, r3, r4, r5, r6, r7], l⟩) := Lib.hid ⟨HFit.out, n6, by have := ZZ.out; omega, (o5.below b6).mono (Nat.le_trans B4.out.size (Nat.le_refl _)), fun q hq e => by
    subst hq
    have := (o5.lt q.block rfl).2
    omega⟩
  have OF := Lib.hid (show ∀ q, bo = some q → F < q.block from fun q hq => by
    subst hq
    have := (o5.lt q.block rfl).1
    have := blk_lt M3.out
    omega)
  have HG := Lib.hid hG
  have HFG := Lib.hid hFG
  clear s6 n6 b6 hG b46 hFG o5 h5 M1 M2 M3 B4 c0 c1 c2 c3 c4 c5 c6 c7 c8 c9 HC
  unfold cx10 at e6
  go_upto_region 4 with fail
  rw [← e6, HG.out]
  clear e6
  have xp := X6.out.at.pl
  have fz := froz10 X6.out.box 0
  obtain ⟨w7, e7⟩ : ∃ w7, w7 = w6.setCell ⟨G, 0, none⟩ (.int .i64 (wrap64 (p + 1))) := ⟨_, rfl⟩
  have X7 : Hid (Cx w7 w.heap.size G bo bc ⟨onward p, [r0, r1, r2, r3, r4, r5, r6, r7], l⟩) := Lib.hid (by rw [e7, onward_w]; exact X6.out.setP (onward_fits p).1 (onward_fits p).2)
  have on7 : Only w6 w7 (fun k => k = G) := by rw [e7]; exact Only.setCell w6 G 0 _ _ rfl
  have Q1 := Lib.hid ((on7.block D (blk_lt P1.out) (by have := ZZ.out; have := HFG.out; omega)).trans P1.out)
  have Q2 := Lib.hid ((on7.block E (blk_lt P2.out) (by have := ZZ.out; have := HFG.out; omega)).trans P2.out)
  have Q3 := Lib.hid ((on7.block F (blk_lt P3.out) (by have := ZZ.out; have := HFG.out; omega)).trans P3.out)
  have B7 : Hid (Below w.heap.size w w7) := Lib.hid (B6.out.trans (on7.below B6.out.size (fun k hk => by rw [hk]; exact X6.out.bb)))
  clear on7 P1 P2 P3 B6 X6
  go_upto_region 5 with fail
  rw [← e7]
  clear e7 xp fz
  obtain ⟨i0, i1, i2, i3, i4, i5⟩ := inscells Q2.out
  simp only at i0 i1 i2 i3 i4 i5
  have xp := X7.out.at.pl
  have fz := froz10 X7.out.box 0
  have dx := cxcells (x := ⟨p, [r0, r1, r2, r3, r4, r5, r6, r7], l⟩) HFit.out.rl (show w7.heap[D]? = some (cxO ⟨p, [r0, r1, r2, r3, r4, r5, r6, r7], l⟩ (.slice ao l.length cap)) from Q1.out)
  have xa := dx.reg a ha
  have ha0 : (0 : Int) ≤ (a : Int) := Int.natCast_nonneg _
  have ha8 : (a : Int) < 8 := by omega
  obtain ⟨s, hs⟩ : ∃ s, ([r0, r1, r2, r3, r4, r5, r6, r7] : List Nat).getD a 0 = s := ⟨_, rfl⟩
  have vs : s < 4294967296 := by rw [← hs]; exact HFit.out.reg (a : Int)
  have Hs := Lib.hid hs
  have Vs := Lib.hid vs
  rw [show (⟨p, [r0, r1, r2, r3, r4, r5, r6, r7], l⟩ : Ctx).regs.getD a 0 = s from hs] at xa
  clear dx hs vs
  have HZ := Lib.hid (Hs.out ▸ HZ.out)
  have hz : ((s : Int) == 0) = false := by have := (show decide (s = 0) = false from HZ.out); simp at this ⊢; omega
  have HK := Lib.hid hk
  clear ha
  obtain ⟨w8, e8⟩ : ∃ w8, w8 = w7 := ⟨_, rfl⟩
  have on8 : Only w7 w8 (cxS G bo) := by rw [e8]; exact Only.refl _ _
  have X8 : Hid (Cx w8 w.heap.size G bo bc ⟨yp, [q0, q1, q2, q3, q4, q5, q6, q7], ym⟩) := Lib.hid (by rw [HY.out, e8]; exact X7.out)
  have nF : ¬ cxS G bo F := by
    rintro (h | ⟨q, hq, h⟩)
    · have := HFG.out; omega
    · have := OF.out q hq; omega
  have K3 := Lib.hid ((on8.block F (blk_lt Q3.out) nF).trans Q3.out)
  have B8 : Hid (Below w.heap.size w w8) := Lib.hid (B7.out.trans (X7.out.belowB on8))
  clear on8 nF
  go_upto_region 31 with fail
  rw [← e8]
  clear e8
  clear i0 i1 i2 i3 i4 i5 xp fz hk xa hz
  obtain ⟨d0, d1, d2, d3, d4, d5, d6, d7, d8, d9⟩ := cells10 (show w8.heap[G]? = some (.cells (cx10 yp q0 q1 q2 q3 q4 q5 q6 q7 (.slice bo ym.length bc)) 26) from X8.out.box)
  obtain ⟨z0, z1, z2, z3, z4, z5, z6, z7, z8, z9⟩ := cells10 (p := 0) (r0 := 0) (r1 := 0) (r2 := 0) (r3 := 0) (r4 := 0) (r5 := 0) (r6 := 0) (r7 := 0) (v := .slice none 0 0) K3.out
  have gz := froz10' K3.out
  have g0 := gz 0
  have g1 := gz 1
  have g2 := gz 2
  have g3 := gz 3
  have g4 := gz 4
  have g5 := gz 5
  have g6 := gz 6
  have g7 := gz 7
  have g8 := gz 8
  have g9 := gz 9
  clear gz
  obtain ⟨w9, e9⟩ : ∃ w9, w9 = stN w8 F 0 (cx10 yp q0 q1 q2 q3 q4 q5 q6 q7 (.slice bo ym.length bc)).toList := ⟨_, rfl⟩
  have hF9 : w9.heap[F]? = some (.cells (cx10 yp q0 q1 q2 q3 q4 q5 q6 q7 (.slice bo ym.length bc)) 26) := by
    rw [e9]
    exact cx_stored _ _ _ _ _ _ _ _ _ _ K3.out rfl
  have on9 : Only w8 w9 (fun k => k = F) := by rw [e9]; exact stN_only _ _ _
  have B9 : Hid (Below w.heap.size w w9) := Lib.hid (B8.out.trans (on9.below B8.out.size (fun k hk => by rw [hk]; have := ZZ.out; omega)))
  have S9 := Lib.hid (X8.out.seen.only on9 (fun q hq e => by have := OF.out q hq; omega))
  have R9 := Lib.hid (show bo = ao ∨ RowW w9 bo from .inr (fun q hq => by
    cases hq
    obtain ⟨cs, hc⟩ := X8.out.mem.kind (k := q.block) rfl
    exact ⟨cs, (0, 0), (on9.block _ (blk_lt hc) (fun e => by have h9 : F < q.block := OF.out _ rfl; omega)).trans hc⟩))
  have F9 := Lib.hid hF9
  simp only [stN, cx10] at e9
  clear hF9 on9
  go_wp2_with fail
  rw [← e9]
  exact bodyPost_ret (ret_cxt rfl rfl F9.out) rfl ⟨_, _, rfl, S9.out, B9.out, R9.out⟩

set_option maxRecDepth 100000 in
set_option maxHeartbeats 8000000 in
theorem rdo_jnz_z (p : Int) (r0 r1 r2 r3 r4 r5 r6 r7 : Nat) (ao : Option Addr) (cap : Nat) (l : List Nat) (a : Nat) (b' c' d : Int) (k : Nat) (w : World) (hs : SeenW w ao cap l) (hn : l.length ≤ 1000000) (hfit : CtxFits ⟨p, [r0, r1, r2, r3, r4, r5, r6, r7], l⟩) (ha : a < 8) (hk : k < 4294967296) (hz : decide ([r0, r1, r2, r3, r4, r5, r6, r7].getD a 0 = 0) = true)
    (hf : formI ⟨19, a, b', c', d, k⟩ = 0) (yp : Int) (q0 q1 q2 q3 q4 q5 q6 q7 : Nat) (ym : List Nat) (hY : (⟨yp, [q0, q1, q2, q3, q4, q5, q6, q7], ym⟩ : Ctx) = ⟨onward p, [r0, r1, r2, r3, r4, r5, r6, r7], l⟩) :
    Calls Tryd.prog 12 #[.agg (cx10 p r0 r1 r2 r3 r4 r5 r6 r7 (.slice ao l.length cap)), insV ⟨19, a, b', c', d, k⟩] w fun r w' => ∃ bo bc, r = .returned (.tuple #[.agg (cx10 yp q0 q1 q2 q3 q4 q5 q6 q7 (.slice bo ym.length bc)), .int .i64 0]) ∧ SeenW w' bo bc ym ∧ Below w.heap.size w w' ∧ (bo = ao ∨ RowW w' bo) := by
  obtain ⟨w1, e1⟩ : ∃ w1, w1 = w.alloc (.cells (cx10 p r0 r1 r2 r3 r4 r5 r6 r7 (.slice ao l.length cap)) 26) := ⟨_, rfl⟩
  obtain ⟨s1, n1, b1⟩ := new_size e1
  obtain ⟨w2, e2⟩ : ∃ w2, w2 = w1.alloc (insO ⟨19, a, b', c', d, k⟩) := ⟨_, rfl⟩
  obtain ⟨s2, n2, b2⟩ := new_size e2
  obtain ⟨w3, e3⟩ : ∃ w3, w3 = w2.alloc (.cells cxZ 26) := ⟨_, rfl⟩
  obtain ⟨s3, n3, b3⟩ := new_size e3
  have n1' := blk_on b3 (blk_on b2 n1)
  have n2' := blk_on b3 n2
  obtain ⟨D, hD⟩ : ∃ D, w.heap.size = D := ⟨_, rfl⟩
  obtain ⟨E, hE⟩ : ∃ E, D + 1 = E := ⟨_, rfl⟩
  obtain ⟨F, hF⟩ : ∃ F, E + 1 = F := ⟨_, rfl⟩
  rw [hD] at n1'
  rw [s1, hD, hE] at n2'
  rw [s2, s1, hD, hE, hF] at n3
  have b13 := below_on (below_on b1 b2) b3
  have B3 := Lib.hid b13
  have HS0 := Lib.hid hs
  have N1 := Lib.hid n1'
  have N2 := Lib.hid n2'
  have N3 := Lib.hid n3
  have ZZ := Lib.hid (show w.heap.size = D ∧ D + 1 = E ∧ E + 1 = F from ⟨hD, hE, hF⟩)
  have HD := Lib.hid hD
  have HE := Lib.hid (show D + 1 = E from hE)
  have HF := Lib.hid (show E + 1 = F from hF)
  have Hn := Lib.hid hn
  have Hf := Lib.hid (hf ▸ riform_any ⟨19, a, b', c', d, k⟩ w3)
  have HZ := Lib.hid hz
  clear hz
  have HFit := Lib.hid hfit
  have HC := Lib.hid (fun w' h' => rcopy_walk p r0 r1 r2 r3 r4 r5 r6 r7 ao cap l w' h' hn)
  have HY := Lib.hid hY
  clear s1 n1 b1 s2 n2 b2 s3 n3 b3 b13 n1' n2' hD hE hF hs hn hf hfit hY
  obtain ⟨i0, i1, i2, i3, i4, i5⟩ := inscells N2.out
  unfold insO at e2
  unfold insV at *
  unfold cx10 at e1 HC
  unfold cxZ at e3
  simp only at i0 i1 i2 i3 i4 i5
  unfold cx10
  go_enter Tryd.func12, Tryd.ntmps12
  go_upto_region 1 with fail
  rw [← e1, HD.out, ← e2, HE.out, ← e3, HF.out]
  clear e1 e2 e3
  go_wp2_with fail
  refine Hf.out.mono ?_
  rintro r w4 ⟨rfl, h4⟩
  have M1 := Lib.hid (blk_on h4 N1.out)
  have M2 := Lib.hid (blk_on h4 N2.out)
  have M3 := Lib.hid (blk_on h4 N3.out)
  have B4 := Lib.hid (below_on B3.out h4)
  clear h4 i0 i1 i2 i3 i4 i5 N1 N2 N3 B3
  obtain ⟨c0, c1, c2, c3, c4, c5, c6, c7, c8, c9⟩ := cells10 M1.out
  go_wp2_with fail
  refine (HC.out w4 (HS0.out.below B4.out)).mono ?_
  rintro r w5 ⟨bo, bc, rfl, o5, h5⟩
  obtain ⟨w6, e6⟩ : ∃ w6, w6 = w5.alloc (.cells (cx10 p r0 r1 r2 r3 r4 r5 r6 r7 (.slice bo l.length bc)) 26) := ⟨_, rfl⟩
  obtain ⟨s6, n6, b6⟩ := new_size e6
  obtain ⟨G, hG⟩ : ∃ G, w5.heap.size = G := ⟨_, rfl⟩
  rw [hG] at n6
  have b46 := below_on h5 b6
  have P1 := Lib.hid (blk_on b46 M1.out)
  have P2 := Lib.hid (blk_on b46 M2.out)
  have P3 := Lib.hid (blk_on b46 M3.out)
  have B6 := Lib.hid (below_on B4.out b46)
  have hFG : F < G := by have := blk_lt (blk_on h5 M3.out); omega
  have X6 : Hid (Cx w6 w.heap.size G bo bc ⟨p, [r0, r1, r2, r3, r4, r5, r6, r7], l⟩) := Lib.hid ⟨HFit.out, n6, by have := ZZ.out; omega, (o5.below b6).mono (Nat.le_trans B4.out.size (Nat.le_refl _)), fun q hq e => by
    subst hq
    have := (o5.lt q.block rfl).2
    omega⟩
  have OF := Lib.hid (show ∀ q, bo = some q → F < q.block from fun q hq => by
    subst hq
    have := (o5.lt q.block rfl).1
    have := blk_lt M3.out
    omega)
  have HG := Lib.hid hG
  have HFG := Lib.hid hFG
  clear s6 n6 b6 hG b46 hFG o5 h5 M1 M2 M3 B4 c0 c1 c2 c3 c4 c5 c6 c7 c8 c9 HC
  unfold cx10 at e6
  go_upto_region 4 with fail
  rw [← e6, HG.out]
  clear e6
  have xp := X6.out.at.pl
  have fz := froz10 X6.out.box 0
  obtain ⟨w7, e7⟩ : ∃ w7, w7 = w6.setCell ⟨G, 0, none⟩ (.int .i64 (wrap64 (p + 1))) := ⟨_, rfl⟩
  have X7 : Hid (Cx w7 w.heap.size G bo bc ⟨onward p, [r0, r1, r2, r3, r4, r5, r6, r7], l⟩) := Lib.hid (by rw [e7, onward_w]; exact X6.out.setP (onward_fits p).1 (onward_fits p).2)
  have on7 : Only w6 w7 (fun k => k = G) := by rw [e7]; exact Only.setCell w6 G 0 _ _ rfl
  have Q1 := Lib.hid ((on7.block D (blk_lt P1.out) (by have := ZZ.out; have := HFG.out; omega)).trans P1.out)
  have Q2 := Lib.hid ((on7.block E (blk_lt P2.out) (by have := ZZ.out; have := HFG.out; omega)).trans P2.out)
  have Q3 := Lib.hid ((on7.block F (blk_lt P3.out) (by have := ZZ.out; have := HFG.out; omega)).trans P3.out)
  have B7 : Hid (Below w.heap.size w w7) := Lib.hid (B6.out.trans (on7.below B6.out.size (fun k hk => by rw [hk]; exact X6.out.bb)))
  clear on7 P1 P2 P3 B6 X6
  go_upto_region 5 with fail
  rw [← e7]
  clear e7 xp fz
  obtain ⟨i0, i1, i2, i3, i4, i5⟩ := inscells Q2.out
  simp only at i0 i1 i2 i3 i4 i5
  have xp := X7.out.at.pl
  have fz := froz10 X7.out.box 0
  have dx := cxcells (x := ⟨p, [r0, r1, r2, r3, r4, r5, r6, r7], l⟩) HFit.out.rl (show w7.heap[D]? = some (cxO ⟨p, [r0, r1, r2, r3, r4, r5, r6, r7], l⟩ (.slice ao l.length cap)) from Q1.out)
  have xa := dx.reg a ha
  have ha0 : (0 : Int) ≤ (a : Int) := Int.natCast_nonneg _
  have ha8 : (a : Int) < 8 := by omega
  obtain ⟨s, hs⟩ : ∃ s, ([r0, r1, r2, r3, r4, r5, r6, r7] : List Nat).getD a 0 = s := ⟨_, rfl⟩
  have vs : s < 4294967296 := by rw [← hs]; exact HFit.out.reg (a : Int)
  have Hs := Lib.hid hs
  have Vs := Lib.hid vs
  rw [show (⟨p, [r0, r1, r2, r3, r4, r5, r6, r7], l⟩ : Ctx).regs.getD a 0 = s from hs] at xa
  clear dx hs vs
  have HZ := Lib.hid (Hs.out ▸ HZ.out)
  have hz : ((s : Int) == 0) = true := by have := (show decide (s = 0) = true from HZ.out); simp at this ⊢; omega
  have HK := Lib.hid hk
  clear ha
  obtain ⟨w8, e8⟩ : ∃ w8, w8 = w7 := ⟨_, rfl⟩
  have on8 : Only w7 w8 (cxS G bo) := by rw [e8]; exact Only.refl _ _
  have X8 : Hid (Cx w8 w.heap.size G bo bc ⟨yp, [q0, q1, q2, q3, q4, q5, q6, q7], ym⟩) := Lib.hid (by rw [HY.out, e8]; exact X7.out)
  have nF : ¬ cxS G bo F := by
    rintro (h | ⟨q, hq, h⟩)
    · have := HFG.out; omega
    · have := OF.out q hq; omega
  have K3 := Lib.hid ((on8.block F (blk_lt Q3.out) nF).trans Q3.out)
  have B8 : Hid (Below w.heap.size w w8) := Lib.hid (B7.out.trans (X7.out.belowB on8))
  clear on8 nF
  go_upto_region 31 with fail
  rw [← e8]
  clear e8
  clear i0 i1 i2 i3 i4 i5 xp fz hk xa hz
  obtain ⟨d0, d1, d2, d3, d4, d5, d6, d7, d8, d9⟩ := cells10 (show w8.heap[G]? = some (.cells (cx10 yp q0 q1 q2 q3 q4 q5 q6 q7 (.slice bo ym.length bc)) 26) from X8.out.box)
  obtain ⟨z0, z1, z2, z3, z4, z5, z6, z7, z8, z9⟩ := cells10 (p := 0) (r0 := 0) (r1 := 0) (r2 := 0) (r3 := 0) (r4 := 0) (r5 := 0) (r6 := 0) (r7 := 0) (v := .slice none 0 0) K3.out
  have gz := froz10' K3.out
  have g0 := gz 0
  have g1 := gz 1
  have g2 := gz 2
  have g3 := gz 3
  have g4 := gz 4
  have g5 := gz 5
  have g6 := gz 6
  have g7 := gz 7
  have g8 := gz 8
  have g9 := gz 9
  clear gz
  obtain ⟨w9, e9⟩ : ∃ w9, w9 = stN w8 F 0 (cx10 yp q0 q1 q2 q3 q4 q5 q6 q7 (.slice bo ym.length bc)).toList := ⟨_, rfl⟩
  have hF9 : w9.heap[F]? = some (.cells (cx10 yp q0 q1 q2 q3 q4 q5 q6 q7 (.slice bo ym.length bc)) 26) := by
    rw [e9]
    exact cx_stored _ _ _ _ _ _ _ _ _ _ K3.out rfl
  have on9 : Only w8 w9 (fun k => k = F) := by rw [e9]; exact stN_only _ _ _
  have B9 : Hid (Below w.heap.size w w9) := Lib.hid (B8.out.trans (on9.below B8.out.size (fun k hk => by rw [hk]; have := ZZ.out; omega)))
  have S9 := Lib.hid (X8.out.seen.only on9 (fun q hq e => by have := OF.out q hq; omega))
  have R9 := Lib.hid (show bo = ao ∨ RowW w9 bo from .inr (fun q hq => by
    cases hq
    obtain ⟨cs, hc⟩ := X8.out.mem.kind (k := q.block) rfl
    exact ⟨cs, (0, 0), (on9.block _ (blk_lt hc) (fun e => by have h9 : F < q.block := OF.out _ rfl; omega)).trans hc⟩))
  have F9 := Lib.hid hF9
  simp only [stN, cx10] at e9
  clear hF9 on9
  go_wp2_with fail
  rw [← e9]
  exact bodyPost_ret (ret_cxt rfl rfl F9.out) rfl ⟨_, _, rfl, S9.out, B9.out, R9.out⟩

set_option maxRecDepth 100000 in
set_option maxHeartbeats 8000000 in
theorem rdo_jnz_n (p : Int) (r0 r1 r2 r3 r4 r5 r6 r7 : Nat) (ao : Option Addr) (cap : Nat) (l : List Nat) (a : Nat) (b' c' d : Int) (k : Nat) (w : World) (hs : SeenW w ao cap l) (hn : l.length ≤ 1000000) (hfit : CtxFits ⟨p, [r0, r1, r2, r3, r4, r5, r6, r7], l⟩) (ha : a < 8) (hk : k < 4294967296) (hz : decide ([r0, r1, r2, r3, r4, r5, r6, r7].getD a 0 = 0) = false)
    (hf : formI ⟨19, a, b', c', d, k⟩ = 0) (yp : Int) (q0 q1 q2 q3 q4 q5 q6 q7 : Nat) (ym : List Nat) (hY : (⟨yp, [q0, q1, q2, q3, q4, q5, q6, q7], ym⟩ : Ctx) = ⟨k, [r0, r1, r2, r3, r4, r5, r6, r7], l⟩) :
    Calls Tryd.prog 12 #[.agg (cx10 p r0 r1 r2 r3 r4 r5 r6 r7 (.slice ao l.length cap)), insV ⟨19, a, b', c', d, k⟩] w fun r w' => ∃ bo bc, r = .returned (.tuple #[.agg (cx10 yp q0 q1 q2 q3 q4 q5 q6 q7 (.slice bo ym.length bc)), .int .i64 0]) ∧ SeenW w' bo bc ym ∧ Below w.heap.size w w' ∧ (bo = ao ∨ RowW w' bo) := by
  obtain ⟨w1, e1⟩ : ∃ w1, w1 = w.alloc (.cells (cx10 p r0 r1 r2 r3 r4 r5 r6 r7 (.slice ao l.length cap)) 26) := ⟨_, rfl⟩
  obtain ⟨s1, n1, b1⟩ := new_size e1
  obtain ⟨w2, e2⟩ : ∃ w2, w2 = w1.alloc (insO ⟨19, a, b', c', d, k⟩) := ⟨_, rfl⟩
  obtain ⟨s2, n2, b2⟩ := new_size e2
  obtain ⟨w3, e3⟩ : ∃ w3, w3 = w2.alloc (.cells cxZ 26) := ⟨_, rfl⟩
  obtain ⟨s3, n3, b3⟩ := new_size e3
  have n1' := blk_on b3 (blk_on b2 n1)
  have n2' := blk_on b3 n2
  obtain ⟨D, hD⟩ : ∃ D, w.heap.size = D := ⟨_, rfl⟩
  obtain ⟨E, hE⟩ : ∃ E, D + 1 = E := ⟨_, rfl⟩
  obtain ⟨F, hF⟩ : ∃ F, E + 1 = F := ⟨_, rfl⟩
  rw [hD] at n1'
  rw [s1, hD, hE] at n2'
  rw [s2, s1, hD, hE, hF] at n3
  have b13 := below_on (below_on b1 b2) b3
  have B3 := Lib.hid b13
  have HS0 := Lib.hid hs
  have N1 := Lib.hid n1'
  have N2 := Lib.hid n2'
  have N3 := Lib.hid n3
  have ZZ := Lib.hid (show w.heap.size = D ∧ D + 1 = E ∧ E + 1 = F from ⟨hD, hE, hF⟩)
  have HD := Lib.hid hD
  have HE := Lib.hid (show D + 1 = E from hE)
  have HF := Lib.hid (show E + 1 = F from hF)
  have Hn := Lib.hid hn
  have Hf := Lib.hid (hf ▸ riform_any ⟨19, a, b', c', d, k⟩ w3)
  have HZ := Lib.hid hz
  clear hz
  have HFit := Lib.hid hfit
  have HC := Lib.hid (fun w' h' => rcopy_walk p r0 r1 r2 r3 r4 r5 r6 r7 ao cap l w' h' hn)
  have HY := Lib.hid hY
  clear s1 n1 b1 s2 n2 b2 s3 n3 b3 b13 n1' n2' hD hE hF hs hn hf hfit hY
  obtain ⟨i0, i1, i2, i3, i4, i5⟩ := inscells N2.out
  unfold insO at e2
  unfold insV at *
  unfold cx10 at e1 HC
  unfold cxZ at e3
  simp only at i0 i1 i2 i3 i4 i5
  unfold cx10
  go_enter Tryd.func12, Tryd.ntmps12
  go_upto_region 1 with fail
  rw [← e1, HD.out, ← e2, HE.out, ← e3, HF.out]
  clear e1 e2 e3
  go_wp2_with fail
  refine Hf.out.mono ?_
  rintro r w4 ⟨rfl, h4⟩
  have M1 := Lib.hid (blk_on h4 N1.out)
  have M2 := Lib.hid (blk_on h4 N2.out)
  have M3 := Lib.hid (blk_on h4 N3.out)
  have B4 := Lib.hid (below_on B3.out h4)
  clear h4 i0 i1 i2 i3 i4 i5 N1 N2 N3 B3
  obtain ⟨c0, c1, c2, c3, c4, c5, c6, c7, c8, c9⟩ := cells10 M1.out
  go_wp2_with fail
  refine (HC.out w4 (HS0.out.below B4.out)).mono ?_
  rintro r w5 ⟨bo, bc, rfl, o5, h5⟩
  obtain ⟨w6, e6⟩ : ∃ w6, w6 = w5.alloc (.cells (cx10 p r0 r1 r2 r3 r4 r5 r6 r7 (.slice bo l.length bc)) 26) := ⟨_, rfl⟩
  obtain ⟨s6, n6, b6⟩ := new_size e6
  obtain ⟨G, hG⟩ : ∃ G, w5.heap.size = G := ⟨_, rfl⟩
  rw [hG] at n6
  have b46 := below_on h5 b6
  have P1 := Lib.hid (blk_on b46 M1.out)
  have P2 := Lib.hid (blk_on b46 M2.out)
  have P3 := Lib.hid (blk_on b46 M3.out)
  have B6 := Lib.hid (below_on B4.out b46)
  have hFG : F < G := by have := blk_lt (blk_on h5 M3.out); omega
  have X6 : Hid (Cx w6 w.heap.size G bo bc ⟨p, [r0, r1, r2, r3, r4, r5, r6, r7], l⟩) := Lib.hid ⟨HFit.out, n6, by have := ZZ.out; omega, (o5.below b6).mono (Nat.le_trans B4.out.size (Nat.le_refl _)), fun q hq e => by
    subst hq
    have := (o5.lt q.block rfl).2
    omega⟩
  have OF := Lib.hid (show ∀ q, bo = some q → F < q.block from fun q hq => by
    subst hq
    have := (o5.lt q.block rfl).1
    have := blk_lt M3.out
    omega)
  have HG := Lib.hid hG
  have HFG := Lib.hid hFG
  clear s6 n6 b6 hG b46 hFG o5 h5 M1 M2 M3 B4 c0 c1 c2 c3 c4 c5 c6 c7 c8 c9 HC
  unfold cx10 at e6
  go_upto_region 4 with fail
  rw [← e6, HG.out]
  clear e6
  have xp := X6.out.at.pl
  have fz := froz10 X6.out.box 0
  obtain ⟨w7, e7⟩ : ∃ w7, w7 = w6.setCell ⟨G, 0, none⟩ (.int .i64 (wrap64 (p + 1))) := ⟨_, rfl⟩
  have X7 : Hid (Cx w7 w.heap.size G bo bc ⟨onward p, [r0, r1, r2, r3, r4, r5, r6, r7], l⟩) := Lib.hid (by rw [e7, onward_w]; exact X6.out.setP (onward_fits p).1 (onward_fits p).2)
  have on7 : Only w6 w7 (fun k => k = G) := by rw [e7]; exact Only.setCell w6 G 0 _ _ rfl
  have Q1 := Lib.hid ((on7.block D (blk_lt P1.out) (by have := ZZ.out; have := HFG.out; omega)).trans P1.out)
  have Q2 := Lib.hid ((on7.block E (blk_lt P2.out) (by have := ZZ.out; have := HFG.out; omega)).trans P2.out)
  have Q3 := Lib.hid ((on7.block F (blk_lt P3.out) (by have := ZZ.out; have := HFG.out; omega)).trans P3.out)
  have B7 : Hid (Below w.heap.size w w7) := Lib.hid (B6.out.trans (on7.below B6.out.size (fun k hk => by rw [hk]; exact X6.out.bb)))
  clear on7 P1 P2 P3 B6 X6
  go_upto_region 5 with fail
  rw [← e7]
  clear e7 xp fz
  obtain ⟨i0, i1, i2, i3, i4, i5⟩ := inscells Q2.out
  simp only at i0 i1 i2 i3 i4 i5
  have xp := X7.out.at.pl
  have fz := froz10 X7.out.box 0
  have dx := cxcells (x := ⟨p, [r0, r1, r2, r3, r4, r5, r6, r7], l⟩) HFit.out.rl (show w7.heap[D]? = some (cxO ⟨p, [r0, r1, r2, r3, r4, r5, r6, r7], l⟩ (.slice ao l.length cap)) from Q1.out)
  have xa := dx.reg a ha
  have ha0 : (0 : Int) ≤ (a : Int) := Int.natCast_nonneg _
  have ha8 : (a : Int) < 8 := by omega
  obtain ⟨s, hs⟩ : ∃ s, ([r0, r1, r2, r3, r4, r5, r6, r7] : List Nat).getD a 0 = s := ⟨_, rfl⟩
  have vs : s < 4294967296 := by rw [← hs]; exact HFit.out.reg (a : Int)
  have Hs := Lib.hid hs
  have Vs := Lib.hid vs
  rw [show (⟨p, [r0, r1, r2, r3, r4, r5, r6, r7], l⟩ : Ctx).regs.getD a 0 = s from hs] at xa
  clear dx hs vs
  have HZ := Lib.hid (Hs.out ▸ HZ.out)
  have hz : ((s : Int) == 0) = false := by have := (show decide (s = 0) = false from HZ.out); simp at this ⊢; omega
  have HK := Lib.hid hk
  clear ha
  obtain ⟨w8, e8⟩ : ∃ w8, w8 = w7.setCell ⟨G, 0, none⟩ (.int .i64 (k : Int)) := ⟨_, rfl⟩
  have on8 : Only w7 w8 (cxS G bo) := by rw [e8]; exact Only.setCell w7 _ _ _ _ (.inl rfl)
  have X8 : Hid (Cx w8 w.heap.size G bo bc ⟨yp, [q0, q1, q2, q3, q4, q5, q6, q7], ym⟩) := Lib.hid (by rw [HY.out, e8]; exact X7.out.setP (by omega) (by have := HK.out; omega))
  have nF : ¬ cxS G bo F := by
    rintro (h | ⟨q, hq, h⟩)
    · have := HFG.out; omega
    · have := OF.out q hq; omega
  have K3 := Lib.hid ((on8.block F (blk_lt Q3.out) nF).trans Q3.out)
  have B8 : Hid (Below w.heap.size w w8) := Lib.hid (B7.out.trans (X7.out.belowB on8))
  clear on8 nF
  go_upto_region 31 with fail
  rw [← e8]
  clear e8
  clear i0 i1 i2 i3 i4 i5 xp fz hk xa hz
  obtain ⟨d0, d1, d2, d3, d4, d5, d6, d7, d8, d9⟩ := cells10 (show w8.heap[G]? = some (.cells (cx10 yp q0 q1 q2 q3 q4 q5 q6 q7 (.slice bo ym.length bc)) 26) from X8.out.box)
  obtain ⟨z0, z1, z2, z3, z4, z5, z6, z7, z8, z9⟩ := cells10 (p := 0) (r0 := 0) (r1 := 0) (r2 := 0) (r3 := 0) (r4 := 0) (r5 := 0) (r6 := 0) (r7 := 0) (v := .slice none 0 0) K3.out
  have gz := froz10' K3.out
  have g0 := gz 0
  have g1 := gz 1
  have g2 := gz 2
  have g3 := gz 3
  have g4 := gz 4
  have g5 := gz 5
  have g6 := gz 6
  have g7 := gz 7
  have g8 := gz 8
  have g9 := gz 9
  clear gz
  obtain ⟨w9, e9⟩ : ∃ w9, w9 = stN w8 F 0 (cx10 yp q0 q1 q2 q3 q4 q5 q6 q7 (.slice bo ym.length bc)).toList := ⟨_, rfl⟩
  have hF9 : w9.heap[F]? = some (.cells (cx10 yp q0 q1 q2 q3 q4 q5 q6 q7 (.slice bo ym.length bc)) 26) := by
    rw [e9]
    exact cx_stored _ _ _ _ _ _ _ _ _ _ K3.out rfl
  have on9 : Only w8 w9 (fun k => k = F) := by rw [e9]; exact stN_only _ _ _
  have B9 : Hid (Below w.heap.size w w9) := Lib.hid (B8.out.trans (on9.below B8.out.size (fun k hk => by rw [hk]; have := ZZ.out; omega)))
  have S9 := Lib.hid (X8.out.seen.only on9 (fun q hq e => by have := OF.out q hq; omega))
  have R9 := Lib.hid (show bo = ao ∨ RowW w9 bo from .inr (fun q hq => by
    cases hq
    obtain ⟨cs, hc⟩ := X8.out.mem.kind (k := q.block) rfl
    exact ⟨cs, (0, 0), (on9.block _ (blk_lt hc) (fun e => by have h9 : F < q.block := OF.out _ rfl; omega)).trans hc⟩))
  have F9 := Lib.hid hF9
  simp only [stN, cx10] at e9
  clear hF9 on9
  go_wp2_with fail
  rw [← e9]
  exact bodyPost_ret (ret_cxt rfl rfl F9.out) rfl ⟨_, _, rfl, S9.out, B9.out, R9.out⟩

set_option maxRecDepth 100000 in
set_option maxHeartbeats 8000000 in
theorem rdo_work (p : Int) (r0 r1 r2 r3 r4 r5 r6 r7 : Nat) (ao : Option Addr) (cap : Nat) (l : List Nat) (a' b' c' d : Int) (k : Nat) (w : World) (hs : SeenW w ao cap l) (hn : l.length ≤ 1000000) (hfit : CtxFits ⟨p, [r0, r1, r2, r3, r4, r5, r6, r7], l⟩) 
    (hf : formI ⟨20, a', b', c', d, k⟩ = 0) (yp : Int) (q0 q1 q2 q3 q4 q5 q6 q7 : Nat) (ym : List Nat) (hY : (⟨yp, [q0, q1, q2, q3, q4, q5, q6, q7], ym⟩ : Ctx) = ⟨onward p, [r0, r1, r2, r3, r4, r5, r6, r7], l⟩) :
    Calls Tryd.prog 12 #[.agg (cx10 p r0 r1 r2 r3 r4 r5 r6 r7 (.slice ao l.length cap)), insV ⟨20, a', b', c', d, k⟩] w fun r w' => ∃ bo bc, r = .returned (.tuple #[.agg (cx10 yp q0 q1 q2 q3 q4 q5 q6 q7 (.slice bo ym.length bc)), .int .i64 0]) ∧ SeenW w' bo bc ym ∧ Below w.heap.size w w' ∧ (bo = ao ∨ RowW w' bo) := by
  obtain ⟨w1, e1⟩ : ∃ w1, w1 = w.alloc (.cells (cx10 p r0 r1 r2 r3 r4 r5 r6 r7 (.slice ao l.length cap)) 26) := ⟨_, rfl⟩
  obtain ⟨s1, n1, b1⟩ := new_size e1
  obtain ⟨w2, e2⟩ : ∃ w2, w2 = w1.alloc (insO ⟨20, a', b', c', d, k⟩) := ⟨_, rfl⟩
  obtain ⟨s2, n2, b2⟩ := new_size e2
  obtain ⟨w3, e3⟩ : ∃ w3, w3 = w2.alloc (.cells cxZ 26) := ⟨_, rfl⟩
  obtain ⟨s3, n3, b3⟩ := new_size e3
  have n1' := blk_on b3 (blk_on b2 n1)
  have n2' := blk_on b3 n2
  obtain ⟨D, hD⟩ : ∃ D, w.heap.size = D := ⟨_, rfl⟩
  obtain ⟨E, hE⟩ : ∃ E, D + 1 = E := ⟨_, rfl⟩
  obtain ⟨F, hF⟩ : ∃ F, E + 1 = F := ⟨_, rfl⟩
  rw [hD] at n1'
  rw [s1, hD, hE] at n2'
  rw [s2, s1, hD, hE, hF] at n3
  have b13 := below_on (below_on b1 b2) b3
  have B3 := Lib.hid b13
  have HS0 := Lib.hid hs
  have N1 := Lib.hid n1'
  have N2 := Lib.hid n2'
  have N3 := Lib.hid n3
  have ZZ := Lib.hid (show w.heap.size = D ∧ D + 1 = E ∧ E + 1 = F from ⟨hD, hE, hF⟩)
  have HD := Lib.hid hD
  have HE := Lib.hid (show D + 1 = E from hE)
  have HF := Lib.hid (show E + 1 = F from hF)
  have Hn := Lib.hid hn
  have Hf := Lib.hid (hf ▸ riform_any ⟨20, a', b', c', d, k⟩ w3)
  have HFit := Lib.hid hfit
  have HC := Lib.hid (fun w' h' => rcopy_walk p r0 r1 r2 r3 r4 r5 r6 r7 ao cap l w' h' hn)
  have HY := Lib.hid hY
  clear s1 n1 b1 s2 n2 b2 s3 n3 b3 b13 n1' n2' hD hE hF hs hn hf hfit hY
  obtain ⟨i0, i1, i2, i3, i4, i5⟩ := inscells N2.out
  unfold insO at e2
  unfold insV at *
  unfold cx10 at e1 HC
  unfold cxZ at e3
  simp only at i0 i1 i2 i3 i4 i5
  unfold cx10
  go_enter Tryd.func12, Tryd.ntmps12
  go_upto_region 1 with fail
  rw [← e1, HD.out, ← e2, HE.out, ← e3, HF.out]
  clear e1 e2 e3
  go_wp2_with fail
  refine Hf.out.mono ?_
  rintro r w4 ⟨rfl, h4⟩
  have M1 := Lib.hid (blk_on h4 N1.out)
  have M2 := Lib.hid (blk_on h4 N2.out)
  have M3 := Lib.hid (blk_on h4 N3.out)
  have B4 := Lib.hid (below_on B3.out h4)
  clear h4 i0 i1 i2 i3 i4 i5 N1 N2 N3 B3
  obtain ⟨c0, c1, c2, c3, c4, c5, c6, c7, c8, c9⟩ := cells10 M1.out
  go_wp2_with fail
  refine (HC.out w4 (HS0.out.below B4.out)).mono ?_
  rintro r w5 ⟨bo, bc, rfl, o5, h5⟩
  obtain ⟨w6, e6⟩ : ∃ w6, w6 = w5.alloc (.cells (cx10 p r0 r1 r2 r3 r4 r5 r6 r7 (.slice bo l.length bc)) 26) := ⟨_, rfl⟩
  obtain ⟨s6, n6, b6⟩ := new_size e6
  obtain ⟨G, hG⟩ : ∃ G, w5.heap.size = G := ⟨_, rfl⟩
  rw [hG] at n6
  have b46 := below_on h5 b6
  have P1 := Lib.hid (blk_on b46 M1.out)
  have P2 := Lib.hid (blk_on b46 M2.out)
  have P3 := Lib.hid (blk_on b46 M3.out)
  have B6 := Lib.hid (below_on B4.out b46)
  have hFG : F < G := by have := blk_lt (blk_on h5 M3.out); omega
  have X6 : Hid (Cx w6 w.heap.size G bo bc ⟨p, [r0, r1, r2, r3, r4, r5, r6, r7], l⟩) := Lib.hid ⟨HFit.out, n6, by have := ZZ.out; omega, (o5.below b6).mono (Nat.le_trans B4.out.size (Nat.le_refl _)), fun q hq e => by
    subst hq
    have := (o5.lt q.block rfl).2
    omega⟩
  have OF := Lib.hid (show ∀ q, bo = some q → F < q.block from fun q hq => by
    subst hq
    have := (o5.lt q.block rfl).1
    have := blk_lt M3.out
    omega)
  have HG := Lib.hid hG
  have HFG := Lib.hid hFG
  clear s6 n6 b6 hG b46 hFG o5 h5 M1 M2 M3 B4 c0 c1 c2 c3 c4 c5 c6 c7 c8 c9 HC
  unfold cx10 at e6
  go_upto_region 4 with fail
  rw [← e6, HG.out]
  clear e6
  have xp := X6.out.at.pl
  have fz := froz10 X6.out.box 0
  obtain ⟨w7, e7⟩ : ∃ w7, w7 = w6.setCell ⟨G, 0, none⟩ (.int .i64 (wrap64 (p + 1))) := ⟨_, rfl⟩
  have X7 : Hid (Cx w7 w.heap.size G bo bc ⟨onward p, [r0, r1, r2, r3, r4, r5, r6, r7], l⟩) := Lib.hid (by rw [e7, onward_w]; exact X6.out.setP (onward_fits p).1 (onward_fits p).2)
  have on7 : Only w6 w7 (fun k => k = G) := by rw [e7]; exact Only.setCell w6 G 0 _ _ rfl
  have Q1 := Lib.hid ((on7.block D (blk_lt P1.out) (by have := ZZ.out; have := HFG.out; omega)).trans P1.out)
  have Q2 := Lib.hid ((on7.block E (blk_lt P2.out) (by have := ZZ.out; have := HFG.out; omega)).trans P2.out)
  have Q3 := Lib.hid ((on7.block F (blk_lt P3.out) (by have := ZZ.out; have := HFG.out; omega)).trans P3.out)
  have B7 : Hid (Below w.heap.size w w7) := Lib.hid (B6.out.trans (on7.below B6.out.size (fun k hk => by rw [hk]; exact X6.out.bb)))
  clear on7 P1 P2 P3 B6 X6
  go_upto_region 5 with fail
  rw [← e7]
  clear e7 xp fz
  obtain ⟨i0, i1, i2, i3, i4, i5⟩ := inscells Q2.out
  simp only at i0 i1 i2 i3 i4 i5
  obtain ⟨w8, e8⟩ : ∃ w8, w8 = w7 := ⟨_, rfl⟩
  have on8 : Only w7 w8 (cxS G bo) := by rw [e8]; exact Only.refl _ _
  have X8 : Hid (Cx w8 w.heap.size G bo bc ⟨yp, [q0, q1, q2, q3, q4, q5, q6, q7], ym⟩) := Lib.hid (by rw [HY.out, e8]; exact X7.out)
  have nF : ¬ cxS G bo F := by
    rintro (h | ⟨q, hq, h⟩)
    · have := HFG.out; omega
    · have := OF.out q hq; omega
  have K3 := Lib.hid ((on8.block F (blk_lt Q3.out) nF).trans Q3.out)
  have B8 : Hid (Below w.heap.size w w8) := Lib.hid (B7.out.trans (X7.out.belowB on8))
  clear on8 nF
  go_upto_region 31 with fail
  rw [← e8]
  clear e8
  clear i0 i1 i2 i3 i4 i5
  obtain ⟨d0, d1, d2, d3, d4, d5, d6, d7, d8, d9⟩ := cells10 (show w8.heap[G]? = some (.cells (cx10 yp q0 q1 q2 q3 q4 q5 q6 q7 (.slice bo ym.length bc)) 26) from X8.out.box)
  obtain ⟨z0, z1, z2, z3, z4, z5, z6, z7, z8, z9⟩ := cells10 (p := 0) (r0 := 0) (r1 := 0) (r2 := 0) (r3 := 0) (r4 := 0) (r5 := 0) (r6 := 0) (r7 := 0) (v := .slice none 0 0) K3.out
  have gz := froz10' K3.out
  have g0 := gz 0
  have g1 := gz 1
  have g2 := gz 2
  have g3 := gz 3
  have g4 := gz 4
  have g5 := gz 5
  have g6 := gz 6
  have g7 := gz 7
  have g8 := gz 8
  have g9 := gz 9
  clear gz
  obtain ⟨w9, e9⟩ : ∃ w9, w9 = stN w8 F 0 (cx10 yp q0 q1 q2 q3 q4 q5 q6 q7 (.slice bo ym.length bc)).toList := ⟨_, rfl⟩
  have hF9 : w9.heap[F]? = some (.cells (cx10 yp q0 q1 q2 q3 q4 q5 q6 q7 (.slice bo ym.length bc)) 26) := by
    rw [e9]
    exact cx_stored _ _ _ _ _ _ _ _ _ _ K3.out rfl
  have on9 : Only w8 w9 (fun k => k = F) := by rw [e9]; exact stN_only _ _ _
  have B9 : Hid (Below w.heap.size w w9) := Lib.hid (B8.out.trans (on9.below B8.out.size (fun k hk => by rw [hk]; have := ZZ.out; omega)))
  have S9 := Lib.hid (X8.out.seen.only on9 (fun q hq e => by have := OF.out q hq; omega))
  have R9 := Lib.hid (show bo = ao ∨ RowW w9 bo from .inr (fun q hq => by
    cases hq
    obtain ⟨cs, hc⟩ := X8.out.mem.kind (k := q.block) rfl
    exact ⟨cs, (0, 0), (on9.block _ (blk_lt hc) (fun e => by have h9 : F < q.block := OF.out _ rfl; omega)).trans hc⟩))
  have F9 := Lib.hid hF9
  simp only [stN, cx10] at e9
  clear hF9 on9
  go_wp2_with fail
  rw [← e9]
  exact bodyPost_ret (ret_cxt rfl rfl F9.out) rfl ⟨_, _, rfl, S9.out, B9.out, R9.out⟩

end Go.Proofs.YtoalgajbahlpjaaDoor
