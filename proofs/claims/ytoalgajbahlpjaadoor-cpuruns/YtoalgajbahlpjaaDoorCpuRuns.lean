/-
  CpuRuns: for every context, every program and every number the statement's function answers true: a program does just what its instructions do one by one, as many as may be, up to the first that is refused (contexts and programs beyond the statement's own bounds are let go by the statement itself). Conditions: none beyond the card's own: the listed package variables start as the program's text lays them, which the card ties to that text.
-/
import Derived.Test.YtoalgajbahlpjaaDoorCpAw
import Derived.Test.YtoalgajbahlpjaaDoorCpR
import Derived.Test.YtoalgajbahlpjaaDoorCpO
import Derived.Test.YtoalgajbahlpjaaDoorIsLw
import Derived.Test.YtoalgajbahlpjaaDoorRel4
import Derived.Test.YtoalgajbahlpjaaDoorTie
import Derived.Test.YtoalgajbahlpjaaDoorCards
import Derived.ProofKit
import Derived.OpenShut
import Derived.ShutString
import Derived.LaidMore
import Derived.Lay
import Derived.SevenTiedAt
import Derived.Stop.Joined
import Derived.Deep.DeepHandedRow
import Derived.BigRegion
import Derived.Deep.RegionWith
import Derived.Deep.DeepCutAuto
namespace Go.Proofs.YtoalgajbahlpjaaDoor.CpuRuns
open Go.ChangeShapes Go.WideShapes Go.ChangeAt Go.RowKit
open Go.ChangeMaps (open_string shut_string)
set_option linter.unusedVariables false
set_option linter.unusedSimpArgs false

set_option maxRecDepth 100000 in
set_option maxHeartbeats 16000000 in
theorem walk_at (p : Int) (r0 r1 r2 r3 r4 r5 r6 r7 : Nat) (ao : Option Addr) (cap : Nat) (l : List Nat) (code : List Ins) (aoc : Option Addr) (capc : Nat) (most mi : Int) (z : Bool) (M N : Nat) (ε : Int) (Yf : Ctx) {w : World}
    (HA : Hid (∀ w', IsL w' → Calls Tryd.prog 8 #[] w' fun r w'' => r = .returned (.bool true) ∧ Below w'.heap.size w' w''))
    (HG : Hid (∀ w', SeenW w' ao cap l → Calls Tryd.prog 9 #[.agg (cx10 p r0 r1 r2 r3 r4 r5 r6 r7 (.slice ao l.length cap))] w' fun r w'' => r = .returned (.bool z) ∧ Below w'.heap.size w' w''))
    (HSm : Hid (z = false → l.length ≤ 300)) (HFit : Hid (CtxFits ⟨p, [r0, r1, r2, r3, r4, r5, r6, r7], l⟩))
    (hmi : (if (300 : Int) < most then 300 else most) = mi) (hm3 : mi ≤ 300) (hM : M = mi.toNat) (hq : runE code M ⟨p, [r0, r1, r2, r3, r4, r5, r6, r7], l⟩ = (N, Yf, ε)) (hcs : SeenI w aoc capc code) (HCF : Hid (∀ i ∈ code, InsFits i))
    (hs : SeenW w ao cap l) (hL : IsL w) : Calls Tryd.prog 4 #[.agg (cx10 p r0 r1 r2 r3 r4 r5 r6 r7 (.slice ao l.length cap)), .slice aoc code.length capc, .int .i64 most] w fun r w' => r = .returned (.bool true) ∧ Below w.heap.size w w' := by
  obtain ⟨w1, e1⟩ : ∃ w1, w1 = w.alloc (.cells (cx10 p r0 r1 r2 r3 r4 r5 r6 r7 (.slice ao l.length cap)) 26) := ⟨_, rfl⟩
  obtain ⟨s1, n1, b1⟩ := new_size e1
  obtain ⟨D, hD⟩ : ∃ D, w.heap.size = D := ⟨_, rfl⟩
  rw [hD] at n1
  have B2 := Lib.hid b1
  have N1 := Lib.hid n1
  have HD := Lib.hid hD
  have HL := Lib.hid hL
  have HS0 := Lib.hid hs
  have HCS := Lib.hid hcs
  have ZZ := Lib.hid hD
  have HM := Lib.hid hM
  have HQ := Lib.hid hq
  have hmx := hcs.mx
  unfold maxLen at hmx
  have KA : Hid (∀ w', Below w.heap.size w w' → Calls Tryd.prog 8 #[] w' fun r w'' => r = .returned (.bool true) ∧ Below w'.heap.size w' w'') := Lib.hid (fun w' h => HA.out w' (HL.out.below h))
  have HC := Lib.hid (fun hz w' h' => rcopy_walk p r0 r1 r2 r3 r4 r5 r6 r7 ao cap l w' h' (by have := HSm.out hz; omega))
  clear s1 n1 b1 hD hL hs HA hcs hM hq
  unfold cx10 at e1 HG HC
  unfold cx10
  go_enter Tryd.func4, Tryd.ntmps4
  go_upto_region 1 with fail
  rw [← e1, HD.out]
  clear e1
  go_wp2_with fail
  refine (KA.out w1 B2.out).mono ?_
  rintro r w3 ⟨rfl, h⟩
  have B3 := Lib.hid (below_on B2.out h)
  have M1 := Lib.hid (blk_on h N1.out)
  clear h N1
  obtain ⟨c0, c1, c2, c3, c4, c5, c6, c7, c8, c9⟩ := cells10 M1.out
  go_wp2_with fail
  refine (HG.out w3 (HS0.out.below B3.out)).mono ?_
  rintro r w4 ⟨rfl, h⟩
  have B4 := Lib.hid (below_on B3.out h)
  have P1 := Lib.hid (blk_on h M1.out)
  clear h M1 c0 c1 c2 c3 c4 c5 c6 c7 c8 c9
  cases z
  case true =>
    go_wp2_with fail
    refine (KA.out w4 B4.out).mono ?_
    rintro r wz ⟨rfl, h⟩
    have BZ := Lib.hid (below_on B4.out h)
    clear h
    go_wp2_with fail
    go_ret
    exact ⟨rfl, BZ.out⟩
  case false =>
  replace HC := Lib.hid (HC.out rfl)
  replace HSm := Lib.hid (HSm.out rfl)
  by_cases hlong : 300 < code.length
  · have hlong' : decide ((300 : Int) < (code.length : Int)) = true := by simp; omega
    go_wp2_with fail
    refine (KA.out w4 B4.out).mono ?_
    rintro r wz ⟨rfl, h⟩
    have BZ := Lib.hid (below_on B4.out h)
    clear h
    go_wp2_with fail
    go_ret
    exact ⟨rfl, BZ.out⟩
  have hshort : decide ((300 : Int) < (code.length : Int)) = false := by simp; omega
  have HLn := Lib.hid (show code.length ≤ 300 by omega)

  obtain ⟨c0, c1, c2, c3, c4, c5, c6, c7, c8, c9⟩ := cells10 P1.out
  go_wp2_with fail
  refine (HC.out w4 (HS0.out.below B4.out)).mono ?_
  rintro r w5 ⟨bo, bc, rfl, o5, h5⟩
  obtain ⟨w6, e6⟩ : ∃ w6, w6 = w5.alloc (.cells (cx10 p r0 r1 r2 r3 r4 r5 r6 r7 (.slice bo l.length bc)) 26) := ⟨_, rfl⟩
  obtain ⟨s6, n6, b6⟩ := new_size e6
  obtain ⟨G, hG⟩ : ∃ G, w5.heap.size = G := ⟨_, rfl⟩
  rw [hG] at n6
  have b46 := below_on h5 b6
  have Q1 := Lib.hid (blk_on b46 P1.out)
  have B6 := Lib.hid (below_on B4.out b46)
  have OF := Lib.hid (show w4.heap.size ≤ G ∧ ∀ q, bo = some q → w4.heap.size ≤ q.block from ⟨by rw [← hG]; exact h5.size, fun q hq => by
    subst hq
    exact (o5.lt q.block rfl).1⟩)
  have X6 : Hid (Cx w6 w.heap.size G bo bc ⟨p, [r0, r1, r2, r3, r4, r5, r6, r7], l⟩) := Lib.hid ⟨HFit.out, n6, Nat.le_trans B4.out.size OF.out.1, (o5.below b6).mono B4.out.size, fun q hq e => by
    subst hq
    have := (o5.lt q.block rfl).2
    omega⟩
  have HG' := Lib.hid hG
  clear s6 n6 b6 hG b46 o5 h5 c0 c1 c2 c3 c4 c5 c6 c7 c8 c9 HC
  unfold cx10 at e6
  go_upto_region 5 with fail
  rw [← e6, HG'.out]
  clear e6
  obtain ⟨w7, e7⟩ : ∃ w7, w7 = w6.alloc (.cells #[] 28) := ⟨_, rfl⟩
  obtain ⟨s7, -, b7⟩ := new_size e7
  obtain ⟨H, hH⟩ : ∃ H, w6.heap.size = H := ⟨_, rfl⟩
  have O7 := Lib.hid (show OwnN w7 H (.slice (some ⟨H, 0, none⟩) 0 0) [] by rw [← hH, e7]; exact World.ownsRow_lit w6 #[] 0 (Nat.le_refl _) (by decide) rfl)
  have X7 := Lib.hid (X6.out.below b7)
  have B7 := Lib.hid (below_on B6.out b7)
  have Q7 := Lib.hid (blk_on b7 Q1.out)
  have S7 := Lib.hid (HCS.out.below B7.out)
  have Z7 := Lib.hid (show H ≤ w7.heap.size by omega)
  have GH := Lib.hid (show G < H ∧ (∀ q, bo = some q → q.block < H) ∧ D < H from ⟨by rw [← hH]; exact X6.out.lt, fun q hq => by subst hq; rw [← hH]; exact X6.out.row.2.1, by rw [← hH]; exact blk_lt Q1.out⟩)
  have HH := Lib.hid hH
  clear s7 b7 hH X6 B6 Q1
  go_wp2_with (at_builtin; rw [← e7, HH.out]; refine wpList_copyI rfl _ _ rfl H _ rfl O7.out aoc capc code rfl S7.out (by have := HLn.out; omega) Z7.out ?_)
  intro v8 w8 o8 g8
  rw [← e7] at g8
  clear e7
  have b8 : Below H w7 w8 := ⟨g8.os, g8.tape, g8.output, g8.size, fun k hk => g8.block k (by have := Z7.out; omega) (by simp [Value.ownBlock]; omega)⟩
  obtain ⟨aod, capd, rfl, hcd, hbd⟩ := o8.seen
  have X8 : Hid (Cx w8 w.heap.size G bo bc ⟨p, [r0, r1, r2, r3, r4, r5, r6, r7], l⟩) := Lib.hid (X7.out.only (S := fun k => H ≤ k) ⟨b8.os, b8.tape, b8.output, b8.size, fun k _ hn => b8.block k (by simpa using hn)⟩ (by have := GH.out.1; omega) (fun q hq => by have := GH.out.2.1 q hq; omega))
  have B8 : Hid (Below w.heap.size w w8) := Lib.hid ⟨b8.os.trans B7.out.os, b8.tape.trans B7.out.tape, b8.output.trans B7.out.output, Nat.le_trans B7.out.size b8.size, fun k hk => (b8.block k (by have := GH.out.2.2; have := ZZ.out; omega)).trans (B7.out.block k hk)⟩
  have Q8 := Lib.hid ((b8.block D GH.out.2.2).trans Q7.out)
  have nD : ¬ cxS G bo D := by
    have h2 := OF.out
    have h1 := blk_lt P1.out
    rintro (h | ⟨q, hq, h⟩)
    · have := h2.1; omega
    · have := h2.2 q hq; omega
  have HRun := Lib.hid (crun_any code aod capd mi w8 (HL.out.below B8.out) w.heap.size G bc bo _ X8.out HL.out.lt (by omega) hcd (fun a ha _ => by
    have h1 := hbd a ha
    have h2 := GH.out
    rintro (h | ⟨q, hq, h⟩)
    · omega
    · have := h2.2.1 q hq; omega) HCF.out)
  rw [← HM.out, HQ.out] at HRun
  have ND := Lib.hid nD
  clear o8 g8 b8 hcd hbd O7 S7 Z7 X7 B7 Q7 nD P1
  go_wp2_with fail
  refine HRun.out.mono ?_
  rintro r w9 ⟨rfl, hx, ho⟩
  have X9 := Lib.hid hx
  have B9 := Lib.hid (B8.out.trans (X8.out.belowB ho))
  have Q9 := Lib.hid ((ho.block D (blk_lt Q8.out) ND.out).trans Q8.out)
  clear hx ho HRun X8 B8 Q8
  go_wp2_with fail
  have L0 := Lib.hid (show LpR w9 w9 D code M ⟨p, [r0, r1, r2, r3, r4, r5, r6, r7], l⟩ 0 0 ⟨p, [r0, r1, r2, r3, r4, r5, r6, r7], l⟩ ao cap from ⟨Only.refl _ _, Q9.out, ⟨HS0.out.below B9.out, fun a ha hm => .inl (by
    have := HS0.out.lt (List.length_pos_iff.2 hm) a ha
    have := ZZ.out
    omega)⟩, HFit.out, rfl, .inl ⟨rfl, came_start _ _ _⟩, Nat.zero_le _⟩)
  have XF := X9
  clear Q9
  go_loopw [10, 11] (fun x y wr => ∃ (kk : Int) (m : Nat) (xc : Ctx) (bx : Option Addr) (cx : Nat), x = .int .i64 kk ∧ y = .int .i64 m ∧ Hid (LpR w9 wr D code M ⟨p, [r0, r1, r2, r3, r4, r5, r6, r7], l⟩ kk m xc bx cx)) (fun x y _ => (if intOf x = 0 then 1 else 0) + (M - (intOf y).toNat))
  case atStart => exact ⟨0, 0, _, ao, cap, rfl, rfl, L0⟩
  clear L0
  case round =>
  obtain ⟨kk, m, xc, bx, cx, rfl, rfl, LR⟩ := hrel
  have hmM := LR.out.le
  obtain ⟨xp, xr, xm⟩ := xc
  obtain ⟨x0, x1, x2, x3, x4, x5, x6, x7, rfl⟩ := eight LR.out.fits.rl
  obtain ⟨c0, c1, c2, c3, c4, c5, c6, c7, c8, c9⟩ := cells10 (show wr.heap[D]? = some (.cells (cx10 xp x0 x1 x2 x3 x4 x5 x6 x7 (.slice bx xm.length cx)) 26) from LR.out.box)
  by_cases h1 : m < M
  case neg =>
    have hd1 : decide ((m : Int) < mi) = false := by have := HM.out; simp; omega
    have HR := Lib.hid (LR.out.out (.inr (.inl (by omega))))
    clear h1 hmM
    obtain ⟨eN, eR⟩ := Prod.mk.inj (HQ.out.symm.trans HR.out)
    obtain ⟨eY, eE⟩ := Prod.mk.inj eR
    subst eN
    subst eY
    subst eE
    have X := Lib.hid (XF.out.only LR.out.on (fun e => ND.out (.inl e.symm)) (fun q hq e => ND.out (.inr ⟨q, hq, e.symm⟩)))
    have BW : Hid (Below w.heap.size w wr) := Lib.hid (B9.out.trans (LR.out.on.below B9.out.size (fun k hk => by have := ZZ.out; omega)))
    have HSm2 := Lib.hid (rsame_walk xp x0 x1 x2 x3 x4 x5 x6 x7 bo bx bc cx xm wr X.out.seen LR.out.good.1)
    unfold cx10 at HSm2
    obtain ⟨d0, d1, d2, d3, d4, d5, d6, d7, d8, d9⟩ := cells10 (show wr.heap[G]? = some (.cells (cx10 xp x0 x1 x2 x3 x4 x5 x6 x7 (.slice bo xm.length bc)) 26) from X.out.box)
    clear HR HQ eR
    go_wp2_with fail
    refine HSm2.out.mono ?_
    rintro r wz ⟨rfl, h⟩
    have BZ := Lib.hid (below_on BW.out h)
    clear h c0 c1 c2 c3 c4 c5 c6 c7 c8 c9 d0 d1 d2 d3 d4 d5 d6 d7 d8 d9 hd1
    go_wp2_with fail
    go_ret
    exact ⟨rfl, BZ.out⟩
  have hd1 : (m : Int) < mi := by have := HM.out; omega
  by_cases h2 : 0 ≤ xp
  case neg =>
    have hd2 : decide (0 ≤ xp) = false := by simp; omega
    have HR := Lib.hid (LR.out.out (.inr (.inr (by simp only; omega))))
    clear h1 hmM h2
    obtain ⟨eN, eR⟩ := Prod.mk.inj (HQ.out.symm.trans HR.out)
    obtain ⟨eY, eE⟩ := Prod.mk.inj eR
    subst eN
    subst eY
    subst eE
    have X := Lib.hid (XF.out.only LR.out.on (fun e => ND.out (.inl e.symm)) (fun q hq e => ND.out (.inr ⟨q, hq, e.symm⟩)))
    have BW : Hid (Below w.heap.size w wr) := Lib.hid (B9.out.trans (LR.out.on.below B9.out.size (fun k hk => by have := ZZ.out; omega)))
    have HSm2 := Lib.hid (rsame_walk xp x0 x1 x2 x3 x4 x5 x6 x7 bo bx bc cx xm wr X.out.seen LR.out.good.1)
    unfold cx10 at HSm2
    obtain ⟨d0, d1, d2, d3, d4, d5, d6, d7, d8, d9⟩ := cells10 (show wr.heap[G]? = some (.cells (cx10 xp x0 x1 x2 x3 x4 x5 x6 x7 (.slice bo xm.length bc)) 26) from X.out.box)
    clear HR HQ eR
    go_wp2_with fail
    refine HSm2.out.mono ?_
    rintro r wz ⟨rfl, h⟩
    have BZ := Lib.hid (below_on BW.out h)
    clear h c0 c1 c2 c3 c4 c5 c6 c7 c8 c9 d0 d1 d2 d3 d4 d5 d6 d7 d8 d9 hd1 hd2
    go_wp2_with fail
    go_ret
    exact ⟨rfl, BZ.out⟩
  by_cases h3 : xp < (code.length : Int)
  case neg =>
    have hd3 : decide (xp < (code.length : Int)) = false := by simp; omega
    have HR := Lib.hid (LR.out.out (.inr (.inr (by simp only; omega))))
    clear h1 hmM h3
    obtain ⟨eN, eR⟩ := Prod.mk.inj (HQ.out.symm.trans HR.out)
    obtain ⟨eY, eE⟩ := Prod.mk.inj eR
    subst eN
    subst eY
    subst eE
    have X := Lib.hid (XF.out.only LR.out.on (fun e => ND.out (.inl e.symm)) (fun q hq e => ND.out (.inr ⟨q, hq, e.symm⟩)))
    have BW : Hid (Below w.heap.size w wr) := Lib.hid (B9.out.trans (LR.out.on.below B9.out.size (fun k hk => by have := ZZ.out; omega)))
    have HSm2 := Lib.hid (rsame_walk xp x0 x1 x2 x3 x4 x5 x6 x7 bo bx bc cx xm wr X.out.seen LR.out.good.1)
    unfold cx10 at HSm2
    obtain ⟨d0, d1, d2, d3, d4, d5, d6, d7, d8, d9⟩ := cells10 (show wr.heap[G]? = some (.cells (cx10 xp x0 x1 x2 x3 x4 x5 x6 x7 (.slice bo xm.length bc)) 26) from X.out.box)
    clear HR HQ eR
    go_wp2_with fail
    refine HSm2.out.mono ?_
    rintro r wz ⟨rfl, h⟩
    have BZ := Lib.hid (below_on BW.out h)
    clear h c0 c1 c2 c3 c4 c5 c6 c7 c8 c9 d0 d1 d2 d3 d4 d5 d6 d7 d8 d9 hd1 h2 hd3
    go_wp2_with fail
    go_ret
    exact ⟨rfl, BZ.out⟩
  by_cases h4 : kk = 0
  case neg =>
    have hd4 : (kk == 0) = false := by simp [h4]
    have HR := Lib.hid (LR.out.out (.inl h4))
    clear h1 hmM h4
    obtain ⟨eN, eR⟩ := Prod.mk.inj (HQ.out.symm.trans HR.out)
    obtain ⟨eY, eE⟩ := Prod.mk.inj eR
    subst eN
    subst eY
    subst eE
    have X := Lib.hid (XF.out.only LR.out.on (fun e => ND.out (.inl e.symm)) (fun q hq e => ND.out (.inr ⟨q, hq, e.symm⟩)))
    have BW : Hid (Below w.heap.size w wr) := Lib.hid (B9.out.trans (LR.out.on.below B9.out.size (fun k hk => by have := ZZ.out; omega)))
    have HSm2 := Lib.hid (rsame_walk xp x0 x1 x2 x3 x4 x5 x6 x7 bo bx bc cx xm wr X.out.seen LR.out.good.1)
    unfold cx10 at HSm2
    obtain ⟨d0, d1, d2, d3, d4, d5, d6, d7, d8, d9⟩ := cells10 (show wr.heap[G]? = some (.cells (cx10 xp x0 x1 x2 x3 x4 x5 x6 x7 (.slice bo xm.length bc)) 26) from X.out.box)
    clear HR HQ eR
    go_wp2_with fail
    refine HSm2.out.mono ?_
    rintro r wz ⟨rfl, h⟩
    have BZ := Lib.hid (below_on BW.out h)
    clear h c0 c1 c2 c3 c4 c5 c6 c7 c8 c9 d0 d1 d2 d3 d4 d5 d6 d7 d8 d9 hd1 h2 h3 hd4
    go_wp2_with fail
    go_ret
    exact ⟨rfl, BZ.out⟩
  subst h4
  obtain ⟨pp, rfl⟩ : ∃ pp : Nat, xp = (pp : Int) := ⟨xp.toNat, by omega⟩
  have hp : pp < code.length := by omega
  have HPl := Lib.hid hp
  have HI : code.getD ((pp : Int)).toNat ins0 = code[pp] := by rw [Int.toNat_natCast]; exact getD_at hp
  have hkI : code[pp].k < 4294967296 := (HCF.out _ (List.getElem_mem hp)).k
  have BW : Hid (Below w.heap.size w wr) := Lib.hid (B9.out.trans (LR.out.on.below B9.out.size (fun k hk => by have := ZZ.out; omega)))
  obtain ⟨g, off, rfl, hgW, -⟩ := HCS.out.at pp hp
  have HAI := Lib.hid (fun (u : World) (hu : Below w.heap.size w u) => (show AtI u g (off + pp * 6) code[pp] from by
    obtain ⟨g', off', e, -, h⟩ := (HCS.out.below hu).at pp hp
    cases e
    exact h))
  have hYr := (LR.out.fits.does (i := code[pp]) hkI).rl
  have hYl := doC_len ⟨(pp : Int), [x0, x1, x2, x3, x4, x5, x6, x7], xm⟩ code[pp]
  have LN := Lib.hid (fun (u : World) (bo' : Option Addr) (bc' : Nat) (hb : Below wr.heap.size wr u) => LR.out.next (u := u) (bo := bo') (bc := bc') h1 h2 h3 (by rw [HI]; exact hkI) hb)
  have hRD := fun (u : World) (hb : Below wr.heap.size wr u) => rdo_any ⟨(pp : Int), [x0, x1, x2, x3, x4, x5, x6, x7], xm⟩ code[pp] hkI bx cx u (LR.out.good.1.below hb) (by have := LR.out.len; have := HSm.out; simp only at *; omega) LR.out.fits
  rw [HI] at LN
  unfold RDo at hRD
  have h1' := Lib.hid h1
  generalize doE ⟨(pp : Int), [x0, x1, x2, x3, x4, x5, x6, x7], xm⟩ code[pp] = e at *
  generalize doC ⟨(pp : Int), [x0, x1, x2, x3, x4, x5, x6, x7], xm⟩ code[pp] = Y at *
  generalize code[pp] = I at *
  obtain ⟨yp, yr, ym⟩ := Y
  obtain ⟨q0, q1, q2, q3, q4, q5, q6, q7, rfl⟩ := eight hYr
  obtain ⟨op, a, b, c', d, q⟩ := I
  have HRD := Lib.hid (fun (u : World) (hb : Below wr.heap.size wr u) => show Calls Tryd.prog 12 #[.agg (cx10 (pp : Int) x0 x1 x2 x3 x4 x5 x6 x7 (.slice bx xm.length cx)), insV ⟨op, a, b, c', d, q⟩] u fun r w' => ∃ bo bc, r = .returned (.tuple #[.agg (cx10 yp q0 q1 q2 q3 q4 q5 q6 q7 (.slice bo ym.length bc)), .int .i64 e]) ∧ Good w' D ⟨yp, [q0, q1, q2, q3, q4, q5, q6, q7], ym⟩ bo bc ∧ Below u.heap.size u w' from
    (hRD u hb).mono fun r w' ⟨bo, bc, e1, e2, e3, e4⟩ => ⟨bo, bc, e1, good_of LR.out.good (below_on hb e3) hYl e2 e4, e3⟩)
  clear hRD hYl hYr HI hkI hgW
  unfold cx10 insV at HRD
  simp only at HRD
  have hpI : (pp : Int) < (code.length : Int) := by omega
  have hp0 : (0 : Int) ≤ (pp : Int) := Int.natCast_nonneg _
  clear h1 h2 h3 hmM hp
  go_upto_region 8 with fail
  clear c0 c1 c2 c3 c4 c5 c6 c7 c8 c9
  refine wp_region_effs [fun v _ => v = .agg (cx10 (pp : Int) x0 x1 x2 x3 x4 x5 x6 x7 (.slice bx xm.length cx)), fun v _ => v = .slice (some ⟨g, off, none⟩) code.length capc, fun v _ => v = .pointer (some ⟨D, 0, none⟩), fun v _ => v = .int .i64 (pp : Int), fun v _ => v = .pointer (some ⟨g, off + pp * 6, none⟩), fun v _ => v = insV ⟨op, a, b, c', d, q⟩, fun v u => ∃ bo bc, v = .tuple #[.agg (cx10 yp q0 q1 q2 q3 q4 q5 q6 q7 (.slice bo ym.length bc)), .int .i64 e] ∧ Good u D ⟨yp, [q0, q1, q2, q3, q4, q5, q6, q7], ym⟩ bo bc, fun v u => ∃ bo bc, v = .tuple #[.agg (cx10 yp q0 q1 q2 q3 q4 q5 q6 q7 (.slice bo ym.length bc)), .int .i64 e] ∧ Good u D ⟨yp, [q0, q1, q2, q3, q4, q5, q6, q7], ym⟩ bo bc, fun v u => ∃ bo bc, v = .agg (cx10 yp q0 q1 q2 q3 q4 q5 q6 q7 (.slice bo ym.length bc)) ∧ Good u D ⟨yp, [q0, q1, q2, q3, q4, q5, q6, q7], ym⟩ bo bc, fun v _ => v = .int .i64 e, fun v u => ∃ Fb, v = .pointer (some ⟨Fb, 0, none⟩) ∧ FBox u D Fb ∧ wr.heap.size ≤ Fb, fun _ _ => True, fun v _ => v = .int .i64 e]
    (fun u => Below wr.heap.size wr u) (StX D ⟨yp, [q0, q1, q2, q3, q4, q5, q6, q7], ym⟩) (fun j x u => j = 11 → ∃ Fb, x 12 = .pointer (some ⟨Fb, 0, none⟩) ∧ Held u D ⟨yp, [q0, q1, q2, q3, q4, q5, q6, q7], ym⟩ Fb ∧ wr.heap.size ≤ Fb) [(0, 58), (1, 59), (2, 60), (3, 61), (4, 62), (5, 63), (6, 64), (7, 57), (8, 65), (9, 66), (10, 12), (12, 13)] 13 (by kernel_rfl) (by kernel_rfl) (by kernel_rfl) (by kernel_rfl) ?hC ?hR ?hF ?hloc ?hs ?hf
  case hC => exact below_drew (Below.refl _ _)
  case hR =>
    intro j v u u' _ hg h
    rcases j with _ | _ | _ | _ | _ | _ | _ | _ | _ | _ | _ | _ | _ | j
    · exact h
    · exact h
    · exact h
    · exact h
    · exact h
    · exact h
    · obtain ⟨bo', bc', e1, h1⟩ := h; exact ⟨bo', bc', e1, h1.step hg⟩
    · obtain ⟨bo', bc', e1, h1⟩ := h; exact ⟨bo', bc', e1, h1.step hg⟩
    · obtain ⟨bo', bc', e1, h1⟩ := h; exact ⟨bo', bc', e1, h1.step hg⟩
    · exact h
    · obtain ⟨Fb, e1, h1, h2⟩ := h; exact ⟨Fb, e1, h1.step rfl hg, h2⟩
    · trivial
    · exact h
    · trivial
  case hF =>
    intro j x u u' _ hg h hj
    obtain ⟨Fb, e1, h1, h2⟩ := h hj
    exact ⟨Fb, e1, h1.step rfl hg, h2⟩
  case hloc =>
    intro j o x y u ho hd h hj
    subst hj
    obtain rfl := Option.some.inj ho
    obtain ⟨Fb, e1, h1, h2⟩ := h rfl
    exact ⟨Fb, (hd (10, 12) (List.elem_iff.1 (by kernel_rfl))).symm.trans e1, h1, h2⟩
  case hs =>
    refine stepsF_succ ?s12 (stepsF_succ ?s11 (stepsF_succ ?s10 (stepsF_succ ?s9 (stepsF_succ ?s8 (stepsF_succ ?s7 (stepsF_succ ?s6 (stepsF_succ ?s5 (stepsF_succ ?s4 (stepsF_succ ?s3 (stepsF_succ ?s2 (stepsF_succ ?s1 (stepsF_succ ?s0 (stepsF_zero)))))))))))))
    case s0 =>
      refine stepF0 rfl (by kernel_rfl) ?_
      rintro w' hC x   
      intro K hK
      obtain ⟨c0, c1, c2, c3, c4, c5, c6, c7, c8, c9⟩ := cells10 (show w'.heap[D]? = some (.cells (cx10 (pp : Int) x0 x1 x2 x3 x4 x5 x6 x7 (.slice bx xm.length cx)) 26) from blk_on hC LR.out.box)
      go_simp
      exact hK _ _ rfl ⟨rfl, hC, .inl (Below.refl _ _), fun h => absurd h (by decide)⟩
    case s1 =>
      refine stepF0 rfl (by kernel_rfl) ?_
      rintro w' hC x   
      intro K hK
      go_simp
      exact hK _ _ rfl ⟨rfl, hC, .inl (Below.refl _ _), fun h => absurd h (by decide)⟩
    case s2 =>
      refine stepF0 rfl (by kernel_rfl) ?_
      rintro w' hC x   
      intro K hK
      go_simp
      exact hK _ _ rfl ⟨rfl, hC, .inl (Below.refl _ _), fun h => absurd h (by decide)⟩
    case s3 =>
      refine stepF1 2 60 rfl (by kernel_rfl) ?_
      rintro w' hC x v1 - rfl
      intro K hK
      obtain ⟨c0, c1, c2, c3, c4, c5, c6, c7, c8, c9⟩ := cells10 (show w'.heap[D]? = some (.cells (cx10 (pp : Int) x0 x1 x2 x3 x4 x5 x6 x7 (.slice bx xm.length cx)) 26) from blk_on hC LR.out.box)
      go_simp
      exact hK _ _ rfl ⟨rfl, hC, .inl (Below.refl _ _), fun h => absurd h (by decide)⟩
    case s4 =>
      refine stepF2 1 59 3 61 rfl (by kernel_rfl) ?_
      rintro w' hC x v1 v2 - - rfl rfl
      intro K hK
      go_simp
      exact hK _ _ rfl ⟨rfl, hC, .inl (Below.refl _ _), fun h => absurd h (by decide)⟩
    case s5 =>
      refine stepF1 4 62 rfl (by kernel_rfl) ?_
      rintro w' hC x v1 - rfl
      intro K hK
      obtain ⟨i0, i1, i2, i3, i4, i5⟩ := HAI.out w' (below_on BW.out hC)
      simp only at i0 i1 i2 i3 i4 i5
      go_simp
      exact hK _ _ rfl ⟨rfl, hC, .inl (Below.refl _ _), fun h => absurd h (by decide)⟩
    case s6 =>
      refine stepF2 0 58 5 63 rfl (by kernel_rfl) ?_
      rintro w' hC x v1 v2 - - rfl rfl
      intro K hK
      unfold cx10 insV
      go_simp
      refine (HRD.out w' hC).mono ?_
      rintro r w2 ⟨bo', bc', rfl, hgd, hb2⟩
      exact hK _ _ rfl ⟨⟨bo', bc', rfl, hgd⟩, below_on hC hb2, .inl hb2, fun h => absurd h (by decide)⟩
    case s7 =>
      refine stepF1 6 64 rfl (by kernel_rfl) ?_
      rintro w' hC x v1 - ⟨bo', bc', rfl, hgd⟩
      intro K hK
      go_simp
      exact hK _ _ rfl ⟨⟨bo', bc', rfl, hgd⟩, hC, .inl (Below.refl _ _), fun h => absurd h (by decide)⟩
    case s8 =>
      refine stepF1 7 57 rfl (by kernel_rfl) ?_
      rintro w' hC x v1 - ⟨bo', bc', rfl, hgd⟩
      intro K hK
      go_simp
      exact hK _ _ rfl ⟨⟨bo', bc', rfl, hgd⟩, hC, .inl (Below.refl _ _), fun h => absurd h (by decide)⟩
    case s9 =>
      refine stepF1 7 57 rfl (by kernel_rfl) ?_
      rintro w' hC x v1 - ⟨bo', bc', rfl, hgd⟩
      intro K hK
      go_simp
      exact hK _ _ rfl ⟨rfl, hC, .inl (Below.refl _ _), fun h => absurd h (by decide)⟩
    case s10 =>
      refine stepF0 rfl (by kernel_rfl) ?_
      rintro w' hC x   
      intro K hK
      go_simp
      obtain ⟨wn, en⟩ : ∃ wn, wn = w'.alloc (.cells cxZ 26) := ⟨_, rfl⟩
      obtain ⟨sn, nn, bn⟩ := new_size en
      unfold cxZ at en
      rw [← en]
      exact hK _ _ rfl ⟨⟨_, rfl, ⟨Nat.le_trans (Nat.le_of_lt (blk_lt LR.out.box)) hC.size, _, rfl, nn⟩, hC.size⟩, below_on hC bn, .inl bn, fun h => absurd h (by decide)⟩
    case s11 =>
      refine stepF2 8 65 10 12 rfl (by kernel_rfl) ?_
      rintro w' hC x v1 v2 e1 e2 ⟨bo', bc', rfl, hgd⟩ ⟨Fb, rfl, hfb, hfl⟩
      intro K hK
      obtain ⟨cs, hcs, hbx, hcell, hfz⟩ := hfb.cells
      obtain ⟨u0, b0⟩ := hcell 0 (by decide)
      obtain ⟨u1, b1⟩ := hcell 1 (by decide)
      obtain ⟨u2, b2⟩ := hcell 2 (by decide)
      obtain ⟨u3, b3⟩ := hcell 3 (by decide)
      obtain ⟨u4, b4⟩ := hcell 4 (by decide)
      obtain ⟨u5, b5⟩ := hcell 5 (by decide)
      obtain ⟨u6, b6⟩ := hcell 6 (by decide)
      obtain ⟨u7, b7⟩ := hcell 7 (by decide)
      obtain ⟨u8, b8⟩ := hcell 8 (by decide)
      obtain ⟨u9, b9⟩ := hcell 9 (by decide)
      have f0 := hfz 0
      have f1 := hfz 1
      have f2 := hfz 2
      have f3 := hfz 3
      have f4 := hfz 4
      have f5 := hfz 5
      have f6 := hfz 6
      have f7 := hfz 7
      have f8 := hfz 8
      have f9 := hfz 9
      obtain ⟨wn, en⟩ : ∃ wn, wn = stX w' Fb ⟨yp, [q0, q1, q2, q3, q4, q5, q6, q7], ym⟩ bo' bc' := ⟨_, rfl⟩
      have hst := held_stored (y := ⟨yp, [q0, q1, q2, q3, q4, q5, q6, q7], ym⟩) rfl hfb hgd
      have hbw := stX_below (y := ⟨yp, [q0, q1, q2, q3, q4, q5, q6, q7], ym⟩) (bo := bo') (bc := bc') hC hfl
      rw [← en] at hst hbw
      have HST := Lib.hid hst
      have HBW := Lib.hid hbw
      have HX12 := Lib.hid e2
      have HFL := Lib.hid hfl
      replace en : wn = stN w' Fb 0 (cx10 yp q0 q1 q2 q3 q4 q5 q6 q7 (.slice bo' ym.length bc')).toList := en
      simp only [stN, cx10] at en
      clear hst hbw e1 e2 hcell hfz hbx hfb hgd hfl
      unfold cx10
      go_simp
      rw [← en]
      exact hK _ _ rfl ⟨trivial, HBW.out, HST.out.2, fun _ => ⟨Fb, HX12.out.symm, HST.out.1, HFL.out⟩⟩
    case s12 =>
      refine stepF1 9 66 rfl (by kernel_rfl) ?_
      rintro w' hC x v1 - rfl
      intro K hK
      go_simp
      exact hK _ _ rfl ⟨rfl, hC, .inl (Below.refl _ _), fun h => absurd h (by decide)⟩
  case hf =>
    intro u hC x hx hF
    obtain ⟨Fb, hx12, hheld, hFl⟩ := hF 11 (by decide) rfl
    have hx13 : x 13 = .int .i64 e := hx (12, 13) (by simp)
    simp only [putAll, List.foldl_cons, List.foldl_nil, hx12, hx13, Act.put, List.setIfInBounds_toArray, List.set_cons_succ, List.set_cons_zero]
    clear hx hF hx12 hx13
    obtain ⟨-, bo', bc', hFb, hgd⟩ := hheld
    have hlt := blk_lt LR.out.box
    have hne : Fb ≠ D := by omega
    have hne' : D ≠ Fb := by omega
    have LNx := LN.out u bo' bc' hC hgd
    obtain ⟨d0, d1, d2, d3, d4, d5, d6, d7, d8, d9⟩ := cells10 (show u.heap[Fb]? = some (.cells (cx10 yp q0 q1 q2 q3 q4 q5 q6 q7 (.slice bo' ym.length bc')) 26) from hFb)
    have hDb : u.heap[D]? = some (.cells (cx10 (pp : Int) x0 x1 x2 x3 x4 x5 x6 x7 (.slice bx xm.length cx)) 26) := blk_on hC LR.out.box
    obtain ⟨c0, c1, c2, c3, c4, c5, c6, c7, c8, c9⟩ := cells10 hDb
    have gz := froz10' hDb
    have g0 := gz 0
    have g1 := gz 1
    have g2 := gz 2
    have g3 := gz 3
    have g4 := gz 4
    have g5 := gz 5
    have g6 := gz 6
    have g7 := gz 7
    have g8 := gz 8
    have g9 := gz 9
    obtain ⟨wz, en⟩ : ∃ wz, wz = stX u D ⟨yp, [q0, q1, q2, q3, q4, q5, q6, q7], ym⟩ bo' bc' := ⟨_, rfl⟩
    rw [← en] at LNx
    replace en : wz = stN u D 0 (cx10 yp q0 q1 q2 q3 q4 q5 q6 q7 (.slice bo' ym.length bc')).toList := en
    simp only [stN, cx10] at en
    have HLN := Lib.hid LNx
    clear hDb gz hFb hgd LNx hlt hFl hC hpI hp0
    go_upto_region 11 with fail
    rw [← en]
    clear en c0 c1 c2 c3 c4 c5 c6 c7 c8 c9 d0 d1 d2 d3 d4 d5 d6 d7 d8 d9 g0 g1 g2 g3 g4 g5 g6 g7 g8 g9 hne hne'
    have hmm := h1'.out
    have hM3 : M ≤ 300 := by have := HM.out; omega
    by_cases he : e = 0
    · have HLN := Lib.hid (if_pos he ▸ HLN.out)
      subst he
      go_wp2_with fail
      go_roundw
      case rel => exact ⟨0, m + 1, _, bo', bc', rfl, by go_num, HLN⟩
      case measure => simp [intOf]; omega
    · have HLN := Lib.hid (if_neg he ▸ HLN.out)
      have he' : (e == 0) = false := by simp [he]
      go_wp2_with fail
      go_roundw
      case rel => exact ⟨e, m, _, bo', bc', rfl, rfl, HLN⟩
      case measure => simp [intOf, he]

theorem walk {w : World} (x : Ctx) (ao : Option Addr) (cap : Nat) (hw : SeenW w ao cap x.mem ∧ CtxFits x) (aoc : Option Addr) (len capc : Nat) (code : List Ins) (hc : code.length = len ∧ SeenI w aoc capc code ∧ ∀ e ∈ code, InsFits e) (most : Int) (_wf : (Lit.int .i64 most).wf = true) (hL : IsL w) : Calls Tryd.prog 4 #[cxV x (.slice ao x.mem.length cap), .slice aoc len capc, .int .i64 most] w fun r w' => r = .returned (.bool true) ∧ Below w.heap.size w w' := by
  obtain ⟨hs, hf⟩ := hw
  obtain ⟨rfl, hcs, hcf⟩ := hc
  have hG := fun w' h' => great13_any x hf.rl ao cap w' h'
  have hz : greatB x = false → x.mem.length ≤ 300 := fun h => (greatB_no h).1
  generalize greatB x = z at *
  obtain ⟨p, regs, l⟩ := x
  obtain ⟨r0, r1, r2, r3, r4, r5, r6, r7, rfl⟩ := eight hf.rl
  exact walk_at p r0 r1 r2 r3 r4 r5 r6 r7 ao cap l code aoc capc most _ z _ _ _ _ (Lib.hid fun w' h => awake13_any w' h) (Lib.hid hG) (Lib.hid hz) (Lib.hid hf) rfl (by split <;> omega) rfl rfl hcs (Lib.hid hcf) hs hL

theorem own : ownKnob Tryd.prog.godebug = none := by kernel_rfl
theorem laidOut : laidOutB Tryd.prog = true := by kernel_rfl

set_option maxRecDepth 100000 in
theorem lifted (os : Os) (started : os.Started) (H : Type) (enc : TypeId × Value → H) :
    ReturnsInHanded {} Tryd.checked os 4 .any (fun w args => (Rows.cpuRunsSpec.pre enc Tryd.prog Tryd.f4 Rows.cpuRunsRow.domain false w args ∧ laidMetH Tryd.prog laidL w) ∧ sizedMet enc Tryd.prog Tryd.f4 (OpenSpec.ofChange Rows.cpuRunsSpec) false w args) (Rows.cpuRunsSpec.post enc Tryd.prog Tryd.f4 false true false false) := by
  refine returnsInHanded_of_row (s := OpenSpec.ofChange Rows.cpuRunsSpec) (F := fun _ _ _ => 0) (laid := laidL) (C := Tryd.checked) own started (by kernel_rfl) Tryd.func4
    (ChangeSpec.witness_shaped (enc := enc) (C := Tryd.checked) (os := os) (s := Rows.cpuRunsSpec) (X := fun w _ => laidMetH Tryd.prog laidL w) false (World.laidAll Tryd.prog os laidL) #[.agg #[.int .i64 0, .int .u32 0, .int .u32 0, .int .u32 0, .int .u32 0, .int .u32 0, .int .u32 0, .int .u32 0, .int .u32 0, .slice none 0 0], .slice none 0 0, .int .i64 0] 8 (World.laidAll_os _ _ _)
      (World.shaped_of_ZipB (by kernel_rfl) (by kernel_rfl)) (by kernel_rfl) (by kernel_rfl) (by kernel_rfl)
      (by rw [MakeChecks.laidMetH_plain _ _ _ (by kernel_rfl)]; exact laidMet_laidAll _ (by kernel_rfl) (by kernel_rfl))) ?_
  intro W base args ds gs before hval0 hW hcnd _ hsz0 hL hsh _
  have hval : ∀ (j : Nat) t v, Tryd.f4.params[j]? = some t → args[j]? = some v → Value.okWide Tryd.prog W .any base t v := hval0
  have hW' := hW
  obtain ⟨p, q, hA0, hV, rfl, hfz, hnd⟩ := hW
  have hA : DataW.TrodAll enc Tryd.prog W 0 (fun _ => true) true Tryd.f4.params.toList args.toList ds p := hA0
  rw [Tryd.params4] at hA hval
  obtain ⟨v0, vs0, d0, ds0, p0, q0, hargs, rfl, rfl, h0, r0⟩ := trodAll_cons hA
  obtain ⟨v1, vs1, d1, ds1, p1, q1, rfl, rfl, rfl, h1, r1⟩ := trodAll_cons r0
  obtain ⟨v2, vs2, d2, ds2, p2, q2, rfl, rfl, rfl, h2, r2⟩ := trodAll_cons r1
  obtain ⟨rfl, rfl, rfl⟩ := trodAll_nil r2
  obtain rfl : args = #[v0, v1, v2] := by cases args; simp_all
  obtain ⟨rfl, rfl⟩ := trodVars_none hV
  have k0 := h0
  have lt0 : ∀ x ∈ p0, x.block < W.heap.size := by obtain ⟨m, hm⟩ := k0; exact DataW.trod_lt m _ _ _ hm
  have k1 := h1
  have lt1 : ∀ x ∈ p1, x.block < W.heap.size := by obtain ⟨m, hm⟩ := k1; exact DataW.trod_lt m _ _ _ hm
  have k2 := h2
  have lt2 : ∀ x ∈ p2, x.block < W.heap.size := by obtain ⟨m, hm⟩ := k2; exact DataW.trod_lt m _ _ _ hm
  obtain ⟨a0, ao0, cap0, rfl, w0⟩ := open_ctx (hval 0 26 v0 rfl rfl) h0
  obtain ⟨a1, len1, cap1, rfl⟩ := okWide_slice Tryd.underlying39 (hval 1 39 v1 rfl rfl)
  obtain ⟨z1, w1⟩ := open_inss h1
  obtain ⟨a2, rfl, rfl, rfl, w2⟩ := open_int Tryd.underlying3 (hval 2 3 v2 rfl rfl) h2
  clear hA0 hval0
  refine (walk a0 ao0 cap0 w0 a1 len1 cap1 z1 w1 a2 w2 (of_laid hL hsh)).mono fun e W' ⟨he, bel⟩ => ?_
  subst he
  exact ⟨_, rfl, _, _, _, [], _, [], hW', trodAll_mk1 (shut_bool Tryd.underlying4 _), (trodAll_cons_mk (Below.trod laidOut (by kernel_rfl) (of_decide_eq_true (by kernel_rfl)) k0 bel lt0) (trodAll_cons_mk (Below.trod laidOut (by kernel_rfl) (of_decide_eq_true (by kernel_rfl)) k1 bel lt1) (trodAll_cons_mk (Below.trod laidOut (by kernel_rfl) (of_decide_eq_true (by kernel_rfl)) k2 bel lt2) trodAll_mk0))), rfl, bel.frame _, fun h => by cases h⟩

theorem over : Rows.CpuRunsSaid :=
  OpenClaim.holds_of_wide 4 Tryd.f4 rfl rfl rfl rfl rfl rfl rfl ⟨rfl, rfl, rfl, rfl, rfl⟩ rfl rfl rfl rfl rfl (by kernel_rfl) Tryd.func4 (by kernel_rfl)
    (of_decide_eq_true (by kernel_rfl)) (by unfold Func.isWrapper; first | (rw [if_pos (by decide +kernel)]; kernel_rfl) | (rw [if_neg (by decide +kernel)]; exact ⟨rfl, rfl⟩))
    (fun os started H enc _ => lifted os started H enc)

theorem proved : Rows.CpuRunsCardSaid :=
  Claim7.holds_tied_plain_at .later [] _ true _ false over (fun _ h => by cases h) (by kernel_rfl) (fun _ h => by cases h) cpuRuns_row_tie rfl ⟨rfl, rfl⟩ (by kernel_rfl) rfl
    (fun f fn hf hfn => by
      obtain rfl : f = 4 := Option.some.inj ((show Tryd.prog.funcNamed "taffrail/taffraillaw13.CpuRuns" = some 4 by kernel_rfl).symm.trans hf) |>.symm
      obtain rfl : fn = Tryd.f4 := (Option.some.inj (Tryd.func4.symm.trans hfn)).symm
      refine ⟨by kernel_rfl, fun j t ht => ?_⟩
      rw [Tryd.params4] at ht
      have hm : t ∈ [26, 39, 3] := by simpa using Array.mem_of_getElem? ht
      have hall : ([26, 39, 3].all fun u => !Tryd.prog.wantsStandIn u) = true := by kernel_rfl
      exact (show Tryd.prog.wantsStandIn t = false by simpa using List.all_eq_true.1 hall t hm))
    (by kernel_rfl)
#print axioms proved

end Go.Proofs.YtoalgajbahlpjaaDoor.CpuRuns
