/-
  CpuKeeps: for every context and every instruction the statement's function answers true: what no instruction names stays (contexts beyond the statement's own bound are let go by the statement itself). Conditions: none beyond the card's own: the listed package variables start as the program's text lays them, which the card ties to that text.
-/
import Derived.Test.YtoalgajbahlpjaaDoorCpAw
import Derived.Test.YtoalgajbahlpjaaDoorCp14
import Derived.Test.YtoalgajbahlpjaaDoorCpK
import Derived.Test.YtoalgajbahlpjaaDoorCpO
import Derived.Test.YtoalgajbahlpjaaDoorIsLw
import Derived.Test.YtoalgajbahlpjaaDoorTie
import Derived.Test.YtoalgajbahlpjaaDoorCards
import Derived.ProofKit
import Derived.OpenShut
import Derived.ShutString
import Derived.LaidMore
import Derived.Lay
import Derived.SevenTiedAt
import Derived.Stop.Joined
import Derived.Deep.DeepHandedRow
import Derived.BigRegion
import Derived.Deep.RegionWith
import Derived.Deep.DeepCutAuto
namespace Go.Proofs.YtoalgajbahlpjaaDoor.CpuKeeps
open Go.ChangeShapes Go.WideShapes Go.ChangeAt Go.RowKit
open Go.ChangeMaps (open_string shut_string)
set_option linter.unusedVariables false
set_option linter.unusedSimpArgs false

set_option maxRecDepth 100000 in
set_option maxHeartbeats 16000000 in
theorem walk_at (p : Int) (r0 r1 r2 r3 r4 r5 r6 r7 : Nat) (ao : Option Addr) (cap : Nat) (l : List Nat) (i : Ins) (z : Bool) (e : Int) (yp : Int) (q0 q1 q2 q3 q4 q5 q6 q7 : Nat) (ym : List Nat) {w : World}
    (HA : Hid (∀ w', IsL w' → Calls Tryd.prog 8 #[] w' fun r w'' => r = .returned (.bool true) ∧ Below w'.heap.size w' w''))
    (HG : Hid (∀ w', SeenW w' ao cap l → Calls Tryd.prog 9 #[.agg (cx10 p r0 r1 r2 r3 r4 r5 r6 r7 (.slice ao l.length cap))] w' fun r w'' => r = .returned (.bool z) ∧ Below w'.heap.size w' w''))
    (HSm : Hid (z = false → l.length ≤ 300)) (HFit : Hid (CtxFits ⟨p, [r0, r1, r2, r3, r4, r5, r6, r7], l⟩))
    (HDo : Hid (∀ w' B b bo bc, IsL w' → Cx w' B b bo bc ⟨p, [r0, r1, r2, r3, r4, r5, r6, r7], l⟩ → Calls Tryd.prog 11 #[.pointer (some ⟨b, 0, none⟩), insV i] w' fun r w'' => r = .returned (.int .i64 e) ∧ Cx w'' B b bo bc ⟨yp, [q0, q1, q2, q3, q4, q5, q6, q7], ym⟩ ∧ Only w' w'' (cxS b bo)))
    (HBad : Hid (e ≠ 0 → (⟨yp, [q0, q1, q2, q3, q4, q5, q6, q7], ym⟩ : Ctx) = ⟨p, [r0, r1, r2, r3, r4, r5, r6, r7], l⟩)) (hlen : ym.length = l.length) (HRg : Hid (∀ j : Nat, ([q0, q1, q2, q3, q4, q5, q6, q7] : List Nat).getD j 0 ≠ ([r0, r1, r2, r3, r4, r5, r6, r7] : List Nat).getD j 0 → (j : Int) = i.a))
    (HPt : Hid (parts [q0, q1, q2, q3, q4, q5, q6, q7] [r0, r1, r2, r3, r4, r5, r6, r7] 8 + parts ym l l.length ≤ 1 ∧ (parts ym l l.length = 0 ∨ i.op = 16)))
    (hs : SeenW w ao cap l) (hL : IsL w) : Calls Tryd.prog 6 #[.agg (cx10 p r0 r1 r2 r3 r4 r5 r6 r7 (.slice ao l.length cap)), insV i] w fun r w' => r = .returned (.bool true) ∧ Below w.heap.size w w' := by
  obtain ⟨w1, e1⟩ : ∃ w1, w1 = w.alloc (.cells (cx10 p r0 r1 r2 r3 r4 r5 r6 r7 (.slice ao l.length cap)) 26) := ⟨_, rfl⟩
  obtain ⟨s1, n1, b1⟩ := new_size e1
  obtain ⟨w2, e2⟩ : ∃ w2, w2 = w1.alloc (insO i) := ⟨_, rfl⟩
  obtain ⟨s2, n2, b2⟩ := new_size e2
  have n1' := blk_on b2 n1
  obtain ⟨D, hD⟩ : ∃ D, w.heap.size = D := ⟨_, rfl⟩
  obtain ⟨E, hE⟩ : ∃ E, D + 1 = E := ⟨_, rfl⟩
  rw [hD] at n1'
  rw [s1, hD, hE] at n2
  have B2 := Lib.hid (below_on b1 b2)
  have N1 := Lib.hid n1'
  have N2 := Lib.hid n2
  have HD := Lib.hid hD
  have HE := Lib.hid hE
  have HL := Lib.hid hL
  have HS0 := Lib.hid hs
  have ZZ := Lib.hid (show w.heap.size = D ∧ D + 1 = E from ⟨hD, hE⟩)
  have KA : Hid (∀ w', Below w.heap.size w w' → Calls Tryd.prog 8 #[] w' fun r w'' => r = .returned (.bool true) ∧ Below w'.heap.size w' w'') := Lib.hid (fun w' h => HA.out w' (HL.out.below h))
  have HC := Lib.hid (fun hz w' h' => rcopy_walk p r0 r1 r2 r3 r4 r5 r6 r7 ao cap l w' h' (by have := HSm.out hz; omega))
  have HSame : Hid (e ≠ 0 → ∀ ao bo cap cbp w', SeenW w' ao cap l → SeenW w' bo cbp ym → Calls Tryd.prog 13 #[.agg (cx10 p r0 r1 r2 r3 r4 r5 r6 r7 (.slice ao l.length cap)), .agg (cx10 yp q0 q1 q2 q3 q4 q5 q6 q7 (.slice bo ym.length cbp))] w' fun r w'' => r = .returned (.bool true) ∧ Below w'.heap.size w' w'') := Lib.hid (by
    intro he ao bo cap cbp w' h1 h2
    have hb := HBad.out he
    have hm : ym = l := congrArg Ctx.mem hb
    subst hm
    rw [show cx10 yp q0 q1 q2 q3 q4 q5 q6 q7 (.slice bo ym.length cbp) = cx10 p r0 r1 r2 r3 r4 r5 r6 r7 (.slice bo ym.length cbp) from congrArg (fun c => cxA c _) hb]
    exact rsame_walk p r0 r1 r2 r3 r4 r5 r6 r7 ao bo cap cbp ym w' h1 h2)
  obtain ⟨nn, hn⟩ : ∃ nn, l.length = nn := ⟨_, rfl⟩
  have HN := Lib.hid (hlen.trans hn)
  have HNl := Lib.hid hn
  clear s1 n1 b1 s2 n2 b2 n1' hD hE hL hs HA
  clear hlen hn HBad
  unfold cx10 at HSame
  obtain ⟨op, a, b, c', d, q⟩ := i
  unfold insO at e2
  unfold insV at *
  unfold cx10 at e1 HG HC
  unfold cx10
  simp only at *
  go_enter Tryd.func6, Tryd.ntmps6
  go_upto_region 1 with fail
  rw [← e1, HD.out, ← e2, HE.out]
  clear e1 e2
  go_wp2_with fail
  refine (KA.out w2 B2.out).mono ?_
  rintro r w3 ⟨rfl, h⟩
  have B3 := Lib.hid (below_on B2.out h)
  have M1 := Lib.hid (blk_on h N1.out)
  have M2 := Lib.hid (blk_on h N2.out)
  clear h N1 N2
  obtain ⟨c0, c1, c2, c3, c4, c5, c6, c7, c8, c9⟩ := cells10 M1.out
  go_wp2_with fail
  refine (HG.out w3 (HS0.out.below B3.out)).mono ?_
  rintro r w4 ⟨rfl, h⟩
  have B4 := Lib.hid (below_on B3.out h)
  have P1 := Lib.hid (blk_on h M1.out)
  have P2 := Lib.hid (blk_on h M2.out)
  clear h M1 M2 c0 c1 c2 c3 c4 c5 c6 c7 c8 c9
  cases z
  case true =>
    go_wp2_with fail
    refine (KA.out w4 B4.out).mono ?_
    rintro r wz ⟨rfl, h⟩
    have BZ := Lib.hid (below_on B4.out h)
    clear h
    go_wp2_with fail
    go_ret
    exact ⟨rfl, BZ.out⟩
  case false =>
  replace HC := Lib.hid (HC.out rfl)
  replace HSm := Lib.hid (HSm.out rfl)
  obtain ⟨c0, c1, c2, c3, c4, c5, c6, c7, c8, c9⟩ := cells10 P1.out
  go_wp2_with fail
  refine (HC.out w4 (HS0.out.below B4.out)).mono ?_
  rintro r w5 ⟨bo, bc, rfl, o5, h5⟩
  obtain ⟨w6, e6⟩ : ∃ w6, w6 = w5.alloc (.cells (cx10 p r0 r1 r2 r3 r4 r5 r6 r7 (.slice bo l.length bc)) 26) := ⟨_, rfl⟩
  obtain ⟨s6, n6, b6⟩ := new_size e6
  obtain ⟨G, hG⟩ : ∃ G, w5.heap.size = G := ⟨_, rfl⟩
  rw [hG] at n6
  have b46 := below_on h5 b6
  have Q1 := Lib.hid (blk_on b46 P1.out)
  have Q2 := Lib.hid (blk_on b46 P2.out)
  have B6 := Lib.hid (below_on B4.out b46)
  have OF := Lib.hid (show w4.heap.size ≤ G ∧ ∀ q, bo = some q → w4.heap.size ≤ q.block from ⟨by rw [← hG]; exact h5.size, fun q hq => by
    subst hq
    exact (o5.lt q.block rfl).1⟩)
  have X6 : Hid (Cx w6 w.heap.size G bo bc ⟨p, [r0, r1, r2, r3, r4, r5, r6, r7], l⟩) := Lib.hid ⟨HFit.out, n6, Nat.le_trans B4.out.size OF.out.1, (o5.below b6).mono B4.out.size, fun q hq e => by
    subst hq
    have := (o5.lt q.block rfl).2
    omega⟩
  have HG' := Lib.hid hG
  clear s6 n6 b6 hG b46 o5 h5 c0 c1 c2 c3 c4 c5 c6 c7 c8 c9 HC
  unfold cx10 at e6
  go_upto_region 4 with fail
  rw [← e6, HG'.out]
  clear e6
  obtain ⟨i0, i1, i2, i3, i4, i5⟩ := inscells Q2.out
  simp only at i0 i1 i2 i3 i4 i5
  go_wp2_with fail
  refine (HDo.out w6 w.heap.size G bo bc (HL.out.below B6.out) X6.out).mono ?_
  rintro r w7 ⟨rfl, hx, ho⟩
  have nD : ¬ cxS G bo D := by
    have h1 := blk_lt P1.out
    have h2 := OF.out
    rintro (h | ⟨q, hq, h⟩)
    · have := h2.1; omega
    · have := h2.2 q hq; omega
  have nE : ¬ cxS G bo E := by
    have h1 := blk_lt P2.out
    have h2 := OF.out
    rintro (h | ⟨q, hq, h⟩)
    · have := h2.1; omega
    · have := h2.2 q hq; omega
  have T1 := Lib.hid ((ho.block D (blk_lt Q1.out) nD).trans Q1.out)
  have T2 := Lib.hid ((ho.block E (blk_lt Q2.out) nE).trans Q2.out)
  have X7 := Lib.hid hx
  have B7 := Lib.hid (B6.out.trans (X6.out.belowB ho))
  clear hx ho nD nE Q1 Q2 P1 P2 i0 i1 i2 i3 i4 i5
  obtain ⟨c0, c1, c2, c3, c4, c5, c6, c7, c8, c9⟩ := cells10 T1.out
  obtain ⟨d0, d1, d2, d3, d4, d5, d6, d7, d8, d9⟩ := cells10 (show w7.heap[G]? = some (.cells (cx10 yp q0 q1 q2 q3 q4 q5 q6 q7 (.slice bo ym.length bc)) 26) from X7.out.box)
  rw [HN.out] at d9
  rw [HNl.out] at c9
  by_cases he : e = 0
  · subst he
    clear HSame
    go_wp2_with fail
    clear c0 c1 c2 c3 c4 c5 c6 c7 c8 c9 d0 d1 d2 d3 d4 d5 d6 d7 d8 d9
    go_loopw [39, 7] (fun x y wr => ∃ k c dn : Nat, x = .int .i64 k ∧ y = .int .i64 c ∧ k ≤ 8 ∧ c ≤ k ∧ Hid (c = parts [q0, q1, q2, q3, q4, q5, q6, q7] [r0, r1, r2, r3, r4, r5, r6, r7] k) ∧ Hid (wr = w7.drewN dn)) (fun x _ _ => 8 - (intOf x).toNat)
    case atStart => exact ⟨0, 0, 0, rfl, rfl, by omega, by omega, Lib.hid rfl, Lib.hid rfl⟩
    case round =>
    obtain ⟨k, c, dn, rfl, rfl, hk, hck, HCN, HW⟩ := hrel
    by_cases hlt : k < 8
    · have XG := cxcells (x := ⟨yp, [q0, q1, q2, q3, q4, q5, q6, q7], ym⟩) rfl (show wr.heap[G]? = some (cxO ⟨yp, [q0, q1, q2, q3, q4, q5, q6, q7], ym⟩ (.slice bo ym.length bc)) by rw [HW.out]; exact X7.out.box)
      have XD := cxcells (x := ⟨p, [r0, r1, r2, r3, r4, r5, r6, r7], l⟩) rfl (show wr.heap[D]? = some (cxO ⟨p, [r0, r1, r2, r3, r4, r5, r6, r7], l⟩ (.slice ao l.length cap)) by rw [HW.out]; exact T1.out)
      have xg := XG.reg k hlt
      have xd := XD.reg k hlt
      clear XG XD
      obtain ⟨u, hu⟩ : ∃ u, ([q0, q1, q2, q3, q4, q5, q6, q7] : List Nat).getD k 0 = u := ⟨_, rfl⟩
      obtain ⟨v, hv⟩ : ∃ v, ([r0, r1, r2, r3, r4, r5, r6, r7] : List Nat).getD k 0 = v := ⟨_, rfl⟩
      rw [show (⟨yp, [q0, q1, q2, q3, q4, q5, q6, q7], ym⟩ : Ctx).regs.getD k 0 = u from hu] at xg
      rw [show (⟨p, [r0, r1, r2, r3, r4, r5, r6, r7], l⟩ : Ctx).regs.getD k 0 = v from hv] at xd
      have HU := Lib.hid hu
      have HVv := Lib.hid hv
      have hk0 : (0 : Int) ≤ (k : Int) := Int.natCast_nonneg _
      have hk8 : (k : Int) < 8 := by omega
      have HLT := Lib.hid hlt
      have HCK := Lib.hid hck
      have hwc : wrap64 ((c : Int) + 1) = ((c + 1 : Nat) : Int) := by unfold wrap64; omega
      clear hu hv hk hlt hck
      by_cases huv : u = v
      · have HP := Lib.hid (show c = parts [q0, q1, q2, q3, q4, q5, q6, q7] [r0, r1, r2, r3, r4, r5, r6, r7] (k + 1) by show c = parts [q0, q1, q2, q3, q4, q5, q6, q7] [r0, r1, r2, r3, r4, r5, r6, r7] k + (if _ then 0 else 1); rw [HU.out, HVv.out, if_pos huv, HCN.out, Nat.add_zero])
        subst huv
        go_wp2_with fail
        go_quiet (fail)
        go_wp2_with fail
        go_roundw
        case rel => exact ⟨k + 1, c, _, by go_num, rfl, HLT.out, by have := HCK.out; omega, HP, Lib.hid (by rw [HW.out]; exact drewN_drewN _ _ _)⟩
        case measure => have := HLT.out; simp [intOf]; omega
      · have HP := Lib.hid (show c + 1 = parts [q0, q1, q2, q3, q4, q5, q6, q7] [r0, r1, r2, r3, r4, r5, r6, r7] (k + 1) by show c + 1 = parts [q0, q1, q2, q3, q4, q5, q6, q7] [r0, r1, r2, r3, r4, r5, r6, r7] k + (if _ then 0 else 1); rw [HU.out, HVv.out, if_neg huv, HCN.out])
        have hne : ((u : Int) == (v : Int)) = false := by simp; omega
        obtain rfl : (k : Int) = a := HRg.out k (by rw [HU.out, HVv.out]; exact huv)
        obtain ⟨i0, i1, i2, i3, i4, i5⟩ := inscells (show wr.heap[E]? = some (insO ⟨op, k, b, c', d, q⟩) by rw [HW.out]; exact T2.out)
        simp only at i0 i1 i2 i3 i4 i5
        clear huv i0 i2 i3 i4 i5
        go_wp2_with fail
        go_quiet (fail)
        go_wp2_with fail
        go_roundw
        case rel => exact ⟨k + 1, c + 1, _, by go_num, by rw [hwc], HLT.out, by have := HCK.out; omega, HP, Lib.hid (by rw [HW.out]; exact drewN_drewN _ _ _)⟩
        case measure => have := HLT.out; simp [intOf]; omega
    have hk8 : decide ((k : Int) < 8) = false := by simp; omega
    have HC1 := Lib.hid (show c = parts [q0, q1, q2, q3, q4, q5, q6, q7] [r0, r1, r2, r3, r4, r5, r6, r7] 8 by rw [HCN.out, show k = 8 by omega])
    have xg9 := (cxcells (x := ⟨yp, [q0, q1, q2, q3, q4, q5, q6, q7], ym⟩) rfl (show wr.heap[G]? = some (cxO ⟨yp, [q0, q1, q2, q3, q4, q5, q6, q7], ym⟩ (.slice bo ym.length bc)) by rw [HW.out]; exact X7.out.box)).mem
    have HC8 := Lib.hid (show c ≤ 8 by omega)
    clear hk hck hlt HCN
    rw [HN.out] at xg9
    go_wp2_with fail
    clear hk8 xg9
    go_loopw [61, 8] (fun x y wr => ∃ k c dn : Nat, x = .int .i64 k ∧ y = .int .i64 c ∧ k ≤ nn ∧ c ≤ k ∧ Hid (c = parts ym l k) ∧ Hid (wr = w7.drewN dn)) (fun x _ _ => nn - (intOf x).toNat)
    case atStart => exact ⟨0, 0, dn, rfl, rfl, by omega, by omega, Lib.hid rfl, HW⟩
    case round =>
    clear HW
    obtain ⟨k, c2, dn, rfl, rfl, hk, hck, HCN, HW⟩ := hrel
    have xg9 := (cxcells (x := ⟨yp, [q0, q1, q2, q3, q4, q5, q6, q7], ym⟩) rfl (show wr.heap[G]? = some (cxO ⟨yp, [q0, q1, q2, q3, q4, q5, q6, q7], ym⟩ (.slice bo ym.length bc)) by rw [HW.out]; exact X7.out.box)).mem
    have xd9 := (cxcells (x := ⟨p, [r0, r1, r2, r3, r4, r5, r6, r7], l⟩) rfl (show wr.heap[D]? = some (cxO ⟨p, [r0, r1, r2, r3, r4, r5, r6, r7], l⟩ (.slice ao l.length cap)) by rw [HW.out]; exact T1.out)).mem
    rw [HN.out] at xg9
    rw [HNl.out] at xd9
    by_cases hlt : k < nn
    · obtain ⟨bg, og, rfl, -, mg⟩ := seenW_at (X7.out.drewN dn).seen k (show k < ym.length by rw [HN.out]; exact hlt)
      obtain ⟨bd, od, rfl, -, md⟩ := seenW_at (HS0.out.below (below_drewN B7.out dn)) k (show k < l.length by rw [HNl.out]; exact hlt)
      rw [← HW.out] at mg md
      obtain ⟨u, hu⟩ : ∃ u, ym.getD k 0 = u := ⟨_, rfl⟩
      obtain ⟨v, hv⟩ : ∃ v, l.getD k 0 = v := ⟨_, rfl⟩
      rw [show (⟨yp, [q0, q1, q2, q3, q4, q5, q6, q7], ym⟩ : Ctx).mem.getD k 0 = u from hu] at mg
      rw [hv] at md
      have HU := Lib.hid hu
      have HVv := Lib.hid hv
      have hk0 : (0 : Int) ≤ (k : Int) := Int.natCast_nonneg _
      have hkn : (k : Int) < (nn : Int) := by omega
      have HLT := Lib.hid hlt
      have HCK := Lib.hid hck
      have hmx := HS0.out.mx
      unfold maxLen at hmx
      rw [HNl.out] at hmx
      have HMX := Lib.hid hmx
      have hwk : wrap64 ((k : Int) + 1) = ((k + 1 : Nat) : Int) := by unfold wrap64; omega
      have hwc : wrap64 ((c2 : Int) + 1) = ((c2 + 1 : Nat) : Int) := by unfold wrap64; omega
      clear hu hv hk hlt hck hmx
      by_cases huv : u = v
      · have HP := Lib.hid (show c2 = parts ym l (k + 1) by show c2 = parts ym l k + (if _ then 0 else 1); rw [HU.out, HVv.out, if_pos huv, HCN.out, Nat.add_zero])
        subst huv
        go_wp2_with fail
        go_quiet (fail)
        go_wp2_with fail
        go_roundw
        case rel => exact ⟨k + 1, c2, _, by rw [hwk], rfl, HLT.out, by have := HCK.out; omega, HP, Lib.hid (by rw [HW.out]; exact drewN_drewN _ _ _)⟩
        case measure => have := HLT.out; rw [hwk]; simp [intOf]; omega
      · have HP := Lib.hid (show c2 + 1 = parts ym l (k + 1) by show c2 + 1 = parts ym l k + (if _ then 0 else 1); rw [HU.out, HVv.out, if_neg huv, HCN.out])
        have hne : ((u : Int) == (v : Int)) = false := by simp; omega
        clear huv
        go_wp2_with fail
        go_quiet (fail)
        go_wp2_with fail
        go_roundw
        case rel => exact ⟨k + 1, c2 + 1, _, by rw [hwk], by rw [hwc], HLT.out, by have := HCK.out; omega, HP, Lib.hid (by rw [HW.out]; exact drewN_drewN _ _ _)⟩
        case measure => have := HLT.out; rw [hwk]; simp [intOf]; omega
    obtain ⟨i0, i1, i2, i3, i4, i5⟩ := inscells (show wr.heap[E]? = some (insO ⟨op, a, b, c', d, q⟩) by rw [HW.out]; exact T2.out)
    simp only at i0 i1 i2 i3 i4 i5
    obtain ⟨h1, h2⟩ := HPt.out
    rw [← HC1.out, HNl.out, show nn = k by omega, ← HCN.out] at h1
    rw [HNl.out, show nn = k by omega, ← HCN.out] at h2
    have BZ := Lib.hid (show Below w.heap.size w wr by rw [HW.out]; exact below_drewN B7.out dn)
    have hs1 : decide ((c : Int) + (c2 : Int) ≤ 1) = true := by simp; omega
    have hs2 : wrap64 ((c : Int) + (c2 : Int)) = (c : Int) + (c2 : Int) := by unfold wrap64; omega
    by_cases hc0 : c2 = 0
    · have hz0 : ((c2 : Int) == 0) = true := by simp [hc0]
      clear hk hck h1 h2 hc0 i1 i2 i3 i4 i5 xg9 xd9
      go_wp2_with fail
      go_ret
      exact ⟨rfl, BZ.out⟩
    · have hz0 : ((c2 : Int) == 0) = false := by simp [hc0]
      obtain rfl : op = 16 := h2.resolve_left hc0
      clear hk hck h1 h2 hc0 i1 i2 i3 i4 i5 xg9 xd9
      go_wp2_with fail
      go_ret
      exact ⟨rfl, BZ.out⟩
  · have he' : (e != 0) = true := by simp [he]
    have HSm2 := Lib.hid (HSame.out he ao bo cap bc w7 (HS0.out.below B7.out) X7.out.seen)
    rw [HN.out, HNl.out] at HSm2
    clear HSame he
    go_wp2_with fail
    refine HSm2.out.mono ?_
    rintro r w8 ⟨rfl, h⟩
    have U1 := Lib.hid (blk_on h T1.out)
    have U2 := Lib.hid (blk_on h T2.out)
    have X8 := Lib.hid (X7.out.below h)
    have B8 := Lib.hid (below_on B7.out h)
    clear h T1 T2 X7 B7 HSm2
    go_wp2_with fail
    clear c0 c1 c2 c3 c4 c5 c6 c7 c8 c9 d0 d1 d2 d3 d4 d5 d6 d7 d8 d9 he'
    go_loopw [39, 7] (fun x y wr => ∃ k c dn : Nat, x = .int .i64 k ∧ y = .int .i64 c ∧ k ≤ 8 ∧ c ≤ k ∧ Hid (c = parts [q0, q1, q2, q3, q4, q5, q6, q7] [r0, r1, r2, r3, r4, r5, r6, r7] k) ∧ Hid (wr = w8.drewN dn)) (fun x _ _ => 8 - (intOf x).toNat)
    case atStart => exact ⟨0, 0, 0, rfl, rfl, by omega, by omega, Lib.hid rfl, Lib.hid rfl⟩
    case round =>
    obtain ⟨k, c, dn, rfl, rfl, hk, hck, HCN, HW⟩ := hrel
    by_cases hlt : k < 8
    · have XG := cxcells (x := ⟨yp, [q0, q1, q2, q3, q4, q5, q6, q7], ym⟩) rfl (show wr.heap[G]? = some (cxO ⟨yp, [q0, q1, q2, q3, q4, q5, q6, q7], ym⟩ (.slice bo ym.length bc)) by rw [HW.out]; exact X8.out.box)
      have XD := cxcells (x := ⟨p, [r0, r1, r2, r3, r4, r5, r6, r7], l⟩) rfl (show wr.heap[D]? = some (cxO ⟨p, [r0, r1, r2, r3, r4, r5, r6, r7], l⟩ (.slice ao l.length cap)) by rw [HW.out]; exact U1.out)
      have xg := XG.reg k hlt
      have xd := XD.reg k hlt
      clear XG XD
      obtain ⟨u, hu⟩ : ∃ u, ([q0, q1, q2, q3, q4, q5, q6, q7] : List Nat).getD k 0 = u := ⟨_, rfl⟩
      obtain ⟨v, hv⟩ : ∃ v, ([r0, r1, r2, r3, r4, r5, r6, r7] : List Nat).getD k 0 = v := ⟨_, rfl⟩
      rw [show (⟨yp, [q0, q1, q2, q3, q4, q5, q6, q7], ym⟩ : Ctx).regs.getD k 0 = u from hu] at xg
      rw [show (⟨p, [r0, r1, r2, r3, r4, r5, r6, r7], l⟩ : Ctx).regs.getD k 0 = v from hv] at xd
      have HU := Lib.hid hu
      have HVv := Lib.hid hv
      have hk0 : (0 : Int) ≤ (k : Int) := Int.natCast_nonneg _
      have hk8 : (k : Int) < 8 := by omega
      have HLT := Lib.hid hlt
      have HCK := Lib.hid hck
      have hwc : wrap64 ((c : Int) + 1) = ((c + 1 : Nat) : Int) := by unfold wrap64; omega
      clear hu hv hk hlt hck
      by_cases huv : u = v
      · have HP := Lib.hid (show c = parts [q0, q1, q2, q3, q4, q5, q6, q7] [r0, r1, r2, r3, r4, r5, r6, r7] (k + 1) by show c = parts [q0, q1, q2, q3, q4, q5, q6, q7] [r0, r1, r2, r3, r4, r5, r6, r7] k + (if _ then 0 else 1); rw [HU.out, HVv.out, if_pos huv, HCN.out, Nat.add_zero])
        subst huv
        go_wp2_with fail
        go_quiet (fail)
        go_wp2_with fail
        go_roundw
        case rel => exact ⟨k + 1, c, _, by go_num, rfl, HLT.out, by have := HCK.out; omega, HP, Lib.hid (by rw [HW.out]; exact drewN_drewN _ _ _)⟩
        case measure => have := HLT.out; simp [intOf]; omega
      · have HP := Lib.hid (show c + 1 = parts [q0, q1, q2, q3, q4, q5, q6, q7] [r0, r1, r2, r3, r4, r5, r6, r7] (k + 1) by show c + 1 = parts [q0, q1, q2, q3, q4, q5, q6, q7] [r0, r1, r2, r3, r4, r5, r6, r7] k + (if _ then 0 else 1); rw [HU.out, HVv.out, if_neg huv, HCN.out])
        have hne : ((u : Int) == (v : Int)) = false := by simp; omega
        obtain rfl : (k : Int) = a := HRg.out k (by rw [HU.out, HVv.out]; exact huv)
        obtain ⟨i0, i1, i2, i3, i4, i5⟩ := inscells (show wr.heap[E]? = some (insO ⟨op, k, b, c', d, q⟩) by rw [HW.out]; exact U2.out)
        simp only at i0 i1 i2 i3 i4 i5
        clear huv i0 i2 i3 i4 i5
        go_wp2_with fail
        go_quiet (fail)
        go_wp2_with fail
        go_roundw
        case rel => exact ⟨k + 1, c + 1, _, by go_num, by rw [hwc], HLT.out, by have := HCK.out; omega, HP, Lib.hid (by rw [HW.out]; exact drewN_drewN _ _ _)⟩
        case measure => have := HLT.out; simp [intOf]; omega
    have hk8 : decide ((k : Int) < 8) = false := by simp; omega
    have HC1 := Lib.hid (show c = parts [q0, q1, q2, q3, q4, q5, q6, q7] [r0, r1, r2, r3, r4, r5, r6, r7] 8 by rw [HCN.out, show k = 8 by omega])
    have xg9 := (cxcells (x := ⟨yp, [q0, q1, q2, q3, q4, q5, q6, q7], ym⟩) rfl (show wr.heap[G]? = some (cxO ⟨yp, [q0, q1, q2, q3, q4, q5, q6, q7], ym⟩ (.slice bo ym.length bc)) by rw [HW.out]; exact X8.out.box)).mem
    have HC8 := Lib.hid (show c ≤ 8 by omega)
    clear hk hck hlt HCN
    rw [HN.out] at xg9
    go_wp2_with fail
    clear hk8 xg9
    go_loopw [61, 8] (fun x y wr => ∃ k c dn : Nat, x = .int .i64 k ∧ y = .int .i64 c ∧ k ≤ nn ∧ c ≤ k ∧ Hid (c = parts ym l k) ∧ Hid (wr = w8.drewN dn)) (fun x _ _ => nn - (intOf x).toNat)
    case atStart => exact ⟨0, 0, dn, rfl, rfl, by omega, by omega, Lib.hid rfl, HW⟩
    case round =>
    clear HW
    obtain ⟨k, c2, dn, rfl, rfl, hk, hck, HCN, HW⟩ := hrel
    have xg9 := (cxcells (x := ⟨yp, [q0, q1, q2, q3, q4, q5, q6, q7], ym⟩) rfl (show wr.heap[G]? = some (cxO ⟨yp, [q0, q1, q2, q3, q4, q5, q6, q7], ym⟩ (.slice bo ym.length bc)) by rw [HW.out]; exact X8.out.box)).mem
    have xd9 := (cxcells (x := ⟨p, [r0, r1, r2, r3, r4, r5, r6, r7], l⟩) rfl (show wr.heap[D]? = some (cxO ⟨p, [r0, r1, r2, r3, r4, r5, r6, r7], l⟩ (.slice ao l.length cap)) by rw [HW.out]; exact U1.out)).mem
    rw [HN.out] at xg9
    rw [HNl.out] at xd9
    by_cases hlt : k < nn
    · obtain ⟨bg, og, rfl, -, mg⟩ := seenW_at (X8.out.drewN dn).seen k (show k < ym.length by rw [HN.out]; exact hlt)
      obtain ⟨bd, od, rfl, -, md⟩ := seenW_at (HS0.out.below (below_drewN B8.out dn)) k (show k < l.length by rw [HNl.out]; exact hlt)
      rw [← HW.out] at mg md
      obtain ⟨u, hu⟩ : ∃ u, ym.getD k 0 = u := ⟨_, rfl⟩
      obtain ⟨v, hv⟩ : ∃ v, l.getD k 0 = v := ⟨_, rfl⟩
      rw [show (⟨yp, [q0, q1, q2, q3, q4, q5, q6, q7], ym⟩ : Ctx).mem.getD k 0 = u from hu] at mg
      rw [hv] at md
      have HU := Lib.hid hu
      have HVv := Lib.hid hv
      have hk0 : (0 : Int) ≤ (k : Int) := Int.natCast_nonneg _
      have hkn : (k : Int) < (nn : Int) := by omega
      have HLT := Lib.hid hlt
      have HCK := Lib.hid hck
      have hmx := HS0.out.mx
      unfold maxLen at hmx
      rw [HNl.out] at hmx
      have HMX := Lib.hid hmx
      have hwk : wrap64 ((k : Int) + 1) = ((k + 1 : Nat) : Int) := by unfold wrap64; omega
      have hwc : wrap64 ((c2 : Int) + 1) = ((c2 + 1 : Nat) : Int) := by unfold wrap64; omega
      clear hu hv hk hlt hck hmx
      by_cases huv : u = v
      · have HP := Lib.hid (show c2 = parts ym l (k + 1) by show c2 = parts ym l k + (if _ then 0 else 1); rw [HU.out, HVv.out, if_pos huv, HCN.out, Nat.add_zero])
        subst huv
        go_wp2_with fail
        go_quiet (fail)
        go_wp2_with fail
        go_roundw
        case rel => exact ⟨k + 1, c2, _, by rw [hwk], rfl, HLT.out, by have := HCK.out; omega, HP, Lib.hid (by rw [HW.out]; exact drewN_drewN _ _ _)⟩
        case measure => have := HLT.out; rw [hwk]; simp [intOf]; omega
      · have HP := Lib.hid (show c2 + 1 = parts ym l (k + 1) by show c2 + 1 = parts ym l k + (if _ then 0 else 1); rw [HU.out, HVv.out, if_neg huv, HCN.out])
        have hne : ((u : Int) == (v : Int)) = false := by simp; omega
        clear huv
        go_wp2_with fail
        go_quiet (fail)
        go_wp2_with fail
        go_roundw
        case rel => exact ⟨k + 1, c2 + 1, _, by rw [hwk], by rw [hwc], HLT.out, by have := HCK.out; omega, HP, Lib.hid (by rw [HW.out]; exact drewN_drewN _ _ _)⟩
        case measure => have := HLT.out; rw [hwk]; simp [intOf]; omega
    obtain ⟨i0, i1, i2, i3, i4, i5⟩ := inscells (show wr.heap[E]? = some (insO ⟨op, a, b, c', d, q⟩) by rw [HW.out]; exact U2.out)
    simp only at i0 i1 i2 i3 i4 i5
    obtain ⟨h1, h2⟩ := HPt.out
    rw [← HC1.out, HNl.out, show nn = k by omega, ← HCN.out] at h1
    rw [HNl.out, show nn = k by omega, ← HCN.out] at h2
    have BZ := Lib.hid (show Below w.heap.size w wr by rw [HW.out]; exact below_drewN B8.out dn)
    have hs1 : decide ((c : Int) + (c2 : Int) ≤ 1) = true := by simp; omega
    have hs2 : wrap64 ((c : Int) + (c2 : Int)) = (c : Int) + (c2 : Int) := by unfold wrap64; omega
    by_cases hc0 : c2 = 0
    · have hz0 : ((c2 : Int) == 0) = true := by simp [hc0]
      clear hk hck h1 h2 hc0 i1 i2 i3 i4 i5 xg9 xd9
      go_wp2_with fail
      go_ret
      exact ⟨rfl, BZ.out⟩
    · have hz0 : ((c2 : Int) == 0) = false := by simp [hc0]
      obtain rfl : op = 16 := h2.resolve_left hc0
      clear hk hck h1 h2 hc0 i1 i2 i3 i4 i5 xg9 xd9
      go_wp2_with fail
      go_ret
      exact ⟨rfl, BZ.out⟩

theorem walk {w : World} (x : Ctx) (ao : Option Addr) (cap : Nat) (hw : SeenW w ao cap x.mem ∧ CtxFits x) (i : Ins) (hi : InsFits i) (hL : IsL w) : Calls Tryd.prog 6 #[cxV x (.slice ao x.mem.length cap), insV i] w fun r w' => r = .returned (.bool true) ∧ Below w.heap.size w w' := by
  obtain ⟨hs, hf⟩ := hw
  have hYr := (hf.does (i := i) hi.k).rl
  have hD := fun w' B b bo bc l' x' => cdo_any i hi.k w' l' B b bc bo x x'
  have hG := fun w' h' => great13_any x hf.rl ao cap w' h'
  have hz : greatB x = false → x.mem.length ≤ 300 := fun h => (greatB_no h).1
  have hb : doE x i ≠ 0 → doC x i = x := doC_bad
  have hlen := doC_len x i
  have hrg := fun j h => doC_reg (x := x) (i := i) j h
  have hpt := doC_parts x i 8 x.mem.length
  generalize greatB x = z at *
  generalize doE x i = e at *
  generalize doC x i = y at *
  obtain ⟨p, regs, l⟩ := x
  obtain ⟨r0, r1, r2, r3, r4, r5, r6, r7, rfl⟩ := eight hf.rl
  obtain ⟨yp, yr, ym⟩ := y
  obtain ⟨q0, q1, q2, q3, q4, q5, q6, q7, rfl⟩ := eight hYr
  exact walk_at p r0 r1 r2 r3 r4 r5 r6 r7 ao cap l i z e yp q0 q1 q2 q3 q4 q5 q6 q7 ym (Lib.hid fun w' h => awake13_any w' h) (Lib.hid hG) (Lib.hid hz) (Lib.hid hf) (Lib.hid hD) (Lib.hid hb) hlen (Lib.hid hrg) (Lib.hid hpt) hs hL

theorem own : ownKnob Tryd.prog.godebug = none := by kernel_rfl
theorem laidOut : laidOutB Tryd.prog = true := by kernel_rfl

set_option maxRecDepth 100000 in
theorem lifted (os : Os) (started : os.Started) (H : Type) (enc : TypeId × Value → H) :
    ReturnsInHanded {} Tryd.checked os 6 .any (fun w args => (Rows.cpuKeepsSpec.pre enc Tryd.prog Tryd.f6 Rows.cpuKeepsRow.domain false w args ∧ laidMetH Tryd.prog laidL w) ∧ sizedMet enc Tryd.prog Tryd.f6 (OpenSpec.ofChange Rows.cpuKeepsSpec) false w args) (Rows.cpuKeepsSpec.post enc Tryd.prog Tryd.f6 false true false false) := by
  refine returnsInHanded_of_row (s := OpenSpec.ofChange Rows.cpuKeepsSpec) (F := fun _ _ _ => 0) (laid := laidL) (C := Tryd.checked) own started (by kernel_rfl) Tryd.func6
    (ChangeSpec.witness_shaped (enc := enc) (C := Tryd.checked) (os := os) (s := Rows.cpuKeepsSpec) (X := fun w _ => laidMetH Tryd.prog laidL w) false (World.laidAll Tryd.prog os laidL) #[.agg #[.int .i64 0, .int .u32 0, .int .u32 0, .int .u32 0, .int .u32 0, .int .u32 0, .int .u32 0, .int .u32 0, .int .u32 0, .slice none 0 0], .agg #[.int .i64 0, .int .i64 0, .int .i64 0, .int .i64 0, .int .i64 0, .int .u32 0]] 8 (World.laidAll_os _ _ _)
      (World.shaped_of_ZipB (by kernel_rfl) (by kernel_rfl)) (by kernel_rfl) (by kernel_rfl) (by kernel_rfl)
      (by rw [MakeChecks.laidMetH_plain _ _ _ (by kernel_rfl)]; exact laidMet_laidAll _ (by kernel_rfl) (by kernel_rfl))) ?_
  intro W base args ds gs before hval0 hW hcnd _ hsz0 hL hsh _
  have hval : ∀ (j : Nat) t v, Tryd.f6.params[j]? = some t → args[j]? = some v → Value.okWide Tryd.prog W .any base t v := hval0
  have hW' := hW
  obtain ⟨p, q, hA0, hV, rfl, hfz, hnd⟩ := hW
  have hA : DataW.TrodAll enc Tryd.prog W 0 (fun _ => true) true Tryd.f6.params.toList args.toList ds p := hA0
  rw [Tryd.params6] at hA hval
  obtain ⟨v0, vs0, d0, ds0, p0, q0, hargs, rfl, rfl, h0, r0⟩ := trodAll_cons hA
  obtain ⟨v1, vs1, d1, ds1, p1, q1, rfl, rfl, rfl, h1, r1⟩ := trodAll_cons r0
  obtain ⟨rfl, rfl, rfl⟩ := trodAll_nil r1
  obtain rfl : args = #[v0, v1] := by cases args; simp_all
  obtain ⟨rfl, rfl⟩ := trodVars_none hV
  have k0 := h0
  have lt0 : ∀ x ∈ p0, x.block < W.heap.size := by obtain ⟨m, hm⟩ := k0; exact DataW.trod_lt m _ _ _ hm
  have k1 := h1
  have lt1 : ∀ x ∈ p1, x.block < W.heap.size := by obtain ⟨m, hm⟩ := k1; exact DataW.trod_lt m _ _ _ hm
  obtain ⟨a0, ao0, cap0, rfl, w0⟩ := open_ctx (hval 0 26 v0 rfl rfl) h0
  obtain ⟨a1, rfl, w1⟩ := open_ins (hval 1 28 v1 rfl rfl) h1
  clear hA0 hval0
  refine (walk a0 ao0 cap0 w0 a1 w1 (of_laid hL hsh)).mono fun e W' ⟨he, bel⟩ => ?_
  subst he
  exact ⟨_, rfl, _, _, _, [], _, [], hW', trodAll_mk1 (shut_bool Tryd.underlying4 _), (trodAll_cons_mk (Below.trod laidOut (by kernel_rfl) (of_decide_eq_true (by kernel_rfl)) k0 bel lt0) (trodAll_cons_mk (Below.trod laidOut (by kernel_rfl) (of_decide_eq_true (by kernel_rfl)) k1 bel lt1) trodAll_mk0)), rfl, bel.frame _, fun h => by cases h⟩

theorem over : Rows.CpuKeepsSaid :=
  OpenClaim.holds_of_wide 6 Tryd.f6 rfl rfl rfl rfl rfl rfl rfl ⟨rfl, rfl, rfl, rfl, rfl⟩ rfl rfl rfl rfl rfl (by kernel_rfl) Tryd.func6 (by kernel_rfl)
    (of_decide_eq_true (by kernel_rfl)) (by unfold Func.isWrapper; first | (rw [if_pos (by decide +kernel)]; kernel_rfl) | (rw [if_neg (by decide +kernel)]; exact ⟨rfl, rfl⟩))
    (fun os started H enc _ => lifted os started H enc)

theorem proved : Rows.CpuKeepsCardSaid :=
  Claim7.holds_tied_plain_at .later [] _ true _ false over (fun _ h => by cases h) (by kernel_rfl) (fun _ h => by cases h) cpuKeeps_row_tie rfl ⟨rfl, rfl⟩ (by kernel_rfl) rfl
    (fun f fn hf hfn => by
      obtain rfl : f = 6 := Option.some.inj ((show Tryd.prog.funcNamed "taffrail/taffraillaw13.CpuKeeps" = some 6 by kernel_rfl).symm.trans hf) |>.symm
      obtain rfl : fn = Tryd.f6 := (Option.some.inj (Tryd.func6.symm.trans hfn)).symm
      refine ⟨by kernel_rfl, fun j t ht => ?_⟩
      rw [Tryd.params6] at ht
      have hm : t ∈ [26, 28] := by simpa using Array.mem_of_getElem? ht
      have hall : ([26, 28].all fun u => !Tryd.prog.wantsStandIn u) = true := by kernel_rfl
      exact (show Tryd.prog.wantsStandIn t = false by simpa using List.all_eq_true.1 hall t hm))
    (by kernel_rfl)
#print axioms proved

end Go.Proofs.YtoalgajbahlpjaaDoor.CpuKeeps
