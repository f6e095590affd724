/-
  HuntBurst: of frames one behind the other, behind one burst of at most 32 bits, just those are told that have all their bytes as they were, and each gap: for every input the statement's function answers true. Conditions: none beyond the card's own: the listed package variables start as the program's text lays them, which the card ties to that text.
-/
import Derived.Test.YtobioiicbdhboaaDoorHuE
import Derived.Test.YtobioiicbdhboaaDoorTie
import Derived.Test.YtobioiicbdhboaaDoorCards
import Derived.ProofKit
import Derived.OpenShut
import Derived.ShutString
import Derived.LaidMore
import Derived.Lay
import Derived.SevenTiedAt
import Derived.Stop.Joined
import Derived.Deep.DeepHandedRow
import Derived.BigRegion
import Derived.Deep.RegionWith
import Derived.Deep.DeepCutAuto
namespace Go.Proofs.YtobioiicbdhboaaDoor.HuntBurst
open Go.ChangeShapes Go.WideShapes Go.ChangeAt Go.RowKit
open Go.ChangeMaps (open_string shut_string)
set_option linter.unusedVariables false
set_option linter.unusedSimpArgs false

set_option maxRecDepth 100000 in
set_option maxHeartbeats 4000000 in
theorem walk_out {w : World} (ao : Option Addr) (len cap : Nat) (k p : Int) (ho : 100 < len ∨ k < 0 ∨ 20000 < k) (hL : EvL w) :
    Calls Tryd.prog 6 #[.slice ao len cap, .int .i64 k, .int .u32 p] w fun r w' => r = .returned (.bool true) ∧ Below w.heap.size w w' := by
  have HL := Lib.hid hL
  have hcs : decide ((100 : Int) < (len : Int)) = true ∨ (decide ((100 : Int) < (len : Int)) = false ∧ decide (k < 0) = true) ∨ (decide ((100 : Int) < (len : Int)) = false ∧ decide (k < 0) = false ∧ decide ((20000 : Int) < k) = true) := by
    simp only [decide_eq_true_eq, decide_eq_false_iff_not]; omega
  clear hL ho
  go_enter Tryd.func6, Tryd.ntmps6
  go_wp2_with fail
  refine (awake9_any w HL.out).mono ?_
  rintro r w3 ⟨rfl, b3⟩
  have B3 := Lib.hid b3
  clear b3
  rcases hcs with h1 | ⟨h1, h2⟩ | ⟨h1, h2, h3⟩
  all_goals
    go_wp2_with fail
    refine (awake9_any w3 (HL.out.below B3.out)).mono ?_
    rintro r w4 ⟨rfl, b4⟩
    have B4 := Lib.hid (B3.out.trans (b4.mono B3.out.size))
    clear b4
    go_wp2_with fail
    go_ret
    exact ⟨rfl, B4.out⟩

set_option maxRecDepth 100000 in
set_option maxHeartbeats 16000000 in
theorem walk_near {w : World} (ao : Option Addr) (cap : Nat) (l : List Fm) (hrow : ∀ i (hi : i < l.length), ∃ b off, ao = some ⟨b, off, none⟩ ∧ b < w.heap.size ∧ w.cell? ⟨b, off + i * 2, none⟩ = some (.int .u32 (l[i].f.q : Int)) ∧ w.cell? ⟨b, off + i * 2 + 1, none⟩ = some (.slice l[i].ao l[i].f.evs.length l[i].cap)) (hok : ∀ m ∈ l, SeenE w m.ao m.cap m.f.evs ∧ (∀ e ∈ m.f.evs, EvFits e) ∧ m.f.q < 4294967296) (hl : l.length ≤ 100) (k : Nat) (hk : k ≤ 20000) (p : Nat) (hp : p < 4294967296) (hL : EvL w) :
    Calls Tryd.prog 6 #[.slice ao l.length cap, .int .i64 k, .int .u32 p] w fun r w' => r = .returned (.bool true) ∧ Below w.heap.size w w' := by
  have hV := hL.lt
  have HL := Lib.hid hL
  obtain ⟨B, hB⟩ : ∃ B, w.heap.size = B := ⟨_, rfl⟩
  have HRi := Lib.hid (fun W (hb : Below B w W) (hw : B ≤ W.heap.size) => rising_any (W := W) B hw ao cap l hl
    (fun i hi => by
      obtain ⟨b, off, h1, h2, h3, h4⟩ := hrow i hi
      rw [hB] at h2
      exact ⟨b, off, h1, h2, (hb.cell (p := ⟨b, off + i * 2, none⟩) h2).trans h3, (hb.cell (p := ⟨b, off + i * 2 + 1, none⟩) h2).trans h4⟩)
    (fun m hm => by
      obtain ⟨h1, h2, h3⟩ := hok m hm
      have hpl : m.f.evs ≠ [] → ∀ x, m.ao = some x → x.block < B := fun hne => by rw [← hB]; exact seen_lt h1 (List.length_pos_iff.2 hne)
      exact ⟨h1.moved hpl hb, h2, h3, hpl⟩))
  have HA := Lib.hid (awake9_any w hL)
  rw [hB] at HA hV ⊢
  have HBe := Lib.hid hB
  have h1 : decide ((100 : Int) < (l.length : Int)) = false := by simp; omega
  have h2 : decide ((k : Int) < 0) = false := by simp
  have h3 : decide ((20000 : Int) < (k : Int)) = false := by simp; omega
  obtain ⟨N0, hN0⟩ : ∃ N0, l.length = N0 := ⟨_, rfl⟩
  rw [hN0] at h1 HRi ⊢
  clear hL hB hrow hok hl hN0
  go_enter Tryd.func6, Tryd.ntmps6
  go_wp2_with fail
  refine HA.out.mono ?_
  rintro r w1 ⟨rfl, b1⟩
  have B1 := Lib.hid b1
  have S1 := Lib.hid (show B ≤ w1.heap.size by rw [← HBe.out]; exact b1.size)
  clear b1 HA
  go_wp2_with fail
  refine (HRi.out w1 B1.out S1.out).mono ?_
  rintro r w2 ⟨a1, p1, a2, p2, lf, n, rfl, ri⟩
  have RI2 := Lib.hid ri
  have hM8 := ri.len
  have HRF := Lib.hid ri.rise.rise
  have B2 := Lib.hid (B1.out.trans (ri.bel.mono S1.out))
  have S2 := Lib.hid (Nat.le_trans ri.hBC ri.hC)
  obtain ⟨M, hM⟩ : ∃ M, lf.length = M := ⟨_, rfl⟩
  rw [hM] at RI2 hM8 ⊢
  have HM := Lib.hid hM
  clear ri hM HRi B1 S1
  go_wp2_with fail
  go_loopw [9, 44] (fun all i wr => ∃ (j : Nat) (X : ByteArray), j ≤ M ∧ i = .int .i64 j ∧ all = .string X ∧ X.data.toList = catF ((lf.take j).map Fm.f) ∧ X.size ≤ 179 * j ∧ wr = w2) (fun _ i _ => M - (intOf i).toNat)
  case atStart => exact ⟨0, ⟨#[]⟩, Nat.zero_le _, rfl, rfl, by simp [catF], Nat.zero_le _, rfl⟩
  case round =>
    obtain ⟨j, X, hj, rfl, rfl, hX, hXs, hwr⟩ := hrel
    subst hwr
    have HX := Lib.hid hX
    clear hX
    by_cases hlt : j < M
    · have hj1 : j < (lf.map txOf).length := by rw [List.length_map, HM.out]; exact hlt
      have hj2 : j < lf.length := by rw [HM.out]; exact hlt
      have htx := RI2.out.tx
      obtain ⟨g, hg, c0⟩ := htx.at j hj1
      cases hg
      rw [List.getElem_map] at c0
      have hok : lf[j].f.Ok := rise_ok HRF.out _ (List.mem_map_of_mem (List.getElem_mem hj2))
      have hsz : (txOf lf[j]).size = lf[j].f.text.length := mk_size _
      have hln := hok.len
      have HY : Hid ((txOf lf[j]).data.toList = lf[j].f.text) := Lib.hid rfl
      have HTk : Hid ((lf.take (j + 1)).map Fm.f = (lf.take j).map Fm.f ++ [lf[j].f]) := Lib.hid (by rw [List.take_succ_eq_append_getElem hj2, List.map_append]; rfl)
      generalize txOf lf[j] = Y at *
      have zz : ¬ 9223372036854775807 < X.size + Y.size := by omega
      have hjI : (j : Int) < (M : Int) := by omega
      have hYs : Y.size ≤ 179 := by omega
      clear hok hln hsz htx
      go_wp2_with fail
      go_roundw
      case rel => exact ⟨j + 1, X ++ Y, by omega, by go_num, rfl, by rw [app_list, HX.out, HY.out, HTk.out, catF_append]; simp [catF], by rw [ByteArray.size_append]; omega, by trivial⟩
      case measure => simp [intOf]; omega
    · have hd1 : decide ((j : Int) < (M : Int)) = false := by simp; omega
      have hd2 : decide (j < M) = false := by simp; omega
      have hnI : ¬ ((j : Int) < (M : Int)) := by omega
      have HXa : Hid (X.data.toList = catF (lf.map Fm.f)) := Lib.hid (by rw [HX.out, List.take_of_length_le (by rw [HM.out]; omega)])
      have hX0 : X.size ≤ 1432 := by omega
      have HSp := Lib.hid (spoil_any X (by unfold maxLen; omega) k p (by omega) hp wr)
      clear HX hlt hXs
      go_wp2_with fail
      refine HSp.out.mono ?_
      rintro r w3 ⟨tl, hl1, hn1, rfl, b3⟩
      have HTl := Lib.hid hl1
      have HTn := Lib.hid hn1
      have RI3 := Lib.hid (RI2.out.below b3)
      have B3 := Lib.hid (B2.out.trans (b3.mono S2.out))
      have S3 := Lib.hid (Nat.le_trans S2.out b3.size)
      obtain ⟨Z, hZ⟩ : ∃ Z : ByteArray, Z = ⟨tl.toArray⟩ := ⟨_, rfl⟩
      have HZ : Hid (Z.data.toList = tl) := Lib.hid (by rw [hZ])
      have hZs : Z.size = X.size := by rw [hZ, mk_size, hl1]; rfl
      rw [← hZ]
      have HRow := Lib.hid (fun q hq => (RI3.out.fr.row.lt q hq).2)
      clear hl1 hn1 b3 hZ HSp RI2 B2 S2
      go_wp2_with fail
      obtain ⟨C3, hC3⟩ : ∃ C3, w3.heap.size = C3 := ⟨_, rfl⟩
      have HCC := Lib.hid RI3.out.hC
      rw [hC3] at HRow S3 HCC
      have HC3 := Lib.hid hC3
      have HTot : Hid ((catF (lf.map Fm.f)).length = Z.size) := Lib.hid (by rw [← HXa.out, hZs]; rfl)
      clear hC3
      go_loopw [14, 15, 61] (fun left from' i wr => ∃ (j o : Nat) (ll : List Fm), j ≤ M ∧ i = .int .i64 j ∧ from' = .int .i64 (o : Int) ∧ o = (catF ((lf.take j).map Fm.f)).length ∧ Hid (OwnF B C3 wr left ll) ∧ Hid (ll ++ keptM (lf.drop j) (tl.drop o) = keptM lf tl) ∧ Hid (RI B w1.heap.size w1 wr (.slice a1 M p1) (.slice a2 M p2) lf n) ∧ Hid (Below B w wr) ∧ C3 ≤ wr.heap.size ∧ ll.length ≤ j) (fun _ _ i _ => M - (intOf i).toNat)
      case atStart => exact ⟨0, 0, [], Nat.zero_le _, rfl, rfl, by simp [catF], Lib.hid (ownF_nil _ _ _), Lib.hid (by simp), RI3, B3, by rw [← HC3.out]; exact Nat.le_refl _, by simp⟩
      case round =>
        clear RI3 B3
        obtain ⟨j, o, ll, hj, rfl, rfl, ho, OL, HKp, RR, BB, hC3w, hllj⟩ := hrel
        obtain ⟨al, pl, hvl⟩ := OL.out.shape
        subst hvl
        have Ho := Lib.hid ho
        clear ho
        by_cases hlt : j < M
        · have hj1 : j < (lf.map txOf).length := by rw [List.length_map, HM.out]; exact hlt
          have hj2 : j < lf.length := by rw [HM.out]; exact hlt
          have htx := RR.out.tx
          obtain ⟨g, hg, c0⟩ := htx.at j hj1
          cases hg
          rw [List.getElem_map] at c0
          obtain ⟨gf, hgf, f0, f1⟩ := RR.out.fr.at j hj2
          cases hgf
          have hfo := RR.out.fr.ok _ (List.getElem_mem hj2)
          have hok : lf[j].f.Ok := rise_ok HRF.out _ (List.mem_map_of_mem (List.getElem_mem hj2))
          have hsz : (txOf lf[j]).size = lf[j].f.text.length := mk_size _
          have hln := hok.len
          have hTk : (lf.take (j + 1)).map Fm.f = (lf.take j).map Fm.f ++ [lf[j].f] := by rw [List.take_succ_eq_append_getElem hj2, List.map_append]; rfl
          have hon : o + (txOf lf[j]).size = (catF ((lf.take (j + 1)).map Fm.f)).length := by rw [hTk, catF_append, List.length_append, Ho.out, hsz]; simp [catF]
          have hle : o + (txOf lf[j]).size ≤ Z.size := by
            rw [hon, ← HTot.out]
            conv => rhs; rw [← List.take_append_drop (j + 1) lf, List.map_append, catF_append, List.length_append]
            omega
          have hkp : keptM (lf.drop j) (tl.drop o) = if (tl.drop o).take (txOf lf[j]).size = lf[j].f.text then lf[j] :: keptM (lf.drop (j + 1)) (tl.drop (o + (txOf lf[j]).size)) else keptM (lf.drop (j + 1)) (tl.drop (o + (txOf lf[j]).size)) := by
            rw [List.drop_eq_getElem_cons hj2, keptM, hsz, List.drop_drop]
          have hE : (Z.extract o (o + (txOf lf[j]).size)).data.toList = (tl.drop o).take (txOf lf[j]).size := by rw [extract_part _ _ _ hle, HZ.out]; congr 1; omega
          have hYl : (txOf lf[j]).data.toList = lf[j].f.text := rfl
          have Hon := Lib.hid hon
          have Hkp := Lib.hid hkp
          have HE := Lib.hid hE
          have HYl := Lib.hid hYl
          have hjI : (j : Int) < (M : Int) := by omega
          have hYs : (txOf lf[j]).size ≤ 179 := by omega
          have hoz : o ≤ Z.size := by omega
          have hZ0 : Z.size ≤ 1432 := by omega
          clear hok hln hsz htx hTk hon hkp hE hYl
          obtain ⟨mj, hmj⟩ : ∃ mj, lf[j] = mj := ⟨_, rfl⟩
          rw [hmj] at c0 f0 f1 hfo hle Hon Hkp HE HYl hYs
          obtain ⟨⟨q, evs⟩, aoE, capE⟩ := mj
          simp only at f0 f1
          generalize txOf ⟨⟨q, evs⟩, aoE, capE⟩ = Y at *
          obtain ⟨E, hEE⟩ : ∃ E, Z.extract o (o + Y.size) = E := ⟨_, rfl⟩
          rw [hEE] at HE
          by_cases heq : E = Y
          · have hb1 : (E.toList == Y.toList) = true := by rw [heq]; simp
            have hcond : (tl.drop o).take Y.size = (Fm.mk ⟨q, evs⟩ aoE capE).f.text := by rw [← HE.out, heq, HYl.out]
            have HK2 : Hid ((ll ++ [⟨⟨q, evs⟩, aoE, capE⟩]) ++ keptM (lf.drop (j + 1)) (tl.drop (o + Y.size)) = keptM lf tl) := Lib.hid (by rw [← HKp.out, Hkp.out, if_pos hcond]; simp)
            clear hcond HKp Hkp
            have hBw : B ≤ wr.heap.size := Nat.le_trans S3.out hC3w
            have b5 : Below wr.heap.size wr (wr.alloc (frO q aoE evs.length capE)) := (Below.refl _ wr).alloc (Nat.le_refl _) _
            have OL5 := Lib.hid (OL.out.below hBw b5)
            have FO5 := Lib.hid (hfo.below (b5.mono hBw))
            have HBw := Lib.hid (Nat.le_trans hBw b5.size)
            clear b5 hfo heq
            go_wp2_with (at_builtin; refine wpList_append_fm rfl _ _ rfl C3 _ rfl ll (World.ownsRow.alloc OL.out.row _) ?_ ⟨⟨q, evs⟩, aoE, capE⟩ _ rfl (heap_alloc_new wr _) (by omega) ?_)
            · first | omega | (simp; omega)
            · intro a6 p6 w6 r6 g6
              have OL6 := Lib.hid (OL5.out.app (v' := .slice a6 (ll.length + 1) p6) HBw.out S3.out ⟨⟨q, evs⟩, aoE, capE⟩ FO5.out (by rw [List.length_append]; exact r6) g6)
              have RR6 := Lib.hid (RR.out.left OL.out HCC.out HRow.out _ g6)
              have BB6 := Lib.hid (BB.out.trans (left_below OL.out S3.out hBw _ g6))
              have Z6 := Lib.hid (show C3 ≤ w6.heap.size from Nat.le_trans hC3w (by have := g6.size; simp at this; omega))
              clear r6 g6 OL5 FO5 RR BB OL c0 f0 f1
              go_wp2_with fail
              go_roundw
              case rel => exact ⟨j + 1, o + Y.size, ll ++ [⟨⟨q, evs⟩, aoE, capE⟩], by omega, by go_num, by go_num, Hon.out, OL6, HK2, RR6, BB6, Z6.out, by simp; omega⟩
              case measure => simp [intOf]; omega
          · have hb1 : (E.toList == Y.toList) = false := by
              rw [ByteArray.toList_eq, ByteArray.toList_eq, beq_eq_false_iff_ne]
              intro h1
              refine heq ?_
              cases E; cases Y; congr 1; exact Array.toList_inj.1 h1
            have hcond : ¬ (tl.drop o).take Y.size = (Fm.mk ⟨q, evs⟩ aoE capE).f.text := fun h => heq (by
              have h1 : E.data.toList = Y.data.toList := by rw [HE.out, h, HYl.out]
              cases E; cases Y; congr 1; exact Array.toList_inj.1 h1)
            have HK2 : Hid (ll ++ keptM (lf.drop (j + 1)) (tl.drop (o + Y.size)) = keptM lf tl) := Lib.hid (by rw [← HKp.out, Hkp.out, if_neg hcond])
            clear hcond HKp Hkp
            go_wp2_with fail
            go_roundw
            case rel => exact ⟨j + 1, o + Y.size, ll, by omega, by go_num, by go_num, Hon.out, OL, HK2, RR, BB, hC3w, by omega⟩
            case measure => simp [intOf]; omega
        · have hd3 : decide ((j : Int) < (M : Int)) = false := by simp; omega
          have hd4 : decide (j < M) = false := by simp; omega
          have hmI : ¬ ((j : Int) < (M : Int)) := by omega
          have hll : ll = keptM lf tl := by
            have := HKp.out
            rw [List.drop_of_length_le (by rw [HM.out]; omega)] at this
            simpa [keptM] using this
          have HRise : Hid (Rise 0 (ll.map Fm.f)) := Lib.hid (by rw [hll, keptM_map]; exact rise_kept _ _ _ HRF.out)
          have hll8 : ll.length ≤ 8 := by omega
          have HTold : Hid ((shutS Z.data.toList).told = toldL 0 (ll.map Fm.f)) := Lib.hid (by
            rw [hll, keptM_map, HZ.out]
            refine shut_burst HRF.out (a := k) (p := p) hp ?_ ?_
            · rw [HTl.out, HXa.out]
            · rw [HTn.out, HXa.out])
          obtain ⟨CL, hCL⟩ : ∃ CL, CL = C3 := ⟨_, rfl⟩
          have O5 : Hid (OwnF B CL wr (.slice al ll.length pl) ll) := by rw [hCL]; exact OL
          have B5 := BB
          have S5 : Hid (B ≤ wr.heap.size) := Lib.hid (Nat.le_trans S3.out hC3w)
          have hX9 : Z.size ≤ 1432 := by omega
          obtain ⟨w5, hw5⟩ : ∃ w5, wr = w5 := ⟨_, rfl⟩
          rw [hw5] at O5 B5 S5 ⊢
          clear hll hlt HKp OL BB RR hw5 hCL Ho
          go_wp2_with fail
          refine (make_any w5).mono ?_
          rintro r w6 ⟨rfl, t6, b6⟩
          have T6 := Lib.hid t6
          have B6 := Lib.hid (B5.out.trans (b6.mono S5.out))
          have S6 := Lib.hid (Nat.le_trans S5.out b6.size)
          have L6 := Lib.hid (HL.out.below (by rw [HBe.out]; exact B6.out))
          have O6 := Lib.hid (O5.out.below S5.out b6)
          obtain ⟨t, ht⟩ : ∃ t, w5.heap.size = t := ⟨_, rfl⟩
          rw [ht] at T6 ⊢
          clear t6 b6 ht B5 S5 O5
          go_wp2_with fail
          refine (hnew_any w6 t).mono ?_
          rintro r w7 ⟨rfl, hw7⟩
          have P7 := Lib.hid (show HB w w7 B w6.heap.size t (.slice none 0 0) hs0 false by rw [hw7]; exact hb_new S6.out B6.out L6.out T6.out)
          have O7 := Lib.hid (show OwnF B CL w7 (.slice al ll.length pl) ll by rw [hw7]; exact O6.out.below S6.out ((Below.refl _ _).alloc (Nat.le_refl _) _))
          obtain ⟨b, hb⟩ : ∃ b, w6.heap.size = b := ⟨_, rfl⟩
          rw [hb] at P7 ⊢
          clear hw7 hb B6 S6 L6 O6 T6
          go_wp2_with fail
          refine (run9_first P7.out hV Z (by omega) (by omega)).mono ?_
          rintro r w8 ⟨vg, lg, cp, v8, rfl, r8, o8⟩
          have R8 := Lib.hid r8
          have O8 := Lib.hid (O7.out.hunter P7.out.le P7.out.hu.tag P7.out.hu.base o8)
          obtain ⟨C8, hC8⟩ : ∃ C8, w7.heap.size = C8 := ⟨_, rfl⟩
          rw [hC8] at R8
          clear r8 o8 P7 O7 hC8
          go_wp2_with fail
          refine (R8.out.shut (by rw [show Z.data.toList.length = Z.size from rfl]; omega)).mono ?_
          rintro r w9 ⟨vg9, lg9, cp9, v9, rfl, r9, ra9, le9, len9, o9, own9, N9⟩
          have O9 := Lib.hid (O8.out.hunter R8.out.hb.le R8.out.hb.hu.tag R8.out.hb.hu.base o9)
          have S9 := Lib.hid (Nat.le_trans R8.out.hb.le o9.size)
          have R9 := Lib.hid r9
          have RA9 := Lib.hid ra9
          have OW9 := Lib.hid own9
          have N9' := Lib.hid N9
          have HBC := Lib.hid R8.out.hBC
          clear r9 ra9 own9 N9 o9 O8 R8
          go_wp2_with (at_builtin; refine wpList_append_im rfl _ _ rfl C8 0 _ _ rfl lg lg9 RA9.out le9 rfl R9.out (by omega) ?_)
          intro a10 p10 w10 r10 g10
          obtain ⟨h10, i10, m10⟩ := N9'.out (.slice a10 (lg.length + lg9.length) p10) w10 (by rw [List.length_append]; exact r10) g10
          have O10 := Lib.hid (O9.out.items S9.out OW9.out HBC.out g10)
          have H10 := Lib.hid h10
          have I10 := Lib.hid i10
          have M10 := Lib.hid m10
          have LB := Lib.hid (show (lg ++ lg9).length ≤ 4000000 by rw [List.length_append]; omega)
          clear r10 g10 h10 i10 m10 N9' R9 RA9 OW9 O9
          generalize lg.length + lg9.length = nn at *
          go_wp2_with fail
          refine (told_any O10.out H10.out.le HRise.out hll8).mono ?_
          rintro r w11 ⟨a11, p11, lt, rfl, i11, m11, -, b11⟩
          have I11 := Lib.hid (I10.out.below b11)
          have J11 := Lib.hid i11
          have E11 := Lib.hid (M10.out.trans (HTold.out.trans m11.symm))
          have B11 := Lib.hid (H10.out.bel.trans (b11.mono H10.out.le))
          clear i11 m11 b11 I10 M10 H10 O10
          go_wp2_with fail
          refine (hsame_any I11.out J11.out E11.out LB.out).mono ?_
          rintro r w12 ⟨rfl, nq, rfl⟩
          go_wp2_with fail
          go_ret
          exact ⟨rfl, below_drewN B11.out nq⟩

theorem walk {w : World} (ao : Option Addr) (len cap : Nat) (l : List Fm) (h : l.length = len ∧ (∀ i (hi : i < l.length), ∃ b off, ao = some ⟨b, off, none⟩ ∧ b < w.heap.size ∧ w.cell? ⟨b, off + i * 2, none⟩ = some (.int .u32 (l[i].f.q : Int)) ∧ w.cell? ⟨b, off + i * 2 + 1, none⟩ = some (.slice l[i].ao l[i].f.evs.length l[i].cap)) ∧ ∀ m ∈ l, SeenE w m.ao m.cap m.f.evs ∧ (∀ e ∈ m.f.evs, EvFits e) ∧ m.f.q < 4294967296) (k : Int) (_ : (Lit.int .i64 k).wf = true) (p : Int) (wp : (Lit.int .u32 p).wf = true) (hL : EvL w) :
    Calls Tryd.prog 6 #[.slice ao len cap, .int .i64 k, .int .u32 p] w fun r w' => r = .returned (.bool true) ∧ Below w.heap.size w w' := by
  obtain ⟨rfl, hrow, hok⟩ := h
  by_cases ho : 100 < l.length ∨ k < 0 ∨ 20000 < k
  · exact walk_out ao _ cap k p ho hL
  · obtain ⟨k', rfl⟩ := Int.eq_ofNat_of_zero_le (show 0 ≤ k by omega)
    obtain ⟨p', rfl, hp⟩ := wf_u32 wp
    exact walk_near ao cap l hrow hok (by omega) k' (by omega) p' hp hL

theorem own : ownKnob Tryd.prog.godebug = none := by kernel_rfl
theorem laidOut : laidOutB Tryd.prog = true := by kernel_rfl

set_option maxRecDepth 100000 in
theorem lifted (os : Os) (started : os.Started) (H : Type) (enc : TypeId × Value → H) :
    ReturnsInHanded {} Tryd.checked os 6 .any (fun w args => (Rows.huntBurstSpec.pre enc Tryd.prog Tryd.f6 Rows.huntBurstRow.domain false w args ∧ laidMetH Tryd.prog laidL w) ∧ sizedMet enc Tryd.prog Tryd.f6 (OpenSpec.ofChange Rows.huntBurstSpec) false w args) (Rows.huntBurstSpec.post enc Tryd.prog Tryd.f6 false true false false) := by
  refine returnsInHanded_of_row (s := OpenSpec.ofChange Rows.huntBurstSpec) (F := fun _ _ _ => 0) (laid := laidL) (C := Tryd.checked) own started (by kernel_rfl) Tryd.func6
    (ChangeSpec.witness_shaped (enc := enc) (C := Tryd.checked) (os := os) (s := Rows.huntBurstSpec) (X := fun w _ => laidMetH Tryd.prog laidL w) false (World.laidAll Tryd.prog os laidL) #[.slice none 0 0, .int .i64 0, .int .u32 0] 8 (World.laidAll_os _ _ _)
      (World.shaped_of_ZipB (by kernel_rfl) (by kernel_rfl)) (by kernel_rfl) (by kernel_rfl) (by kernel_rfl)
      (by rw [MakeChecks.laidMetH_plain _ _ _ (by kernel_rfl)]; exact laidMet_laidAll _ (by kernel_rfl) (by kernel_rfl))) ?_
  intro W base args ds gs before hval0 hW hcnd _ hsz0 hL hsh _
  have hval : ∀ (j : Nat) t v, Tryd.f6.params[j]? = some t → args[j]? = some v → Value.okWide Tryd.prog W .any base t v := hval0
  have hW' := hW
  obtain ⟨p, q, hA0, hV, rfl, hfz, hnd⟩ := hW
  have hA : DataW.TrodAll enc Tryd.prog W 0 (fun _ => true) true Tryd.f6.params.toList args.toList ds p := hA0
  rw [Tryd.params6] at hA hval
  obtain ⟨v0, vs0, d0, ds0, p0, q0, hargs, rfl, rfl, h0, r0⟩ := trodAll_cons hA
  obtain ⟨v1, vs1, d1, ds1, p1, q1, rfl, rfl, rfl, h1, r1⟩ := trodAll_cons r0
  obtain ⟨v2, vs2, d2, ds2, p2, q2, rfl, rfl, rfl, h2, r2⟩ := trodAll_cons r1
  obtain ⟨rfl, rfl, rfl⟩ := trodAll_nil r2
  obtain rfl : args = #[v0, v1, v2] := by cases args; simp_all
  obtain ⟨rfl, rfl⟩ := trodVars_none hV
  have k0 := h0
  have lt0 : ∀ x ∈ p0, x.block < W.heap.size := by obtain ⟨m, hm⟩ := k0; exact DataW.trod_lt m _ _ _ hm
  have k1 := h1
  have lt1 : ∀ x ∈ p1, x.block < W.heap.size := by obtain ⟨m, hm⟩ := k1; exact DataW.trod_lt m _ _ _ hm
  have k2 := h2
  have lt2 : ∀ x ∈ p2, x.block < W.heap.size := by obtain ⟨m, hm⟩ := k2; exact DataW.trod_lt m _ _ _ hm
  obtain ⟨a0, len0, cap0, rfl⟩ := okWide_slice Tryd.underlying49 (hval 0 49 v0 rfl rfl)
  obtain ⟨z0, w0⟩ := open_frames h0
  obtain ⟨a1, rfl, rfl, rfl, w1⟩ := open_int Tryd.underlying3 (hval 1 3 v1 rfl rfl) h1
  obtain ⟨a2, rfl, rfl, rfl, w2⟩ := open_int Tryd.underlying41 (hval 2 41 v2 rfl rfl) h2
  clear hA0 hval0
  refine (walk a0 len0 cap0 z0 w0 a1 w1 a2 w2 (of_laid hL hsh)).mono fun e W' ⟨he, bel⟩ => ?_
  subst he
  exact ⟨_, rfl, _, _, _, [], _, [], hW', trodAll_mk1 (shut_bool Tryd.underlying4 _), (trodAll_cons_mk (Below.trod laidOut (by kernel_rfl) (of_decide_eq_true (by kernel_rfl)) k0 bel lt0) (trodAll_cons_mk (Below.trod laidOut (by kernel_rfl) (of_decide_eq_true (by kernel_rfl)) k1 bel lt1) (trodAll_cons_mk (Below.trod laidOut (by kernel_rfl) (of_decide_eq_true (by kernel_rfl)) k2 bel lt2) trodAll_mk0))), rfl, bel.frame _, fun h => by cases h⟩

theorem over : Rows.HuntBurstSaid :=
  OpenClaim.holds_of_wide 6 Tryd.f6 rfl rfl rfl rfl rfl rfl rfl ⟨rfl, rfl, rfl, rfl, rfl⟩ rfl rfl rfl rfl rfl (by kernel_rfl) Tryd.func6 (by kernel_rfl)
    (of_decide_eq_true (by kernel_rfl)) (by unfold Func.isWrapper; first | (rw [if_pos (by decide +kernel)]; kernel_rfl) | (rw [if_neg (by decide +kernel)]; exact ⟨rfl, rfl⟩))
    (fun os started H enc _ => lifted os started H enc)

theorem proved : Rows.HuntBurstCardSaid :=
  Claim7.holds_tied_plain_at .later [] _ true _ false over (fun _ h => by cases h) (by kernel_rfl) (fun _ h => by cases h) huntBurst_row_tie rfl ⟨rfl, rfl⟩ (by kernel_rfl) rfl
    (fun f fn hf hfn => by
      obtain rfl : f = 6 := Option.some.inj ((show Tryd.prog.funcNamed "taffrail/taffraillaw09.HuntBurst" = some 6 by kernel_rfl).symm.trans hf) |>.symm
      obtain rfl : fn = Tryd.f6 := (Option.some.inj (Tryd.func6.symm.trans hfn)).symm
      refine ⟨by kernel_rfl, fun j t ht => ?_⟩
      rw [Tryd.params6] at ht
      have hm : t ∈ [49, 3, 41] := by simpa using Array.mem_of_getElem? ht
      have hall : ([49, 3, 41].all fun u => !Tryd.prog.wantsStandIn u) = true := by kernel_rfl
      exact (show Tryd.prog.wantsStandIn t = false by simpa using List.all_eq_true.1 hall t hm))
    (by kernel_rfl)
#print axioms proved

end Go.Proofs.YtobioiicbdhboaaDoor.HuntBurst
