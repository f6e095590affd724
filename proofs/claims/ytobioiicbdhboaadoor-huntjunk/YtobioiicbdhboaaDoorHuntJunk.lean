/-
  HuntJunk: bytes without a 255 ahead of, between and behind frames hide none of them: for every input the statement's function answers true. Conditions: none beyond the card's own: the listed package variables start as the program's text lays them, which the card ties to that text.
-/
import Derived.Test.YtobioiicbdhboaaDoorHuE
import Derived.Test.YtobioiicbdhboaaDoorTie
import Derived.Test.YtobioiicbdhboaaDoorCards
import Derived.ProofKit
import Derived.OpenShut
import Derived.ShutString
import Derived.LaidMore
import Derived.Lay
import Derived.SevenTiedAt
import Derived.Stop.Joined
import Derived.Deep.DeepHandedRow
import Derived.BigRegion
import Derived.Deep.RegionWith
import Derived.Deep.DeepCutAuto
namespace Go.Proofs.YtobioiicbdhboaaDoor.HuntJunk
open Go.ChangeShapes Go.WideShapes Go.ChangeAt Go.RowKit
open Go.ChangeMaps (open_string shut_string)
set_option linter.unusedVariables false
set_option linter.unusedSimpArgs false

theorem no255_take {s : ByteArray} {j : Nat} (h : ∀ i, i < j → s.data.toList[i]? ≠ some 255) (hj : s.size ≤ j) : ∀ b ∈ s.data.toList, b ≠ 255 := by
  intro b hb e
  obtain ⟨i, hi, he⟩ := List.mem_iff_getElem.1 hb
  have hl : s.data.toList.length = s.size := rfl
  exact h i (by omega) (by rw [List.getElem?_eq_getElem hi, he, e])
/-- The texts from a place on, as lists. -/
def junkL (f : Nat → ByteArray) (len k : Nat) : List (List UInt8) := (List.range' k (len - k)).map fun i => (f i).data.toList
theorem junkL_cons {f : Nat → ByteArray} {len k : Nat} (h : k < len) : junkL f len k = (f k).data.toList :: junkL f len (k + 1) := by
  unfold junkL
  rw [show len - k = (len - (k + 1)) + 1 by omega, List.range'_succ, List.map_cons]
theorem junkL_nil {f : Nat → ByteArray} {len k : Nat} (h : len ≤ k) : junkL f len k = [] := by
  unfold junkL
  rw [show len - k = 0 by omega]; rfl
theorem junkL_no {f : Nat → ByteArray} {len : Nat} (h : ∀ i, i < len → ∀ b ∈ (f i).data.toList, b ≠ 255) : ∀ j ∈ junkL f len 0, ∀ b ∈ j, b ≠ 255 := by
  intro j hj
  unfold junkL at hj
  obtain ⟨i, hi, rfl⟩ := List.mem_map.1 hj
  have := List.mem_range'_1.1 hi
  exact h i (by omega)

set_option maxRecDepth 100000 in
set_option maxHeartbeats 4000000 in
theorem walk_out {w : World} (ao : Option Addr) (len cap : Nat) (bo : Option Addr) (lj cj : Nat) (f : Nat → ByteArray) (hs : Seen w bo lj cj (fun i => .string (f i))) (hz : ∀ k, (f k).size ≤ maxLen) (hlj : lj * 16 ≤ 140737488351232) (ho : 100 < len ∨ muchT lj f = true) (hL : EvL w) :
    Calls Tryd.prog 7 #[.slice ao len cap, .slice bo lj cj] w fun r w' => r = .returned (.bool true) ∧ Below w.heap.size w w' := by
  have HL := Lib.hid hL
  have HSn := Lib.hid hs
  have HG := Lib.hid (fun W h => great9_any bo lj cj f W h hz (by omega))
  have hcs : decide ((100 : Int) < (len : Int)) = true ∨ (decide ((100 : Int) < (len : Int)) = false ∧ muchT lj f = true) := by
    rcases Nat.lt_or_ge 100 len with h | h
    · left; simp; omega
    · right
      refine ⟨by simp; omega, ho.elim (fun h' => by omega) id⟩
  clear hL ho hs hz
  go_enter Tryd.func7, Tryd.ntmps7
  go_wp2_with fail
  refine (awake9_any w HL.out).mono ?_
  rintro r w3 ⟨rfl, b3⟩
  have B3 := Lib.hid b3
  clear b3
  rcases hcs with h1 | ⟨h1, h2⟩
  · go_wp2_with fail
    refine (awake9_any w3 (HL.out.below B3.out)).mono ?_
    rintro r w4 ⟨rfl, b4⟩
    have B4 := Lib.hid (B3.out.trans (b4.mono B3.out.size))
    clear b4
    go_wp2_with fail
    go_ret
    exact ⟨rfl, B4.out⟩
  · rw [h2] at HG
    go_wp2_with fail
    refine (HG.out w3 (seen_below HSn.out B3.out)).mono ?_
    rintro r w4 ⟨rfl, rfl⟩
    go_wp2_with fail
    refine (awake9_any w3 (HL.out.below B3.out)).mono ?_
    rintro r w4 ⟨rfl, b4⟩
    have B4 := Lib.hid (B3.out.trans (b4.mono B3.out.size))
    clear b4
    go_wp2_with fail
    go_ret
    exact ⟨rfl, B4.out⟩

set_option maxRecDepth 100000 in
set_option maxHeartbeats 16000000 in
theorem walk_near {w : World} (ao : Option Addr) (cap : Nat) (l : List Fm) (hrow : ∀ i (hi : i < l.length), ∃ b off, ao = some ⟨b, off, none⟩ ∧ b < w.heap.size ∧ w.cell? ⟨b, off + i * 2, none⟩ = some (.int .u32 (l[i].f.q : Int)) ∧ w.cell? ⟨b, off + i * 2 + 1, none⟩ = some (.slice l[i].ao l[i].f.evs.length l[i].cap)) (hok : ∀ m ∈ l, SeenE w m.ao m.cap m.f.evs ∧ (∀ e ∈ m.f.evs, EvFits e) ∧ m.f.q < 4294967296) (hl : l.length ≤ 100) (bo : Option Addr) (lj cj : Nat) (f : Nat → ByteArray) (hs : Seen w bo lj cj (fun i => .string (f i))) (hz : ∀ k, (f k).size ≤ maxLen) (hm : muchT lj f = false) (hL : EvL w) :
    Calls Tryd.prog 7 #[.slice ao l.length cap, .slice bo lj cj] w fun r w' => r = .returned (.bool true) ∧ Below w.heap.size w w' := by
  have hV := hL.lt
  have HL := Lib.hid hL
  have hfew : lj + sumT f lj ≤ 4000 := by unfold muchT at hm; simpa using hm
  have HSn := Lib.hid hs
  have HG := Lib.hid (fun W h => great9_any bo lj cj f W h hz (by omega))
  rw [hm] at HG
  obtain ⟨B, hB⟩ : ∃ B, w.heap.size = B := ⟨_, rfl⟩
  have HRi := Lib.hid (fun W (hb : Below B w W) (hw : B ≤ W.heap.size) => rising_any (W := W) B hw ao cap l hl
    (fun i hi => by
      obtain ⟨b, off, h1, h2, h3, h4⟩ := hrow i hi
      rw [hB] at h2
      exact ⟨b, off, h1, h2, (hb.cell (p := ⟨b, off + i * 2, none⟩) h2).trans h3, (hb.cell (p := ⟨b, off + i * 2 + 1, none⟩) h2).trans h4⟩)
    (fun m hm => by
      obtain ⟨h1, h2, h3⟩ := hok m hm
      have hpl : m.f.evs ≠ [] → ∀ x, m.ao = some x → x.block < B := fun hne => by rw [← hB]; exact seen_lt h1 (List.length_pos_iff.2 hne)
      exact ⟨h1.moved hpl hb, h2, h3, hpl⟩))
  have HA := Lib.hid (awake9_any w hL)
  rw [hB] at HA hV ⊢
  have HBe := Lib.hid hB
  have h1 : decide ((100 : Int) < (l.length : Int)) = false := by simp; omega
  obtain ⟨N0, hN0⟩ : ∃ N0, l.length = N0 := ⟨_, rfl⟩
  rw [hN0] at h1 HRi ⊢
  clear hL hB hrow hok hl hN0 hs hz hm
  go_enter Tryd.func7, Tryd.ntmps7
  go_wp2_with fail
  refine HA.out.mono ?_
  rintro r w1 ⟨rfl, b1⟩
  have B1 := Lib.hid b1
  have S1 := Lib.hid (show B ≤ w1.heap.size by rw [← HBe.out]; exact b1.size)
  have J1 := Lib.hid (seen_below HSn.out (by rw [HBe.out]; exact b1))
  clear b1 HA
  go_wp2_with fail
  refine (HG.out w1 J1.out).mono ?_
  rintro r w1' ⟨rfl, hww⟩
  subst hww
  clear HG HSn
  go_wp2_with fail
  go_loopw [29] (fun i wr => ∃ k : Nat, k ≤ lj ∧ i = .int .i64 k ∧ wr = w1 ∧ Hid (∀ i, i < k → ∀ b ∈ (f i).data.toList, b ≠ 255)) (fun i _ => lj - (intOf i).toNat)
  case atStart => exact ⟨0, Nat.zero_le _, rfl, rfl, Lib.hid (fun i hi => by omega)⟩
  case round =>
    obtain ⟨k, hk, rfl, hwr, HNo⟩ := hrel
    subst hwr
    by_cases hlt : k < lj
    · obtain ⟨g, off, hao, hgw, hcell⟩ := J1.out.row k hlt
      subst hao
      have c0 := hcell k hlt
      have hkI : (k : Int) < (lj : Int) := by omega
      obtain ⟨Y, hY⟩ : ∃ Y, f k = Y := ⟨_, rfl⟩
      rw [hY] at c0
      have HY := Lib.hid hY
      have hYs : Y.size ≤ 4000 := by rw [← hY]; exact (text_small hfew hlt).1
      clear hcell hgw hY
      go_wp2_with fail
      go_loopw [7] (fun x wr2 => ∃ j : Nat, x = .int .i64 j ∧ j ≤ Y.size ∧ wr2 = wr ∧ Hid (∀ i, i < j → Y.data.toList[i]? ≠ some 255)) (fun x _ => Y.size - (intOf x).toNat)
      case atStart => exact ⟨0, rfl, Nat.zero_le _, rfl, Lib.hid (fun i hi => by omega)⟩
      case round =>
        obtain ⟨j, rfl, hj, hw2, HN⟩ := hrel
        subst hw2
        by_cases hjl : j < Y.size
        · have hjI : (j : Int) < (Y.size : Int) := by omega
          by_cases hc : Y[j] = 255
          · have hb : (((Y[j].toNat : Nat) : Int) == 255) = true := by rw [hc]; rfl
            clear hc
            go_wp2_with fail
            go_ret
            exact ⟨rfl, B1.out⟩
          · have hb : (((Y[j].toNat : Nat) : Int) == 255) = false := by
              rw [beq_eq_false_iff_ne]
              intro e
              exact hc (u8_eq (by have : ((255 : UInt8).toNat) = 255 := rfl; omega))
            have HN2 : Hid (∀ i, i < j + 1 → Y.data.toList[i]? ≠ some 255) := Lib.hid (fun i hi e => by
              rcases Nat.lt_or_ge i j with h | h
              · exact HN.out i h e
              · have hij : i = j := by omega
                subst hij
                rw [get_some Y i hjl] at e
                exact hc (Option.some.inj e))
            clear hc HN
            go_wp2_with fail
            go_roundw
            case rel => exact ⟨j + 1, by go_num, by omega, by trivial, HN2⟩
            case measure => simp [intOf]; omega
        · have hd3 : decide ((j : Int) < (Y.size : Int)) = false := by simp; omega
          have hd4 : decide (j < Y.size) = false := by simp; omega
          have hmI : ¬ ((j : Int) < (Y.size : Int)) := by omega
          have HNo2 : Hid (∀ i, i < k + 1 → ∀ b ∈ (f i).data.toList, b ≠ 255) := Lib.hid (fun i hi => by
            rcases Nat.lt_or_ge i k with h | h
            · exact HNo.out i h
            · have hik : i = k := by omega
              subst hik
              rw [HY.out]
              exact no255_take HN.out (by omega))
          clear HN HNo
          go_wp2_with fail
          go_roundw
          case rel => exact ⟨k + 1, by omega, by go_num, by trivial, HNo2⟩
          case measure => simp [intOf]; omega
    · have hd1 : decide ((k : Int) < (lj : Int)) = false := by simp; omega
      have hd2 : decide (k < lj) = false := by simp; omega
      have hnI : ¬ ((k : Int) < (lj : Int)) := by omega
      have HNo' : Hid (∀ j ∈ junkL f lj 0, ∀ b ∈ j, b ≠ 255) := Lib.hid (junkL_no (fun i hi => HNo.out i (by omega)))
      clear HNo hlt
      go_wp2_with fail
      refine (HRi.out wr B1.out S1.out).mono ?_
      rintro r w2 ⟨a1, p1, a2, p2, lf, n, rfl, ri⟩
      have RI2 := Lib.hid ri
      have hM8 := ri.len
      have HRF := Lib.hid ri.rise.rise
      have B2 := Lib.hid (B1.out.trans (ri.bel.mono S1.out))
      have S2 := Lib.hid (Nat.le_trans ri.hBC ri.hC)
      have J2 := Lib.hid (fun i hi => by obtain ⟨b, off, h1, h2, h3⟩ := J1.out.row i hi; exact (⟨b, off, h1, (ri.bel.cell (p := ⟨b, off + i, none⟩) h2).trans (h3 i hi)⟩ : ∃ b off, bo = some ⟨b, off, none⟩ ∧ w2.cell? ⟨b, off + i, none⟩ = some (Value.string (f i))))
      obtain ⟨M, hM⟩ : ∃ M, lf.length = M := ⟨_, rfl⟩
      rw [hM] at RI2 hM8 ⊢
      have HM := Lib.hid hM
      obtain ⟨CW, hCW⟩ : ∃ CW, wr.heap.size = CW := ⟨_, rfl⟩
      rw [hCW] at RI2
      clear ri hM HRi B1 S1 J1 hCW
      obtain ⟨WV, hWV⟩ : ∃ WV, weave (junkL f lj 0) (lf.map Fm.f) = WV := ⟨_, rfl⟩
      have HWV := Lib.hid hWV
      clear hWV
      go_wp2_with fail
      go_loopw [10, 11] (fun all i wr3 => ∃ (j : Nat) (X : ByteArray), i = .int .i64 j ∧ j ≤ 4008 ∧ all = .string X ∧ Hid (X.data.toList ++ weave (junkL f lj j) ((lf.drop j).map Fm.f) = WV) ∧ X.size ≤ 179 * min j M + sumT f (min j lj) ∧ wr3 = w2) (fun _ i _ => 4010 - (intOf i).toNat)
      case atStart => exact ⟨0, ⟨#[]⟩, rfl, by omega, rfl, Lib.hid (by rw [List.drop_zero]; exact HWV.out), Nat.zero_le _, rfl⟩
      case round =>
        obtain ⟨j, X, rfl, hj, rfl, HX, hXs, hwr3⟩ := hrel
        subst hwr3
        by_cases hjl : j < lj
        · have hl1 : decide ((j : Int) < (lj : Int)) = true := by simp; omega
          have hl2 : decide (j < lj) = true := by simp; omega
          have hlI : (j : Int) < (lj : Int) := by omega
          obtain ⟨g, off, hao, c0⟩ := J2.out j hjl
          subst hao
          obtain ⟨hx1, hx2, hx3⟩ := text_small hfew hjl
          have hmn : min j lj = j := by omega
          have hmn1 : min (j + 1) lj = j + 1 := by omega
          have HJ1 := Lib.hid (junkL_cons (f := f) hjl)
          have HSm := Lib.hid hx2
          have HMn := Lib.hid hmn1
          rw [hmn] at hXs
          obtain ⟨Y, hY⟩ : ∃ Y, f j = Y := ⟨_, rfl⟩
          rw [hY] at c0 hx1 HJ1 HSm
          have hsj : sumT f j ≤ 4000 := by omega
          clear hmn hmn1 hx2
          by_cases hjm : j < M
          · have hm1 : decide ((j : Int) < (M : Int)) = true := by simp; omega
            have hm2 : decide (j < M) = true := by simp; omega
            have hmI : (j : Int) < (M : Int) := by omega
            have hj1 : j < (lf.map txOf).length := by rw [List.length_map, HM.out]; exact hjm
            have hj2 : j < lf.length := by rw [HM.out]; exact hjm
            have htx := RI2.out.tx
            obtain ⟨g2, hg2, c2⟩ := htx.at j hj1
            cases hg2
            rw [List.getElem_map] at c2
            have hok : lf[j].f.Ok := rise_ok HRF.out _ (List.mem_map_of_mem (List.getElem_mem hj2))
            have hsz : (txOf lf[j]).size = lf[j].f.text.length := mk_size _
            have hln := hok.len
            have HY2 : Hid ((txOf lf[j]).data.toList = lf[j].f.text) := Lib.hid rfl
            have HDr : Hid ((lf.drop j).map Fm.f = lf[j].f :: (lf.drop (j + 1)).map Fm.f) := Lib.hid (by rw [List.drop_eq_getElem_cons hj2, List.map_cons])
            obtain ⟨Y2, hY2⟩ : ∃ Y2, txOf lf[j] = Y2 := ⟨_, rfl⟩
            rw [hY2] at c2 hsz HY2
            have hY2s : Y2.size ≤ 179 := by omega
            have zz1 : ¬ 9223372036854775807 < X.size + Y.size := by omega
            obtain ⟨X1, hX1⟩ : ∃ X1, X ++ Y = X1 := ⟨_, rfl⟩
            have hX1s : X1.size = X.size + Y.size := by rw [← hX1, ByteArray.size_append]
            have zz2 : ¬ 9223372036854775807 < X1.size + Y2.size := by omega
            have HX2 : Hid ((X1 ++ Y2).data.toList ++ weave (junkL f lj (j + 1)) ((lf.drop (j + 1)).map Fm.f) = WV) := Lib.hid (by
              rw [← HX.out, HJ1.out, HDr.out, weave, app_list, ← hX1, app_list, HY2.out]; simp)
            have HZs : Hid ((X1 ++ Y2).size ≤ 179 * min (j + 1) M + sumT f (min (j + 1) lj)) := Lib.hid (by rw [ByteArray.size_append, HMn.out, HSm.out]; omega)
            clear hok hln hsz htx HX hY2 hY hX1s
            go_wp2_with fail
            go_roundw
            case rel => exact ⟨j + 1, X1 ++ Y2, by go_num, by omega, rfl, HX2, HZs.out, by trivial⟩
            case measure => simp [intOf]; omega
          · have hm1 : decide ((j : Int) < (M : Int)) = false := by simp; omega
            have hm2 : decide (j < M) = false := by simp; omega
            have hmI : ¬ ((j : Int) < (M : Int)) := by omega
            have zz1 : ¬ 9223372036854775807 < X.size + Y.size := by omega
            have HX2 : Hid ((X ++ Y).data.toList ++ weave (junkL f lj (j + 1)) ((lf.drop (j + 1)).map Fm.f) = WV) := Lib.hid (by
              rw [← HX.out, HJ1.out, List.drop_of_length_le (by rw [HM.out]; omega), List.drop_of_length_le (by rw [HM.out]; omega), app_list]
              simp [weave])
            have HZs : Hid ((X ++ Y).size ≤ 179 * min (j + 1) M + sumT f (min (j + 1) lj)) := Lib.hid (by rw [ByteArray.size_append, HMn.out, HSm.out]; omega)
            clear HX hY
            go_wp2_with fail
            go_roundw
            case rel => exact ⟨j + 1, X ++ Y, by go_num, by omega, rfl, HX2, HZs.out, by trivial⟩
            case measure => simp [intOf]; omega
        · have hl1 : decide ((j : Int) < (lj : Int)) = false := by simp; omega
          have hl2 : decide (j < lj) = false := by simp; omega
          have hlI : ¬ ((j : Int) < (lj : Int)) := by omega
          have HMn := Lib.hid (show min (j + 1) lj = min j lj by omega)
          have HJ0 := Lib.hid (junkL_nil (f := f) (len := lj) (k := j) (by omega))
          have HJ1 := Lib.hid (junkL_nil (f := f) (len := lj) (k := j + 1) (by omega))
          by_cases hjm : j < M
          · have hm1 : decide ((j : Int) < (M : Int)) = true := by simp; omega
            have hm2 : decide (j < M) = true := by simp; omega
            have hmI : (j : Int) < (M : Int) := by omega
            have hj1 : j < (lf.map txOf).length := by rw [List.length_map, HM.out]; exact hjm
            have hj2 : j < lf.length := by rw [HM.out]; exact hjm
            have htx := RI2.out.tx
            obtain ⟨g2, hg2, c2⟩ := htx.at j hj1
            cases hg2
            rw [List.getElem_map] at c2
            have hok : lf[j].f.Ok := rise_ok HRF.out _ (List.mem_map_of_mem (List.getElem_mem hj2))
            have hsz : (txOf lf[j]).size = lf[j].f.text.length := mk_size _
            have hln := hok.len
            have HY2 : Hid ((txOf lf[j]).data.toList = lf[j].f.text) := Lib.hid rfl
            have HDr : Hid ((lf.drop j).map Fm.f = lf[j].f :: (lf.drop (j + 1)).map Fm.f) := Lib.hid (by rw [List.drop_eq_getElem_cons hj2, List.map_cons])
            obtain ⟨Y2, hY2⟩ : ∃ Y2, txOf lf[j] = Y2 := ⟨_, rfl⟩
            rw [hY2] at c2 hsz HY2
            have hY2s : Y2.size ≤ 179 := by omega
            have hsl := sumT_mono f (min j lj) lj (by omega)
            have zz2 : ¬ 9223372036854775807 < X.size + Y2.size := by omega
            have HX2 : Hid ((X ++ Y2).data.toList ++ weave (junkL f lj (j + 1)) ((lf.drop (j + 1)).map Fm.f) = WV) := Lib.hid (by
              rw [← HX.out, HJ0.out, HJ1.out, HDr.out, weave, app_list, HY2.out]; simp)
            have HZs : Hid ((X ++ Y2).size ≤ 179 * min (j + 1) M + sumT f (min (j + 1) lj)) := Lib.hid (by rw [ByteArray.size_append, HMn.out]; omega)
            clear hok hln hsz htx HX hY2
            go_wp2_with fail
            go_roundw
            case rel => exact ⟨j + 1, X ++ Y2, by go_num, by omega, rfl, HX2, HZs.out, by trivial⟩
            case measure => simp [intOf]; omega
          · have hm1 : decide ((j : Int) < (M : Int)) = false := by simp; omega
            have hm2 : decide (j < M) = false := by simp; omega
            have hmI : ¬ ((j : Int) < (M : Int)) := by omega
            have hXe : X.data.toList = WV := by
              have := HX.out
              rw [HJ0.out, List.drop_of_length_le (by rw [HM.out]; omega)] at this
              simpa [weave] using this
            have hX9 : X.size ≤ 5500 := by have := sumT_mono f (min j lj) lj (by omega); omega
            have HTold : Hid ((shutS X.data.toList).told = toldL 0 (lf.map Fm.f)) := Lib.hid (by rw [hXe, ← HWV.out]; exact shut_weave HNo'.out HRF.out)
            have HRise := HRF
            have hll8 : lf.length ≤ 8 := by rw [HM.out]; exact hM8
            have O5 := Lib.hid RI2.out.fr
            have B5 := B2
            have S5 := S2
            obtain ⟨w5, hw5⟩ : ∃ w5, wr = w5 := ⟨_, rfl⟩
            rw [hw5] at O5 B5 S5 ⊢
            clear hXe HX RI2 B2 S2 J2 hw5 HNo' HJ0 HJ1 HMn hXs
            go_wp2_with fail
            refine (make_any w5).mono ?_
            rintro r w6 ⟨rfl, t6, b6⟩
            have T6 := Lib.hid t6
            have B6 := Lib.hid (B5.out.trans (b6.mono S5.out))
            have S6 := Lib.hid (Nat.le_trans S5.out b6.size)
            have L6 := Lib.hid (HL.out.below (by rw [HBe.out]; exact B6.out))
            have O6 := Lib.hid (O5.out.below S5.out b6)
            obtain ⟨t, ht⟩ : ∃ t, w5.heap.size = t := ⟨_, rfl⟩
            rw [ht] at T6 ⊢
            clear t6 b6 ht B5 S5 O5
            go_wp2_with fail
            refine (hnew_any w6 t).mono ?_
            rintro r w7 ⟨rfl, hw7⟩
            have P7 := Lib.hid (show HB w w7 B w6.heap.size t (.slice none 0 0) hs0 false by rw [hw7]; exact hb_new S6.out B6.out L6.out T6.out)
            have O7 := Lib.hid (show OwnF B CW w7 (.slice a1 M p1) lf by rw [hw7]; exact O6.out.below S6.out ((Below.refl _ _).alloc (Nat.le_refl _) _))
            obtain ⟨b, hb⟩ : ∃ b, w6.heap.size = b := ⟨_, rfl⟩
            rw [hb] at P7 ⊢
            clear hw7 hb B6 S6 L6 O6 T6
            go_wp2_with fail
            refine (run9_first P7.out hV X (by omega) (by omega)).mono ?_
            rintro r w8 ⟨vg, lg, cp, v8, rfl, r8, o8⟩
            have R8 := Lib.hid r8
            have O8 := Lib.hid (O7.out.hunter P7.out.le P7.out.hu.tag P7.out.hu.base o8)
            obtain ⟨C8, hC8⟩ : ∃ C8, w7.heap.size = C8 := ⟨_, rfl⟩
            rw [hC8] at R8
            clear r8 o8 P7 O7 hC8
            go_wp2_with fail
            refine (R8.out.shut (by rw [show X.data.toList.length = X.size from rfl]; omega)).mono ?_
            rintro r w9 ⟨vg9, lg9, cp9, v9, rfl, r9, ra9, le9, len9, o9, own9, N9⟩
            have O9 := Lib.hid (O8.out.hunter R8.out.hb.le R8.out.hb.hu.tag R8.out.hb.hu.base o9)
            have S9 := Lib.hid (Nat.le_trans R8.out.hb.le o9.size)
            have R9 := Lib.hid r9
            have RA9 := Lib.hid ra9
            have OW9 := Lib.hid own9
            have N9' := Lib.hid N9
            have HBC := Lib.hid R8.out.hBC
            clear r9 ra9 own9 N9 o9 O8 R8
            go_wp2_with (at_builtin; refine wpList_append_im rfl _ _ rfl C8 0 _ _ rfl lg lg9 RA9.out le9 rfl R9.out (by omega) ?_)
            intro a10 p10 w10 r10 g10
            obtain ⟨h10, i10, m10⟩ := N9'.out (.slice a10 (lg.length + lg9.length) p10) w10 (by rw [List.length_append]; exact r10) g10
            have O10 := Lib.hid (O9.out.items S9.out OW9.out HBC.out g10)
            have H10 := Lib.hid h10
            have I10 := Lib.hid i10
            have M10 := Lib.hid m10
            have LB := Lib.hid (show (lg ++ lg9).length ≤ 4000000 by rw [List.length_append]; omega)
            clear r10 g10 h10 i10 m10 N9' R9 RA9 OW9 O9
            generalize lg.length + lg9.length = nn at *
            go_wp2_with fail
            refine (told_any O10.out H10.out.le HRise.out hll8).mono ?_
            rintro r w11 ⟨a11, p11, lt, rfl, i11, m11, -, b11⟩
            have I11 := Lib.hid (I10.out.below b11)
            have J11 := Lib.hid i11
            have E11 := Lib.hid (M10.out.trans (HTold.out.trans m11.symm))
            have B11 := Lib.hid (H10.out.bel.trans (b11.mono H10.out.le))
            clear i11 m11 b11 I10 M10 H10 O10
            go_wp2_with fail
            refine (hsame_any I11.out J11.out E11.out LB.out).mono ?_
            rintro r w12 ⟨rfl, nq, rfl⟩
            go_wp2_with fail
            go_ret
            exact ⟨rfl, below_drewN B11.out nq⟩

theorem walk {w : World} (ao : Option Addr) (len cap : Nat) (l : List Fm) (h : l.length = len ∧ (∀ i (hi : i < l.length), ∃ b off, ao = some ⟨b, off, none⟩ ∧ b < w.heap.size ∧ w.cell? ⟨b, off + i * 2, none⟩ = some (.int .u32 (l[i].f.q : Int)) ∧ w.cell? ⟨b, off + i * 2 + 1, none⟩ = some (.slice l[i].ao l[i].f.evs.length l[i].cap)) ∧ ∀ m ∈ l, SeenE w m.ao m.cap m.f.evs ∧ (∀ e ∈ m.f.evs, EvFits e) ∧ m.f.q < 4294967296) (bo : Option Addr) (lj cj : Nat) (ss : List ByteArray) (hj : Seen w bo lj cj (fun i => .string (ss.getD i ByteArray.empty)) ∧ ∀ s ∈ ss, s.size ≤ maxLen) (hlj : lj * 16 ≤ 140737488351232) (hL : EvL w) :
    Calls Tryd.prog 7 #[.slice ao len cap, .slice bo lj cj] w fun r w' => r = .returned (.bool true) ∧ Below w.heap.size w w' := by
  obtain ⟨rfl, hrow, hok⟩ := h
  by_cases ho : 100 < l.length ∨ muchT lj (fun i => ss.getD i ByteArray.empty) = true
  · exact walk_out ao _ cap bo lj cj _ hj.1 (text_max hj.2) hlj ho hL
  · have h2 : muchT lj (fun i => ss.getD i ByteArray.empty) = false := by
      cases h3 : muchT lj (fun i => ss.getD i ByteArray.empty) with
      | true => exact absurd (.inr h3) ho
      | false => rfl
    exact walk_near ao cap l hrow hok (by omega) bo lj cj _ hj.1 (text_max hj.2) h2 hL

theorem own : ownKnob Tryd.prog.godebug = none := by kernel_rfl
theorem laidOut : laidOutB Tryd.prog = true := by kernel_rfl

set_option maxRecDepth 100000 in
theorem lifted (os : Os) (started : os.Started) (H : Type) (enc : TypeId × Value → H) :
    ReturnsInHanded {} Tryd.checked os 7 .any (fun w args => (Rows.huntJunkSpec.pre enc Tryd.prog Tryd.f7 Rows.huntJunkRow.domain false w args ∧ laidMetH Tryd.prog laidL w) ∧ sizedMet enc Tryd.prog Tryd.f7 (OpenSpec.ofChange Rows.huntJunkSpec) false w args) (Rows.huntJunkSpec.post enc Tryd.prog Tryd.f7 false true false false) := by
  refine returnsInHanded_of_row (s := OpenSpec.ofChange Rows.huntJunkSpec) (F := fun _ _ _ => 0) (laid := laidL) (C := Tryd.checked) own started (by kernel_rfl) Tryd.func7
    (ChangeSpec.witness_shaped (enc := enc) (C := Tryd.checked) (os := os) (s := Rows.huntJunkSpec) (X := fun w _ => laidMetH Tryd.prog laidL w) false (World.laidAll Tryd.prog os laidL) #[.slice none 0 0, .slice none 0 0] 8 (World.laidAll_os _ _ _)
      (World.shaped_of_ZipB (by kernel_rfl) (by kernel_rfl)) (by kernel_rfl) (by kernel_rfl) (by kernel_rfl)
      (by rw [MakeChecks.laidMetH_plain _ _ _ (by kernel_rfl)]; exact laidMet_laidAll _ (by kernel_rfl) (by kernel_rfl))) ?_
  intro W base args ds gs before hval0 hW hcnd _ hsz0 hL hsh _
  have hval : ∀ (j : Nat) t v, Tryd.f7.params[j]? = some t → args[j]? = some v → Value.okWide Tryd.prog W .any base t v := hval0
  have hW' := hW
  obtain ⟨p, q, hA0, hV, rfl, hfz, hnd⟩ := hW
  have hA : DataW.TrodAll enc Tryd.prog W 0 (fun _ => true) true Tryd.f7.params.toList args.toList ds p := hA0
  rw [Tryd.params7] at hA hval
  obtain ⟨v0, vs0, d0, ds0, p0, q0, hargs, rfl, rfl, h0, r0⟩ := trodAll_cons hA
  obtain ⟨v1, vs1, d1, ds1, p1, q1, rfl, rfl, rfl, h1, r1⟩ := trodAll_cons r0
  obtain ⟨rfl, rfl, rfl⟩ := trodAll_nil r1
  obtain rfl : args = #[v0, v1] := by cases args; simp_all
  obtain ⟨rfl, rfl⟩ := trodVars_none hV
  have k0 := h0
  have lt0 : ∀ x ∈ p0, x.block < W.heap.size := by obtain ⟨m, hm⟩ := k0; exact DataW.trod_lt m _ _ _ hm
  have k1 := h1
  have lt1 : ∀ x ∈ p1, x.block < W.heap.size := by obtain ⟨m, hm⟩ := k1; exact DataW.trod_lt m _ _ _ hm
  obtain ⟨a0, len0, cap0, rfl⟩ := okWide_slice Tryd.underlying49 (hval 0 49 v0 rfl rfl)
  obtain ⟨z0, w0⟩ := open_frames h0
  obtain ⟨a1, len1, cap1, rfl⟩ := okWide_slice Tryd.underlying22 (hval 1 22 v1 rfl rfl)
  obtain ⟨z1, w1⟩ := open_strs h1
  have sz1 : len1 * 16 ≤ 140737488351232 := by
    have hsz : (DataW.weightsEach Tryd.prog (Tryd.f7.params.toList ++ Rows.huntJunkSpec.plain.varTypes Tryd.prog) ([d0, d1] ++ [])).all (· ≤ reachBytes) = true := hsz0
    rw [Tryd.params7] at hsz
    rcases w1.2.2 with h | ⟨el, sp, hd, hl⟩
    · omega
    · rw [hd] at hsz
      have hq := sized_slice hsz (j := 1) (t := 22) (e := 9) rfl rfl Tryd.underlying22
      rw [show Tryd.prog.bytesOf 9 = 16 from by kernel_rfl] at hq
      simp only [reachBytes] at hq
      omega
  clear hA0 hval0
  refine (walk a0 len0 cap0 z0 w0 a1 len1 cap1 z1 ⟨w1.1, w1.2.1⟩ sz1 (of_laid hL hsh)).mono fun e W' ⟨he, bel⟩ => ?_
  subst he
  exact ⟨_, rfl, _, _, _, [], _, [], hW', trodAll_mk1 (shut_bool Tryd.underlying4 _), (trodAll_cons_mk (Below.trod laidOut (by kernel_rfl) (of_decide_eq_true (by kernel_rfl)) k0 bel lt0) (trodAll_cons_mk (Below.trod laidOut (by kernel_rfl) (of_decide_eq_true (by kernel_rfl)) k1 bel lt1) trodAll_mk0)), rfl, bel.frame _, fun h => by cases h⟩

theorem over : Rows.HuntJunkSaid :=
  OpenClaim.holds_of_wide 7 Tryd.f7 rfl rfl rfl rfl rfl rfl rfl ⟨rfl, rfl, rfl, rfl, rfl⟩ rfl rfl rfl rfl rfl (by kernel_rfl) Tryd.func7 (by kernel_rfl)
    (of_decide_eq_true (by kernel_rfl)) (by unfold Func.isWrapper; first | (rw [if_pos (by decide +kernel)]; kernel_rfl) | (rw [if_neg (by decide +kernel)]; exact ⟨rfl, rfl⟩))
    (fun os started H enc _ => lifted os started H enc)

theorem proved : Rows.HuntJunkCardSaid :=
  Claim7.holds_tied_plain_at .later [] _ true _ false over (fun _ h => by cases h) (by kernel_rfl) (fun _ h => by cases h) huntJunk_row_tie rfl ⟨rfl, rfl⟩ (by kernel_rfl) rfl
    (fun f fn hf hfn => by
      obtain rfl : f = 7 := Option.some.inj ((show Tryd.prog.funcNamed "taffrail/taffraillaw09.HuntJunk" = some 7 by kernel_rfl).symm.trans hf) |>.symm
      obtain rfl : fn = Tryd.f7 := (Option.some.inj (Tryd.func7.symm.trans hfn)).symm
      refine ⟨by kernel_rfl, fun j t ht => ?_⟩
      rw [Tryd.params7] at ht
      have hm : t ∈ [49, 22] := by simpa using Array.mem_of_getElem? ht
      have hall : ([49, 22].all fun u => !Tryd.prog.wantsStandIn u) = true := by kernel_rfl
      exact (show Tryd.prog.wantsStandIn t = false by simpa using List.all_eq_true.1 hall t hm))
    (by kernel_rfl)
#print axioms proved

end Go.Proofs.YtobioiicbdhboaaDoor.HuntJunk
