/-
  The document's queues: Put, Remove, Turn, Move. No condition.
-/
import Derived.Test.YtdcadiphebcmbaaDoorRy10
namespace Go.Proofs.YtdcadiphebcmbaaDoor
open Go Go.RowKit
set_option linter.unusedVariables false
set_option linter.unusedSimpArgs false

set_option maxRecDepth 100000 in
set_option maxHeartbeats 8000000 in
theorem rput_any {w : World} {m B : Nat} {r : Rws} (h : DQ w m B r) (t l : Int) :
    Calls Tryd.prog 10 #[.pointer (some ⟨m, 0, none⟩), .int .i64 t, .int .i64 l] w fun e w' => e = .returned (.bool (rput r t l).isSome) ∧ DQ w' m B ((rput r t l).getD r) ∧ FO m B w w' := by
  have H := Lib.hid h
  by_cases hin : 0 ≤ t ∧ t ≤ 63 ∧ 0 ≤ l ∧ l ≤ 31
  · obtain ⟨n, rfl⟩ := Int.eq_ofNat_of_zero_le hin.1
    obtain ⟨j, rfl⟩ := Int.eq_ofNat_of_zero_le hin.2.2.1
    have d1 : decide ((n : Int) < 0) = false := by simp <;> omega
    have d2 : decide ((63 : Int) < (n : Int)) = false := by simp <;> omega
    have d3 : decide ((j : Int) < 0) = false := by simp <;> omega
    have d4 : decide ((31 : Int) < (j : Int)) = false := by simp <;> omega
    have HL := Lib.hid (rlevel_any h (n : Int))
    have hj : j < 32 := by omega
    cases ha : at? r (n : Int) with
    | some k =>
      have hr : rput r (n : Int) (j : Int) = none := by unfold rput; rw [if_neg (by rw [ha]; simp)]
      have hv : lvl r (n : Int) = k := by unfold lvl; rw [ha]
      rw [hv] at HL
      rw [hr]
      have d5 : decide ((0 : Int) ≤ (k : Int)) = true := by simp
      clear h hr hv ha
      go_enter Tryd.func10, Tryd.ntmps10
      go_wp2_with fail
      refine HL.out.mono ?_
      rintro e w1 ⟨rfl, b1⟩
      have D1 := Lib.hid (H.out.below b1)
      have B1 := Lib.hid (FO.of_below m B b1)
      clear b1
      go_wp2_with fail
      go_ret
      exact ⟨rfl, D1.out, B1.out⟩
    | none =>
      have hr : rput r (n : Int) (j : Int) = some (pushR r j n) := by unfold rput; rw [if_pos ⟨hin.1, hin.2.1, hin.2.2.1, hin.2.2.2, ha⟩]; rfl
      have hv : lvl r (n : Int) = -1 := by unfold lvl; rw [ha]
      rw [hv] at HL
      rw [hr]
      have HOK := Lib.hid (h.ok.push (t := n) (l := j) (by omega) hj (at?_nowhere h.ok ha))
      have d5 : decide ((0 : Int) ≤ -1) = false := by simp
      clear h hr hv ha
      go_enter Tryd.func10, Tryd.ntmps10
      go_wp2_with fail
      refine HL.out.mono ?_
      rintro e w1 ⟨rfl, b1⟩
      have D1 := Lib.hid (H.out.below b1)
      have B1 := Lib.hid (FO.of_below m B b1)
      clear b1
      obtain ⟨vs, hV⟩ := D1.out
      obtain ⟨ao, cap, hvj⟩ := (hV.row j hj).shape
      obtain ⟨c0, f0⟩ := hV.cell j hj
      have hlen := hV.ok.row_le j
      have HV := Lib.hid hV
      have hX : ∀ q, DV ((w1.drewN q).alloc (.cells #[.int .i64 (n : Int)] 3)) m B vs r := fun q => hV.below (below_on (below_drewN (Below.refl _ _) q) (below_box _))
      have HX := Lib.hid hX
      have hBw : B ≤ w1.heap.size := by have := hV.base; have := hV.lt; omega
      have hP : ∀ q ao4 cap4 w4, AppI B ((w1.drewN q).alloc (.cells #[.int .i64 (n : Int)] 3)) w4 (vs j) (.slice ao4 ((r j).length + 1) cap4) (r j ++ [n]) →
          w4.cell? ⟨m, j, none⟩ = some (vs j) ∧ w4.frozen? ⟨m, j, none⟩ = false ∧ DQ (w4.setCell ⟨m, j, none⟩ (.slice ao4 ((r j).length + 1) cap4)) m B (pushR r j n) ∧ FO m B w (w4.setCell ⟨m, j, none⟩ (.slice ao4 ((r j).length + 1) cap4)) := by
        intro q ao4 cap4 w4 hA
        obtain ⟨e1, e2⟩ := (HX.out q).put hj hA.row hA.only hA.new HOK.out
        have hb := hA.only.block m (HX.out q).lt ((HX.out q).nm j hj)
        obtain ⟨c1, f1⟩ := (HX.out q).cell j hj
        refine ⟨(World.cell?_of_block (a := ⟨m, j, none⟩) hb).trans c1, ?_, ⟨_, e1⟩, B1.out.trans ((FO.of_below m B (below_on (below_drewN (Below.refl _ w1) q) (below_box _))).trans e2)⟩
        rw [← f1]
        simp only [World.frozen?, hb]
      have HP := Lib.hid hP
      have HRW := Lib.hid (fun q => (hX q).row j hj)
      have y0 : (w1.alloc (.cells #[.int .i64 (n : Int)] 3)).cell? ⟨m, j, none⟩ = some (vs j) := ((hX 0).cell j hj).1
      rw [hvj] at c0 y0 HP HRW
      obtain ⟨M, hM⟩ : ∃ M, (r j).length = M := ⟨_, rfl⟩
      rw [hM] at c0 y0 HP HRW hlen
      have HM := Lib.hid hM
      clear hV hX hvj hM hP
      go_upto_region 3 with fail
      clear hin d1 d2 d3 d4 d5
      have hji : (j : Int) < 32 := by omega
      go_cut [] (fun wx => DQ wx m B (pushR r j n) ∧ FO m B w wx)
      case first =>
        go_region_law ((refine step_pushI rfl (.tmp 34) (.tmp 36) rfl B (.slice ao M cap) rfl (r j) ?_ ?_ M ?_ _ 1 n rfl ?_ ?_ ?_); (exact HRW.out _); (simp; omega); (exact HM.out); (exact lit_int _ n _ (by simp)); omega; (intro ao4 cap4 w4 hA); (obtain ⟨z0, z1, z2, z3⟩ := HP.out _ ao4 cap4 w4 hA); (have Z2 := Lib.hid z2); (have Z3 := Lib.hid z3); (clear hA z2 z3))
        all_goals
          go_wp2_with fail
          go_meet
          exact ⟨Z2.out, Z3.out⟩
      case rest =>
      obtain ⟨q1, q2⟩ := hcut
      have Q1 := Lib.hid q1
      have Q2 := Lib.hid q2
      clear q1 q2
      go_wp2_with fail
      go_ret
      exact ⟨rfl, Q1.out, Q2.out⟩
  · have hr : rput r t l = none := by unfold rput; rw [if_neg (by omega)]
    rw [hr]
    have hcs : decide (t < 0) = true ∨ (decide (t < 0) = false ∧ (decide ((63 : Int) < t) = true ∨ (decide ((63 : Int) < t) = false ∧ (decide (l < 0) = true ∨ (decide (l < 0) = false ∧ decide ((31 : Int) < l) = true))))) := by
      simp; omega
    clear h hr hin
    rcases hcs with h1 | ⟨h1, h2 | ⟨h2, h3 | ⟨h3, h4⟩⟩⟩
    all_goals
      go_enter Tryd.func10, Tryd.ntmps10
      go_wp2_with fail
      go_ret
      exact ⟨rfl, H.out, FO.refl _ _ _⟩

/-- A row dropped out of its level. -/
theorem DQ.drop_row {w w1 : World} {m B : Nat} {r : Rws} (h : DQ w m B r) {l n : Nat} (hl : l < 32) {bo : Option Addr} {bc : Nat} (hr : OwnI w1 w.heap.size (.slice bo (withoutL (r l) n).length bc) (withoutL (r l) n)) (hb : Below w.heap.size w w1) :
    w1.frozen? ⟨m, l, none⟩ = false ∧ (∃ u, w1.cell? ⟨m, l, none⟩ = some u) ∧ DQ (w1.setCell ⟨m, l, none⟩ (.slice bo (withoutL (r l) n).length bc)) m B (dropR r l n) ∧ FO m B w (w1.setCell ⟨m, l, none⟩ (.slice bo (withoutL (r l) n).length bc)) := by
  obtain ⟨vs, hV⟩ := h
  have hBw : B ≤ w.heap.size := by have := hV.base; have := hV.lt; omega
  obtain ⟨c1, f1⟩ := (hV.below hb).cell l hl
  have hok := hV.ok.drop l n
  unfold dropR at hok ⊢
  rw [← withoutL_nat] at hok ⊢
  obtain ⟨e1, e2⟩ := hV.put hl (hr.mono hBw) (Only.of_below hb _) (fun k hk => .inr (hr.lt k hk).1) hok
  exact ⟨f1, ⟨_, c1⟩, ⟨_, e1⟩, e2⟩

set_option maxRecDepth 100000 in
set_option maxHeartbeats 8000000 in
theorem rremove_any {w : World} {m B : Nat} {r : Rws} (h : DQ w m B r) (t : Int) :
    Calls Tryd.prog 12 #[.pointer (some ⟨m, 0, none⟩), .int .i64 t] w fun e w' => e = .returned (.bool (rrem r t).isSome) ∧ DQ w' m B ((rrem r t).getD r) ∧ FO m B w w' := by
  have H := Lib.hid h
  have HL := Lib.hid (rlevel_any h t)
  have hBw : B ≤ w.heap.size := by have := h.base; have := h.lt; omega
  cases ha : at? r t with
  | none =>
    have hr : rrem r t = none := by unfold rrem; rw [ha]; rfl
    have hv : lvl r t = -1 := by unfold lvl; rw [ha]
    rw [hv] at HL
    rw [hr]
    have d5 : decide ((-1 : Int) < 0) = true := by simp
    clear h hr hv ha
    go_enter Tryd.func12, Tryd.ntmps12
    go_wp2_with fail
    refine HL.out.mono ?_
    rintro e w1 ⟨rfl, b1⟩
    have D1 := Lib.hid (H.out.below b1)
    have B1 := Lib.hid (FO.of_below m B b1)
    clear b1
    go_wp2_with fail
    go_ret
    exact ⟨rfl, D1.out, B1.out⟩
  | some l =>
    obtain ⟨hl, n, rfl, hx⟩ := at?_some ha
    have hr : rrem r n = some (dropR r l n) := by unfold rrem; rw [ha]; rfl
    have hv : lvl r n = l := by unfold lvl; rw [ha]
    rw [hv] at HL
    rw [hr]
    have d5 : decide ((l : Int) < 0) = false := by simp <;> omega
    clear h hr hv ha hx
    go_enter Tryd.func12, Tryd.ntmps12
    go_wp2_with fail
    refine HL.out.mono ?_
    rintro e w1 ⟨rfl, b1⟩
    have D1 := Lib.hid (H.out.below b1)
    have B1 := Lib.hid (FO.of_below m B b1)
    clear b1
    obtain ⟨ao, cap, c0, hs⟩ := D1.out.row l hl
    have hlen := D1.out.ok.row_le l
    have HWO := Lib.hid ((without_any ao cap (r l) (hs.drewN 1) (by omega) n).mono (R' := fun e w' => ∃ bo bc, e = .returned (.slice bo (withoutL (r l) n).length bc) ∧ w'.frozen? ⟨m, l, none⟩ = false ∧ (∃ u, w'.cell? ⟨m, l, none⟩ = some u) ∧ DQ (w'.setCell ⟨m, l, none⟩ (.slice bo (withoutL (r l) n).length bc)) m B (dropR r l n) ∧ FO m B w (w'.setCell ⟨m, l, none⟩ (.slice bo (withoutL (r l) n).length bc)))
      (by
        rintro e w' ⟨bo, bc, rfl, h1, h2⟩
        have h2' : Below w1.heap.size w1 w' := below_on (below_drewN (Below.refl _ _) 1) h2
        obtain ⟨k1, k2, k3, k4⟩ := D1.out.drop_row hl h1 h2'
        exact ⟨bo, bc, rfl, k1, k2, k3, B1.out.trans k4⟩))
    obtain ⟨M, hM⟩ : ∃ M, (r l).length = M := ⟨_, rfl⟩
    obtain ⟨K, hK⟩ : ∃ K, (withoutL (r l) n).length = K := ⟨_, rfl⟩
    rw [hM] at c0 HWO hlen
    simp only [hK] at HWO
    clear hs hM hK
    go_upto_region 4 with fail
    go_cut [] (fun wx => DQ wx m B (dropR r l n) ∧ FO m B w wx)
    case first =>
      go_region_with (go_at_call 29; refine HWO.out.mono ?_; rintro e w5 ⟨bo, bc, rfl, f5, ⟨u, c5⟩, D5, B5⟩; have D6 := Lib.hid D5; have B6 := Lib.hid B5; clear D5 B5)
      all_goals
        go_wp2_with fail
        go_meet
        exact ⟨D6.out, B6.out⟩
    case rest =>
    obtain ⟨q1, q2⟩ := hcut
    have Q1 := Lib.hid q1
    have Q2 := Lib.hid q2
    clear q1 q2
    go_wp2_with fail
    go_ret
    exact ⟨rfl, Q1.out, Q2.out⟩

end Go.Proofs.YtdcadiphebcmbaaDoor
