/-
  The document's queues: Turn, Move. No condition.
-/
import Derived.Test.YtdcadiphebcmbaaDoorRy11
namespace Go.Proofs.YtdcadiphebcmbaaDoor
open Go Go.RowKit
set_option linter.unusedVariables false
set_option linter.unusedSimpArgs false

theorem rput_again {r : Rws} (ok : ROk r) {n l j : Nat} (hx : n ∈ r l) (hj : j < 32) : rput (dropR r l n) n j = some (pushR (dropR r l n) j n) := by
  have h1 : at? (dropR r l n) (n : Int) = none := at?_none.2 fun k _ x hx' e => by
    obtain rfl : x = n := by omega
    exact ok.gone hx k hx'
  have h2 := ok.tk l n hx
  unfold rput
  rw [if_pos ⟨by omega, by omega, by omega, by omega, h1⟩, Int.toNat_natCast, Int.toNat_natCast]

set_option maxRecDepth 100000 in
set_option maxHeartbeats 4000000 in
theorem rturn_any {w : World} {m B : Nat} {r : Rws} (h : DQ w m B r) (t : Int) :
    Calls Tryd.prog 14 #[.pointer (some ⟨m, 0, none⟩), .int .i64 t] w fun e w' => e = .returned (.bool (rturn r t).isSome) ∧ DQ w' m B ((rturn r t).getD r) ∧ FO m B w w' := by
  have H := Lib.hid h
  have HL := Lib.hid (rlevel_any h t)
  have hBw : B ≤ w.heap.size := by have := h.base; have := h.lt; omega
  cases ha : at? r t with
  | none =>
    have hr : rturn r t = none := by unfold rturn; rw [ha]; rfl
    have hr2 : rrem r t = none := by unfold rrem; rw [ha]; rfl
    have hv : lvl r t = -1 := by unfold lvl; rw [ha]
    rw [hv] at HL
    rw [hr]
    have HR2 := Lib.hid hr2
    clear h hr hv ha hr2
    go_enter Tryd.func14, Tryd.ntmps14
    go_wp2_with fail
    refine HL.out.mono ?_
    rintro e w1 ⟨rfl, b1⟩
    have D1 := Lib.hid (H.out.below b1)
    have B1 := Lib.hid (FO.of_below m B b1)
    clear b1
    have HM := Lib.hid (rremove_any D1.out t)
    rw [HR2.out] at HM
    go_wp2_with fail
    refine HM.out.mono ?_
    rintro e w2 ⟨rfl, d2, b2⟩
    have D2 := Lib.hid d2
    have B2 := Lib.hid (B1.out.trans b2)
    clear d2 b2
    go_wp2_with fail
    go_ret
    exact ⟨rfl, D2.out, B2.out⟩
  | some l =>
    obtain ⟨hl, n, rfl, hx⟩ := at?_some ha
    have hr : rturn r n = some (pushR (dropR r l n) l n) := by unfold rturn; rw [ha]; rfl
    have hr2 : rrem r n = some (dropR r l n) := by unfold rrem; rw [ha]; rfl
    have hv : lvl r n = l := by unfold lvl; rw [ha]
    rw [hv] at HL
    rw [hr]
    have HR2 := Lib.hid hr2
    have HR3 := Lib.hid (rput_again h.ok hx hl)
    clear h hr hv ha hr2 hx
    go_enter Tryd.func14, Tryd.ntmps14
    go_wp2_with fail
    refine HL.out.mono ?_
    rintro e w1 ⟨rfl, b1⟩
    have D1 := Lib.hid (H.out.below b1)
    have B1 := Lib.hid (FO.of_below m B b1)
    clear b1
    have HM := Lib.hid (rremove_any D1.out n)
    rw [HR2.out] at HM
    go_wp2_with fail
    refine HM.out.mono ?_
    rintro e w2 ⟨rfl, d2, b2⟩
    have HP := Lib.hid (rput_any d2 n l)
    have B2 := Lib.hid (B1.out.trans b2)
    rw [show (some (dropR r l n)).getD r = dropR r l n from rfl, HR3.out] at HP
    clear d2 b2
    go_wp2_with fail
    refine HP.out.mono ?_
    rintro e w3 ⟨rfl, d3, b3⟩
    have D3 := Lib.hid d3
    have B3 := Lib.hid (B2.out.trans b3)
    clear d3 b3
    go_wp2_with fail
    go_ret
    exact ⟨rfl, D3.out, B3.out⟩

set_option maxRecDepth 100000 in
set_option maxHeartbeats 4000000 in
theorem rmove_any {w : World} {m B : Nat} {r : Rws} (h : DQ w m B r) (t k : Int) :
    Calls Tryd.prog 16 #[.pointer (some ⟨m, 0, none⟩), .int .i64 t, .int .i64 k] w fun e w' => e = .returned (.bool (rmove r t k).isSome) ∧ DQ w' m B ((rmove r t k).getD r) ∧ FO m B w w' := by
  have H := Lib.hid h
  have HL := Lib.hid (rlevel_any h t)
  have hBw : B ≤ w.heap.size := by have := h.base; have := h.lt; omega
  cases ha : at? r t with
  | none =>
    have hr : rmove r t k = none := by unfold rmove; rw [ha]; rfl
    have hv : lvl r t = -1 := by unfold lvl; rw [ha]
    rw [hv] at HL
    rw [hr]
    have d5 : decide ((-1 : Int) < 0) = true := by simp
    clear h hr hv ha
    go_enter Tryd.func16, Tryd.ntmps16
    go_wp2_with fail
    refine HL.out.mono ?_
    rintro e w1 ⟨rfl, b1⟩
    have D1 := Lib.hid (H.out.below b1)
    have B1 := Lib.hid (FO.of_below m B b1)
    clear b1
    go_wp2_with fail
    go_ret
    exact ⟨rfl, D1.out, B1.out⟩
  | some l =>
    obtain ⟨hl, n, rfl, hx⟩ := at?_some ha
    have hv : lvl r n = l := by unfold lvl; rw [ha]
    rw [hv] at HL
    have d5 : decide ((l : Int) < 0) = false := by simp <;> omega
    by_cases hc : k < 0 ∨ 31 < k ∨ (l : Int) = k
    · have hr : rmove r n k = none := by unfold rmove; rw [ha]; show (if _ then _ else _) = _; rw [if_pos hc]
      rw [hr]
      have hcs : decide (k < 0) = true ∨ (decide (k < 0) = false ∧ (decide ((31 : Int) < k) = true ∨ (decide ((31 : Int) < k) = false ∧ ((l : Int) == k) = true))) := by
        simp; omega
      clear h hr hv ha hx hc
      rcases hcs with h1 | ⟨h1, h2 | ⟨h2, h3⟩⟩
      all_goals
        go_enter Tryd.func16, Tryd.ntmps16
        go_wp2_with fail
        refine HL.out.mono ?_
        rintro e w1 ⟨rfl, b1⟩
        have D1 := Lib.hid (H.out.below b1)
        have B1 := Lib.hid (FO.of_below m B b1)
        clear b1
        go_wp2_with fail
        go_ret
        exact ⟨rfl, D1.out, B1.out⟩
    · obtain ⟨j, rfl⟩ := Int.eq_ofNat_of_zero_le (show 0 ≤ k by omega)
      have hr : rmove r n j = some (pushR (dropR r l n) j n) := by unfold rmove; rw [ha]; show (if _ then _ else _) = _; rw [if_neg hc]; rfl
      have hr2 : rrem r n = some (dropR r l n) := by unfold rrem; rw [ha]; rfl
      rw [hr]
      have HR2 := Lib.hid hr2
      have HR3 := Lib.hid (rput_again h.ok hx (show j < 32 by omega))
      have d1 : decide ((j : Int) < 0) = false := by simp <;> omega
      have d2 : decide ((31 : Int) < (j : Int)) = false := by simp <;> omega
      have d3 : ((l : Int) == (j : Int)) = false := by simp <;> omega
      clear h hr hv ha hr2 hx hc
      go_enter Tryd.func16, Tryd.ntmps16
      go_wp2_with fail
      refine HL.out.mono ?_
      rintro e w1 ⟨rfl, b1⟩
      have D1 := Lib.hid (H.out.below b1)
      have B1 := Lib.hid (FO.of_below m B b1)
      clear b1
      have HM := Lib.hid (rremove_any D1.out n)
      rw [HR2.out] at HM
      go_wp2_with fail
      refine HM.out.mono ?_
      rintro e w2 ⟨rfl, dd, b2⟩
      have HP := Lib.hid (rput_any dd n j)
      have B2 := Lib.hid (B1.out.trans b2)
      rw [show (some (dropR r l n)).getD r = dropR r l n from rfl, HR3.out] at HP
      clear dd b2
      go_wp2_with fail
      refine HP.out.mono ?_
      rintro e w3 ⟨rfl, dd, b3⟩
      have D3 := Lib.hid dd
      have B3 := Lib.hid (B2.out.trans b3)
      clear dd b3
      go_wp2_with fail
      go_ret
      exact ⟨rfl, D3.out, B3.out⟩

end Go.Proofs.YtdcadiphebcmbaaDoor
