/-
  The code's queues: what each call answers, and leaves, told by rows. Conditions: where the first one is asked for, the library's table of bits stands as it was laid.
-/
import Derived.Test.YtdcadiphebcmbaaDoorRy5
import Derived.Test.YtdcadiphebcmbaaDoorRy6
import Derived.Lib.TrailingZeros
namespace Go.Proofs.YtdcadiphebcmbaaDoor
open Go Go.RowKit
set_option linter.unusedVariables false
set_option linter.unusedSimpArgs false

theorem at?_out {r : Rws} (ok : ROk r) {t : Int} (h : ¬ (0 ≤ t ∧ t < 64)) : at? r t = none := by
  cases hb : at? r t with
  | none => rfl
  | some l =>
    obtain ⟨_, x, e, hx⟩ := at?_some hb
    have := ok.tk l x hx
    omega
theorem at?_task {r : Rws} (ok : ROk r) {t : Int} {l : Nat} (h : at? r t = some l) : ∃ x : Nat, t = x ∧ x < 64 ∧ x ∈ r l ∧ l < 32 := by
  obtain ⟨h1, x, e, hx⟩ := at?_some h
  exact ⟨x, e, ok.tk l x hx, hx, h1⟩

theorem stands_any {w : World} {b : Nat} {r : Rws} (h : RQ w b r) (t : Int) : Calls Tryd.prog 25 #[.pointer (some ⟨b, 0, none⟩), .int .i64 t] w fun e w' => e = .returned (.bool (at? r t).isSome) ∧ w = w' := by
  obtain ⟨s, hq, hh⟩ := h.st
  refine (stands_low hq hh.s64 t).mono ?_
  rintro e w' ⟨rfl, hw⟩
  refine ⟨?_, hw⟩
  by_cases ht : 0 ≤ t ∧ t < 64
  · obtain ⟨n, rfl⟩ := Int.eq_ofNat_of_zero_le ht.1
    rw [Int.toNat_natCast, hh.stands h.ok n]
    simp [ht.2]
  · rw [at?_out h.ok ht]
    have : (decide (0 ≤ t) && decide (t < 64)) = false := by simp; omega
    rw [this]; rfl

/-- Linked and unlinked, told by rows. -/
theorem link_rows {w : World} {b : Nat} {r : Rws} (h : RQ w b r) (t l : Nat) (ht : t < 64) (hl : l < 32) (hn : ∀ k, t ∉ r k) :
    Calls Tryd.prog 26 #[.pointer (some ⟨b, 0, none⟩), .int .i64 t, .int .i64 l] w fun e w' => e = .returned (.tuple #[]) ∧ RQ w' b (pushR r l t) ∧ Only w w' (fun k => k = b) := by
  obtain ⟨s, hq, hh⟩ := h.st
  obtain ⟨h1, h2⟩ := hh.back_lt h.ok (l := l) ht
  refine (link_any hq hh.f32 hh.s64 t l ht hl h1 h2).mono ?_
  rintro e w' ⟨he, h3, h4⟩
  exact ⟨he, ⟨h.ok.push ht hl hn, _, h3, hh.link h.ok ht hl hn⟩, h4⟩
theorem unlink_rows {w : World} {b : Nat} {r : Rws} (h : RQ w b r) (t l : Nat) (ht : t ∈ r l) :
    Calls Tryd.prog 28 #[.pointer (some ⟨b, 0, none⟩), .int .i64 t] w fun e w' => e = .returned (.tuple #[]) ∧ RQ w' b (dropR r l t) ∧ Only w w' (fun k => k = b) := by
  obtain ⟨s, hq, hh⟩ := h.st
  obtain ⟨h1, h2⟩ := hh.beside h.ok ht
  refine (unlink_any hq hh.f32 hh.s64 t (h.ok.tk l t ht) (by rw [hh.lv l t ht]; exact h.ok.lt ht) (h.ok.tk l _ h1) (h.ok.tk l _ h2)).mono ?_
  rintro e w' ⟨he, h3, h4⟩
  exact ⟨he, ⟨h.ok.drop l t, _, h3, hh.unlink h.ok ht⟩, h4⟩
theorem has_rows {w : World} {b : Nat} {r : Rws} (h : RQ w b r) (l : Nat) (hl : l < 32) : Calls Tryd.prog 34 #[.pointer (some ⟨b, 0, none⟩), .int .i64 l] w fun e w' => e = .returned (.bool (!(r l).isEmpty)) ∧ w = w' := by
  obtain ⟨s, hq, hh⟩ := h.st
  refine (has_any hq hh.f32 l hl).mono ?_
  rintro e w' ⟨rfl, hw⟩
  refine ⟨?_, hw⟩
  have : s.F.testBit l = !(r l).isEmpty := bool_eq (by rw [hh.fl]; simp)
  rw [this]

/-! ### Put -/
set_option maxRecDepth 100000 in
set_option maxHeartbeats 1000000 in
theorem put_any {w : World} {b : Nat} {r : Rws} (h : RQ w b r) (t l : Int) :
    Calls Tryd.prog 9 #[.pointer (some ⟨b, 0, none⟩), .int .i64 t, .int .i64 l] w fun e w' => e = .returned (.int .i64 (if (rput r t l).isSome then 0 else 1)) ∧ RQ w' b ((rput r t l).getD r) ∧ Only w w' (fun k => k = b) := by
  have HT := Lib.hid (istask_any t w)
  have HL := Lib.hid (islevel_any l w)
  have HS := Lib.hid (stands_any h t)
  have H := Lib.hid h
  by_cases ht : 0 ≤ t ∧ t < 64
  · have h1 : (decide (0 ≤ t) && decide (t < 64)) = true := by simp; omega
    rw [h1] at HT
    by_cases hl : 0 ≤ l ∧ l < 32
    · have h2 : (decide (0 ≤ l) && decide (l < 32)) = true := by simp; omega
      rw [h2] at HL
      cases ha : at? r t with
      | none =>
        have hr : rput r t l = some (pushR r l.toNat t.toNat) := by unfold rput; rw [if_pos ⟨ht.1, by omega, hl.1, by omega, ha⟩]
        rw [hr]
        rw [ha] at HS
        obtain ⟨n, rfl⟩ := Int.eq_ofNat_of_zero_le ht.1
        obtain ⟨m, rfl⟩ := Int.eq_ofNat_of_zero_le hl.1
        have HK := Lib.hid (link_rows h n m (by omega) (by omega) (at?_nowhere h.ok ha))
        rw [Int.toNat_natCast, Int.toNat_natCast]
        clear h h1 h2 hr ha
        go_enter Tryd.func9, Tryd.ntmps9
        go_wp2_with fail
        refine HT.out.mono ?_
        rintro e w1 ⟨rfl, rfl⟩
        go_wp2_with fail
        refine HL.out.mono ?_
        rintro e w1 ⟨rfl, rfl⟩
        go_wp2_with fail
        refine HS.out.mono ?_
        rintro e w1 ⟨rfl, rfl⟩
        go_wp2_with fail
        refine HK.out.mono ?_
        rintro e w1 ⟨rfl, k1, k2⟩
        have K1 := Lib.hid k1
        have K2 := Lib.hid k2
        clear k1 k2
        go_wp2_with fail
        go_ret
        exact ⟨rfl, K1.out, K2.out⟩
      | some k =>
        have hr : rput r t l = none := by unfold rput; rw [if_neg (by rw [ha]; simp)]
        rw [hr]
        rw [ha] at HS
        clear h h1 h2 hr ha ht hl
        go_enter Tryd.func9, Tryd.ntmps9
        go_wp2_with fail
        refine HT.out.mono ?_
        rintro e w1 ⟨rfl, rfl⟩
        go_wp2_with fail
        refine HL.out.mono ?_
        rintro e w1 ⟨rfl, rfl⟩
        go_wp2_with fail
        refine HS.out.mono ?_
        rintro e w1 ⟨rfl, rfl⟩
        go_wp2_with fail
        go_ret
        exact ⟨rfl, H.out, Only.refl _ _⟩
    · have h2 : (decide (0 ≤ l) && decide (l < 32)) = false := by simp; omega
      rw [h2] at HL
      have hr : rput r t l = none := by unfold rput; rw [if_neg (by omega)]
      rw [hr]
      clear h h1 h2 hr ht hl HS
      go_enter Tryd.func9, Tryd.ntmps9
      go_wp2_with fail
      refine HT.out.mono ?_
      rintro e w1 ⟨rfl, rfl⟩
      go_wp2_with fail
      refine HL.out.mono ?_
      rintro e w1 ⟨rfl, rfl⟩
      go_wp2_with fail
      go_ret
      exact ⟨rfl, H.out, Only.refl _ _⟩
  · have h1 : (decide (0 ≤ t) && decide (t < 64)) = false := by simp; omega
    rw [h1] at HT
    have hr : rput r t l = none := by unfold rput; rw [if_neg (by omega)]
    rw [hr]
    clear h h1 hr ht HS HL
    go_enter Tryd.func9, Tryd.ntmps9
    go_wp2_with fail
    refine HT.out.mono ?_
    rintro e w1 ⟨rfl, rfl⟩
    go_wp2_with fail
    go_ret
    exact ⟨rfl, H.out, Only.refl _ _⟩
theorem put_nil (t l : Int) (w : World) : Calls Tryd.prog 9 #[.pointer none, .int .i64 t, .int .i64 l] w fun e w' => e = .returned (.int .i64 16) ∧ w = w' := by
  go_enter Tryd.func9, Tryd.ntmps9
  go_wp2_with fail
  go_ret
  exact ⟨rfl, rfl⟩

/-! ### Remove, Turn, Move, Level -/
set_option maxRecDepth 100000 in
set_option maxHeartbeats 1000000 in
theorem remove_any {w : World} {b : Nat} {r : Rws} (h : RQ w b r) (t : Int) :
    Calls Tryd.prog 11 #[.pointer (some ⟨b, 0, none⟩), .int .i64 t] w fun e w' => e = .returned (.bool (rrem r t).isSome) ∧ RQ w' b ((rrem r t).getD r) ∧ Only w w' (fun k => k = b) := by
  have HS := Lib.hid (stands_any h t)
  have H := Lib.hid h
  cases ha : at? r t with
  | none =>
    have hr : rrem r t = none := by unfold rrem; rw [ha]; rfl
    rw [hr]
    rw [ha] at HS
    clear h hr ha
    go_enter Tryd.func11, Tryd.ntmps11
    go_wp2_with fail
    refine HS.out.mono ?_
    rintro e w1 ⟨rfl, rfl⟩
    go_wp2_with fail
    go_ret
    exact ⟨rfl, H.out, Only.refl _ _⟩
  | some l =>
    obtain ⟨n, rfl, hn, hx, hl⟩ := at?_task h.ok ha
    have hr : rrem r n = some (dropR r l n) := by unfold rrem; rw [ha]; rfl
    rw [hr]
    rw [ha] at HS
    have HK := Lib.hid (unlink_rows h n l hx)
    clear h hr ha hx
    go_enter Tryd.func11, Tryd.ntmps11
    go_wp2_with fail
    refine HS.out.mono ?_
    rintro e w1 ⟨rfl, rfl⟩
    go_wp2_with fail
    refine HK.out.mono ?_
    rintro e w1 ⟨rfl, k1, k2⟩
    have K1 := Lib.hid k1
    have K2 := Lib.hid k2
    clear k1 k2
    go_wp2_with fail
    go_ret
    exact ⟨rfl, K1.out, K2.out⟩
theorem remove_nil (t : Int) (w : World) : Calls Tryd.prog 11 #[.pointer none, .int .i64 t] w fun e w' => e = .returned (.bool false) ∧ w = w' := by
  have HS := Lib.hid (stands_nil t w)
  go_enter Tryd.func11, Tryd.ntmps11
  go_wp2_with fail
  refine HS.out.mono ?_
  rintro e w1 ⟨rfl, rfl⟩
  go_wp2_with fail
  go_ret
  exact ⟨rfl, rfl⟩

/-- Of a task that stands, its level's cell. -/
theorem RQ.level {w : World} {b : Nat} {r : Rws} (h : RQ w b r) {x l : Nat} (hx : x ∈ r l) : w.cell? ⟨b, 34 + x * 3, none⟩ = some (.int .i64 (l : Int)) := by
  obtain ⟨s, hq, hh⟩ := h.st
  rw [hq.clv x (h.ok.tk l x hx), hh.lv l x hx]

set_option maxRecDepth 100000 in
set_option maxHeartbeats 1000000 in
theorem turn_any {w : World} {b : Nat} {r : Rws} (h : RQ w b r) (t : Int) :
    Calls Tryd.prog 13 #[.pointer (some ⟨b, 0, none⟩), .int .i64 t] w fun e w' => e = .returned (.bool (rturn r t).isSome) ∧ RQ w' b ((rturn r t).getD r) ∧ Only w w' (fun k => k = b) := by
  have HS := Lib.hid (stands_any h t)
  have H := Lib.hid h
  cases ha : at? r t with
  | none =>
    have hr : rturn r t = none := by unfold rturn; rw [ha]; rfl
    rw [hr]
    rw [ha] at HS
    clear h hr ha
    go_enter Tryd.func13, Tryd.ntmps13
    go_wp2_with fail
    refine HS.out.mono ?_
    rintro e w1 ⟨rfl, rfl⟩
    go_wp2_with fail
    go_ret
    exact ⟨rfl, H.out, Only.refl _ _⟩
  | some l =>
    obtain ⟨n, rfl, hn, hx, hl⟩ := at?_task h.ok ha
    have hr : rturn r n = some (pushR (dropR r l n) l n) := by unfold rturn; rw [ha]; rfl
    rw [hr]
    rw [ha] at HS
    have HK := Lib.hid (unlink_rows h n l hx)
    have HG := Lib.hid (h.ok.gone hx)
    have c0 := h.level hx
    clear h hr ha hx
    go_enter Tryd.func13, Tryd.ntmps13
    go_wp2_with fail
    refine HS.out.mono ?_
    rintro e w1 ⟨rfl, rfl⟩
    go_wp2_with fail
    refine HK.out.mono ?_
    rintro e w1 ⟨rfl, k1, k2⟩
    have K1 := Lib.hid k1
    have K2 := Lib.hid k2
    have HL := Lib.hid (link_rows k1 n l hn hl HG.out)
    clear k1 k2 c0
    go_wp2_with fail
    refine HL.out.mono ?_
    rintro e w2 ⟨rfl, k1, k2⟩
    have K3 := Lib.hid k1
    have K4 := Lib.hid (K2.out.trans k2 fun _ _ e => e)
    clear k1 k2
    go_wp2_with fail
    go_ret
    exact ⟨rfl, K3.out, K4.out⟩
theorem turn_nil (t : Int) (w : World) : Calls Tryd.prog 13 #[.pointer none, .int .i64 t] w fun e w' => e = .returned (.bool false) ∧ w = w' := by
  have HS := Lib.hid (stands_nil t w)
  go_enter Tryd.func13, Tryd.ntmps13
  go_wp2_with fail
  refine HS.out.mono ?_
  rintro e w1 ⟨rfl, rfl⟩
  go_wp2_with fail
  go_ret
  exact ⟨rfl, rfl⟩

set_option maxRecDepth 100000 in
set_option maxHeartbeats 1000000 in
theorem level_any {w : World} {b : Nat} {r : Rws} (h : RQ w b r) (t : Int) :
    Calls Tryd.prog 22 #[.pointer (some ⟨b, 0, none⟩), .int .i64 t] w fun e w' => e = .returned (.int .i64 (lvl r t)) ∧ w = w' := by
  have HS := Lib.hid (stands_any h t)
  cases ha : at? r t with
  | none =>
    have hr : lvl r t = -1 := by unfold lvl; rw [ha]
    rw [hr]
    rw [ha] at HS
    clear h hr ha
    go_enter Tryd.func22, Tryd.ntmps22
    go_wp2_with fail
    refine HS.out.mono ?_
    rintro e w1 ⟨rfl, rfl⟩
    go_wp2_with fail
    go_ret
    exact ⟨rfl, rfl⟩
  | some l =>
    obtain ⟨n, rfl, hn, hx, hl⟩ := at?_task h.ok ha
    have hr : lvl r n = l := by unfold lvl; rw [ha]
    rw [hr]
    rw [ha] at HS
    have c0 := h.level hx
    clear h hr ha hx
    go_enter Tryd.func22, Tryd.ntmps22
    go_wp2_with fail
    refine HS.out.mono ?_
    rintro e w1 ⟨rfl, rfl⟩
    go_wp2_with fail
    go_ret
    exact ⟨rfl, rfl⟩
theorem level_nil (t : Int) (w : World) : Calls Tryd.prog 22 #[.pointer none, .int .i64 t] w fun e w' => e = .returned (.int .i64 (-1)) ∧ w = w' := by
  have HS := Lib.hid (stands_nil t w)
  go_enter Tryd.func22, Tryd.ntmps22
  go_wp2_with fail
  refine HS.out.mono ?_
  rintro e w1 ⟨rfl, rfl⟩
  go_wp2_with fail
  go_ret
  exact ⟨rfl, rfl⟩

set_option maxRecDepth 100000 in
set_option maxHeartbeats 1000000 in
theorem move_any {w : World} {b : Nat} {r : Rws} (h : RQ w b r) (t l : Int) :
    Calls Tryd.prog 15 #[.pointer (some ⟨b, 0, none⟩), .int .i64 t, .int .i64 l] w fun e w' => e = .returned (.bool (rmove r t l).isSome) ∧ RQ w' b ((rmove r t l).getD r) ∧ Only w w' (fun k => k = b) := by
  have HS := Lib.hid (stands_any h t)
  have HL := Lib.hid (islevel_any l w)
  have H := Lib.hid h
  cases ha : at? r t with
  | none =>
    have hr : rmove r t l = none := by unfold rmove; rw [ha]; rfl
    rw [hr]
    rw [ha] at HS
    clear h hr ha HL
    go_enter Tryd.func15, Tryd.ntmps15
    go_wp2_with fail
    refine HS.out.mono ?_
    rintro e w1 ⟨rfl, rfl⟩
    go_wp2_with fail
    go_ret
    exact ⟨rfl, H.out, Only.refl _ _⟩
  | some k =>
    obtain ⟨n, rfl, hn, hx, hk⟩ := at?_task h.ok ha
    rw [ha] at HS
    by_cases hl : 0 ≤ l ∧ l < 32
    · have h2 : (decide (0 ≤ l) && decide (l < 32)) = true := by simp; omega
      rw [h2] at HL
      obtain ⟨m, rfl⟩ := Int.eq_ofNat_of_zero_le hl.1
      have hm : m < 32 := by omega
      have c0 := h.level hx
      by_cases hkm : k = m
      · subst hkm
        have hr : rmove r n k = none := by unfold rmove; rw [ha]; show (if _ then _ else _) = _; rw [if_pos (.inr (.inr rfl))]
        rw [hr]
        have hkk : ((k : Int) == (k : Int)) = true := by simp
        clear h h2 hr ha hx hl
        go_enter Tryd.func15, Tryd.ntmps15
        go_wp2_with fail
        refine HS.out.mono ?_
        rintro e w1 ⟨rfl, rfl⟩
        go_wp2_with fail
        refine HL.out.mono ?_
        rintro e w1 ⟨rfl, rfl⟩
        go_wp2_with fail
        go_ret
        exact ⟨rfl, H.out, Only.refl _ _⟩
      · have hr : rmove r n m = some (pushR (dropR r k n) m n) := by unfold rmove; rw [ha]; show (if _ then _ else _) = _; rw [if_neg (by omega)]; rfl
        rw [hr]
        have hkk : ((k : Int) == (m : Int)) = false := by simp; omega
        have HK := Lib.hid (unlink_rows h n k hx)
        have HG := Lib.hid (h.ok.gone hx)
        clear h h2 hr ha hx hl
        go_enter Tryd.func15, Tryd.ntmps15
        go_wp2_with fail
        refine HS.out.mono ?_
        rintro e w1 ⟨rfl, rfl⟩
        go_wp2_with fail
        refine HL.out.mono ?_
        rintro e w1 ⟨rfl, rfl⟩
        go_wp2_with fail
        refine HK.out.mono ?_
        rintro e w1 ⟨rfl, k1, k2⟩
        have K1 := Lib.hid k1
        have K2 := Lib.hid k2
        have HL2 := Lib.hid (link_rows k1 n m hn hm HG.out)
        clear k1 k2 c0
        go_wp2_with fail
        refine HL2.out.mono ?_
        rintro e w2 ⟨rfl, k1, k2⟩
        have K3 := Lib.hid k1
        have K4 := Lib.hid (K2.out.trans k2 fun _ _ e => e)
        clear k1 k2
        go_wp2_with fail
        go_ret
        exact ⟨rfl, K3.out, K4.out⟩
    · have h2 : (decide (0 ≤ l) && decide (l < 32)) = false := by simp; omega
      rw [h2] at HL
      have hr : rmove r n l = none := by unfold rmove; rw [ha]; show (if _ then _ else _) = _; rw [if_pos (by omega)]
      rw [hr]
      clear h h2 hr ha hx hl
      go_enter Tryd.func15, Tryd.ntmps15
      go_wp2_with fail
      refine HS.out.mono ?_
      rintro e w1 ⟨rfl, rfl⟩
      go_wp2_with fail
      refine HL.out.mono ?_
      rintro e w1 ⟨rfl, rfl⟩
      go_wp2_with fail
      go_ret
      exact ⟨rfl, H.out, Only.refl _ _⟩
theorem move_nil (t l : Int) (w : World) : Calls Tryd.prog 15 #[.pointer none, .int .i64 t, .int .i64 l] w fun e w' => e = .returned (.bool false) ∧ w = w' := by
  have HS := Lib.hid (stands_nil t w)
  go_enter Tryd.func15, Tryd.ntmps15
  go_wp2_with fail
  refine HS.out.mono ?_
  rintro e w1 ⟨rfl, rfl⟩
  go_wp2_with fail
  go_ret
  exact ⟨rfl, rfl⟩

/-! ### Len -/
set_option maxRecDepth 100000 in
theorem len_any {w : World} {b : Nat} {r : Rws} (h : RQ w b r) : Calls Tryd.prog 18 #[.pointer (some ⟨b, 0, none⟩)] w fun e w' => e = .returned (.int .i64 (rlen r)) ∧ w = w' := by
  obtain ⟨s, hq, hh⟩ := h.st
  have c0 := hq.cS
  have HO := Lib.hid (ones_any s.S hh.s64 w)
  rw [hh.len h.ok] at HO
  clear h hq hh
  go_enter Tryd.func18, Tryd.ntmps18
  go_wp2_with fail
  refine HO.out.mono ?_
  rintro e w1 ⟨rfl, rfl⟩
  go_wp2_with fail
  go_ret
  exact ⟨rfl, rfl⟩
theorem len_nil (w : World) : Calls Tryd.prog 18 #[.pointer none] w fun e w' => e = .returned (.int .i64 0) ∧ w = w' := by
  go_enter Tryd.func18, Tryd.ntmps18
  go_wp2_with fail
  go_ret
  exact ⟨rfl, rfl⟩

end Go.Proofs.YtdcadiphebcmbaaDoor
