/-
  Are two tasks, two lines, two systems the same, by conf: over this seat's translation. Conditions: what is compared lies in memory.
-/
import Derived.Test.YtbhnehacgkhpbaaDoorCfS
namespace Go.Proofs.YtbhnehacgkhpbaaDoor
open Go Go.RowKit
set_option linter.unusedVariables false
set_option linter.unusedSimpArgs false

set_option maxRecDepth 100000 in
set_option maxHeartbeats 4000000 in
theorem samet_any (x y : TskV) (w : World) (hx : SeenI w x.ao x.cap x.t.code) (hy : SeenI w y.ao y.cap y.t.code) :
    Calls Tryd.prog 28 #[tskV x, tskV y] w fun r w' => r = .returned (.bool (eqB x.t y.t)) ∧ Below w.heap.size w w' := by
  obtain ⟨w1, e1⟩ : ∃ w1, w1 = w.alloc (tskO x) := ⟨_, rfl⟩
  obtain ⟨s1, n1, b1⟩ := new_size e1
  obtain ⟨w2, e2⟩ : ∃ w2, w2 = w1.alloc (tskO y) := ⟨_, rfl⟩
  obtain ⟨s2, n2, b2⟩ := new_size e2
  have n1' := blk_on b2 n1
  obtain ⟨D, hD⟩ : ∃ D, w.heap.size = D := ⟨_, rfl⟩
  obtain ⟨E, hE⟩ : ∃ E, D + 1 = E := ⟨_, rfl⟩
  rw [hD] at n1'
  rw [s1, hD, hE] at n2
  have HC := Lib.hid (eqI_any x.ao y.ao x.cap y.cap x.t.code y.t.code w2 (hx.below (below_on b1 b2)) (hy.below (below_on b1 b2)))
  obtain ⟨c0, c1, c2, c3, c4, c5⟩ := tskcells n1'
  obtain ⟨d0, d1, d2, d3, d4, d5⟩ := tskcells n2
  have B2 := Lib.hid (below_on b1 b2)
  have HD := Lib.hid hD
  have HE := Lib.hid hE
  have hmx := hx.mx
  have hmy := hy.mx
  unfold maxLen at hmx hmy
  obtain ⟨⟨lv, ot, pd, dl, mm, code⟩, ao, cap⟩ := x
  obtain ⟨⟨lv', ot', pd', dl', mm', code'⟩, ao', cap'⟩ := y
  unfold tskO at e1 e2
  unfold tskV
  simp only at *
  have X0 : Hid (lv ≠ lv' → eqB (⟨lv, ot, pd, dl, mm, code⟩ : Tsk) (⟨lv', ot', pd', dl', mm', code'⟩ : Tsk) = false) := Lib.hid (fun h => eqB_ne (fun e => h (by simp only [Tsk.mk.injEq] at e; exact e.1)))
  have X1 : Hid (ot ≠ ot' → eqB (⟨lv, ot, pd, dl, mm, code⟩ : Tsk) (⟨lv', ot', pd', dl', mm', code'⟩ : Tsk) = false) := Lib.hid (fun h => eqB_ne (fun e => h (by simp only [Tsk.mk.injEq] at e; exact e.2.1)))
  have X2 : Hid (pd ≠ pd' → eqB (⟨lv, ot, pd, dl, mm, code⟩ : Tsk) (⟨lv', ot', pd', dl', mm', code'⟩ : Tsk) = false) := Lib.hid (fun h => eqB_ne (fun e => h (by simp only [Tsk.mk.injEq] at e; exact e.2.2.1)))
  have X3 : Hid (dl ≠ dl' → eqB (⟨lv, ot, pd, dl, mm, code⟩ : Tsk) (⟨lv', ot', pd', dl', mm', code'⟩ : Tsk) = false) := Lib.hid (fun h => eqB_ne (fun e => h (by simp only [Tsk.mk.injEq] at e; exact e.2.2.2.1)))
  have X4 : Hid (mm ≠ mm' → eqB (⟨lv, ot, pd, dl, mm, code⟩ : Tsk) (⟨lv', ot', pd', dl', mm', code'⟩ : Tsk) = false) := Lib.hid (fun h => eqB_ne (fun e => h (by simp only [Tsk.mk.injEq] at e; exact e.2.2.2.2.1)))
  have XC : Hid (lv = lv' → ot = ot' → pd = pd' → dl = dl' → mm = mm' → eqB (⟨lv, ot, pd, dl, mm, code⟩ : Tsk) (⟨lv', ot', pd', dl', mm', code'⟩ : Tsk) = eqB code code') := Lib.hid (fun h0 h1 h2 h3 h4 => by
    subst h0 h1 h2 h3 h4
    by_cases h : code = code'
    · subst h; rw [eqB_refl, eqB_refl]
    · rw [eqB_ne h, eqB_ne (fun e => h (by simp only [Tsk.mk.injEq] at e; exact e.2.2.2.2.2))])
  generalize eqB (⟨lv, ot, pd, dl, mm, code⟩ : Tsk) (⟨lv', ot', pd', dl', mm', code'⟩ : Tsk) = z at *
  generalize eqB code code' = zc at *
  clear s1 n1 b1 s2 n2 b2 n1' hD hE hx hy
  go_enter Tryd.func28, Tryd.ntmps28
  go_upto_region 1 with fail
  rw [← e1, HD.out, ← e2, HE.out]
  clear e1 e2
  by_cases h0 : lv = lv'
  case neg =>
    have q0 : (lv == lv') = false := by simpa using h0
    obtain rfl := X0.out h0
    clear X0 X1 X2 X3 X4 XC HC h0
    go_wp2_with fail
    go_ret
    exact ⟨rfl, B2.out⟩
  subst h0
  by_cases h1 : ot = ot'
  case neg =>
    have q1 : (ot == ot') = false := by simpa using h1
    obtain rfl := X1.out h1
    clear X0 X1 X2 X3 X4 XC HC h1
    go_wp2_with fail
    go_ret
    exact ⟨rfl, B2.out⟩
  subst h1
  by_cases h2 : pd = pd'
  case neg =>
    have q2 : (pd == pd') = false := by simpa using h2
    obtain rfl := X2.out h2
    clear X0 X1 X2 X3 X4 XC HC h2
    go_wp2_with fail
    go_ret
    exact ⟨rfl, B2.out⟩
  subst h2
  by_cases h3 : dl = dl'
  case neg =>
    have q3 : (dl == dl') = false := by simpa using h3
    obtain rfl := X3.out h3
    clear X0 X1 X2 X3 X4 XC HC h3
    go_wp2_with fail
    go_ret
    exact ⟨rfl, B2.out⟩
  subst h3
  by_cases h4 : mm = mm'
  case neg =>
    have q4 : (mm == mm') = false := by simpa using h4
    obtain rfl := X4.out h4
    clear X0 X1 X2 X3 X4 XC HC h4
    go_wp2_with fail
    go_ret
    exact ⟨rfl, B2.out⟩
  subst h4
  have hz := XC.out rfl rfl rfl rfl rfl
  subst hz
  clear X0 X1 X2 X3 X4 XC
  go_wp2_with fail
  refine HC.out.mono ?_
  rintro r w3 ⟨rfl, q, rfl⟩
  have B3 := Lib.hid (below_drewN B2.out q)
  clear HC
  go_wp2_with fail
  go_ret
  exact ⟨rfl, B3.out⟩

set_option maxRecDepth 100000 in
set_option maxHeartbeats 4000000 in
theorem samel_any (x y : LinV) (w : World) (hx : SeenI w x.ao x.cap x.t.code) (hy : SeenI w y.ao y.cap y.t.code) :
    Calls Tryd.prog 30 #[linV x, linV y] w fun r w' => r = .returned (.bool (eqB x.t y.t)) ∧ Below w.heap.size w w' := by
  obtain ⟨w1, e1⟩ : ∃ w1, w1 = w.alloc (linO x) := ⟨_, rfl⟩
  obtain ⟨s1, n1, b1⟩ := new_size e1
  obtain ⟨w2, e2⟩ : ∃ w2, w2 = w1.alloc (linO y) := ⟨_, rfl⟩
  obtain ⟨s2, n2, b2⟩ := new_size e2
  have n1' := blk_on b2 n1
  obtain ⟨D, hD⟩ : ∃ D, w.heap.size = D := ⟨_, rfl⟩
  obtain ⟨E, hE⟩ : ∃ E, D + 1 = E := ⟨_, rfl⟩
  rw [hD] at n1'
  rw [s1, hD, hE] at n2
  have HC := Lib.hid (eqI_any x.ao y.ao x.cap y.cap x.t.code y.t.code w2 (hx.below (below_on b1 b2)) (hy.below (below_on b1 b2)))
  obtain ⟨c0, c1⟩ := lincells n1'
  obtain ⟨d0, d1⟩ := lincells n2
  have B2 := Lib.hid (below_on b1 b2)
  have HD := Lib.hid hD
  have HE := Lib.hid hE
  have hmx := hx.mx
  have hmy := hy.mx
  unfold maxLen at hmx hmy
  obtain ⟨⟨mm, code⟩, ao, cap⟩ := x
  obtain ⟨⟨mm', code'⟩, ao', cap'⟩ := y
  unfold linO at e1 e2
  unfold linV
  simp only at *
  have X0 : Hid (mm ≠ mm' → eqB (⟨mm, code⟩ : Lin) (⟨mm', code'⟩ : Lin) = false) := Lib.hid (fun h => eqB_ne (fun e => h (by simp only [Lin.mk.injEq] at e; exact e.1)))
  have XC : Hid (mm = mm' → eqB (⟨mm, code⟩ : Lin) (⟨mm', code'⟩ : Lin) = eqB code code') := Lib.hid (fun h0 => by
    subst h0
    by_cases h : code = code'
    · subst h; rw [eqB_refl, eqB_refl]
    · rw [eqB_ne h, eqB_ne (fun e => h (by simp only [Lin.mk.injEq] at e; exact e.2))])
  generalize eqB (⟨mm, code⟩ : Lin) (⟨mm', code'⟩ : Lin) = z at *
  generalize eqB code code' = zc at *
  clear s1 n1 b1 s2 n2 b2 n1' hD hE hx hy
  go_enter Tryd.func30, Tryd.ntmps30
  go_upto_region 1 with fail
  rw [← e1, HD.out, ← e2, HE.out]
  clear e1 e2
  by_cases h0 : mm = mm'
  case neg =>
    have q0 : (mm == mm') = false := by simpa using h0
    obtain rfl := X0.out h0
    clear X0 XC HC h0
    go_wp2_with fail
    go_ret
    exact ⟨rfl, B2.out⟩
  subst h0
  have hz := XC.out rfl
  subst hz
  clear X0 XC
  go_wp2_with fail
  refine HC.out.mono ?_
  rintro r w3 ⟨rfl, q, rfl⟩
  have B3 := Lib.hid (below_drewN B2.out q)
  clear HC
  go_wp2_with fail
  go_ret
  exact ⟨rfl, B3.out⟩

set_option maxRecDepth 100000 in
set_option maxHeartbeats 4000000 in
theorem eqft_any (ao bo : Option Addr) (cap cbp : Nat) (l m : List TskV) (w : World) (h1 : SeenT w ao cap l) (h2 : SeenT w bo cbp m) :
    Calls Tryd.prog 27 #[.slice ao l.length cap, .slice bo m.length cbp, .func (.func 28) #[] #[]] w fun r w' => r = .returned (.bool (eqB (l.map (·.t)) (m.map (·.t)))) ∧ Below w.heap.size w w' := by
  have H1 := Lib.hid h1
  have H2 := Lib.hid h2
  have hmx := h1.row.mx
  have hmy := h2.row.mx
  unfold maxLen at hmx hmy
  have X1 := Lib.hid (fun (h : l.length ≠ m.length) => eqB_ne (a := l.map (·.t)) (b := m.map (·.t)) (fun e => h (by have := congrArg List.length e; simpa using this)))
  have X2 := Lib.hid (fun k (g1 : k < l.length) (g2 : k < m.length) (h : l[k].t ≠ m[k].t) => eqB_ne (list_ne_at (l := l.map (·.t)) (m := m.map (·.t)) k (by simpa using g1) (by simpa using g2) (by simpa using h)))
  have X3 := Lib.hid (fun (hl : l.length = m.length) (h : ∀ j (g1 : j < l.length) (g2 : j < m.length), l[j].t = m[j].t) => eqB_of (list_eq_all (l := l.map (·.t)) (m := m.map (·.t)) (by simpa using hl) (fun j g1 g2 => by simpa using h j (by simpa using g1) (by simpa using g2))))
  generalize eqB (l.map (·.t)) (m.map (·.t)) = z at *
  clear h1 h2
  by_cases hlen : l.length = m.length
  case neg =>
    have hd : ((l.length : Int) != (m.length : Int)) = true := by rw [bne_iff_ne]; omega
    obtain rfl := X1.out hlen
    clear X1 X2 X3 hlen
    go_enter Tryd.func27, Tryd.ntmps27
    go_wp2
    go_ret
    exact ⟨rfl, Below.refl _ _⟩
  have hd : ((l.length : Int) != (m.length : Int)) = false := by rw [hlen]; simp
  have HL := Lib.hid hlen
  clear X1 hlen
  go_enter Tryd.func27, Tryd.ntmps27
  go_wp2_with fail
  clear hd
  go_loopw [17] (fun x wr => ∃ (k : Nat), x = .int .i64 k ∧ k ≤ l.length ∧ Hid (Below w.heap.size w wr) ∧ Hid (∀ j, j < k → ∀ (g1 : j < l.length) (g2 : j < m.length), l[j].t = m[j].t)) (fun x _ => l.length - (intOf x).toNat)
  case atStart => exact ⟨0, rfl, Nat.zero_le _, Lib.hid (Below.refl _ _), Lib.hid (fun j hj => absurd hj (by omega))⟩
  case round =>
    obtain ⟨k, rfl, hk, B1, A1⟩ := hrel
    by_cases hlt : k < l.length
    · have hlt2 : k < m.length := by have := HL.out; omega
      obtain ⟨b, off, rfl, -, a6, i6⟩ := (H1.out.below B1.out).at k hlt
      obtain ⟨b', off', rfl, -, b6, j6⟩ := (H2.out.below B1.out).at k hlt2
      have N2 := Lib.hid (X2.out k hlt hlt2)
      have A2 : Hid (l[k].t = m[k].t → ∀ j, j < k + 1 → ∀ (g1 : j < l.length) (g2 : j < m.length), l[j].t = m[j].t) := Lib.hid (fun h j hj g1 g2 => by
        by_cases e : j = k
        · subst e; exact h
        · exact A1.out j (by omega) g1 g2)
      obtain ⟨w2, e2⟩ : ∃ w2, w2 = wr.alloc (tskO l[k]) := ⟨_, rfl⟩
      obtain ⟨s2, n2, b2⟩ := new_size e2
      obtain ⟨w3, e3⟩ : ∃ w3, w3 = w2.alloc (tskO m[k]) := ⟨_, rfl⟩
      obtain ⟨s3, n3, b3⟩ := new_size e3
      have b6' := b6.below b2
      have n2' := blk_on b3 n2
      have HC := Lib.hid (samet_any l[k] m[k] w3 (i6.below (below_on b2 b3)) (j6.below (below_on b2 b3)))
      have B3 := Lib.hid (below_on B1.out (below_on b2 b3))
      obtain ⟨D, hD⟩ : ∃ D, wr.heap.size = D := ⟨_, rfl⟩
      obtain ⟨E, hE⟩ : ∃ E, w2.heap.size = E := ⟨_, rfl⟩
      rw [hD] at n2'
      rw [hE] at n3
      generalize l[k] = e at *
      generalize m[k] = f at *
      obtain ⟨d0, d1, d2, d3, d4, d5⟩ := tskcells n2'
      obtain ⟨f0, f1, f2, f3, f4, f5⟩ := tskcells n3
      obtain ⟨c0, c1, c2, c3, c4, c5⟩ := a6
      obtain ⟨g0, g1, g2, g3, g4, g5⟩ := b6'
      have HD := Lib.hid hD
      have HE := Lib.hid hE
      have EQ : Hid (eqB e.t f.t = true ↔ e.t = f.t) := Lib.hid eqB_iff
      generalize eqB e.t f.t = q at *
      have N3 : Hid (q = false → z = false) := Lib.hid (fun h => N2.out (fun e => by rw [EQ.out.2 e] at h; cases h))
      have A3 : Hid (q = true → ∀ j, j < k + 1 → ∀ (g1 : j < l.length) (g2 : j < m.length), l[j].t = m[j].t) := Lib.hid (fun h => A2.out (EQ.out.1 h))
      obtain ⟨⟨lv, ot, pd, dl, mm, code⟩, ao, cap⟩ := e
      obtain ⟨⟨lv', ot', pd', dl', mm', code'⟩, ao', cap'⟩ := f
      unfold tskO at e2 e3
      unfold tskV at HC
      simp only at c0 d0 f0 g0 c1 d1 f1 g1 c2 d2 f2 g2 c3 d3 f3 g3 c4 d4 f4 g4 c5 d5 f5 g5 e2 e3 HC
      have hk0I : (0 : Int) ≤ (k : Int) := Int.natCast_nonneg _
      have hk1I : (k : Int) < (l.length : Int) := by omega
      have hk2I : (k : Int) < (m.length : Int) := by omega
      clear A1 X2 X3 N2 A2 EQ s2 n2 b2 s3 n3 b3 b6 n2' i6 j6 hD hE B1
      go_upto_region 6 with fail
      rw [← e2, HD.out]
      clear e2
      go_upto_region 7 with fail
      rw [← e3, HE.out]
      clear e3 c0 g0 c1 g1 c2 g2 c3 g3 c4 g4 c5 g5
      go_wp2_with fail
      refine HC.out.mono ?_
      rintro r w4 ⟨rfl, h4⟩
      have B4 := Lib.hid (below_on B3.out h4)
      clear h4 HC d0 f0 d1 f1 d2 f2 d3 f3 d4 f4 d5 f5
      cases q
      · obtain rfl := N3.out rfl
        clear N3 A3
        go_wp2_with fail
        go_ret
        exact ⟨rfl, B4.out⟩
      · have A4 := Lib.hid (A3.out rfl)
        clear N3 A3
        go_wp2_with fail
        go_roundw
        case rel => exact ⟨k + 1, by go_num, hlt, B4, A4⟩
        case measure => simp [intOf]; omega
    · obtain rfl : k = l.length := by omega
      obtain rfl := X3.out HL.out (fun j g1 g2 => A1.out j g1 g1 g2)
      clear A1 X2 X3
      go_wp2_with fail
      go_ret
      exact ⟨rfl, B1.out⟩

set_option maxRecDepth 100000 in
set_option maxHeartbeats 4000000 in
theorem eqfl_any (ao bo : Option Addr) (cap cbp : Nat) (l m : List LinV) (w : World) (h1 : SeenLn w ao cap l) (h2 : SeenLn w bo cbp m) :
    Calls Tryd.prog 29 #[.slice ao l.length cap, .slice bo m.length cbp, .func (.func 30) #[] #[]] w fun r w' => r = .returned (.bool (eqB (l.map (·.t)) (m.map (·.t)))) ∧ Below w.heap.size w w' := by
  have H1 := Lib.hid h1
  have H2 := Lib.hid h2
  have hmx := h1.row.mx
  have hmy := h2.row.mx
  unfold maxLen at hmx hmy
  have X1 := Lib.hid (fun (h : l.length ≠ m.length) => eqB_ne (a := l.map (·.t)) (b := m.map (·.t)) (fun e => h (by have := congrArg List.length e; simpa using this)))
  have X2 := Lib.hid (fun k (g1 : k < l.length) (g2 : k < m.length) (h : l[k].t ≠ m[k].t) => eqB_ne (list_ne_at (l := l.map (·.t)) (m := m.map (·.t)) k (by simpa using g1) (by simpa using g2) (by simpa using h)))
  have X3 := Lib.hid (fun (hl : l.length = m.length) (h : ∀ j (g1 : j < l.length) (g2 : j < m.length), l[j].t = m[j].t) => eqB_of (list_eq_all (l := l.map (·.t)) (m := m.map (·.t)) (by simpa using hl) (fun j g1 g2 => by simpa using h j (by simpa using g1) (by simpa using g2))))
  generalize eqB (l.map (·.t)) (m.map (·.t)) = z at *
  clear h1 h2
  by_cases hlen : l.length = m.length
  case neg =>
    have hd : ((l.length : Int) != (m.length : Int)) = true := by rw [bne_iff_ne]; omega
    obtain rfl := X1.out hlen
    clear X1 X2 X3 hlen
    go_enter Tryd.func29, Tryd.ntmps29
    go_wp2
    go_ret
    exact ⟨rfl, Below.refl _ _⟩
  have hd : ((l.length : Int) != (m.length : Int)) = false := by rw [hlen]; simp
  have HL := Lib.hid hlen
  clear X1 hlen
  go_enter Tryd.func29, Tryd.ntmps29
  go_wp2_with fail
  clear hd
  go_loopw [17] (fun x wr => ∃ (k : Nat), x = .int .i64 k ∧ k ≤ l.length ∧ Hid (Below w.heap.size w wr) ∧ Hid (∀ j, j < k → ∀ (g1 : j < l.length) (g2 : j < m.length), l[j].t = m[j].t)) (fun x _ => l.length - (intOf x).toNat)
  case atStart => exact ⟨0, rfl, Nat.zero_le _, Lib.hid (Below.refl _ _), Lib.hid (fun j hj => absurd hj (by omega))⟩
  case round =>
    obtain ⟨k, rfl, hk, B1, A1⟩ := hrel
    by_cases hlt : k < l.length
    · have hlt2 : k < m.length := by have := HL.out; omega
      obtain ⟨b, off, rfl, -, a6, i6⟩ := (H1.out.below B1.out).at k hlt
      obtain ⟨b', off', rfl, -, b6, j6⟩ := (H2.out.below B1.out).at k hlt2
      have N2 := Lib.hid (X2.out k hlt hlt2)
      have A2 : Hid (l[k].t = m[k].t → ∀ j, j < k + 1 → ∀ (g1 : j < l.length) (g2 : j < m.length), l[j].t = m[j].t) := Lib.hid (fun h j hj g1 g2 => by
        by_cases e : j = k
        · subst e; exact h
        · exact A1.out j (by omega) g1 g2)
      obtain ⟨w2, e2⟩ : ∃ w2, w2 = wr.alloc (linO l[k]) := ⟨_, rfl⟩
      obtain ⟨s2, n2, b2⟩ := new_size e2
      obtain ⟨w3, e3⟩ : ∃ w3, w3 = w2.alloc (linO m[k]) := ⟨_, rfl⟩
      obtain ⟨s3, n3, b3⟩ := new_size e3
      have b6' := b6.below b2
      have n2' := blk_on b3 n2
      have HC := Lib.hid (samel_any l[k] m[k] w3 (i6.below (below_on b2 b3)) (j6.below (below_on b2 b3)))
      have B3 := Lib.hid (below_on B1.out (below_on b2 b3))
      obtain ⟨D, hD⟩ : ∃ D, wr.heap.size = D := ⟨_, rfl⟩
      obtain ⟨E, hE⟩ : ∃ E, w2.heap.size = E := ⟨_, rfl⟩
      rw [hD] at n2'
      rw [hE] at n3
      generalize l[k] = e at *
      generalize m[k] = f at *
      obtain ⟨d0, d1⟩ := lincells n2'
      obtain ⟨f0, f1⟩ := lincells n3
      obtain ⟨c0, c1⟩ := a6
      obtain ⟨g0, g1⟩ := b6'
      have HD := Lib.hid hD
      have HE := Lib.hid hE
      have EQ : Hid (eqB e.t f.t = true ↔ e.t = f.t) := Lib.hid eqB_iff
      generalize eqB e.t f.t = q at *
      have N3 : Hid (q = false → z = false) := Lib.hid (fun h => N2.out (fun e => by rw [EQ.out.2 e] at h; cases h))
      have A3 : Hid (q = true → ∀ j, j < k + 1 → ∀ (g1 : j < l.length) (g2 : j < m.length), l[j].t = m[j].t) := Lib.hid (fun h => A2.out (EQ.out.1 h))
      obtain ⟨⟨mm, code⟩, ao, cap⟩ := e
      obtain ⟨⟨mm', code'⟩, ao', cap'⟩ := f
      unfold linO at e2 e3
      unfold linV at HC
      simp only at c0 d0 f0 g0 c1 d1 f1 g1 e2 e3 HC
      have hk0I : (0 : Int) ≤ (k : Int) := Int.natCast_nonneg _
      have hk1I : (k : Int) < (l.length : Int) := by omega
      have hk2I : (k : Int) < (m.length : Int) := by omega
      clear A1 X2 X3 N2 A2 EQ s2 n2 b2 s3 n3 b3 b6 n2' i6 j6 hD hE B1
      go_upto_region 6 with fail
      rw [← e2, HD.out]
      clear e2
      go_upto_region 7 with fail
      rw [← e3, HE.out]
      clear e3 c0 g0 c1 g1
      go_wp2_with fail
      refine HC.out.mono ?_
      rintro r w4 ⟨rfl, h4⟩
      have B4 := Lib.hid (below_on B3.out h4)
      clear h4 HC d0 f0 d1 f1
      cases q
      · obtain rfl := N3.out rfl
        clear N3 A3
        go_wp2_with fail
        go_ret
        exact ⟨rfl, B4.out⟩
      · have A4 := Lib.hid (A3.out rfl)
        clear N3 A3
        go_wp2_with fail
        go_roundw
        case rel => exact ⟨k + 1, by go_num, hlt, B4, A4⟩
        case measure => simp [intOf]; omega
    · obtain rfl : k = l.length := by omega
      obtain rfl := X3.out HL.out (fun j g1 g2 => A1.out j g1 g1 g2)
      clear A1 X2 X3
      go_wp2_with fail
      go_ret
      exact ⟨rfl, B1.out⟩

/-- The numbers of two systems are the same. -/
def numsP (x y : CfgV) : Prop := x.mtx = y.mtx ∧ x.table = y.table ∧ x.mask = y.mask ∧ x.filter = y.filter ∧ x.charge = y.charge ∧ x.cycle = y.cycle ∧ x.count = y.count
noncomputable def numsB (x y : CfgV) : Bool := @decide (numsP x y) (Classical.propDecidable _)
theorem numsB_t {x y : CfgV} (h : numsP x y) : numsB x y = true := by unfold numsB; simp [h]
theorem numsB_f {x y : CfgV} (h : ¬ numsP x y) : numsB x y = false := by unfold numsB; simp [h]
theorem numsB_of {x y : CfgV} (h : numsB x y = true) : numsP x y := by unfold numsB at h; simpa using h

set_option maxRecDepth 100000 in
set_option maxHeartbeats 4000000 in
theorem nums_any (x y : CfgV) (w : World) : Calls Tryd.prog 26 #[cfV x, cfV y] w fun r w' => r = .returned (.bool (numsB x y)) ∧ Below w.heap.size w w' := by
  obtain ⟨w1, e1⟩ : ∃ w1, w1 = w.alloc (cfO x) := ⟨_, rfl⟩
  obtain ⟨s1, n1, b1⟩ := new_size e1
  obtain ⟨w2, e2⟩ : ∃ w2, w2 = w1.alloc (cfO y) := ⟨_, rfl⟩
  obtain ⟨s2, n2, b2⟩ := new_size e2
  have n1' := blk_on b2 n1
  obtain ⟨D, hD⟩ : ∃ D, w.heap.size = D := ⟨_, rfl⟩
  obtain ⟨E, hE⟩ : ∃ E, D + 1 = E := ⟨_, rfl⟩
  rw [hD] at n1'
  rw [s1, hD, hE] at n2
  obtain ⟨c0, c1, c2, c3, c4, c5, c6, c7, c8, c9, c10, c11⟩ := cfcells n1'
  obtain ⟨d0, d1, d2, d3, d4, d5, d6, d7, d8, d9, d10, d11⟩ := cfcells n2
  have B2 := Lib.hid (below_on b1 b2)
  have HD := Lib.hid hD
  have HE := Lib.hid hE
  have XF : Hid (¬ numsP x y → numsB x y = false) := Lib.hid numsB_f
  have XT : Hid (numsP x y → numsB x y = true) := Lib.hid numsB_t
  generalize numsB x y = z at *
  unfold numsP at XF XT
  obtain ⟨tao, tcap, tasks, lao, lcap, lines, mtx, sao, scap, sems, qao, qcap, queues, mao, mcap, timers, table, mask, filter, charge, cycle, count⟩ := x
  obtain ⟨tao', tcap', tasks', lao', lcap', lines', mtx', sao', scap', sems', qao', qcap', queues', mao', mcap', timers', table', mask', filter', charge', cycle', count'⟩ := y
  unfold cfO cfCells at e1 e2
  unfold cfV cfCells
  simp only at *
  clear s1 n1 b1 s2 n2 b2 n1' hD hE
  go_enter Tryd.func26, Tryd.ntmps26
  go_upto_region 1 with fail
  rw [← e1, HD.out, ← e2, HE.out]
  clear e1 e2 c0 c1 c3 c4 c5 d0 d1 d3 d4 d5
  by_cases h0 : mtx = mtx'
  case neg =>
    have q0 : (mtx == mtx') = false := by simpa using h0
    obtain rfl := XF.out (fun h => h0 h.1)
    clear XF XT h0
    go_wp2_with fail
    go_ret
    exact ⟨rfl, B2.out⟩
  subst h0
  by_cases h1 : table = table'
  case neg =>
    have q1 : (table == table') = false := by simpa using h1
    obtain rfl := XF.out (fun h => h1 h.2.1)
    clear XF XT h1
    go_wp2_with fail
    go_ret
    exact ⟨rfl, B2.out⟩
  subst h1
  by_cases h2 : mask = mask'
  case neg =>
    have q2 : ((mask : Int) == (mask' : Int)) = false := by simp; omega
    obtain rfl := XF.out (fun h => h2 h.2.2.1)
    clear XF XT h2
    go_wp2_with fail
    go_ret
    exact ⟨rfl, B2.out⟩
  subst h2
  by_cases h3 : filter = filter'
  case neg =>
    have q3 : ((filter : Int) == (filter' : Int)) = false := by simp; omega
    obtain rfl := XF.out (fun h => h3 h.2.2.2.1)
    clear XF XT h3
    go_wp2_with fail
    go_ret
    exact ⟨rfl, B2.out⟩
  subst h3
  by_cases h4 : charge = charge'
  case neg =>
    have q4 : (charge == charge') = false := by simpa using h4
    obtain rfl := XF.out (fun h => h4 h.2.2.2.2.1)
    clear XF XT h4
    go_wp2_with fail
    go_ret
    exact ⟨rfl, B2.out⟩
  subst h4
  by_cases h5 : cycle = cycle'
  case neg =>
    have q5 : ((cycle : Int) == (cycle' : Int)) = false := by simp; omega
    obtain rfl := XF.out (fun h => h5 h.2.2.2.2.2.1)
    clear XF XT h5
    go_wp2_with fail
    go_ret
    exact ⟨rfl, B2.out⟩
  subst h5
  by_cases h6 : count = count'
  case neg =>
    have q6 : ((count : Int) == (count' : Int)) = false := by simp; omega
    obtain rfl := XF.out (fun h => h6 h.2.2.2.2.2.2)
    clear XF XT h6
    go_wp2_with fail
    go_ret
    exact ⟨rfl, B2.out⟩
  subst h6
  obtain rfl := XT.out ⟨rfl, rfl, rfl, rfl, rfl, rfl, rfl⟩
  clear XF XT
  go_wp2_with fail
  go_ret
  exact ⟨rfl, B2.out⟩

theorem same_cfg {x y : CfgV} (h0 : numsP x y) (h1 : x.tasks.map (·.t) = y.tasks.map (·.t)) (h2 : x.lines.map (·.t) = y.lines.map (·.t)) (h3 : x.sems = y.sems) (h4 : x.queues = y.queues) (h5 : x.timers = y.timers) : x.c = y.c := by
  obtain ⟨a, b, c, d, e, f, g⟩ := h0
  unfold CfgV.c
  rw [h1, h2, h3, h4, h5, a, b, c, d, e, f, g]
theorem cfg_nums {x y : CfgV} (h : x.c = y.c) : numsP x y ∧ x.tasks.map (·.t) = y.tasks.map (·.t) ∧ x.lines.map (·.t) = y.lines.map (·.t) ∧ x.sems = y.sems ∧ x.queues = y.queues ∧ x.timers = y.timers := by
  unfold CfgV.c at h
  simp only [Cfg.mk.injEq] at h
  obtain ⟨h1, h2, a, h3, h4, h5, b, c, d, e, f, g⟩ := h
  exact ⟨⟨a, b, c, d, e, f, g⟩, h1, h2, h3, h4, h5⟩

set_option maxRecDepth 100000 in
set_option maxHeartbeats 8000000 in
theorem csame_any (x y : CfgV) (w : World) (hx : SeenC w x) (hy : SeenC w y) : Calls Tryd.prog 14 #[cfV x, cfV y] w fun r w' => r = .returned (.bool (eqB x.c y.c)) ∧ Below w.heap.size w w' := by
  obtain ⟨w1, e1⟩ : ∃ w1, w1 = w.alloc (cfO x) := ⟨_, rfl⟩
  obtain ⟨s1, n1, b1⟩ := new_size e1
  obtain ⟨w2, e2⟩ : ∃ w2, w2 = w1.alloc (cfO y) := ⟨_, rfl⟩
  obtain ⟨s2, n2, b2⟩ := new_size e2
  have n1' := blk_on b2 n1
  obtain ⟨D, hD⟩ : ∃ D, w.heap.size = D := ⟨_, rfl⟩
  obtain ⟨E, hE⟩ : ∃ E, D + 1 = E := ⟨_, rfl⟩
  rw [hD] at n1'
  rw [s1, hD, hE] at n2
  have B2 := Lib.hid (below_on b1 b2)
  have HD := Lib.hid hD
  have HE := Lib.hid hE
  have HC : Hid (∀ wr, Below w2.heap.size w2 wr → AtC wr D x) := Lib.hid (fun wr hb => cfcells (blk_on hb n1'))
  have HC' : Hid (∀ wr, Below w2.heap.size w2 wr → AtC wr E y) := Lib.hid (fun wr hb => cfcells (blk_on hb n2))
  have H2 := hx.below (below_on b1 b2)
  have K2 := hy.below (below_on b1 b2)
  have Y0 := Lib.hid (nums_any x y w2)
  have Y1 := Lib.hid (fun wr (hb : Below w2.heap.size w2 wr) => eqft_any x.tao y.tao x.tcap y.tcap x.tasks y.tasks wr (H2.ts.below hb) (K2.ts.below hb))
  have Y2 := Lib.hid (fun wr (hb : Below w2.heap.size w2 wr) => eqfl_any x.lao y.lao x.lcap y.lcap x.lines y.lines wr (H2.ls.below hb) (K2.ls.below hb))
  have Y3 := Lib.hid (fun wr (hb : Below w2.heap.size w2 wr) => eqZ_any x.sao y.sao x.scap y.scap x.sems y.sems wr (H2.ss.below hb) (K2.ss.below hb))
  have Y4 := Lib.hid (fun wr (hb : Below w2.heap.size w2 wr) => eqZ_any x.qao y.qao x.qcap y.qcap x.queues y.queues wr (H2.qs.below hb) (K2.qs.below hb))
  have Y5 := Lib.hid (fun wr (hb : Below w2.heap.size w2 wr) => eqZ_any x.mao y.mao x.mcap y.mcap x.timers y.timers wr (H2.ms.below hb) (K2.ms.below hb))
  have XT : Hid (numsB x y = true → eqB (x.tasks.map (·.t)) (y.tasks.map (·.t)) = true → eqB (x.lines.map (·.t)) (y.lines.map (·.t)) = true → eqB x.sems y.sems = true → eqB x.queues y.queues = true → eqB x.timers y.timers = true → eqB x.c y.c = true) :=
    Lib.hid (fun h0 h1 h2 h3 h4 h5 => eqB_of (same_cfg (numsB_of h0) (eqB_iff.1 h1) (eqB_iff.1 h2) (eqB_iff.1 h3) (eqB_iff.1 h4) (eqB_iff.1 h5)))
  have nb : ∀ {b : Bool} {p : Prop}, (eqB x.c y.c = true → p) → (p → b = true) → b = false → eqB x.c y.c = false := fun h1 h2 h3 => by
    cases hz : eqB x.c y.c with
    | false => rfl
    | true => rw [h2 (h1 hz)] at h3; cases h3
  have XF0 : Hid (numsB x y = false → eqB x.c y.c = false) := Lib.hid (nb (fun h => (cfg_nums (eqB_iff.1 h)).1) numsB_t)
  have XF1 : Hid (eqB (x.tasks.map (·.t)) (y.tasks.map (·.t)) = false → eqB x.c y.c = false) := Lib.hid (nb (fun h => (cfg_nums (eqB_iff.1 h)).2.1) eqB_of)
  have XF2 : Hid (eqB (x.lines.map (·.t)) (y.lines.map (·.t)) = false → eqB x.c y.c = false) := Lib.hid (nb (fun h => (cfg_nums (eqB_iff.1 h)).2.2.1) eqB_of)
  have XF3 : Hid (eqB x.sems y.sems = false → eqB x.c y.c = false) := Lib.hid (nb (fun h => (cfg_nums (eqB_iff.1 h)).2.2.2.1) eqB_of)
  have XF4 : Hid (eqB x.queues y.queues = false → eqB x.c y.c = false) := Lib.hid (nb (fun h => (cfg_nums (eqB_iff.1 h)).2.2.2.2.1) eqB_of)
  have XF5 : Hid (eqB x.timers y.timers = false → eqB x.c y.c = false) := Lib.hid (nb (fun h => (cfg_nums (eqB_iff.1 h)).2.2.2.2.2) eqB_of)
  clear nb
  generalize eqB x.c y.c = z at *
  generalize numsB x y = z0 at *
  generalize eqB (x.tasks.map (·.t)) (y.tasks.map (·.t)) = z1 at *
  generalize eqB (x.lines.map (·.t)) (y.lines.map (·.t)) = z2 at *
  generalize eqB x.sems y.sems = z3 at *
  generalize eqB x.queues y.queues = z4 at *
  generalize eqB x.timers y.timers = z5 at *
  obtain ⟨tao, tcap, tasks, lao, lcap, lines, mtx, sao, scap, sems, qao, qcap, queues, mao, mcap, timers, table, mask, filter, charge, cycle, count⟩ := x
  obtain ⟨tao', tcap', tasks', lao', lcap', lines', mtx', sao', scap', sems', qao', qcap', queues', mao', mcap', timers', table', mask', filter', charge', cycle', count'⟩ := y
  unfold cfO cfCells at e1 e2
  unfold cfV cfCells at *
  simp only at *
  clear s1 n1 b1 s2 n2 b2 n1' hD hE hx hy H2 K2
  have BR : Hid (Below w2.heap.size w2 w2) := Lib.hid (Below.refl _ _)
  go_enter Tryd.func14, Tryd.ntmps14
  go_upto_region 1 with fail
  rw [← e1, HD.out, ← e2, HE.out]
  clear e1 e2
  obtain ⟨c0, c1, c2, c3, c4, c5, c6, c7, c8, c9, c10, c11⟩ := HC.out w2 BR.out
  obtain ⟨d0, d1, d2, d3, d4, d5, d6, d7, d8, d9, d10, d11⟩ := HC'.out w2 BR.out
  simp only at c0 c1 c2 c3 c4 c5 c6 c7 c8 c9 c10 c11 d0 d1 d2 d3 d4 d5 d6 d7 d8 d9 d10 d11
  go_wp2_with fail
  refine Y0.out.mono ?_
  rintro r v0 ⟨rfl, h⟩
  have V0 := Lib.hid (below_on BR.out h)
  clear h c0 c1 c2 c3 c4 c5 c6 c7 c8 c9 c10 c11 d0 d1 d2 d3 d4 d5 d6 d7 d8 d9 d10 d11
  cases z0
  case false =>
    obtain rfl := XF0.out rfl
    have BZ := Lib.hid (below_on B2.out V0.out)
    clear XT XF0 XF1 XF2 XF3 XF4 XF5 Y1 Y2 Y3 Y4 Y5 HC HC'
    go_wp2_with fail
    go_ret
    exact ⟨rfl, BZ.out⟩
  obtain ⟨c0, c1, c2, c3, c4, c5, c6, c7, c8, c9, c10, c11⟩ := HC.out v0 V0.out
  obtain ⟨d0, d1, d2, d3, d4, d5, d6, d7, d8, d9, d10, d11⟩ := HC'.out v0 V0.out
  simp only at c0 c1 c2 c3 c4 c5 c6 c7 c8 c9 c10 c11 d0 d1 d2 d3 d4 d5 d6 d7 d8 d9 d10 d11
  go_wp2_with fail
  refine (Y1.out v0 V0.out).mono ?_
  rintro r v1 ⟨rfl, h⟩
  have V1 := Lib.hid (below_on V0.out h)
  clear h c0 c1 c2 c3 c4 c5 c6 c7 c8 c9 c10 c11 d0 d1 d2 d3 d4 d5 d6 d7 d8 d9 d10 d11
  cases z1
  case false =>
    obtain rfl := XF1.out rfl
    have BZ := Lib.hid (below_on B2.out V1.out)
    clear XT XF0 XF1 XF2 XF3 XF4 XF5 Y1 Y2 Y3 Y4 Y5 HC HC'
    go_wp2_with fail
    go_ret
    exact ⟨rfl, BZ.out⟩
  obtain ⟨c0, c1, c2, c3, c4, c5, c6, c7, c8, c9, c10, c11⟩ := HC.out v1 V1.out
  obtain ⟨d0, d1, d2, d3, d4, d5, d6, d7, d8, d9, d10, d11⟩ := HC'.out v1 V1.out
  simp only at c0 c1 c2 c3 c4 c5 c6 c7 c8 c9 c10 c11 d0 d1 d2 d3 d4 d5 d6 d7 d8 d9 d10 d11
  go_wp2_with fail
  refine (Y2.out v1 V1.out).mono ?_
  rintro r v2 ⟨rfl, h⟩
  have V2 := Lib.hid (below_on V1.out h)
  clear h c0 c1 c2 c3 c4 c5 c6 c7 c8 c9 c10 c11 d0 d1 d2 d3 d4 d5 d6 d7 d8 d9 d10 d11
  cases z2
  case false =>
    obtain rfl := XF2.out rfl
    have BZ := Lib.hid (below_on B2.out V2.out)
    clear XT XF0 XF1 XF2 XF3 XF4 XF5 Y1 Y2 Y3 Y4 Y5 HC HC'
    go_wp2_with fail
    go_ret
    exact ⟨rfl, BZ.out⟩
  obtain ⟨c0, c1, c2, c3, c4, c5, c6, c7, c8, c9, c10, c11⟩ := HC.out v2 V2.out
  obtain ⟨d0, d1, d2, d3, d4, d5, d6, d7, d8, d9, d10, d11⟩ := HC'.out v2 V2.out
  simp only at c0 c1 c2 c3 c4 c5 c6 c7 c8 c9 c10 c11 d0 d1 d2 d3 d4 d5 d6 d7 d8 d9 d10 d11
  go_wp2_with fail
  refine (Y3.out v2 V2.out).mono ?_
  rintro r v3 ⟨rfl, q, rfl⟩
  have V3' : Below w2.heap.size w2 (v2.drewN q) := below_drewN V2.out q
  obtain ⟨v3, ev⟩ : ∃ v3, v3 = v2.drewN q := ⟨_, rfl⟩
  rw [← ev] at V3' ⊢
  have V3 := Lib.hid V3'
  clear ev V3' c0 c1 c2 c3 c4 c5 c6 c7 c8 c9 c10 c11 d0 d1 d2 d3 d4 d5 d6 d7 d8 d9 d10 d11
  cases z3
  case false =>
    obtain rfl := XF3.out rfl
    have BZ := Lib.hid (below_on B2.out V3.out)
    clear XT XF0 XF1 XF2 XF3 XF4 XF5 Y1 Y2 Y3 Y4 Y5 HC HC'
    go_wp2_with fail
    go_ret
    exact ⟨rfl, BZ.out⟩
  obtain ⟨c0, c1, c2, c3, c4, c5, c6, c7, c8, c9, c10, c11⟩ := HC.out v3 V3.out
  obtain ⟨d0, d1, d2, d3, d4, d5, d6, d7, d8, d9, d10, d11⟩ := HC'.out v3 V3.out
  simp only at c0 c1 c2 c3 c4 c5 c6 c7 c8 c9 c10 c11 d0 d1 d2 d3 d4 d5 d6 d7 d8 d9 d10 d11
  go_wp2_with fail
  refine (Y4.out v3 V3.out).mono ?_
  rintro r v4 ⟨rfl, q, rfl⟩
  have V4' : Below w2.heap.size w2 (v3.drewN q) := below_drewN V3.out q
  obtain ⟨v4, ev⟩ : ∃ v4, v4 = v3.drewN q := ⟨_, rfl⟩
  rw [← ev] at V4' ⊢
  have V4 := Lib.hid V4'
  clear ev V4' c0 c1 c2 c3 c4 c5 c6 c7 c8 c9 c10 c11 d0 d1 d2 d3 d4 d5 d6 d7 d8 d9 d10 d11
  cases z4
  case false =>
    obtain rfl := XF4.out rfl
    have BZ := Lib.hid (below_on B2.out V4.out)
    clear XT XF0 XF1 XF2 XF3 XF4 XF5 Y1 Y2 Y3 Y4 Y5 HC HC'
    go_wp2_with fail
    go_ret
    exact ⟨rfl, BZ.out⟩
  obtain ⟨c0, c1, c2, c3, c4, c5, c6, c7, c8, c9, c10, c11⟩ := HC.out v4 V4.out
  obtain ⟨d0, d1, d2, d3, d4, d5, d6, d7, d8, d9, d10, d11⟩ := HC'.out v4 V4.out
  simp only at c0 c1 c2 c3 c4 c5 c6 c7 c8 c9 c10 c11 d0 d1 d2 d3 d4 d5 d6 d7 d8 d9 d10 d11
  go_wp2_with fail
  refine (Y5.out v4 V4.out).mono ?_
  rintro r v5 ⟨rfl, q, rfl⟩
  have V5' : Below w2.heap.size w2 (v4.drewN q) := below_drewN V4.out q
  obtain ⟨v5, ev⟩ : ∃ v5, v5 = v4.drewN q := ⟨_, rfl⟩
  rw [← ev] at V5' ⊢
  have V5 := Lib.hid V5'
  clear ev V5' c0 c1 c2 c3 c4 c5 c6 c7 c8 c9 c10 c11 d0 d1 d2 d3 d4 d5 d6 d7 d8 d9 d10 d11
  cases z5
  case false =>
    obtain rfl := XF5.out rfl
    have BZ := Lib.hid (below_on B2.out V5.out)
    clear XT XF0 XF1 XF2 XF3 XF4 XF5 Y1 Y2 Y3 Y4 Y5 HC HC'
    go_wp2_with fail
    go_ret
    exact ⟨rfl, BZ.out⟩
  obtain rfl := XT.out (by simp) (by simp) (by simp) (by simp) (by simp) (by simp)
  have BZ := Lib.hid (below_on B2.out V5.out)
  clear XT XF0 XF1 XF2 XF3 XF4 XF5 Y1 Y2 Y3 Y4 Y5 HC HC'
  go_wp2_with fail
  go_ret
  exact ⟨rfl, BZ.out⟩

end Go.Proofs.YtbhnehacgkhpbaaDoor
