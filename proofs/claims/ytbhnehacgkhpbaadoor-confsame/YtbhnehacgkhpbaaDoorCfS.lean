/-
  Are two lists, two tasks, two lines, two systems the same, by conf: over this seat's translation. Conditions: what is compared lies in memory.
-/
import Derived.Test.YtbhnehacgkhpbaaDoorCfL
namespace Go.Proofs.YtbhnehacgkhpbaaDoor
open Go Go.RowKit
set_option linter.unusedVariables false
set_option linter.unusedSimpArgs false

theorem list_ne_at {α : Type} {l m : List α} (k : Nat) (h1 : k < l.length) (h2 : k < m.length) (h : l[k] ≠ m[k]) : l ≠ m := by
  rintro rfl
  exact h rfl
theorem list_eq_all {α : Type} {l m : List α} (hl : l.length = m.length) (h : ∀ j (h1 : j < l.length) (h2 : j < m.length), l[j] = m[j]) : l = m := List.ext_getElem hl h
theorem ins_neq (op a b c d op' a' b' c' d' : Int) (k k' : Nat) (h : (⟨op, a, b, c, d, k⟩ : Ins) ≠ ⟨op', a', b', c', d', k'⟩) (W : World) :
    (binOp .neq 41 (.agg #[.int .i64 op, .int .i64 a, .int .i64 b, .int .i64 c, .int .i64 d, .int .u32 (k : Int)]) (.agg #[.int .i64 op', .int .i64 a', .int .i64 b', .int .i64 c', .int .i64 d', .int .u32 (k' : Int)])).run Tryd.prog W = .ok (.bool true) W := by
  by_cases h0 : op = op'
  case neg =>
    have q0 : (op == op') = false := by simpa using h0
    go_simp
  subst h0
  by_cases h0 : a = a'
  case neg =>
    have q0 : (a == a') = false := by simpa using h0
    go_simp
  subst h0
  by_cases h0 : b = b'
  case neg =>
    have q0 : (b == b') = false := by simpa using h0
    go_simp
  subst h0
  by_cases h0 : c = c'
  case neg =>
    have q0 : (c == c') = false := by simpa using h0
    go_simp
  subst h0
  by_cases h0 : d = d'
  case neg =>
    have q0 : (d == d') = false := by simpa using h0
    go_simp
  subst h0
  have h0 : k ≠ k' := fun e => h (by rw [e])
  have q0 : ((k : Int) == (k' : Int)) = false := by simp; omega
  go_simp

set_option maxRecDepth 100000 in
set_option maxHeartbeats 4000000 in
theorem eqI_any (ao bo : Option Addr) (cap cbp : Nat) (l m : List Ins) (w : World) (h1 : SeenI w ao cap l) (h2 : SeenI w bo cbp m) :
    Calls Tryd.prog 40 #[.slice ao l.length cap, .slice bo m.length cbp] w fun r w' => r = .returned (.bool (eqB l m)) ∧ ∃ n, w' = w.drewN n := by
  have H1 := Lib.hid h1
  have H2 := Lib.hid h2
  have hmx := h1.mx
  have hmy := h2.mx
  unfold maxLen at hmx hmy
  have X1 := Lib.hid (fun (h : l.length ≠ m.length) => eqB_ne (a := l) (b := m) (fun e => h (by rw [e])))
  have X2 := Lib.hid (fun k h1 h2 h => eqB_ne (list_ne_at (l := l) (m := m) k h1 h2 h))
  have X3 := Lib.hid (fun hl h => eqB_of (list_eq_all (l := l) (m := m) hl h))
  generalize eqB l m = z at *
  clear h1 h2
  by_cases hlen : l.length = m.length
  case neg =>
    have hd : ((l.length : Int) != (m.length : Int)) = true := by rw [bne_iff_ne]; omega
    obtain rfl := X1.out hlen
    clear X1 X2 X3 hlen
    go_enter Tryd.func40, Tryd.ntmps40
    go_wp2
    go_ret
    exact ⟨rfl, 0, rfl⟩
  have hd : ((l.length : Int) != (m.length : Int)) = false := by rw [hlen]; simp
  have HL := Lib.hid hlen
  clear X1 hlen
  go_enter Tryd.func40, Tryd.ntmps40
  go_wp2_with fail
  clear hd
  go_loopw [13] (fun x wr => ∃ (k n : Nat), x = .int .i64 k ∧ k ≤ l.length ∧ Hid (wr = w.drewN n) ∧ Hid (∀ j, j < k → ∀ (g1 : j < l.length) (g2 : j < m.length), l[j] = m[j])) (fun x _ => l.length - (intOf x).toNat)
  case atStart => exact ⟨0, 0, rfl, Nat.zero_le _, Lib.hid rfl, Lib.hid (fun j hj => absurd hj (by omega))⟩
  case round =>
    obtain ⟨k, n, rfl, hk, hw, A1⟩ := hrel
    by_cases hlt : k < l.length
    · have hlt2 : k < m.length := by have := HL.out; omega
      obtain ⟨b, off, rfl, -, a6⟩ := SeenI.at H1.out k hlt
      obtain ⟨b', off', rfl, -, b6⟩ := SeenI.at H2.out k hlt2
      have a6 := a6.drewN n
      have b6 := b6.drewN n
      rw [← hw.out] at a6 b6
      have N2 := Lib.hid (X2.out k hlt hlt2)
      have A2 : Hid (l[k] = m[k] → ∀ j, j < k + 1 → ∀ (g1 : j < l.length) (g2 : j < m.length), l[j] = m[j]) := Lib.hid (fun h j hj g1 g2 => by
        by_cases e : j = k
        · subst e; exact h
        · exact A1.out j (by omega) g1 g2)
      generalize l[k] = e at *
      generalize m[k] = f at *
      obtain ⟨op, a, b1, c, d, kk⟩ := e
      obtain ⟨op', a', b1', c', d', kk'⟩ := f
      obtain ⟨c0, c1, c2, c3, c4, c5⟩ := a6
      obtain ⟨d0, d1, d2, d3, d4, d5⟩ := b6
      simp only at c0 c1 c2 c3 c4 c5 d0 d1 d2 d3 d4 d5
      have hk0I : (0 : Int) ≤ (k : Int) := Int.natCast_nonneg _
      have hk1I : (k : Int) < (l.length : Int) := by omega
      have hk2I : (k : Int) < (m.length : Int) := by omega
      clear A1 X2 X3
      by_cases hef : (⟨op, a, b1, c, d, kk⟩ : Ins) = ⟨op', a', b1', c', d', kk'⟩
      · simp only [Ins.mk.injEq] at hef
        obtain ⟨rfl, rfl, rfl, rfl, rfl, rfl⟩ := hef
        have A3 := Lib.hid (A2.out (by simp))
        clear A2 N2
        go_wp2_with fail
        go_quiet (fail)
        go_wp2_with fail
        go_roundw
        case rel => exact ⟨k + 1, _, by go_num, hlt, Lib.hid (by rw [hw.out]; exact drewN_drewN _ _ _), A3⟩
        case measure => simp [intOf]; omega
      · have hq := fun W => ins_neq op a b1 c d op' a' b1' c' d' kk kk' hef W
        obtain rfl := N2.out hef
        clear A2 N2 hef
        go_wp2_with fail
        go_quiet (fail)
        go_wp2_with fail
        go_ret
        exact ⟨rfl, _, by rw [hw.out]; exact drewN_drewN _ _ _⟩
    · obtain rfl : k = l.length := by omega
      obtain rfl := X3.out HL.out (fun j g1 g2 => A1.out j g1 g1 g2)
      clear A1 X2 X3
      go_wp2_with fail
      go_ret
      exact ⟨rfl, n, hw.out⟩

set_option maxRecDepth 100000 in
set_option maxHeartbeats 4000000 in
theorem eqZ_any (ao bo : Option Addr) (cap cbp : Nat) (l m : List Int) (w : World) (h1 : SeenZ w ao cap l) (h2 : SeenZ w bo cbp m) :
    Calls Tryd.prog 31 #[.slice ao l.length cap, .slice bo m.length cbp] w fun r w' => r = .returned (.bool (eqB l m)) ∧ ∃ n, w' = w.drewN n := by
  have H1 := Lib.hid h1
  have H2 := Lib.hid h2
  have hmx := h1.mx
  have hmy := h2.mx
  unfold maxLen at hmx hmy
  have X1 := Lib.hid (fun (h : l.length ≠ m.length) => eqB_ne (a := l) (b := m) (fun e => h (by rw [e])))
  have X2 := Lib.hid (fun k h1 h2 h => eqB_ne (list_ne_at (l := l) (m := m) k h1 h2 h))
  have X3 := Lib.hid (fun hl h => eqB_of (list_eq_all (l := l) (m := m) hl h))
  generalize eqB l m = z at *
  clear h1 h2
  by_cases hlen : l.length = m.length
  case neg =>
    have hd : ((l.length : Int) != (m.length : Int)) = true := by rw [bne_iff_ne]; omega
    obtain rfl := X1.out hlen
    clear X1 X2 X3 hlen
    go_enter Tryd.func31, Tryd.ntmps31
    go_wp2
    go_ret
    exact ⟨rfl, 0, rfl⟩
  have hd : ((l.length : Int) != (m.length : Int)) = false := by rw [hlen]; simp
  have HL := Lib.hid hlen
  clear X1 hlen
  go_enter Tryd.func31, Tryd.ntmps31
  go_wp2_with fail
  clear hd
  go_loopw [13] (fun x wr => ∃ (k n : Nat), x = .int .i64 k ∧ k ≤ l.length ∧ Hid (wr = w.drewN n) ∧ Hid (∀ j, j < k → ∀ (g1 : j < l.length) (g2 : j < m.length), l[j] = m[j])) (fun x _ => l.length - (intOf x).toNat)
  case atStart => exact ⟨0, 0, rfl, Nat.zero_le _, Lib.hid rfl, Lib.hid (fun j hj => absurd hj (by omega))⟩
  case round =>
    obtain ⟨k, n, rfl, hk, hw, A1⟩ := hrel
    by_cases hlt : k < l.length
    · have hlt2 : k < m.length := by have := HL.out; omega
      obtain ⟨b, off, rfl, -, a6⟩ := seenZ_at H1.out k hlt
      obtain ⟨b', off', rfl, -, b6⟩ := seenZ_at H2.out k hlt2
      have a6 := (World.cell?_of_block (w := w) (w' := w.drewN n) (a := ⟨b, off + k, none⟩) rfl).trans a6
      have b6 := (World.cell?_of_block (w := w) (w' := w.drewN n) (a := ⟨b', off' + k, none⟩) rfl).trans b6
      rw [← hw.out] at a6 b6
      have N2 := Lib.hid (X2.out k hlt hlt2)
      have A2 : Hid (l[k] = m[k] → ∀ j, j < k + 1 → ∀ (g1 : j < l.length) (g2 : j < m.length), l[j] = m[j]) := Lib.hid (fun h j hj g1 g2 => by
        by_cases e : j = k
        · subst e; exact h
        · exact A1.out j (by omega) g1 g2)
      generalize l[k] = e at *
      generalize m[k] = f at *
      skip
      have hk0I : (0 : Int) ≤ (k : Int) := Int.natCast_nonneg _
      have hk1I : (k : Int) < (l.length : Int) := by omega
      have hk2I : (k : Int) < (m.length : Int) := by omega
      clear A1 X2 X3
      by_cases hef : e = f
      · subst hef
        have A3 := Lib.hid (A2.out (by simp))
        clear A2 N2
        go_wp2_with fail
        go_quiet (fail)
        go_wp2_with fail
        go_roundw
        case rel => exact ⟨k + 1, _, by go_num, hlt, Lib.hid (by rw [hw.out]; exact drewN_drewN _ _ _), A3⟩
        case measure => simp [intOf]; omega
      · have hq : (e != f) = true := by simpa using hef
        obtain rfl := N2.out hef
        clear A2 N2 hef
        go_wp2_with fail
        go_quiet (fail)
        go_wp2_with fail
        go_ret
        exact ⟨rfl, _, by rw [hw.out]; exact drewN_drewN _ _ _⟩
    · obtain rfl : k = l.length := by omega
      obtain rfl := X3.out HL.out (fun j g1 g2 => A1.out j g1 g1 g2)
      clear A1 X2 X3
      go_wp2_with fail
      go_ret
      exact ⟨rfl, n, hw.out⟩

set_option maxRecDepth 100000 in
set_option maxHeartbeats 4000000 in
theorem reqI_any (ao bo : Option Addr) (cap cbp : Nat) (l m : List Ins) (w : World) (h1 : SeenI w ao cap l) (h2 : SeenI w bo cbp m) :
    Calls Tryd.prog 24 #[.slice ao l.length cap, .slice bo m.length cbp] w fun r w' => r = .returned (.bool (eqB l m)) ∧ ∃ n, w' = w.drewN n := by
  have H1 := Lib.hid h1
  have H2 := Lib.hid h2
  have hmx := h1.mx
  have hmy := h2.mx
  unfold maxLen at hmx hmy
  have X1 := Lib.hid (fun (h : l.length ≠ m.length) => eqB_ne (a := l) (b := m) (fun e => h (by rw [e])))
  have X2 := Lib.hid (fun k h1 h2 h => eqB_ne (list_ne_at (l := l) (m := m) k h1 h2 h))
  have X3 := Lib.hid (fun hl h => eqB_of (list_eq_all (l := l) (m := m) hl h))
  generalize eqB l m = z at *
  clear h1 h2
  by_cases hlen : l.length = m.length
  case neg =>
    have hd : ((l.length : Int) != (m.length : Int)) = true := by rw [bne_iff_ne]; omega
    obtain rfl := X1.out hlen
    clear X1 X2 X3 hlen
    go_enter Tryd.func24, Tryd.ntmps24
    go_wp2
    go_ret
    exact ⟨rfl, 0, rfl⟩
  have hd : ((l.length : Int) != (m.length : Int)) = false := by rw [hlen]; simp
  have HL := Lib.hid hlen
  clear X1 hlen
  go_enter Tryd.func24, Tryd.ntmps24
  go_wp2_with fail
  clear hd
  go_loopw [5] (fun x wr => ∃ (k n : Nat), x = .int .i64 k ∧ k ≤ l.length ∧ Hid (wr = w.drewN n) ∧ Hid (∀ j, j < k → ∀ (g1 : j < l.length) (g2 : j < m.length), l[j] = m[j])) (fun x _ => l.length - (intOf x).toNat)
  case atStart => exact ⟨0, 0, rfl, Nat.zero_le _, Lib.hid rfl, Lib.hid (fun j hj => absurd hj (by omega))⟩
  case round =>
    obtain ⟨k, n, rfl, hk, hw, A1⟩ := hrel
    by_cases hlt : k < l.length
    · have hlt2 : k < m.length := by have := HL.out; omega
      obtain ⟨b, off, rfl, -, a6⟩ := SeenI.at H1.out k hlt
      obtain ⟨b', off', rfl, -, b6⟩ := SeenI.at H2.out k hlt2
      have a6 := a6.drewN n
      have b6 := b6.drewN n
      rw [← hw.out] at a6 b6
      have N2 := Lib.hid (X2.out k hlt hlt2)
      have A2 : Hid (l[k] = m[k] → ∀ j, j < k + 1 → ∀ (g1 : j < l.length) (g2 : j < m.length), l[j] = m[j]) := Lib.hid (fun h j hj g1 g2 => by
        by_cases e : j = k
        · subst e; exact h
        · exact A1.out j (by omega) g1 g2)
      generalize l[k] = e at *
      generalize m[k] = f at *
      obtain ⟨op, a, b1, c, d, kk⟩ := e
      obtain ⟨op', a', b1', c', d', kk'⟩ := f
      obtain ⟨c0, c1, c2, c3, c4, c5⟩ := a6
      obtain ⟨d0, d1, d2, d3, d4, d5⟩ := b6
      simp only at c0 c1 c2 c3 c4 c5 d0 d1 d2 d3 d4 d5
      have hk0I : (0 : Int) ≤ (k : Int) := Int.natCast_nonneg _
      have hk1I : (k : Int) < (l.length : Int) := by omega
      have hk2I : (k : Int) < (m.length : Int) := by omega
      clear A1 X2 X3
      by_cases hef : (⟨op, a, b1, c, d, kk⟩ : Ins) = ⟨op', a', b1', c', d', kk'⟩
      · simp only [Ins.mk.injEq] at hef
        obtain ⟨rfl, rfl, rfl, rfl, rfl, rfl⟩ := hef
        have A3 := Lib.hid (A2.out (by simp))
        clear A2 N2
        go_wp2_with fail
        go_quiet (fail)
        go_wp2_with fail
        go_roundw
        case rel => exact ⟨k + 1, _, by go_num, hlt, Lib.hid (by rw [hw.out]; exact drewN_drewN _ _ _), A3⟩
        case measure => simp [intOf]; omega
      · have hq := fun W => ins_neq op a b1 c d op' a' b1' c' d' kk kk' hef W
        obtain rfl := N2.out hef
        clear A2 N2 hef
        go_wp2_with fail
        go_quiet (fail)
        go_wp2_with fail
        go_ret
        exact ⟨rfl, _, by rw [hw.out]; exact drewN_drewN _ _ _⟩
    · obtain rfl : k = l.length := by omega
      obtain rfl := X3.out HL.out (fun j g1 g2 => A1.out j g1 g1 g2)
      clear A1 X2 X3
      go_wp2_with fail
      go_ret
      exact ⟨rfl, n, hw.out⟩

set_option maxRecDepth 100000 in
set_option maxHeartbeats 4000000 in
theorem reqZ_any (ao bo : Option Addr) (cap cbp : Nat) (l m : List Int) (w : World) (h1 : SeenZ w ao cap l) (h2 : SeenZ w bo cbp m) :
    Calls Tryd.prog 25 #[.slice ao l.length cap, .slice bo m.length cbp] w fun r w' => r = .returned (.bool (eqB l m)) ∧ ∃ n, w' = w.drewN n := by
  have H1 := Lib.hid h1
  have H2 := Lib.hid h2
  have hmx := h1.mx
  have hmy := h2.mx
  unfold maxLen at hmx hmy
  have X1 := Lib.hid (fun (h : l.length ≠ m.length) => eqB_ne (a := l) (b := m) (fun e => h (by rw [e])))
  have X2 := Lib.hid (fun k h1 h2 h => eqB_ne (list_ne_at (l := l) (m := m) k h1 h2 h))
  have X3 := Lib.hid (fun hl h => eqB_of (list_eq_all (l := l) (m := m) hl h))
  generalize eqB l m = z at *
  clear h1 h2
  by_cases hlen : l.length = m.length
  case neg =>
    have hd : ((l.length : Int) != (m.length : Int)) = true := by rw [bne_iff_ne]; omega
    obtain rfl := X1.out hlen
    clear X1 X2 X3 hlen
    go_enter Tryd.func25, Tryd.ntmps25
    go_wp2
    go_ret
    exact ⟨rfl, 0, rfl⟩
  have hd : ((l.length : Int) != (m.length : Int)) = false := by rw [hlen]; simp
  have HL := Lib.hid hlen
  clear X1 hlen
  go_enter Tryd.func25, Tryd.ntmps25
  go_wp2_with fail
  clear hd
  go_loopw [5] (fun x wr => ∃ (k n : Nat), x = .int .i64 k ∧ k ≤ l.length ∧ Hid (wr = w.drewN n) ∧ Hid (∀ j, j < k → ∀ (g1 : j < l.length) (g2 : j < m.length), l[j] = m[j])) (fun x _ => l.length - (intOf x).toNat)
  case atStart => exact ⟨0, 0, rfl, Nat.zero_le _, Lib.hid rfl, Lib.hid (fun j hj => absurd hj (by omega))⟩
  case round =>
    obtain ⟨k, n, rfl, hk, hw, A1⟩ := hrel
    by_cases hlt : k < l.length
    · have hlt2 : k < m.length := by have := HL.out; omega
      obtain ⟨b, off, rfl, -, a6⟩ := seenZ_at H1.out k hlt
      obtain ⟨b', off', rfl, -, b6⟩ := seenZ_at H2.out k hlt2
      have a6 := (World.cell?_of_block (w := w) (w' := w.drewN n) (a := ⟨b, off + k, none⟩) rfl).trans a6
      have b6 := (World.cell?_of_block (w := w) (w' := w.drewN n) (a := ⟨b', off' + k, none⟩) rfl).trans b6
      rw [← hw.out] at a6 b6
      have N2 := Lib.hid (X2.out k hlt hlt2)
      have A2 : Hid (l[k] = m[k] → ∀ j, j < k + 1 → ∀ (g1 : j < l.length) (g2 : j < m.length), l[j] = m[j]) := Lib.hid (fun h j hj g1 g2 => by
        by_cases e : j = k
        · subst e; exact h
        · exact A1.out j (by omega) g1 g2)
      generalize l[k] = e at *
      generalize m[k] = f at *
      skip
      have hk0I : (0 : Int) ≤ (k : Int) := Int.natCast_nonneg _
      have hk1I : (k : Int) < (l.length : Int) := by omega
      have hk2I : (k : Int) < (m.length : Int) := by omega
      clear A1 X2 X3
      by_cases hef : e = f
      · subst hef
        have A3 := Lib.hid (A2.out (by simp))
        clear A2 N2
        go_wp2_with fail
        go_quiet (fail)
        go_wp2_with fail
        go_roundw
        case rel => exact ⟨k + 1, _, by go_num, hlt, Lib.hid (by rw [hw.out]; exact drewN_drewN _ _ _), A3⟩
        case measure => simp [intOf]; omega
      · have hq : (e != f) = true := by simpa using hef
        obtain rfl := N2.out hef
        clear A2 N2 hef
        go_wp2_with fail
        go_quiet (fail)
        go_wp2_with fail
        go_ret
        exact ⟨rfl, _, by rw [hw.out]; exact drewN_drewN _ _ _⟩
    · obtain rfl : k = l.length := by omega
      obtain rfl := X3.out HL.out (fun j g1 g2 => A1.out j g1 g1 g2)
      clear A1 X2 X3
      go_wp2_with fail
      go_ret
      exact ⟨rfl, n, hw.out⟩

end Go.Proofs.YtbhnehacgkhpbaaDoor
