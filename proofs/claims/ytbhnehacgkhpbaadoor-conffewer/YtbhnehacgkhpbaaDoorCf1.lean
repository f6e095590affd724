/-
  conf's checks of a number, of a mask, of a program, and the document's, over this seat's translation. Conditions: the table's cells (IsL), a program in a slice.
-/
import Derived.Test.YtbhnehacgkhpbaaDoorCfL
import Derived.Test.YtbhnehacgkhpbaaDoorIs2
import Derived.Test.YtbhnehacgkhpbaaDoorIsR3
namespace Go.Proofs.YtbhnehacgkhpbaaDoor
open Go.RowKit
set_option linter.unusedVariables false
set_option linter.unusedSimpArgs false

theorem range_any (n lo hi : Int) (w : World) :
    Calls Tryd.prog 36 #[.int .i64 n, .int .i64 lo, .int .i64 hi] w fun r w' => r = .returned (.int .i64 (rangeE n lo hi)) ∧ w = w' := by
  by_cases h1 : n < lo
  · rw [rangeE_lo h1]
    go_enter Tryd.func36, Tryd.ntmps36
    go_wp2
    go_ret
    exact ⟨rfl, rfl⟩
  · by_cases h2 : hi < n
    · rw [rangeE_hi h2]
      have hd : decide (n < lo) = false := by simp; omega
      clear h1
      go_enter Tryd.func36, Tryd.ntmps36
      go_wp2
      go_ret
      exact ⟨rfl, rfl⟩
    · rw [rangeE_ok (by omega) (by omega)]
      have hd : decide (n < lo) = false := by simp; omega
      have hd2 : decide (hi < n) = false := by simp; omega
      clear h1 h2
      go_enter Tryd.func36, Tryd.ntmps36
      go_wp2
      go_ret
      exact ⟨rfl, rfl⟩

def outB (n lo hi : Int) : Bool := decide (n < lo) || decide (hi < n)
theorem outB_is (n lo hi : Int) : (rangeE n lo hi ≠ 0 ↔ outB n lo hi = true) ∧ (rangeE n lo hi = 0 ↔ outB n lo hi = false) ∧ (rangeE n lo hi ≠ 0 → rangeE n lo hi = 5) := by
  unfold rangeE outB
  by_cases h1 : n < lo <;> by_cases h2 : hi < n <;> simp [h1, h2]
theorem out_any (n lo hi : Int) (w : World) :
    Calls Tryd.prog 17 #[.int .i64 n, .int .i64 lo, .int .i64 hi] w fun r w' => r = .returned (.bool (outB n lo hi)) ∧ w = w' := by
  unfold outB
  by_cases h1 : n < lo
  · have hd : decide (n < lo) = true := by simpa using h1
    go_enter Tryd.func17, Tryd.ntmps17
    go_wp2
    go_ret
    exact ⟨by simp [h1], rfl⟩
  · have hd : decide (n < lo) = false := by simpa using h1
    rw [hd]
    clear h1
    go_enter Tryd.func17, Tryd.ntmps17
    go_wp2
    go_ret
    exact ⟨by simp, rfl⟩

set_option maxRecDepth 100000 in
theorem fault_any (e p i a : Int) (w : World) :
    Calls Tryd.prog 16 #[.int .i64 e, .int .i64 p, .int .i64 i, .int .i64 a] w fun r w' => r = .returned (.agg #[.int .i64 e, .int .i64 p, .int .i64 i, .int .i64 a]) ∧ Below w.heap.size w w' := by
  obtain ⟨w1, e1⟩ : ∃ w1, w1 = w.alloc (.cells #[.int .i64 e, .int .i64 p, .int .i64 i, .int .i64 a] 33) := ⟨_, rfl⟩
  obtain ⟨-, n1, b1⟩ := new_size e1
  have c0 : w1.cell? ⟨w.heap.size, 0, none⟩ = some (.int .i64 e) := by simp [World.cell?, n1]
  have c1 : w1.cell? ⟨w.heap.size, 1, none⟩ = some (.int .i64 p) := by simp [World.cell?, n1]
  have c2 : w1.cell? ⟨w.heap.size, 2, none⟩ = some (.int .i64 i) := by simp [World.cell?, n1]
  have c3 : w1.cell? ⟨w.heap.size, 3, none⟩ = some (.int .i64 a) := by simp [World.cell?, n1]
  have B1 := Lib.hid b1
  clear n1 b1
  go_enter Tryd.func16, Tryd.ntmps16
  go_wp2_with fail
  rw [← e1]
  refine bodyPost_ret (v := .agg #[.int .i64 e, .int .i64 p, .int .i64 i, .int .i64 a]) (by rw [results_cell1 rfl]; go_simp) rfl ⟨rfl, B1.out⟩

theorem mask_any (m n : Nat) (hn : n ≤ 31) (w : World) :
    Calls Tryd.prog 38 #[.int .u32 (m : Int), .int .i64 (n : Int)] w fun r w' => r = .returned (.int .i64 (maskE m n)) ∧ w = w' := by
  have h0 : (0 : Int) ≤ (n : Int) := Int.natCast_nonneg _
  have e : ((m : Int) / 2 ^ n) = ((m / 2 ^ n : Nat) : Int) := by rw [Int.natCast_ediv]; simp
  unfold maskE
  by_cases h : m / 2 ^ n = 0
  · rw [if_pos h]
    have hd : (((m : Int) / 2 ^ n) != 0) = false := by rw [e, h]; rfl
    clear e h
    go_enter Tryd.func38, Tryd.ntmps38
    go_wp2
    go_ret
    exact ⟨rfl, rfl⟩
  · rw [if_neg h]
    have hd : (((m : Int) / 2 ^ n) != 0) = true := by rw [e, bne_iff_ne]; omega
    clear e h
    go_enter Tryd.func38, Tryd.ntmps38
    go_wp2
    go_ret
    exact ⟨rfl, rfl⟩

set_option maxRecDepth 100000 in
set_option maxHeartbeats 2000000 in
theorem ccode_walk (ao : Option Addr) (cap : Nat) (l : List Ins) (first : Int) (isr : Bool) (X Y : Int) (w : World) (hl : SeenI w ao cap l) (hL : IsL w) (hf0 : 0 ≤ first) (hf1 : first ≤ 1000)
    (HK : Hid (∀ e ∈ l, e.k < 4294967296)) (HX1 : Hid (256 < l.length → X = 4 ∧ Y = first)) (HX2 : Hid (l.length ≤ 256 → (∀ x ∈ l, checkI x l.length isr = 0) → X = 0 ∧ Y = 0))
    (HX3 : Hid (l.length ≤ 256 → ∀ k (hk : k < l.length), (∀ j (hj : j < k), checkI (l[j]'(by omega)) l.length isr = 0) → checkI l[k] l.length isr ≠ 0 → X = checkI l[k] l.length isr ∧ Y = first + 1 + (k : Int))) :
    Calls Tryd.prog 41 #[.slice ao l.length cap, .int .i64 first, .bool isr] w fun r w' => r = .returned (.tuple #[.int .i64 X, .int .i64 Y]) ∧ Below w.heap.size w w' := by
  have HL := Lib.hid hL
  have H := Lib.hid hl
  have hmx := hl.mx
  unfold maxLen at hmx
  clear hl hL
  by_cases h6 : 256 < l.length
  · have d : decide ((256 : Int) < (l.length : Int)) = true := by simp; omega
    obtain ⟨rfl, rfl⟩ := HX1.out h6
    clear HX2 HX3 HX1 h6
    go_enter Tryd.func41, Tryd.ntmps41
    go_wp2
    go_ret2
    exact ⟨rfl, Below.refl _ _⟩
  · have d : decide ((256 : Int) < (l.length : Int)) = false := by simp; omega
    have h7 : l.length ≤ 256 := by omega
    go_enter Tryd.func41, Tryd.ntmps41
    go_wp2_with fail
    go_loopw [17] (fun x wr => ∃ k : Nat, x = .int .i64 k ∧ k ≤ l.length ∧ Hid (Below w.heap.size w wr) ∧ Hid (∀ j (hj : j < k) (hj' : j < l.length), checkI l[j] l.length isr = 0)) (fun x _ => l.length - (intOf x).toNat)
    case atStart => exact ⟨0, rfl, Nat.zero_le _, Lib.hid (Below.refl _ _), Lib.hid (fun j hj => absurd hj (by omega))⟩
    case round =>
      obtain ⟨k, rfl, hk, B1, A1⟩ := hrel
      by_cases hlt : k < l.length
      · obtain ⟨b, off, rfl, -, a6⟩ := (H.out.below B1.out).at k hlt
        have hkk := HK.out l[k] (List.getElem_mem hlt)
        have H3 := Lib.hid (fun hn => HX3.out h7 k hlt (fun j hj => A1.out j hj (by omega)) hn)
        have A2 : Hid (checkI l[k] l.length isr = 0 → ∀ j (hj : j < k + 1) (hj' : j < l.length), checkI l[j] l.length isr = 0) := Lib.hid (fun h j hj hj' => by
          by_cases e : j = k
          · subst e; exact h
          · exact A1.out j (by omega) hj')
        obtain ⟨w2, e2⟩ : ∃ w2, w2 = wr.alloc (insO l[k]) := ⟨_, rfl⟩
        obtain ⟨s2, n2, b2⟩ := new_size e2
        have HC := Lib.hid (fun w' h' => icheck_any l[k] hkk l.length isr w' h')
        generalize checkI l[k] l.length isr = E at *
        generalize l[k] = e at *
        obtain ⟨op, a, b', c, d', kk⟩ := e
        obtain ⟨c0, c1, c2, c3, c4, c5⟩ := a6
        obtain ⟨d0, d1, d2, d3, d4, d5⟩ := inscells n2
        unfold insO at e2
        unfold insV at HC
        simp only at *
        obtain ⟨D, hD⟩ : ∃ D, wr.heap.size = D := ⟨_, rfl⟩
        rw [hD] at d0 d1 d2 d3 d4 d5
        have HD := Lib.hid hD
        have B2 := Lib.hid (below_on B1.out b2)
        have hkI : (k : Int) < (l.length : Int) := by omega
        have hkO : (0 : Int) ≤ (k : Int) := by omega
        clear s2 n2 b2 hD hkk A1 B1
        go_upto_region 6 with fail
        rw [← e2, HD.out]
        clear e2
        go_wp2_with fail
        refine (HC.out w2 (HL.out.below B2.out)).mono ?_
        rintro r w3 ⟨rfl, h3⟩
        have B3 := Lib.hid (below_on B2.out h3)
        clear h3 HC d0 d1 d2 d3 d4 d5 c0 c1 c2 c3 c4 c5
        by_cases hE : E = 0
        · subst hE
          have A3 := Lib.hid (A2.out rfl)
          clear A2 H3
          go_wp2_with fail
          go_roundw
          case rel => exact ⟨k + 1, by go_num, hlt, B3, A3⟩
          case measure => simp [intOf]; omega
        · have hE' : (E != 0) = true := by simp [hE]
          obtain ⟨rfl, rfl⟩ := H3.out hE
          clear A2 H3 hE
          go_wp2
          go_ret2
          exact ⟨rfl, B3.out⟩
      · obtain rfl : k = l.length := by omega
        obtain ⟨rfl, rfl⟩ := HX2.out h7 (fun x hx => by
          obtain ⟨j, hj, rfl⟩ := List.getElem_of_mem hx
          exact A1.out j hj hj)
        clear HX1 HX2 HX3 A1
        go_wp2
        go_ret2
        exact ⟨rfl, B1.out⟩
theorem ccode_any (ao : Option Addr) (cap : Nat) (l : List Ins) (first : Int) (isr : Bool) (w : World) (hl : SeenI w ao cap l) (hL : IsL w) (hf0 : 0 ≤ first) (hf1 : first ≤ 1000) (hk : ∀ e ∈ l, e.k < 4294967296) :
    Calls Tryd.prog 41 #[.slice ao l.length cap, .int .i64 first, .bool isr] w fun r w' => r = .returned (.tuple #[.int .i64 (codeE first isr l).1, .int .i64 (codeE first isr l).2]) ∧ Below w.heap.size w w' :=
  ccode_walk ao cap l first isr _ _ w hl hL hf0 hf1 (Lib.hid hk) (Lib.hid fun h => by rw [codeE_long h]; exact ⟨rfl, rfl⟩) (Lib.hid fun h h2 => by rw [codeE_ok h h2]; exact ⟨rfl, rfl⟩)
    (Lib.hid fun h k hk h1 h2 => by rw [codeE_hit h k hk h1 h2]; exact ⟨rfl, by rw [← Int.add_assoc]⟩)

/-! ### The document's -/

set_option maxRecDepth 100000 in
set_option maxHeartbeats 2000000 in
theorem rcode_walk (ao : Option Addr) (cap : Nat) (l : List Ins) (isr : Bool) (X Y : Int) (w : World) (hl : SeenI w ao cap l)
    (HK : Hid (∀ e ∈ l, e.k < 4294967296)) (HX1 : Hid (256 < l.length → X = 4 ∧ Y = 0)) (HX2 : Hid (l.length ≤ 256 → (∀ x ∈ l, checkI x l.length isr = 0) → X = 0 ∧ Y = 0))
    (HX3 : Hid (l.length ≤ 256 → ∀ k (hk : k < l.length), (∀ j (hj : j < k), checkI (l[j]'(by omega)) l.length isr = 0) → checkI l[k] l.length isr ≠ 0 → X = checkI l[k] l.length isr ∧ Y = 1 + (k : Int))) :
    Calls Tryd.prog 18 #[.slice ao l.length cap, .bool isr] w fun r w' => r = .returned (.tuple #[.int .i64 X, .int .i64 Y]) ∧ Below w.heap.size w w' := by
  have H := Lib.hid hl
  have hmx := hl.mx
  unfold maxLen at hmx
  clear hl
  by_cases h6 : 256 < l.length
  · have d : decide ((256 : Int) < (l.length : Int)) = true := by simp; omega
    obtain ⟨rfl, rfl⟩ := HX1.out h6
    clear HX2 HX3 HX1 h6
    go_enter Tryd.func18, Tryd.ntmps18
    go_wp2
    go_ret2
    exact ⟨rfl, Below.refl _ _⟩
  · have d : decide ((256 : Int) < (l.length : Int)) = false := by simp; omega
    have h7 : l.length ≤ 256 := by omega
    go_enter Tryd.func18, Tryd.ntmps18
    go_wp2_with fail
    go_loopw [6] (fun x wr => ∃ k : Nat, x = .int .i64 k ∧ k ≤ l.length ∧ Hid (Below w.heap.size w wr) ∧ Hid (∀ j (hj : j < k) (hj' : j < l.length), checkI l[j] l.length isr = 0)) (fun x _ => l.length - (intOf x).toNat)
    case atStart => exact ⟨0, rfl, Nat.zero_le _, Lib.hid (Below.refl _ _), Lib.hid (fun j hj => absurd hj (by omega))⟩
    case round =>
      obtain ⟨k, rfl, hk, B1, A1⟩ := hrel
      by_cases hlt : k < l.length
      · obtain ⟨b, off, rfl, -, a6⟩ := (H.out.below B1.out).at k hlt
        have hkk := HK.out l[k] (List.getElem_mem hlt)
        have H3 := Lib.hid (fun hn => HX3.out h7 k hlt (fun j hj => A1.out j hj (by omega)) hn)
        have A2 : Hid (checkI l[k] l.length isr = 0 → ∀ j (hj : j < k + 1) (hj' : j < l.length), checkI l[j] l.length isr = 0) := Lib.hid (fun h j hj hj' => by
          by_cases e : j = k
          · subst e; exact h
          · exact A1.out j (by omega) hj')
        have HC := Lib.hid (fun w' => richeck_any l[k] hkk l.length (by omega) (by omega) isr w')
        generalize checkI l[k] l.length isr = E at *
        generalize l[k] = e at *
        obtain ⟨op, a, b', c, d', kk⟩ := e
        obtain ⟨c0, c1, c2, c3, c4, c5⟩ := a6
        unfold insV at HC
        simp only at *
        have hkI : (k : Int) < (l.length : Int) := by omega
        have hkO : (0 : Int) ≤ (k : Int) := by omega
        clear hkk A1
        go_wp2_with fail
        refine (HC.out wr).mono ?_
        rintro r w3 ⟨rfl, h3⟩
        have B3 := Lib.hid (below_on B1.out h3)
        clear h3 HC c0 c1 c2 c3 c4 c5
        by_cases hE : E = 0
        · subst hE
          have A3 := Lib.hid (A2.out rfl)
          clear A2 H3
          go_wp2_with fail
          go_roundw
          case rel => exact ⟨k + 1, by go_num, hlt, B3, A3⟩
          case measure => simp [intOf]; omega
        · have hE' : (E != 0) = true := by simp [hE]
          obtain ⟨rfl, rfl⟩ := H3.out hE
          clear A2 H3 hE
          go_wp2
          go_ret2
          exact ⟨rfl, B3.out⟩
      · obtain rfl : k = l.length := by omega
        obtain ⟨rfl, rfl⟩ := HX2.out h7 (fun x hx => by
          obtain ⟨j, hj, rfl⟩ := List.getElem_of_mem hx
          exact A1.out j hj hj)
        clear HX1 HX2 HX3 A1
        go_wp2
        go_ret2
        exact ⟨rfl, B1.out⟩
theorem rcode_any (ao : Option Addr) (cap : Nat) (l : List Ins) (isr : Bool) (w : World) (hl : SeenI w ao cap l) (hk : ∀ e ∈ l, e.k < 4294967296) :
    Calls Tryd.prog 18 #[.slice ao l.length cap, .bool isr] w fun r w' => r = .returned (.tuple #[.int .i64 (codeP isr l).1, .int .i64 (codeP isr l).2]) ∧ Below w.heap.size w w' :=
  rcode_walk ao cap l isr _ _ w hl (Lib.hid hk) (Lib.hid fun h => by rw [codeP_long h]; exact ⟨rfl, rfl⟩) (Lib.hid fun h h2 => by rw [codeP_ok h h2]; exact ⟨rfl, rfl⟩)
    (Lib.hid fun h k hk h1 h2 => by rw [codeP_hit h k hk h1 h2]; exact ⟨rfl, rfl⟩)

/-- A fault's numbers. -/
def fltE (p : Int) (e : Int × Int × Int) : Int × Int × Int × Int := if e.1 = 0 then (0, 0, 0, 0) else (e.1, p, e.2.1, e.2.2)
def fltV (e : Int × Int × Int × Int) : Value := .agg #[.int .i64 e.1, .int .i64 e.2.1, .int .i64 e.2.2.1, .int .i64 e.2.2.2]
def fltO (e : Int × Int × Int × Int) : Obj := .cells #[.int .i64 e.1, .int .i64 e.2.1, .int .i64 e.2.2.1, .int .i64 e.2.2.2] 33
theorem fltcells {w : World} {E : Nat} {a b c d : Int} (h : w.heap[E]? = some (.cells #[.int .i64 a, .int .i64 b, .int .i64 c, .int .i64 d] 33)) : w.cell? ⟨E, 0, none⟩ = some (.int .i64 a) ∧ w.cell? ⟨E, 1, none⟩ = some (.int .i64 b) ∧ w.cell? ⟨E, 2, none⟩ = some (.int .i64 c) ∧ w.cell? ⟨E, 3, none⟩ = some (.int .i64 d) ∧
    w.frozen? ⟨E, 0, none⟩ = false ∧ w.frozen? ⟨E, 1, none⟩ = false ∧ w.frozen? ⟨E, 2, none⟩ = false ∧ w.frozen? ⟨E, 3, none⟩ = false := by
  refine ⟨?_, ?_, ?_, ?_, ?_, ?_, ?_, ?_⟩ <;> simp [World.cell?, World.frozen?, h]
/-- A fault stored in its block. -/
theorem flt_stored {w : World} {D : Nat} {a b c d a' b' c' d' : Int} (h : w.heap[D]? = some (.cells #[.int .i64 a', .int .i64 b', .int .i64 c', .int .i64 d'] 33)) :
    (((((w.setCell ⟨D, 0, none⟩ (.int .i64 a)).setCell ⟨D, 1, none⟩ (.int .i64 b)).setCell ⟨D, 2, none⟩ (.int .i64 c)).setCell ⟨D, 3, none⟩ (.int .i64 d))).heap[D]? = some (.cells #[.int .i64 a, .int .i64 b, .int .i64 c, .int .i64 d] 33) :=
  stN_block [.int .i64 a, .int .i64 b, .int .i64 c, .int .i64 d] w 0 _ h

theorem flt_below {w0 w : World} {D : Nat} {a b c d : Int} (h : Below w0.heap.size w0 w) (hD : w0.heap.size ≤ D) :
    Below w0.heap.size w0 ((((w.setCell ⟨D, 0, none⟩ (.int .i64 a)).setCell ⟨D, 1, none⟩ (.int .i64 b)).setCell ⟨D, 2, none⟩ (.int .i64 c)).setCell ⟨D, 3, none⟩ (.int .i64 d)) :=
  stN_below h hD [.int .i64 a, .int .i64 b, .int .i64 c, .int .i64 d] 0 h.size
/-- What a function returns whose result is a fault in a block. -/
theorem ret_flt {fn : Func} {p : Tmp} (hr : fn.results = #[.cell p 33]) {tmps : Array Value} {D : Nat} {a b c d : Int} {w : World} (ht : tmps.getD p undef = .pointer (some ⟨D, 0, none⟩)) (hh : w.heap[D]? = some (.cells #[.int .i64 a, .int .i64 b, .int .i64 c, .int .i64 d] 33)) :
    (results fn tmps).run Tryd.prog w = .ok (.agg #[.int .i64 a, .int .i64 b, .int .i64 c, .int .i64 d]) w := by
  obtain ⟨c0, c1, c2, c3, -⟩ := fltcells hh
  rw [results_cell1 hr, ht]
  go_simp

set_option maxRecDepth 100000 in
set_option maxHeartbeats 2000000 in
theorem rrow_walk (ao : Option Addr) (cap : Nat) (l : List Int) (p lo hi : Int) (X Y Z U : Int) (w : World) (hl : SeenZ w ao cap l)
    (HX1 : Hid (32 < l.length → X = 4 ∧ Y = p ∧ Z = 0 ∧ U = 0)) (HX2 : Hid (l.length ≤ 32 → (∀ x ∈ l, rangeE x lo hi = 0) → X = 0 ∧ Y = 0 ∧ Z = 0 ∧ U = 0))
    (HX3 : Hid (l.length ≤ 32 → ∀ k (hk : k < l.length), (∀ j (hj : j < k), rangeE (l[j]'(by omega)) lo hi = 0) → rangeE l[k] lo hi ≠ 0 → X = 5 ∧ Y = p ∧ Z = (k : Int) ∧ U = 1)) :
    Calls Tryd.prog 19 #[.slice ao l.length cap, .int .i64 p, .int .i64 lo, .int .i64 hi] w fun r w' => r = .returned (.agg #[.int .i64 X, .int .i64 Y, .int .i64 Z, .int .i64 U]) ∧ Below w.heap.size w w' := by
  have hmx := hl.mx
  unfold maxLen at hmx
  obtain ⟨w1, e1⟩ : ∃ w1, w1 = w.alloc (.cells #[.int .i64 0, .int .i64 0, .int .i64 0, .int .i64 0] 33) := ⟨_, rfl⟩
  obtain ⟨s1, n1, b1⟩ := new_size e1
  have H := Lib.hid (hl.below b1)
  have B1 := Lib.hid b1
  obtain ⟨D, hD⟩ : ∃ D, w.heap.size = D := ⟨_, rfl⟩
  rw [hD] at n1
  have N1 := Lib.hid n1
  have HD := Lib.hid hD
  clear hl b1 n1 s1 hD
  go_enter Tryd.func19, Tryd.ntmps19
  go_upto_region 1 with fail
  rw [← e1, HD.out]
  clear e1
  by_cases h6 : 32 < l.length
  · have d : decide ((32 : Int) < (l.length : Int)) = true := by simp; omega
    obtain ⟨rfl, rfl, rfl, rfl⟩ := HX1.out h6
    clear HX2 HX3 HX1 h6
    go_wp2_with fail
    refine (fault_any 4 _ 0 0 w1).mono ?_
    rintro r w2 ⟨rfl, h2⟩
    have n2 := blk_on h2 N1.out
    obtain ⟨c0, c1, c2, c3, f0, f1, f2, f3⟩ := fltcells n2
    have N2 := Lib.hid n2
    have B2 := Lib.hid (below_on B1.out h2)
    clear h2 n2
    go_wp2_with fail
    exact bodyPost_ret (ret_flt rfl rfl (flt_stored N2.out)) rfl ⟨rfl, flt_below B2.out (Nat.le_of_eq HD.out)⟩
  · have d : decide ((32 : Int) < (l.length : Int)) = false := by simp; omega
    have h7 : l.length ≤ 32 := by omega
    go_wp2_with fail
    go_loopw [9] (fun x wr => ∃ k : Nat, x = .int .i64 k ∧ k ≤ l.length ∧ Hid (Below w1.heap.size w1 wr) ∧ Hid (∀ j (hj : j < k) (hj' : j < l.length), rangeE l[j] lo hi = 0)) (fun x _ => l.length - (intOf x).toNat)
    case atStart => exact ⟨0, rfl, Nat.zero_le _, Lib.hid (Below.refl _ _), Lib.hid (fun j hj => absurd hj (by omega))⟩
    case round =>
      obtain ⟨k, rfl, hk, B2, A1⟩ := hrel
      by_cases hlt : k < l.length
      · obtain ⟨b, off, rfl, -, a6⟩ := seenZ_at (H.out.below B2.out) k hlt
        have H3 := Lib.hid (fun hn => HX3.out h7 k hlt (fun j hj => A1.out j hj (by omega)) hn)
        have A2 : Hid (rangeE l[k] lo hi = 0 → ∀ j (hj : j < k + 1) (hj' : j < l.length), rangeE l[j] lo hi = 0) := Lib.hid (fun h j hj hj' => by
          by_cases e : j = k
          · subst e; exact h
          · exact A1.out j (by omega) hj')
        generalize l[k] = e at *
        have hkI : (k : Int) < (l.length : Int) := by omega
        have hkO : (0 : Int) ≤ (k : Int) := by omega
        have hout := outB_is e lo hi
        have HO := Lib.hid (fun w' => out_any e lo hi w')
        have HB := Lib.hid hout
        generalize outB e lo hi = ob at *
        clear A1 hout
        go_wp2_with fail
        refine (HO.out wr).mono ?_
        rintro r w3 ⟨rfl, rfl⟩
        clear HO a6
        cases ob
        · have A3 := Lib.hid (A2.out (HB.out.2.1.2 rfl))
          clear A2 H3 HB
          go_wp2_with fail
          go_roundw
          case rel => exact ⟨k + 1, by go_num, hlt, B2, A3⟩
          case measure => simp [intOf]; omega
        · obtain ⟨rfl, rfl, rfl, rfl⟩ := H3.out (HB.out.1.2 rfl)
          clear A2 H3 HB
          go_wp2_with fail
          refine (fault_any 5 _ _ 1 wr).mono ?_
          rintro r w4 ⟨rfl, h4⟩
          have n4 := blk_on h4 (blk_on B2.out N1.out)
          obtain ⟨c0, c1, c2, c3, f0, f1, f2, f3⟩ := fltcells n4
          have N4 := Lib.hid n4
          have B4 := Lib.hid (below_on (below_on B1.out B2.out) h4)
          clear h4 n4
          go_wp2_with fail
          exact bodyPost_ret (ret_flt rfl rfl (flt_stored N4.out)) rfl ⟨rfl, flt_below B4.out (Nat.le_of_eq HD.out)⟩
      · obtain rfl : k = l.length := by omega
        obtain ⟨rfl, rfl, rfl, rfl⟩ := HX2.out h7 (fun x hx => by
          obtain ⟨j, hj, rfl⟩ := List.getElem_of_mem hx
          exact A1.out j hj hj)
        clear HX1 HX2 HX3 A1
        have n4 := blk_on B2.out N1.out
        obtain ⟨c0, c1, c2, c3, f0, f1, f2, f3⟩ := fltcells n4
        have N4 := Lib.hid n4
        have B4 := Lib.hid (below_on B1.out B2.out)
        clear n4
        go_wp2_with fail
        exact bodyPost_ret (ret_flt rfl rfl (flt_stored N4.out)) rfl ⟨rfl, flt_below B4.out (Nat.le_of_eq HD.out)⟩

theorem rrow_any (ao : Option Addr) (cap : Nat) (l : List Int) (p lo hi : Int) (w : World) (hl : SeenZ w ao cap l) :
    Calls Tryd.prog 19 #[.slice ao l.length cap, .int .i64 p, .int .i64 lo, .int .i64 hi] w fun r w' => r = .returned (fltV (fltE p (eachE 32 (numE lo hi) l))) ∧ Below w.heap.size w w' := by
  refine rrow_walk ao cap l p lo hi _ _ _ _ w hl (Lib.hid fun h => ?_) (Lib.hid fun h h2 => ?_) (Lib.hid fun h k hk h1 h2 => ?_)
  · unfold fltE eachE
    rw [if_pos h]
    exact ⟨rfl, rfl, rfl, rfl⟩
  · unfold fltE
    rw [eachE_of h (by simpa [numE] using h2)]
    exact ⟨rfl, rfl, rfl, rfl⟩
  · have h5 := (outB_is l[k] lo hi).2.2 h2
    have e : eachE 32 (numE lo hi) l = (5, (k : Int), 1) := by
      unfold eachE
      rw [if_neg (show ¬ 32 < l.length by omega), firstE_hit l 0 k hk (by simpa [numE] using h1) (by simpa [numE] using h2)]
      simp only [numE, h5, Nat.zero_add]
    unfold fltE
    rw [e]
    exact ⟨rfl, rfl, rfl, rfl⟩

end Go.Proofs.YtbhnehacgkhpbaaDoor
