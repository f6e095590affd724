/-
  The document's own answers of layer 5 (taffrailref05), Text, over this seat's translation. No condition.
-/
import Derived.Test.YtonmkmbllaahgaaDoorEvRef4
namespace Go.Proofs.YtonmkmbllaahgaaDoor
open Go.RowKit
set_option linter.unusedVariables false
set_option linter.unusedSimpArgs false

/-- A number more at a line's end, if the kind has it. -/
def appB (T : ByteArray) (h : Bool) (S : ByteArray) : ByteArray := if h = true then T ++ (⟨#[32]⟩ ++ S) else T

set_option maxRecDepth 100000 in
set_option maxHeartbeats 8000000 in
theorem rtext_walk (n cyc cnt a b v : Nat) (hA hB hV : Bool) (S1 S2 S3 SA SB SV T1 T2 T3 T4 res : ByteArray) (w : World) (n24 : n ≤ 24) (fa : a < 4294967296) (fb : b < 4294967296) (fv : v < 4294967296)
    (hT4 : T4.size ≤ 60) (hSA : SA.size ≤ 20) (hSB : SB.size ≤ 20) (hSV : SV.size ≤ 20)
    (H1 : Hid (∀ w', Calls Tryd.prog 29 #[.int .u64 cnt] w' fun r w'' => r = .returned (.string S1) ∧ Below w'.heap.size w' w''))
    (H2 : Hid (∀ w', Calls Tryd.prog 29 #[.int .u64 cyc] w' fun r w'' => r = .returned (.string S2) ∧ Below w'.heap.size w' w''))
    (HS3 : Hid (nameB n = S3))
    (HH : Hid (∀ w', Calls Tryd.prog 13 #[.int .i64 n] w' fun r w'' => r = .returned (.agg #[.bool hA, .bool hB, .bool hV]) ∧ Below w'.heap.size w' w''))
    (G1 : Hid (∀ w', Calls Tryd.prog 29 #[.int .u64 a] w' fun r w'' => r = .returned (.string SA) ∧ Below w'.heap.size w' w''))
    (G2 : Hid (∀ w', Calls Tryd.prog 29 #[.int .u64 b] w' fun r w'' => r = .returned (.string SB) ∧ Below w'.heap.size w' w''))
    (G3 : Hid (∀ w', Calls Tryd.prog 29 #[.int .u64 v] w' fun r w'' => r = .returned (.string SV) ∧ Below w'.heap.size w' w''))
    (E1 : Hid (S1 ++ ⟨#[32]⟩ = T1)) (E2 : Hid (T1 ++ S2 = T2)) (E3 : Hid (T2 ++ ⟨#[32]⟩ = T3)) (E4 : Hid (T3 ++ S3 = T4))
    (Z1 : Hid (¬ 9223372036854775807 < S1.size + 1)) (Z2 : Hid (¬ 9223372036854775807 < T1.size + S2.size)) (Z3 : Hid (¬ 9223372036854775807 < T2.size + 1)) (Z4 : Hid (¬ 9223372036854775807 < T3.size + S3.size))
    (HRES : Hid (res = appB (appB (appB T4 hA SA) hB SB) hV SV)) :
    Calls Tryd.prog 19 #[evV ⟨n, cyc, cnt, a, b, v⟩] w fun r w' => r = .returned (.string res) ∧ Below w.heap.size w w' := by
  obtain ⟨w1, e1⟩ : ∃ w1, w1 = w.alloc (evO ⟨n, cyc, cnt, a, b, v⟩) := ⟨_, rfl⟩
  obtain ⟨-, n1, b1⟩ := new_size e1
  have B1 := Lib.hid b1
  have N1 := Lib.hid n1
  obtain ⟨D, hD⟩ : ∃ D, w.heap.size = D := ⟨_, rfl⟩
  rw [hD] at N1
  have HD := Lib.hid hD
  have hn0 : (0 : Int) ≤ (n : Int) := Int.natCast_nonneg _
  have hn25 : (n : Int) < 25 := by omega
  clear n1 b1 hD
  unfold evO at e1
  unfold evV
  simp only at *
  go_enter Tryd.func19, Tryd.ntmps19
  go_wp2_with fail
  rw [← e1, HD.out]
  clear e1
  refine wp_region_rel [.is (.pointer (some ⟨D, 2, none⟩)), .is (.int .u64 (cnt : Nat)), .is (.string S1), .is (.string T1), .is (.pointer (some ⟨D, 1, none⟩)), .is (.int .u64 (cyc : Nat)), .is (.string S2), .is (.string T2), .is (.string T3), .has (fun v u => ∃ g, v = .slice (some ⟨g, 0, none⟩) 25 25 ∧ u.cell? ⟨g, n, none⟩ = some (.string S3)) (fun v u u' hb h => by obtain ⟨g, h1, h2⟩ := h; exact ⟨g, h1, cell_kept hb h2⟩), .is (.pointer (some ⟨D, 0, none⟩)), .is (.int .i64 (n : Int)), .has (fun v u => ∃ g, v = .pointer (some ⟨g, n, none⟩) ∧ u.cell? ⟨g, n, none⟩ = some (.string S3)) (fun v u u' hb h => by obtain ⟨g, h1, h2⟩ := h; exact ⟨g, h1, cell_kept hb h2⟩), .is (.string S3), .is (.string T4), .is (.string T4)]
    (fun w' => Below w1.heap.size w1 w') [(0, 5), (1, 6), (2, 7), (3, 8), (4, 9), (5, 10), (6, 11), (7, 12), (8, 13), (9, 14), (10, 15), (11, 16), (12, 17), (13, 18), (14, 19), (15, 3)] 16 (by kernel_rfl) (by kernel_rfl) (by kernel_rfl) (by kernel_rfl) ?hC ?hs ?hf
  case hC => exact below_drew (Below.refl _ _)
  case hs =>
    refine stepsOk_succ ?s15 (stepsOk_succ ?s14 (stepsOk_succ ?s13 (stepsOk_succ ?s12 (stepsOk_succ ?s11 (stepsOk_succ ?s10 (stepsOk_succ ?s9 (stepsOk_succ ?s8 (stepsOk_succ ?s7 (stepsOk_succ ?s6 (stepsOk_succ ?s5 (stepsOk_succ ?s4 (stepsOk_succ ?s3 (stepsOk_succ ?s2 (stepsOk_succ ?s1 (stepsOk_succ ?s0 (stepsOk_zero))))))))))))))))
    case s0 =>
      refine stepOk0 rfl (by kernel_rfl) ?_
      rintro w' hC
      intro K hK
      go_simp
      exact hK _ _ rfl ⟨rfl, hC, Below.refl _ _⟩
    case s1 =>
      refine stepOk1 0 5 rfl (by kernel_rfl) ?_
      rintro w' hC v1 rfl
      intro K hK
      obtain ⟨c0, c1, c2, c3, c4, c5⟩ := evcells ((hC.block _ (blk_lt N1.out)).trans N1.out)
      simp only at c0 c1 c2 c3 c4 c5
      go_simp
      exact hK _ _ rfl ⟨rfl, hC, Below.refl _ _⟩
    case s2 =>
      refine stepOk1 1 6 rfl (by kernel_rfl) ?_
      rintro w' hC v1 rfl
      intro K hK
      go_simp
      refine (H1.out w').mono ?_
      rintro e w2 ⟨rfl, h1⟩
      exact hK _ _ rfl ⟨rfl, hC.trans (h1.mono hC.size), h1⟩
    case s3 =>
      refine stepOk1 2 7 rfl (by kernel_rfl) ?_
      rintro w' hC v1 rfl
      intro K hK
      have z := Z1.out
      go_simp
      exact hK _ _ rfl ⟨congrArg Value.string E1.out, hC, Below.refl _ _⟩
    case s4 =>
      refine stepOk0 rfl (by kernel_rfl) ?_
      rintro w' hC
      intro K hK
      go_simp
      exact hK _ _ rfl ⟨rfl, hC, Below.refl _ _⟩
    case s5 =>
      refine stepOk1 4 9 rfl (by kernel_rfl) ?_
      rintro w' hC v1 rfl
      intro K hK
      obtain ⟨c0, c1, c2, c3, c4, c5⟩ := evcells ((hC.block _ (blk_lt N1.out)).trans N1.out)
      simp only at c0 c1 c2 c3 c4 c5
      go_simp
      exact hK _ _ rfl ⟨rfl, hC, Below.refl _ _⟩
    case s6 =>
      refine stepOk1 5 10 rfl (by kernel_rfl) ?_
      rintro w' hC v1 rfl
      intro K hK
      go_simp
      refine (H2.out w').mono ?_
      rintro e w2 ⟨rfl, h1⟩
      exact hK _ _ rfl ⟨rfl, hC.trans (h1.mono hC.size), h1⟩
    case s7 =>
      refine stepOk2 3 8 6 11 rfl (by kernel_rfl) ?_
      rintro w' hC v1 v2 rfl rfl
      intro K hK
      have z := Z2.out
      go_simp
      exact hK _ _ rfl ⟨congrArg Value.string E2.out, hC, Below.refl _ _⟩
    case s8 =>
      refine stepOk1 7 12 rfl (by kernel_rfl) ?_
      rintro w' hC v1 rfl
      intro K hK
      have z := Z3.out
      go_simp
      exact hK _ _ rfl ⟨congrArg Value.string E3.out, hC, Below.refl _ _⟩
    case s9 =>
      refine stepOk0 rfl (by kernel_rfl) ?_
      rintro w' hC
      intro K hK
      go_simp
      refine (rnames_any w').mono ?_
      rintro e w2 ⟨rfl, h1, hc⟩
      exact hK _ _ rfl ⟨⟨w'.heap.size, rfl, by rw [← HS3.out]; exact hc n (by omega)⟩, hC.trans (h1.mono hC.size), h1⟩
    case s10 =>
      refine stepOk0 rfl (by kernel_rfl) ?_
      rintro w' hC
      intro K hK
      go_simp
      exact hK _ _ rfl ⟨rfl, hC, Below.refl _ _⟩
    case s11 =>
      refine stepOk1 10 15 rfl (by kernel_rfl) ?_
      rintro w' hC v1 rfl
      intro K hK
      obtain ⟨c0, c1, c2, c3, c4, c5⟩ := evcells ((hC.block _ (blk_lt N1.out)).trans N1.out)
      simp only at c0 c1 c2 c3 c4 c5
      go_simp
      exact hK _ _ rfl ⟨rfl, hC, Below.refl _ _⟩
    case s12 =>
      refine stepOk2 9 14 11 16 rfl (by kernel_rfl) ?_
      rintro w' hC v1 v2 ⟨g0, rfl, hg0⟩ rfl
      intro K hK
      go_simp
      exact hK _ _ rfl ⟨⟨_, rfl, hg0⟩, hC, Below.refl _ _⟩
    case s13 =>
      refine stepOk1 12 17 rfl (by kernel_rfl) ?_
      rintro w' hC v1 ⟨g0, rfl, hg0⟩
      intro K hK
      go_simp
      exact hK _ _ rfl ⟨rfl, hC, Below.refl _ _⟩
    case s14 =>
      refine stepOk2 8 13 13 18 rfl (by kernel_rfl) ?_
      rintro w' hC v1 v2 rfl rfl
      intro K hK
      have z := Z4.out
      go_simp
      exact hK _ _ rfl ⟨congrArg Value.string E4.out, hC, Below.refl _ _⟩
    case s15 =>
      refine stepOk1 14 19 rfl (by kernel_rfl) ?_
      rintro w' hC v1 rfl
      intro K hK
      go_simp
      exact hK _ _ rfl ⟨rfl, hC, Below.refl _ _⟩
  case hf =>
    intro w' hC x hx
    have e0 : x 5 = (.pointer (some ⟨D, 2, none⟩)) := hx (0, 5) (by simp)
    have e1 : x 6 = (.int .u64 (cnt : Nat)) := hx (1, 6) (by simp)
    have e2 : x 7 = (.string S1) := hx (2, 7) (by simp)
    have e3 : x 8 = (.string T1) := hx (3, 8) (by simp)
    have e4 : x 9 = (.pointer (some ⟨D, 1, none⟩)) := hx (4, 9) (by simp)
    have e5 : x 10 = (.int .u64 (cyc : Nat)) := hx (5, 10) (by simp)
    have e6 : x 11 = (.string S2) := hx (6, 11) (by simp)
    have e7 : x 12 = (.string T2) := hx (7, 12) (by simp)
    have e8 : x 13 = (.string T3) := hx (8, 13) (by simp)
    have e10 : x 15 = (.pointer (some ⟨D, 0, none⟩)) := hx (10, 15) (by simp)
    have e11 : x 16 = (.int .i64 (n : Int)) := hx (11, 16) (by simp)
    have e13 : x 18 = (.string S3) := hx (13, 18) (by simp)
    have e14 : x 19 = (.string T4) := hx (14, 19) (by simp)
    have e15 : x 3 = (.string T4) := hx (15, 3) (by simp)
    simp only [putAll, List.foldl_cons, List.foldl_nil, e0, e1, e2, e3, e4, e5, e6, e7, e8, e10, e11, e13, e14, e15, Act.put, List.setIfInBounds_toArray, List.set_cons_succ, List.set_cons_zero]
    clear hx e0 e1 e2 e3 e4 e5 e6 e7 e8 e10 e11 e13 e14 e15
    have N3 := Lib.hid ((hC.block _ (blk_lt N1.out)).trans N1.out)
    have B3 := Lib.hid (B1.out.trans (hC.mono B1.out.size))
    obtain ⟨w3, e3⟩ : ∃ w3, w3 = w' := ⟨_, rfl⟩
    rw [← e3]
    rw [← e3] at N3 B3
    obtain ⟨c0, c1, c2, c3, c4, c5⟩ := evcells N3.out
    simp only at c0 c1 c2 c3 c4 c5
    clear e3 hC N1 B1 H1 H2 HS3 E1 E2 E3 E4 Z1 Z2 Z3 Z4
    go_wp2_with fail
    refine (HH.out w3).mono ?_
    rintro r w4 ⟨rfl, h4⟩
    obtain ⟨w5, e5⟩ : ∃ w5, w5 = w4.alloc (.cells #[.bool hA, .bool hB, .bool hV] 33) := ⟨_, rfl⟩
    obtain ⟨-, n5, b5⟩ := new_size e5
    have B4 := B3.out.trans (h4.mono B3.out.size)
    have B5 := Lib.hid (B4.trans (b5.mono B4.size))
    have N5 := Lib.hid ((b5.block _ (blk_lt ((h4.block _ (blk_lt N3.out)).trans N3.out))).trans ((h4.block _ (blk_lt N3.out)).trans N3.out))
    have M5 := Lib.hid (show w5.cell? ⟨w4.heap.size, 0, none⟩ = some (.bool hA) ∧ w5.cell? ⟨w4.heap.size, 1, none⟩ = some (.bool hB) ∧ w5.cell? ⟨w4.heap.size, 2, none⟩ = some (.bool hV) from ⟨by simp [World.cell?, n5], by simp [World.cell?, n5], by simp [World.cell?, n5]⟩)
    clear c0 c1 c2 c3 c4 c5 h4 b5 n5 B4 B3 N3 HH
    subst e5
    cases hA
    · cases hB
      · cases hV
        · obtain ⟨c0, c1, c2, c3, c4, c5⟩ := evcells N5.out
          simp only at c0 c1 c2 c3 c4 c5
          have m0 := M5.out.1
          have m1 := M5.out.2.1
          have m2 := M5.out.2.2
          go_wp2_with fail
          go_ret
          exact ⟨by rw [HRES.out]; rfl, B5.out⟩
        · obtain ⟨c0, c1, c2, c3, c4, c5⟩ := evcells N5.out
          simp only at c0 c1 c2 c3 c4 c5
          have m0 := M5.out.1
          have m1 := M5.out.2.1
          have m2 := M5.out.2.2
          have kw : IntKind.u64.wrap (v : Int) = (v : Int) := by rw [IntKind.wrap_u64]; omega
          go_wp2_with fail
          refine (G3.out _).mono ?_
          rintro r uv8 ⟨rfl, h⟩
          have Bv8 := Lib.hid (B5.out.trans (h.mono B5.out.size))
          have Nv8 := Lib.hid ((h.block _ (blk_lt N5.out)).trans N5.out)
          have Mv8 := Lib.hid (show uv8.cell? ⟨w4.heap.size, 0, none⟩ = some (.bool _) ∧ uv8.cell? ⟨w4.heap.size, 1, none⟩ = some (.bool _) ∧ uv8.cell? ⟨w4.heap.size, 2, none⟩ = some (.bool _) from ⟨cell_kept h M5.out.1, cell_kept h M5.out.2.1, cell_kept h M5.out.2.2⟩)
          have za2 : ¬ 9223372036854775807 < 1 + SV.size := by omega
          have zb2 : ¬ 9223372036854775807 < T4.size + (1 + SV.size) := by omega
          clear h c0 c1 c2 c3 c4 c5 m0 m1 m2 kw
          obtain ⟨c0, c1, c2, c3, c4, c5⟩ := evcells Nv8.out
          simp only at c0 c1 c2 c3 c4 c5
          have m0 := Mv8.out.1
          have m1 := Mv8.out.2.1
          have m2 := Mv8.out.2.2
          go_wp2_with fail
          go_ret
          exact ⟨by rw [HRES.out]; rfl, Bv8.out⟩
      · obtain ⟨c0, c1, c2, c3, c4, c5⟩ := evcells N5.out
        simp only at c0 c1 c2 c3 c4 c5
        have m0 := M5.out.1
        have m1 := M5.out.2.1
        have m2 := M5.out.2.2
        have kw : IntKind.u64.wrap (b : Int) = (b : Int) := by rw [IntKind.wrap_u64]; omega
        go_wp2_with fail
        refine (G2.out _).mono ?_
        rintro r ub6 ⟨rfl, h⟩
        have Bb6 := Lib.hid (B5.out.trans (h.mono B5.out.size))
        have Nb6 := Lib.hid ((h.block _ (blk_lt N5.out)).trans N5.out)
        have Mb6 := Lib.hid (show ub6.cell? ⟨w4.heap.size, 0, none⟩ = some (.bool _) ∧ ub6.cell? ⟨w4.heap.size, 1, none⟩ = some (.bool _) ∧ ub6.cell? ⟨w4.heap.size, 2, none⟩ = some (.bool _) from ⟨cell_kept h M5.out.1, cell_kept h M5.out.2.1, cell_kept h M5.out.2.2⟩)
        have za1 : ¬ 9223372036854775807 < 1 + SB.size := by omega
        have zb1 : ¬ 9223372036854775807 < T4.size + (1 + SB.size) := by omega
        clear h c0 c1 c2 c3 c4 c5 m0 m1 m2 kw
        cases hV
        · obtain ⟨c0, c1, c2, c3, c4, c5⟩ := evcells Nb6.out
          simp only at c0 c1 c2 c3 c4 c5
          have m0 := Mb6.out.1
          have m1 := Mb6.out.2.1
          have m2 := Mb6.out.2.2
          go_wp2_with fail
          go_ret
          exact ⟨by rw [HRES.out]; rfl, Bb6.out⟩
        · obtain ⟨c0, c1, c2, c3, c4, c5⟩ := evcells Nb6.out
          simp only at c0 c1 c2 c3 c4 c5
          have m0 := Mb6.out.1
          have m1 := Mb6.out.2.1
          have m2 := Mb6.out.2.2
          have kw : IntKind.u64.wrap (v : Int) = (v : Int) := by rw [IntKind.wrap_u64]; omega
          go_wp2_with fail
          refine (G3.out _).mono ?_
          rintro r uv8 ⟨rfl, h⟩
          have Bv8 := Lib.hid (Bb6.out.trans (h.mono Bb6.out.size))
          have Nv8 := Lib.hid ((h.block _ (blk_lt Nb6.out)).trans Nb6.out)
          have Mv8 := Lib.hid (show uv8.cell? ⟨w4.heap.size, 0, none⟩ = some (.bool _) ∧ uv8.cell? ⟨w4.heap.size, 1, none⟩ = some (.bool _) ∧ uv8.cell? ⟨w4.heap.size, 2, none⟩ = some (.bool _) from ⟨cell_kept h Mb6.out.1, cell_kept h Mb6.out.2.1, cell_kept h Mb6.out.2.2⟩)
          have za2 : ¬ 9223372036854775807 < 1 + SV.size := by omega
          have zb2 : ¬ 9223372036854775807 < (T4.size + (1 + SB.size)) + (1 + SV.size) := by omega
          clear h c0 c1 c2 c3 c4 c5 m0 m1 m2 kw
          obtain ⟨c0, c1, c2, c3, c4, c5⟩ := evcells Nv8.out
          simp only at c0 c1 c2 c3 c4 c5
          have m0 := Mv8.out.1
          have m1 := Mv8.out.2.1
          have m2 := Mv8.out.2.2
          go_wp2_with fail
          go_ret
          exact ⟨by rw [HRES.out]; rfl, Bv8.out⟩
    · obtain ⟨c0, c1, c2, c3, c4, c5⟩ := evcells N5.out
      simp only at c0 c1 c2 c3 c4 c5
      have m0 := M5.out.1
      have m1 := M5.out.2.1
      have m2 := M5.out.2.2
      have kw : IntKind.u64.wrap (a : Int) = (a : Int) := by rw [IntKind.wrap_u64]; omega
      go_wp2_with fail
      refine (G1.out _).mono ?_
      rintro r ua4 ⟨rfl, h⟩
      have Ba4 := Lib.hid (B5.out.trans (h.mono B5.out.size))
      have Na4 := Lib.hid ((h.block _ (blk_lt N5.out)).trans N5.out)
      have Ma4 := Lib.hid (show ua4.cell? ⟨w4.heap.size, 0, none⟩ = some (.bool _) ∧ ua4.cell? ⟨w4.heap.size, 1, none⟩ = some (.bool _) ∧ ua4.cell? ⟨w4.heap.size, 2, none⟩ = some (.bool _) from ⟨cell_kept h M5.out.1, cell_kept h M5.out.2.1, cell_kept h M5.out.2.2⟩)
      have za0 : ¬ 9223372036854775807 < 1 + SA.size := by omega
      have zb0 : ¬ 9223372036854775807 < T4.size + (1 + SA.size) := by omega
      clear h c0 c1 c2 c3 c4 c5 m0 m1 m2 kw
      cases hB
      · cases hV
        · obtain ⟨c0, c1, c2, c3, c4, c5⟩ := evcells Na4.out
          simp only at c0 c1 c2 c3 c4 c5
          have m0 := Ma4.out.1
          have m1 := Ma4.out.2.1
          have m2 := Ma4.out.2.2
          go_wp2_with fail
          go_ret
          exact ⟨by rw [HRES.out]; rfl, Ba4.out⟩
        · obtain ⟨c0, c1, c2, c3, c4, c5⟩ := evcells Na4.out
          simp only at c0 c1 c2 c3 c4 c5
          have m0 := Ma4.out.1
          have m1 := Ma4.out.2.1
          have m2 := Ma4.out.2.2
          have kw : IntKind.u64.wrap (v : Int) = (v : Int) := by rw [IntKind.wrap_u64]; omega
          go_wp2_with fail
          refine (G3.out _).mono ?_
          rintro r uv8 ⟨rfl, h⟩
          have Bv8 := Lib.hid (Ba4.out.trans (h.mono Ba4.out.size))
          have Nv8 := Lib.hid ((h.block _ (blk_lt Na4.out)).trans Na4.out)
          have Mv8 := Lib.hid (show uv8.cell? ⟨w4.heap.size, 0, none⟩ = some (.bool _) ∧ uv8.cell? ⟨w4.heap.size, 1, none⟩ = some (.bool _) ∧ uv8.cell? ⟨w4.heap.size, 2, none⟩ = some (.bool _) from ⟨cell_kept h Ma4.out.1, cell_kept h Ma4.out.2.1, cell_kept h Ma4.out.2.2⟩)
          have za2 : ¬ 9223372036854775807 < 1 + SV.size := by omega
          have zb2 : ¬ 9223372036854775807 < (T4.size + (1 + SA.size)) + (1 + SV.size) := by omega
          clear h c0 c1 c2 c3 c4 c5 m0 m1 m2 kw
          obtain ⟨c0, c1, c2, c3, c4, c5⟩ := evcells Nv8.out
          simp only at c0 c1 c2 c3 c4 c5
          have m0 := Mv8.out.1
          have m1 := Mv8.out.2.1
          have m2 := Mv8.out.2.2
          go_wp2_with fail
          go_ret
          exact ⟨by rw [HRES.out]; rfl, Bv8.out⟩
      · obtain ⟨c0, c1, c2, c3, c4, c5⟩ := evcells Na4.out
        simp only at c0 c1 c2 c3 c4 c5
        have m0 := Ma4.out.1
        have m1 := Ma4.out.2.1
        have m2 := Ma4.out.2.2
        have kw : IntKind.u64.wrap (b : Int) = (b : Int) := by rw [IntKind.wrap_u64]; omega
        go_wp2_with fail
        refine (G2.out _).mono ?_
        rintro r ub6 ⟨rfl, h⟩
        have Bb6 := Lib.hid (Ba4.out.trans (h.mono Ba4.out.size))
        have Nb6 := Lib.hid ((h.block _ (blk_lt Na4.out)).trans Na4.out)
        have Mb6 := Lib.hid (show ub6.cell? ⟨w4.heap.size, 0, none⟩ = some (.bool _) ∧ ub6.cell? ⟨w4.heap.size, 1, none⟩ = some (.bool _) ∧ ub6.cell? ⟨w4.heap.size, 2, none⟩ = some (.bool _) from ⟨cell_kept h Ma4.out.1, cell_kept h Ma4.out.2.1, cell_kept h Ma4.out.2.2⟩)
        have za1 : ¬ 9223372036854775807 < 1 + SB.size := by omega
        have zb1 : ¬ 9223372036854775807 < (T4.size + (1 + SA.size)) + (1 + SB.size) := by omega
        clear h c0 c1 c2 c3 c4 c5 m0 m1 m2 kw
        cases hV
        · obtain ⟨c0, c1, c2, c3, c4, c5⟩ := evcells Nb6.out
          simp only at c0 c1 c2 c3 c4 c5
          have m0 := Mb6.out.1
          have m1 := Mb6.out.2.1
          have m2 := Mb6.out.2.2
          go_wp2_with fail
          go_ret
          exact ⟨by rw [HRES.out]; rfl, Bb6.out⟩
        · obtain ⟨c0, c1, c2, c3, c4, c5⟩ := evcells Nb6.out
          simp only at c0 c1 c2 c3 c4 c5
          have m0 := Mb6.out.1
          have m1 := Mb6.out.2.1
          have m2 := Mb6.out.2.2
          have kw : IntKind.u64.wrap (v : Int) = (v : Int) := by rw [IntKind.wrap_u64]; omega
          go_wp2_with fail
          refine (G3.out _).mono ?_
          rintro r uv8 ⟨rfl, h⟩
          have Bv8 := Lib.hid (Bb6.out.trans (h.mono Bb6.out.size))
          have Nv8 := Lib.hid ((h.block _ (blk_lt Nb6.out)).trans Nb6.out)
          have Mv8 := Lib.hid (show uv8.cell? ⟨w4.heap.size, 0, none⟩ = some (.bool _) ∧ uv8.cell? ⟨w4.heap.size, 1, none⟩ = some (.bool _) ∧ uv8.cell? ⟨w4.heap.size, 2, none⟩ = some (.bool _) from ⟨cell_kept h Mb6.out.1, cell_kept h Mb6.out.2.1, cell_kept h Mb6.out.2.2⟩)
          have za2 : ¬ 9223372036854775807 < 1 + SV.size := by omega
          have zb2 : ¬ 9223372036854775807 < ((T4.size + (1 + SA.size)) + (1 + SB.size)) + (1 + SV.size) := by omega
          clear h c0 c1 c2 c3 c4 c5 m0 m1 m2 kw
          obtain ⟨c0, c1, c2, c3, c4, c5⟩ := evcells Nv8.out
          simp only at c0 c1 c2 c3 c4 c5
          have m0 := Mv8.out.1
          have m1 := Mv8.out.2.1
          have m2 := Mv8.out.2.2
          go_wp2_with fail
          go_ret
          exact ⟨by rw [HRES.out]; rfl, Bv8.out⟩

end Go.Proofs.YtonmkmbllaahgaaDoor
