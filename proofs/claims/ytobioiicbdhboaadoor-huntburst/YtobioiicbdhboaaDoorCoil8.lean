/-
  The document's own answers of layer 6 (taffrailref06), Steps and One, over this seat's translation. Conditions: the events' numbers fit.
-/
import Derived.Test.YtobioiicbdhboaaDoorCoil1
import Derived.Test.YtobioiicbdhboaaDoorEvRef2
import Derived.Test.YtobioiicbdhboaaDoorLebRef
import Derived.Test.YtobioiicbdhboaaDoorRel
namespace Go.Proofs.YtobioiicbdhboaaDoor
open Go.RowKit
set_option linter.unusedVariables false
set_option linter.unusedSimpArgs false

theorem below_drew {w0 w : World} {B : Nat} (h : Below B w0 w) : Below B w0 w.drew := ⟨h.os, h.tape, h.output, h.size, h.block⟩

set_option maxRecDepth 100000 in
set_option maxHeartbeats 1000000 in
theorem rsteps_fall (b e : Ev) (h : e.cnt < b.cnt ∨ e.cyc < b.cyc) (w : World) :
    Calls Tryd.prog 42 #[evV b, evV e] w fun r w' => r = .returned (.tuple #[.int .u64 0, .int .u64 0, .bool false]) ∧ Below w.heap.size w w' := by
  obtain ⟨bk, by', bc, ba, bb, bv⟩ := b
  obtain ⟨ek, ey, ec, ea, eb, ev⟩ := e
  simp only at h
  have B := Lib.hid (box_two w (evO ⟨bk, by', bc, ba, bb, bv⟩) (evO ⟨ek, ey, ec, ea, eb, ev⟩))
  unfold evV
  by_cases h1 : ec < bc
  · have d1 : decide ((ec : Int) < (bc : Int)) = true := by simp; omega
    have d1' : decide (ec < bc) = true := by simp; omega
    clear h h1
    go_enter Tryd.func42, Tryd.ntmps42
    go_wp2
    go_ret3
    exact ⟨rfl, B.out⟩
  · have d1 : decide ((ec : Int) < (bc : Int)) = false := by simp; omega
    have d1' : decide (ec < bc) = false := by simp; omega
    have d2 : decide ((ey : Int) < (by' : Int)) = true := by simp; omega
    have d2' : decide (ey < by') = true := by simp; omega
    clear h h1
    go_enter Tryd.func42, Tryd.ntmps42
    go_wp2
    go_ret3
    exact ⟨rfl, B.out⟩

set_option maxRecDepth 100000 in
set_option maxHeartbeats 1000000 in
theorem rsteps_go (b e : Ev) (h1 : ¬ e.cnt < b.cnt) (h2 : ¬ e.cyc < b.cyc) (hc : e.cnt < 18446744073709551616) (hy : e.cyc < 18446744073709551616) :
    ∃ x y : Int, (told b e = true → x = (stepN b e : Nat) ∧ y = (foldN b e : Nat)) ∧ ∀ w, Calls Tryd.prog 42 #[evV b, evV e] w fun r w' => r = .returned (.tuple #[.int .u64 x, .int .u64 y, .bool (told b e)]) ∧ Below w.heap.size w w' := by
  have ht : told b e = decide (stepN b e ≤ 4294967295 ∧ -2147483648 ≤ driftZ b e ∧ driftZ b e ≤ 2147483647) := by
    unfold told stepN
    congr 1
    refine propext ⟨fun h => h.2.2, fun h => ⟨by omega, by omega, h⟩⟩
  have hs : stepN b e = e.cnt - b.cnt := rfl
  have hd : driftZ b e = ((e.cyc - b.cyc : Nat) : Int) - (stepN b e : Int) := rfl
  have hf : foldN b e = (fold (driftZ b e)).toNat := rfl
  generalize told b e = tl at *
  generalize stepN b e = st at *
  generalize driftZ b e = dr at *
  generalize foldN b e = fo at *
  obtain ⟨bk, by', bc, ba, bb, bv⟩ := b
  obtain ⟨ek, ey, ec, ea, eb, ev⟩ := e
  simp only at h1 h2 hc hy hs hd
  obtain ⟨gr, hg⟩ : ∃ gr, gr = ey - by' := ⟨_, rfl⟩
  rw [← hg] at hd
  have HB := Lib.hid (fun w => box_two w (evO ⟨bk, by', bc, ba, bb, bv⟩) (evO ⟨ek, ey, ec, ea, eb, ev⟩))
  unfold evV
  have d1 : decide ((ec : Int) < (bc : Int)) = false := by simp; omega
  have d1' : decide (ec < bc) = false := by simp; omega
  have d2 : decide ((ey : Int) < (by' : Int)) = false := by simp; omega
  have d2' : decide (ey < by') = false := by simp; omega
  have w1 : IntKind.u64.wrap ((ec : Int) - (bc : Int)) = (st : Int) := by rw [IntKind.wrap_u64]; omega
  have w2 : IntKind.u64.wrap ((ey : Int) - (by' : Int)) = (gr : Int) := by rw [IntKind.wrap_u64]; omega
  have hgl : gr < 18446744073709551616 := by omega
  have hsl : st < 18446744073709551616 := by omega
  clear hs hg h1 h2 hc hy
  by_cases c1 : st ≤ 4294967295
  · have e1 : decide ((4294967295 : Int) < (st : Int)) = false := by simp; omega
    have e1' : decide (4294967295 < st) = false := by simp; omega
    by_cases c2 : st ≤ gr
    · have e2 : decide ((st : Int) ≤ (gr : Int)) = true := by simp; omega
      have e2' : decide (st ≤ gr) = true := by simp; omega
      obtain ⟨ov, ho⟩ : ∃ ov, ov = gr - st := ⟨_, rfl⟩
      have w3 : IntKind.u64.wrap ((gr : Int) - (st : Int)) = (ov : Int) := by rw [IntKind.wrap_u64]; omega
      have hT : decide ((ov : Int) < 2147483648) = tl := by rw [ht]; exact decide_eq_decide.2 ⟨fun h => ⟨c1, by omega, by omega⟩, fun h => by omega⟩
      have hol : ov < 18446744073709551616 := by omega
      have HX := Lib.hid (show tl = true → IntKind.u64.wrap (2 * (ov : Int)) = (fo : Int) by
        intro h
        rw [ht] at h
        have h := of_decide_eq_true h
        rw [IntKind.wrap_u64, hf]
        unfold fold
        rw [if_neg (by omega)]
        omega)
      clear hd hf ht ho c2
      refine ⟨(st : Int), IntKind.u64.wrap (2 * (ov : Int)), fun h => ⟨rfl, HX.out h⟩, fun w => ?_⟩
      have B := Lib.hid (HB.out w)
      clear HB
      go_enter Tryd.func42, Tryd.ntmps42
      go_wp2
      go_ret3
      exact ⟨rfl, B.out⟩
    · have e2 : decide ((st : Int) ≤ (gr : Int)) = false := by simp; omega
      have e2' : decide (st ≤ gr) = false := by simp; omega
      obtain ⟨un, ho⟩ : ∃ un, un = st - gr := ⟨_, rfl⟩
      have w3 : IntKind.u64.wrap ((st : Int) - (gr : Int)) = (un : Int) := by rw [IntKind.wrap_u64]; omega
      have hT : decide ((un : Int) ≤ 2147483648) = tl := by rw [ht]; exact decide_eq_decide.2 ⟨fun h => ⟨c1, by omega, by omega⟩, fun h => by omega⟩
      have hu1 : 1 ≤ un := by omega
      have hu2 : un ≤ 4294967295 := by omega
      have HX := Lib.hid (show 2 * (un : Int) - 1 = (fo : Int) by
        rw [hf]
        unfold fold
        rw [if_pos (by omega)]
        omega)
      clear hd hf ht ho c2
      refine ⟨(st : Int), 2 * (un : Int) - 1, fun h => ⟨rfl, HX.out⟩, fun w => ?_⟩
      have B := Lib.hid (HB.out w)
      clear HB HX
      go_enter Tryd.func42, Tryd.ntmps42
      go_wp2
      go_ret3
      exact ⟨rfl, B.out⟩
  · have e1 : decide ((4294967295 : Int) < (st : Int)) = true := by simp; omega
    have e1' : decide (4294967295 < st) = true := by simp; omega
    have HT := Lib.hid (show tl = false by rw [ht]; exact decide_eq_false (fun h => c1 h.1))
    clear hd hf ht c1
    rw [HT.out]
    refine ⟨0, 0, (fun h => by cases h), fun w => ?_⟩
    have B := Lib.hid (HB.out w)
    clear HB HT
    go_enter Tryd.func42, Tryd.ntmps42
    go_wp2
    go_ret3
    exact ⟨rfl, B.out⟩

theorem rsteps_any (b e : Ev) (hc : e.cnt < 18446744073709551616) (hy : e.cyc < 18446744073709551616) :
    ∃ x y : Int, (told b e = true → x = (stepN b e : Nat) ∧ y = (foldN b e : Nat)) ∧ ∀ w, Calls Tryd.prog 42 #[evV b, evV e] w fun r w' => r = .returned (.tuple #[.int .u64 x, .int .u64 y, .bool (told b e)]) ∧ Below w.heap.size w w' := by
  by_cases h : e.cnt < b.cnt ∨ e.cyc < b.cyc
  · have ht : told b e = false := by
      cases h' : told b e with
      | false => rfl
      | true => have := told_fold h'; omega
    rw [ht]
    exact ⟨0, 0, (fun h => by cases h), fun w => rsteps_fall b e h w⟩
  · exact rsteps_go b e (fun x => h (.inl x)) (fun x => h (.inr x)) hc hy

/-- A number's bytes more, if the kind has it. -/
def appC (T : ByteArray) (h : Bool) (S : ByteArray) : ByteArray := if h = true then T ++ S else T

theorem one_back {w : World} {g n : Nat} (h : w.heap[g]? = some (.cells #[.int .u8 (n : Int)] 5 (0, 0))) (hn : n < 256) : ∀ j (hj : j < [UInt8.ofNat n].length), w.cell? ((⟨g, 0, none⟩ : Addr).add j) = some (.int .u8 ([UInt8.ofNat n][j].toNat : Int)) := by
  intro j hj
  have hj : j = 0 := by simpa using hj
  subst hj
  have : ((UInt8.ofNat n).toNat : Int) = (n : Int) := by simp; omega
  simp only [List.getElem_cons_zero, this]
  simp [Addr.add, World.cell?, h]

set_option maxRecDepth 100000 in
set_option maxHeartbeats 8000000 in
theorem rone_walk (n cyc cnt a b v st fo : Nat) (hA hB hV : Bool) (S1 S2 SA SB SV T0 T1 T2 res : ByteArray) (w : World) (n24 : n ≤ 24) (fa : a < 4294967296) (fb : b < 4294967296) (fv : v < 4294967296)
    (hT2 : T2.size ≤ 60) (hSA : SA.size ≤ 20) (hSB : SB.size ≤ 20) (hSV : SV.size ≤ 20) (HT0 : Hid (T0 = ⟨[UInt8.ofNat n].toArray⟩))
    (H1 : Hid (∀ w', Calls Tryd.prog 56 #[.int .u64 st] w' fun r w'' => r = .returned (.string S1) ∧ Below w'.heap.size w' w''))
    (H2 : Hid (∀ w', Calls Tryd.prog 56 #[.int .u64 fo] w' fun r w'' => r = .returned (.string S2) ∧ Below w'.heap.size w' w''))
    (HH : Hid (∀ w', Calls Tryd.prog 51 #[.int .i64 n] w' fun r w'' => r = .returned (.agg #[.bool hA, .bool hB, .bool hV]) ∧ Below w'.heap.size w' w''))
    (G1 : Hid (∀ w', Calls Tryd.prog 56 #[.int .u64 a] w' fun r w'' => r = .returned (.string SA) ∧ Below w'.heap.size w' w''))
    (G2 : Hid (∀ w', Calls Tryd.prog 56 #[.int .u64 b] w' fun r w'' => r = .returned (.string SB) ∧ Below w'.heap.size w' w''))
    (G3 : Hid (∀ w', Calls Tryd.prog 56 #[.int .u64 v] w' fun r w'' => r = .returned (.string SV) ∧ Below w'.heap.size w' w''))
    (E1 : Hid (T0 ++ S1 = T1)) (E2 : Hid (T1 ++ S2 = T2))
    (Z1 : Hid (¬ 9223372036854775807 < T0.size + S1.size)) (Z2 : Hid (¬ 9223372036854775807 < T1.size + S2.size))
    (HRES : Hid (res = appC (appC (appC T2 hA SA) hB SB) hV SV)) :
    Calls Tryd.prog 43 #[evV ⟨n, cyc, cnt, a, b, v⟩, .int .u64 st, .int .u64 fo] w fun r w' => r = .returned (.string res) ∧ Below w.heap.size w w' := by
  obtain ⟨w1, e1⟩ : ∃ w1, w1 = w.alloc (evO ⟨n, cyc, cnt, a, b, v⟩) := ⟨_, rfl⟩
  obtain ⟨-, n1, b1⟩ := new_size e1
  have B1 := Lib.hid b1
  have N1 := Lib.hid n1
  obtain ⟨D, hD⟩ : ∃ D, w.heap.size = D := ⟨_, rfl⟩
  rw [hD] at N1
  have HD := Lib.hid hD
  have hwk : IntKind.u8.wrap (n : Int) = (n : Int) := by rw [IntKind.wrap_u8]; omega
  clear n1 b1 hD
  unfold evO at e1
  unfold evV
  simp only at *
  go_enter Tryd.func43, Tryd.ntmps43
  go_wp2_with fail
  rw [← e1, HD.out]
  clear e1
  refine wp_region_rel [.is (.pointer (some ⟨D, 0, none⟩)), .is (.int .i64 (n : Int)), .is (.int .u8 (n : Int)), .row #[.int .u8 (n : Int)] 5 1, .is (.string T0), .is (.int .u64 (st : Nat)), .is (.string S1), .is (.string T1), .is (.int .u64 (fo : Nat)), .is (.string S2), .is (.string T2), .is (.string T2)]
    (fun w' => Below w1.heap.size w1 w') [(0, 9), (1, 10), (2, 11), (3, 12), (4, 13), (5, 14), (6, 15), (7, 16), (8, 17), (9, 18), (10, 19), (11, 7)] 12 (by kernel_rfl) (by kernel_rfl) (by kernel_rfl) (by kernel_rfl) ?hC ?hs ?hf
  case hC => exact below_drew (Below.refl _ _)
  case hs =>
    refine stepsOk_succ ?s11 (stepsOk_succ ?s10 (stepsOk_succ ?s9 (stepsOk_succ ?s8 (stepsOk_succ ?s7 (stepsOk_succ ?s6 (stepsOk_succ ?s5 (stepsOk_succ ?s4 (stepsOk_succ ?s3 (stepsOk_succ ?s2 (stepsOk_succ ?s1 (stepsOk_succ ?s0 (stepsOk_zero))))))))))))
    case s0 =>
      refine stepOk0 rfl (by kernel_rfl) ?_
      rintro w' hC
      intro K hK
      go_simp
      exact hK _ _ rfl ⟨rfl, hC, Below.refl _ _⟩
    case s1 =>
      refine stepOk1 0 9 rfl (by kernel_rfl) ?_
      rintro w' hC v1 rfl
      intro K hK
      obtain ⟨c0, c1, c2, c3, c4, c5⟩ := evcells ((hC.block _ (blk_lt N1.out)).trans N1.out)
      simp only at c0 c1 c2 c3 c4 c5
      go_simp
      exact hK _ _ rfl ⟨rfl, hC, Below.refl _ _⟩
    case s2 =>
      refine stepOk1 1 10 rfl (by kernel_rfl) ?_
      rintro w' hC v1 rfl
      intro K hK
      go_simp
      exact hK _ _ rfl ⟨rfl, hC, Below.refl _ _⟩
    case s3 =>
      refine stepOk1 2 11 rfl (by kernel_rfl) ?_
      rintro w' hC v1 rfl
      intro K hK
      go_simp
      exact hK _ _ rfl ⟨⟨_, rfl, heap_alloc_new w' _⟩, hC.trans ((below_box _).mono hC.size), below_box _⟩
    case s4 =>
      refine stepOk1 3 12 rfl (by kernel_rfl) ?_
      rintro w' hC v1 ⟨g0, rfl, hg0⟩
      intro K hK
      have hcv := run_convert_bytes_back (P := Tryd.prog) w' 58 9 5 ⟨g0, 0, none⟩ 1 [UInt8.ofNat n] Tryd.underlying58 Tryd.underlying5 Tryd.underlying9 (one_back hg0 (by omega))
      simp only [List.length_cons, List.length_nil, Nat.zero_add] at hcv
      rw [← HT0.out] at hcv
      go_simp
      exact hK _ _ rfl ⟨rfl, hC, Below.refl _ _⟩
    case s5 =>
      refine stepOk0 rfl (by kernel_rfl) ?_
      rintro w' hC
      intro K hK
      go_simp
      exact hK _ _ rfl ⟨rfl, hC, Below.refl _ _⟩
    case s6 =>
      refine stepOk1 5 14 rfl (by kernel_rfl) ?_
      rintro w' hC v1 rfl
      intro K hK
      go_simp
      refine (H1.out w').mono ?_
      rintro e w2 ⟨rfl, h1⟩
      exact hK _ _ rfl ⟨rfl, hC.trans (h1.mono hC.size), h1⟩
    case s7 =>
      refine stepOk2 4 13 6 15 rfl (by kernel_rfl) ?_
      rintro w' hC v1 v2 rfl rfl
      intro K hK
      have z := Z1.out
      go_simp
      exact hK _ _ rfl ⟨congrArg Value.string E1.out, hC, Below.refl _ _⟩
    case s8 =>
      refine stepOk0 rfl (by kernel_rfl) ?_
      rintro w' hC
      intro K hK
      go_simp
      exact hK _ _ rfl ⟨rfl, hC, Below.refl _ _⟩
    case s9 =>
      refine stepOk1 8 17 rfl (by kernel_rfl) ?_
      rintro w' hC v1 rfl
      intro K hK
      go_simp
      refine (H2.out w').mono ?_
      rintro e w2 ⟨rfl, h1⟩
      exact hK _ _ rfl ⟨rfl, hC.trans (h1.mono hC.size), h1⟩
    case s10 =>
      refine stepOk2 7 16 9 18 rfl (by kernel_rfl) ?_
      rintro w' hC v1 v2 rfl rfl
      intro K hK
      have z := Z2.out
      go_simp
      exact hK _ _ rfl ⟨congrArg Value.string E2.out, hC, Below.refl _ _⟩
    case s11 =>
      refine stepOk1 10 19 rfl (by kernel_rfl) ?_
      rintro w' hC v1 rfl
      intro K hK
      go_simp
      exact hK _ _ rfl ⟨rfl, hC, Below.refl _ _⟩
  case hf =>
    intro w' hC x hx
    have e0 : x 9 = (.pointer (some ⟨D, 0, none⟩)) := hx (0, 9) (by simp)
    have e1 : x 10 = (.int .i64 (n : Int)) := hx (1, 10) (by simp)
    have e2 : x 11 = (.int .u8 (n : Int)) := hx (2, 11) (by simp)
    have e4 : x 13 = (.string T0) := hx (4, 13) (by simp)
    have e5 : x 14 = (.int .u64 (st : Nat)) := hx (5, 14) (by simp)
    have e6 : x 15 = (.string S1) := hx (6, 15) (by simp)
    have e7 : x 16 = (.string T1) := hx (7, 16) (by simp)
    have e8 : x 17 = (.int .u64 (fo : Nat)) := hx (8, 17) (by simp)
    have e9 : x 18 = (.string S2) := hx (9, 18) (by simp)
    have e10 : x 19 = (.string T2) := hx (10, 19) (by simp)
    have e11 : x 7 = (.string T2) := hx (11, 7) (by simp)
    simp only [putAll, List.foldl_cons, List.foldl_nil, e0, e1, e2, e4, e5, e6, e7, e8, e9, e10, e11, Act.put, List.setIfInBounds_toArray, List.set_cons_succ, List.set_cons_zero]
    clear hx e0 e1 e2 e4 e5 e6 e7 e8 e9 e10 e11
    have N3 := Lib.hid ((hC.block _ (blk_lt N1.out)).trans N1.out)
    have B3 := Lib.hid (B1.out.trans (hC.mono B1.out.size))
    obtain ⟨w3, e3⟩ : ∃ w3, w3 = w' := ⟨_, rfl⟩
    rw [← e3]
    rw [← e3] at N3 B3
    obtain ⟨c0, c1, c2, c3, c4, c5⟩ := evcells N3.out
    simp only at c0 c1 c2 c3 c4 c5
    clear e3 hC N1 B1 H1 H2 E1 E2 Z1 Z2
    go_wp2_with fail
    refine (HH.out w3).mono ?_
    rintro r w4 ⟨rfl, h4⟩
    obtain ⟨w5, e5⟩ : ∃ w5, w5 = w4.alloc (.cells #[.bool hA, .bool hB, .bool hV] 104) := ⟨_, rfl⟩
    obtain ⟨-, n5, b5⟩ := new_size e5
    have B4 := B3.out.trans (h4.mono B3.out.size)
    have B5 := Lib.hid (B4.trans (b5.mono B4.size))
    have N5 := Lib.hid ((b5.block _ (blk_lt ((h4.block _ (blk_lt N3.out)).trans N3.out))).trans ((h4.block _ (blk_lt N3.out)).trans N3.out))
    have M5 := Lib.hid (show w5.cell? ⟨w4.heap.size, 0, none⟩ = some (.bool hA) ∧ w5.cell? ⟨w4.heap.size, 1, none⟩ = some (.bool hB) ∧ w5.cell? ⟨w4.heap.size, 2, none⟩ = some (.bool hV) from ⟨by simp [World.cell?, n5], by simp [World.cell?, n5], by simp [World.cell?, n5]⟩)
    clear c0 c1 c2 c3 c4 c5 h4 b5 n5 B4 B3 N3 HH
    subst e5
    cases hA
    · cases hB
      · cases hV
        · obtain ⟨c0, c1, c2, c3, c4, c5⟩ := evcells N5.out
          simp only at c0 c1 c2 c3 c4 c5
          have m0 := M5.out.1
          have m1 := M5.out.2.1
          have m2 := M5.out.2.2
          go_wp2_with fail
          go_ret
          exact ⟨by rw [HRES.out]; rfl, B5.out⟩
        · obtain ⟨c0, c1, c2, c3, c4, c5⟩ := evcells N5.out
          simp only at c0 c1 c2 c3 c4 c5
          have m0 := M5.out.1
          have m1 := M5.out.2.1
          have m2 := M5.out.2.2
          have kw : IntKind.u64.wrap (v : Int) = (v : Int) := by rw [IntKind.wrap_u64]; omega
          go_wp2_with fail
          refine (G3.out _).mono ?_
          rintro r uv8 ⟨rfl, h⟩
          have Bv8 := Lib.hid (B5.out.trans (h.mono B5.out.size))
          have Nv8 := Lib.hid ((h.block _ (blk_lt N5.out)).trans N5.out)
          have Mv8 := Lib.hid (show uv8.cell? ⟨w4.heap.size, 0, none⟩ = some (.bool _) ∧ uv8.cell? ⟨w4.heap.size, 1, none⟩ = some (.bool _) ∧ uv8.cell? ⟨w4.heap.size, 2, none⟩ = some (.bool _) from ⟨cell_kept h M5.out.1, cell_kept h M5.out.2.1, cell_kept h M5.out.2.2⟩)
          have zb2 : ¬ 9223372036854775807 < T2.size + SV.size := by omega
          clear h c0 c1 c2 c3 c4 c5 m0 m1 m2 kw
          obtain ⟨c0, c1, c2, c3, c4, c5⟩ := evcells Nv8.out
          simp only at c0 c1 c2 c3 c4 c5
          have m0 := Mv8.out.1
          have m1 := Mv8.out.2.1
          have m2 := Mv8.out.2.2
          go_wp2_with fail
          go_ret
          exact ⟨by rw [HRES.out]; rfl, Bv8.out⟩
      · obtain ⟨c0, c1, c2, c3, c4, c5⟩ := evcells N5.out
        simp only at c0 c1 c2 c3 c4 c5
        have m0 := M5.out.1
        have m1 := M5.out.2.1
        have m2 := M5.out.2.2
        have kw : IntKind.u64.wrap (b : Int) = (b : Int) := by rw [IntKind.wrap_u64]; omega
        go_wp2_with fail
        refine (G2.out _).mono ?_
        rintro r ub6 ⟨rfl, h⟩
        have Bb6 := Lib.hid (B5.out.trans (h.mono B5.out.size))
        have Nb6 := Lib.hid ((h.block _ (blk_lt N5.out)).trans N5.out)
        have Mb6 := Lib.hid (show ub6.cell? ⟨w4.heap.size, 0, none⟩ = some (.bool _) ∧ ub6.cell? ⟨w4.heap.size, 1, none⟩ = some (.bool _) ∧ ub6.cell? ⟨w4.heap.size, 2, none⟩ = some (.bool _) from ⟨cell_kept h M5.out.1, cell_kept h M5.out.2.1, cell_kept h M5.out.2.2⟩)
        have zb1 : ¬ 9223372036854775807 < T2.size + SB.size := by omega
        clear h c0 c1 c2 c3 c4 c5 m0 m1 m2 kw
        cases hV
        · obtain ⟨c0, c1, c2, c3, c4, c5⟩ := evcells Nb6.out
          simp only at c0 c1 c2 c3 c4 c5
          have m0 := Mb6.out.1
          have m1 := Mb6.out.2.1
          have m2 := Mb6.out.2.2
          go_wp2_with fail
          go_ret
          exact ⟨by rw [HRES.out]; rfl, Bb6.out⟩
        · obtain ⟨c0, c1, c2, c3, c4, c5⟩ := evcells Nb6.out
          simp only at c0 c1 c2 c3 c4 c5
          have m0 := Mb6.out.1
          have m1 := Mb6.out.2.1
          have m2 := Mb6.out.2.2
          have kw : IntKind.u64.wrap (v : Int) = (v : Int) := by rw [IntKind.wrap_u64]; omega
          go_wp2_with fail
          refine (G3.out _).mono ?_
          rintro r uv8 ⟨rfl, h⟩
          have Bv8 := Lib.hid (Bb6.out.trans (h.mono Bb6.out.size))
          have Nv8 := Lib.hid ((h.block _ (blk_lt Nb6.out)).trans Nb6.out)
          have Mv8 := Lib.hid (show uv8.cell? ⟨w4.heap.size, 0, none⟩ = some (.bool _) ∧ uv8.cell? ⟨w4.heap.size, 1, none⟩ = some (.bool _) ∧ uv8.cell? ⟨w4.heap.size, 2, none⟩ = some (.bool _) from ⟨cell_kept h Mb6.out.1, cell_kept h Mb6.out.2.1, cell_kept h Mb6.out.2.2⟩)
          have zb2 : ¬ 9223372036854775807 < (T2.size + SB.size) + SV.size := by omega
          clear h c0 c1 c2 c3 c4 c5 m0 m1 m2 kw
          obtain ⟨c0, c1, c2, c3, c4, c5⟩ := evcells Nv8.out
          simp only at c0 c1 c2 c3 c4 c5
          have m0 := Mv8.out.1
          have m1 := Mv8.out.2.1
          have m2 := Mv8.out.2.2
          go_wp2_with fail
          go_ret
          exact ⟨by rw [HRES.out]; rfl, Bv8.out⟩
    · obtain ⟨c0, c1, c2, c3, c4, c5⟩ := evcells N5.out
      simp only at c0 c1 c2 c3 c4 c5
      have m0 := M5.out.1
      have m1 := M5.out.2.1
      have m2 := M5.out.2.2
      have kw : IntKind.u64.wrap (a : Int) = (a : Int) := by rw [IntKind.wrap_u64]; omega
      go_wp2_with fail
      refine (G1.out _).mono ?_
      rintro r ua4 ⟨rfl, h⟩
      have Ba4 := Lib.hid (B5.out.trans (h.mono B5.out.size))
      have Na4 := Lib.hid ((h.block _ (blk_lt N5.out)).trans N5.out)
      have Ma4 := Lib.hid (show ua4.cell? ⟨w4.heap.size, 0, none⟩ = some (.bool _) ∧ ua4.cell? ⟨w4.heap.size, 1, none⟩ = some (.bool _) ∧ ua4.cell? ⟨w4.heap.size, 2, none⟩ = some (.bool _) from ⟨cell_kept h M5.out.1, cell_kept h M5.out.2.1, cell_kept h M5.out.2.2⟩)
      have zb0 : ¬ 9223372036854775807 < T2.size + SA.size := by omega
      clear h c0 c1 c2 c3 c4 c5 m0 m1 m2 kw
      cases hB
      · cases hV
        · obtain ⟨c0, c1, c2, c3, c4, c5⟩ := evcells Na4.out
          simp only at c0 c1 c2 c3 c4 c5
          have m0 := Ma4.out.1
          have m1 := Ma4.out.2.1
          have m2 := Ma4.out.2.2
          go_wp2_with fail
          go_ret
          exact ⟨by rw [HRES.out]; rfl, Ba4.out⟩
        · obtain ⟨c0, c1, c2, c3, c4, c5⟩ := evcells Na4.out
          simp only at c0 c1 c2 c3 c4 c5
          have m0 := Ma4.out.1
          have m1 := Ma4.out.2.1
          have m2 := Ma4.out.2.2
          have kw : IntKind.u64.wrap (v : Int) = (v : Int) := by rw [IntKind.wrap_u64]; omega
          go_wp2_with fail
          refine (G3.out _).mono ?_
          rintro r uv8 ⟨rfl, h⟩
          have Bv8 := Lib.hid (Ba4.out.trans (h.mono Ba4.out.size))
          have Nv8 := Lib.hid ((h.block _ (blk_lt Na4.out)).trans Na4.out)
          have Mv8 := Lib.hid (show uv8.cell? ⟨w4.heap.size, 0, none⟩ = some (.bool _) ∧ uv8.cell? ⟨w4.heap.size, 1, none⟩ = some (.bool _) ∧ uv8.cell? ⟨w4.heap.size, 2, none⟩ = some (.bool _) from ⟨cell_kept h Ma4.out.1, cell_kept h Ma4.out.2.1, cell_kept h Ma4.out.2.2⟩)
          have zb2 : ¬ 9223372036854775807 < (T2.size + SA.size) + SV.size := by omega
          clear h c0 c1 c2 c3 c4 c5 m0 m1 m2 kw
          obtain ⟨c0, c1, c2, c3, c4, c5⟩ := evcells Nv8.out
          simp only at c0 c1 c2 c3 c4 c5
          have m0 := Mv8.out.1
          have m1 := Mv8.out.2.1
          have m2 := Mv8.out.2.2
          go_wp2_with fail
          go_ret
          exact ⟨by rw [HRES.out]; rfl, Bv8.out⟩
      · obtain ⟨c0, c1, c2, c3, c4, c5⟩ := evcells Na4.out
        simp only at c0 c1 c2 c3 c4 c5
        have m0 := Ma4.out.1
        have m1 := Ma4.out.2.1
        have m2 := Ma4.out.2.2
        have kw : IntKind.u64.wrap (b : Int) = (b : Int) := by rw [IntKind.wrap_u64]; omega
        go_wp2_with fail
        refine (G2.out _).mono ?_
        rintro r ub6 ⟨rfl, h⟩
        have Bb6 := Lib.hid (Ba4.out.trans (h.mono Ba4.out.size))
        have Nb6 := Lib.hid ((h.block _ (blk_lt Na4.out)).trans Na4.out)
        have Mb6 := Lib.hid (show ub6.cell? ⟨w4.heap.size, 0, none⟩ = some (.bool _) ∧ ub6.cell? ⟨w4.heap.size, 1, none⟩ = some (.bool _) ∧ ub6.cell? ⟨w4.heap.size, 2, none⟩ = some (.bool _) from ⟨cell_kept h Ma4.out.1, cell_kept h Ma4.out.2.1, cell_kept h Ma4.out.2.2⟩)
        have zb1 : ¬ 9223372036854775807 < (T2.size + SA.size) + SB.size := by omega
        clear h c0 c1 c2 c3 c4 c5 m0 m1 m2 kw
        cases hV
        · obtain ⟨c0, c1, c2, c3, c4, c5⟩ := evcells Nb6.out
          simp only at c0 c1 c2 c3 c4 c5
          have m0 := Mb6.out.1
          have m1 := Mb6.out.2.1
          have m2 := Mb6.out.2.2
          go_wp2_with fail
          go_ret
          exact ⟨by rw [HRES.out]; rfl, Bb6.out⟩
        · obtain ⟨c0, c1, c2, c3, c4, c5⟩ := evcells Nb6.out
          simp only at c0 c1 c2 c3 c4 c5
          have m0 := Mb6.out.1
          have m1 := Mb6.out.2.1
          have m2 := Mb6.out.2.2
          have kw : IntKind.u64.wrap (v : Int) = (v : Int) := by rw [IntKind.wrap_u64]; omega
          go_wp2_with fail
          refine (G3.out _).mono ?_
          rintro r uv8 ⟨rfl, h⟩
          have Bv8 := Lib.hid (Bb6.out.trans (h.mono Bb6.out.size))
          have Nv8 := Lib.hid ((h.block _ (blk_lt Nb6.out)).trans Nb6.out)
          have Mv8 := Lib.hid (show uv8.cell? ⟨w4.heap.size, 0, none⟩ = some (.bool _) ∧ uv8.cell? ⟨w4.heap.size, 1, none⟩ = some (.bool _) ∧ uv8.cell? ⟨w4.heap.size, 2, none⟩ = some (.bool _) from ⟨cell_kept h Mb6.out.1, cell_kept h Mb6.out.2.1, cell_kept h Mb6.out.2.2⟩)
          have zb2 : ¬ 9223372036854775807 < ((T2.size + SA.size) + SB.size) + SV.size := by omega
          clear h c0 c1 c2 c3 c4 c5 m0 m1 m2 kw
          obtain ⟨c0, c1, c2, c3, c4, c5⟩ := evcells Nv8.out
          simp only at c0 c1 c2 c3 c4 c5
          have m0 := Mv8.out.1
          have m1 := Mv8.out.2.1
          have m2 := Mv8.out.2.2
          go_wp2_with fail
          go_ret
          exact ⟨by rw [HRES.out]; rfl, Bv8.out⟩

theorem bytes_app (l m : List UInt8) : (⟨l.toArray⟩ : ByteArray) ++ ⟨m.toArray⟩ = ⟨(l ++ m).toArray⟩ := by
  apply ByteArray.ext
  simp
theorem bytes_size (l : List UInt8) : (⟨l.toArray⟩ : ByteArray).size = l.length := by simp [ByteArray.size]
theorem appC_is (l : List UInt8) (h : Bool) (n : Nat) : appC ⟨l.toArray⟩ h ⟨(lebL n).toArray⟩ = ⟨(l ++ optL h n).toArray⟩ := by
  unfold appC optL
  cases h
  · simp
  · simp only [if_true]; exact bytes_app _ _

theorem rone_any (d e : Ev) (f : EvFits e) (hp : putE d e = 0) (w : World) :
    Calls Tryd.prog 43 #[evV e, .int .u64 (stepN d e : Nat), .int .u64 (foldN d e : Nat)] w fun r w' => r = .returned (.string ⟨(evBytes d e).toArray⟩) ∧ Below w.heap.size w w' := by
  obtain ⟨hc, ht⟩ := putE_zero hp
  obtain ⟨t1, t2, -, -⟩ := told_fold ht
  have fine := check_fine f.cnt f.cyc f.a f.b f.v hc
  have fa := f.a
  have fb := f.b
  have fv := f.v
  obtain ⟨kind, cyc, cnt, a, b, v⟩ := e
  have k1 := fine.k1
  have k2 := fine.k2
  simp only at k1 k2 fa fb fv
  obtain ⟨n, rfl⟩ : ∃ n : Nat, kind = n := ⟨kind.toNat, by omega⟩
  have l1 := lebL_len10 (stepN d ⟨n, cyc, cnt, a, b, v⟩) (by omega)
  have l2 := lebL_len10 (foldN d ⟨n, cyc, cnt, a, b, v⟩) (by omega)
  have l3 := lebL_len10 a (by omega)
  have l4 := lebL_len10 b (by omega)
  have l5 := lebL_len10 v (by omega)
  refine rone_walk n cyc cnt a b v (stepN d ⟨n, cyc, cnt, a, b, v⟩) (foldN d ⟨n, cyc, cnt, a, b, v⟩) (hasA n) (hasB n) (hasV n) ⟨(lebL (stepN d ⟨n, cyc, cnt, a, b, v⟩)).toArray⟩ ⟨(lebL (foldN d ⟨n, cyc, cnt, a, b, v⟩)).toArray⟩ ⟨(lebL a).toArray⟩ ⟨(lebL b).toArray⟩ ⟨(lebL v).toArray⟩
    ⟨[UInt8.ofNat n].toArray⟩ ⟨([UInt8.ofNat n] ++ lebL (stepN d ⟨n, cyc, cnt, a, b, v⟩)).toArray⟩ ⟨([UInt8.ofNat n] ++ lebL (stepN d ⟨n, cyc, cnt, a, b, v⟩) ++ lebL (foldN d ⟨n, cyc, cnt, a, b, v⟩)).toArray⟩ _ w (by omega) fa fb fv ?_ ?_ ?_ ?_ (Lib.hid rfl)
    (Lib.hid fun w' => rprint_any _ (by omega) w') (Lib.hid fun w' => rprint_any _ (by omega) w') (Lib.hid fun w' => rhas_is _ w') (Lib.hid fun w' => rprint_any _ (by omega) w') (Lib.hid fun w' => rprint_any _ (by omega) w') (Lib.hid fun w' => rprint_any _ (by omega) w')
    (Lib.hid (bytes_app _ _)) (Lib.hid (bytes_app _ _)) (Lib.hid ?_) (Lib.hid ?_) (Lib.hid ?_)
  · rw [bytes_size]; simp only [List.length_append, List.length_cons, List.length_nil]; omega
  · rw [bytes_size]; omega
  · rw [bytes_size]; omega
  · rw [bytes_size]; omega
  · rw [bytes_size, bytes_size]; simp only [List.length_cons, List.length_nil]; omega
  · rw [bytes_size, bytes_size]; simp only [List.length_append, List.length_cons, List.length_nil]; omega
  · rw [appC_is, appC_is, appC_is]
    simp [evBytes]

end Go.Proofs.YtobioiicbdhboaaDoor
