/-
  The document's own answers of layer 6 (taffrailref06), Print, over this seat's translation. Conditions: the events' numbers fit; no more than a million events.
-/
import Derived.Test.YtobioiicbdhboaaDoorCoil3
import Derived.Test.YtobioiicbdhboaaDoorCoil8
namespace Go.Proofs.YtobioiicbdhboaaDoor
open Go.RowKit
set_option linter.unusedVariables false
set_option linter.unusedSimpArgs false

/-- The state of the document's Print. -/
structure QL (w wr : World) (l : List Ev) (acc : List UInt8) (k : Nat) : Prop where
  le : k ≤ l.length
  bel : Below w.heap.size w wr
  st : coilL l = joinP acc (coilGo (befE l k) (l.drop k))
  sz : acc.length ≤ 100 * k

theorem ql_go {w wr wr' : World} {l : List Ev} {acc : List UInt8} {k : Nat} (P : QL w wr l acc k) (hf : ∀ e ∈ l, EvFits e) (hk : k < l.length) (d e : Ev) (hd : d = befE l k) (he : e = l[k]) (h0 : putE d e = 0) (b : Below w.heap.size w wr') :
    QL w wr' l (acc ++ evBytes d e) (k + 1) := by
  have f : EvFits e := by rw [he]; exact hf _ (List.getElem_mem hk)
  have hlen := addB_len d e f
  have hadd : addB d e = evBytes d e := by unfold addB; rw [if_pos h0]
  rw [hadd] at hlen
  have hsz := P.sz
  subst hd he
  exact ⟨hk, b, coil_go hk P.st h0, by rw [List.length_append]; omega⟩
theorem ql_bad {w wr : World} {l : List Ev} {acc : List UInt8} {k : Nat} (P : QL w wr l acc k) (hk : k < l.length) (d e : Ev) (hd : d = befE l k) (he : e = l[k]) (h0 : putE d e ≠ 0) : coilL l = ([], putE d e) := by
  subst hd he
  exact coil_bad hk P.st h0

set_option maxRecDepth 100000 in
set_option maxHeartbeats 8000000 in
theorem rprint_all (ao : Option Addr) (cap : Nat) (l : List Ev) (w : World) (hs : SeenE w ao cap l) (hf : ∀ e ∈ l, EvFits e) (hn : l.length ≤ 1000000) :
    Calls Tryd.prog 29 #[.slice ao l.length cap] w fun r w' => r = .returned (.tuple #[.string ⟨(coilL l).1.toArray⟩, .int .i64 (coilL l).2]) ∧ Below w.heap.size w w' := by
  have Hs := Lib.hid hs
  have Hf := Lib.hid hf
  have Hst := Lib.hid (coil_start l)
  clear hs hf
  go_enter Tryd.func29, Tryd.ntmps29
  go_wp2_with fail
  go_loopw [4, 5] (fun x y wr => ∃ (k : Nat) (acc : List UInt8), x = .string ⟨acc.toArray⟩ ∧ y = .int .i64 k ∧ Hid (QL w wr l acc k)) (fun _ y _ => l.length - (intOf y).toNat)
  case atStart => exact ⟨0, [], rfl, rfl, Lib.hid ⟨Nat.zero_le _, Below.refl _ _, Hst.out, by simp⟩⟩
  case round =>
    obtain ⟨k, acc, rfl, rfl, P⟩ := hrel
    by_cases hlt : k < l.length
    · obtain ⟨b, off, rfl, hb, a6⟩ := Hs.out.at k hlt
      have a6 := a6.same (P.out.bel.block b hb)
      obtain ⟨e, he⟩ : ∃ e, e = l[k] := ⟨_, rfl⟩
      rw [← he] at a6
      have A6 := Lib.hid a6
      obtain ⟨c0, c1, c2, c3, c4, c5⟩ := a6
      have He := Lib.hid he
      have fe : EvFits e := by rw [he]; exact Hf.out _ (List.getElem_mem hlt)
      have Fe := Lib.hid fe
      clear he fe
      have hbw : b < wr.heap.size := by have := P.out.bel.size; omega
      have HC := Lib.hid (rcheck_any e wr)
      unfold evV at HC
      obtain ⟨ck, hck⟩ : ∃ ck, ck = checkN e := ⟨_, rfl⟩
      rw [← hck] at HC
      have Hck := Lib.hid hck
      clear hck
      have hk0I : (0 : Int) ≤ (k : Int) := Int.natCast_nonneg _
      have hk1I : (k : Int) < (l.length : Int) := by omega
      go_wp2_with fail
      refine HC.out.mono ?_
      rintro r w1 ⟨rfl, b1⟩
      have a6 := A6.out.same (b1.block b hbw)
      have P1 := Lib.hid (P.out.bel.trans (b1.mono P.out.bel.size))
      have hbw1 : b < w1.heap.size := by have := b1.size; omega
      clear b1 HC A6 c0 c1 c2 c3 c4 c5 hbw
      have A6 := Lib.hid a6
      obtain ⟨c0, c1, c2, c3, c4, c5⟩ := a6
      by_cases hc : ck = 0
      · have hcb : (ck != 0) = false := by rw [hc]; rfl
        have Hc0 := Lib.hid (Hck.out ▸ hc)
        clear hc
        by_cases hk0 : k = 0
        · have hd0 : decide ((0 : Int) < (k : Int)) = false := by simp; omega
          have hd0' : decide (0 < k) = false := by simp; omega
          have hbe : e = befE l k := He.out.trans (bef_zero hlt hk0).symm
          obtain ⟨d, hde⟩ : ∃ d, d = e := ⟨_, rfl⟩
          rw [← hde] at hbe
          have Hbe := Lib.hid hbe
          obtain ⟨w3, x3⟩ : ∃ w3, w3 = w1.alloc (evO d) := ⟨_, rfl⟩
          obtain ⟨-, n3, b3⟩ := new_size x3
          unfold evO at x3
          rw [hde] at x3
          have N3 := Lib.hid n3
          have A3 := Lib.hid (A6.out.same (b3.block b hbw1))
          have B3 := Lib.hid (P1.out.trans (b3.mono P1.out.size))
          have hbw3 : b < w3.heap.size := by have := b3.size; omega
          generalize hX : w1.heap.size = X at *
          clear hk0 hbe n3 b3 P1 A6 hde
          go_wp2_with fail
          rw [← x3]
          clear x3 hX c0 c1 c2 c3 c4 c5 hbw1
          obtain ⟨x, y, hxy, hS⟩ := rsteps_any d e Fe.out.cnt Fe.out.cyc
          unfold evV at hS
          have HS := Lib.hid hS
          have Hxy := Lib.hid hxy
          obtain ⟨tl, htl⟩ : ∃ tl, tl = told d e := ⟨_, rfl⟩
          rw [← htl] at HS Hxy
          have Htl := Lib.hid htl
          clear hS hxy htl
          refine wp_region_rel [.is (.agg #[.int .i64 d.kind, .int .u64 (d.cyc : Int), .int .u64 (d.cnt : Int), .int .u32 (d.a : Int), .int .u32 (d.b : Int), .int .u32 (d.v : Int)]), .is (.slice (some ⟨b, off, none⟩) l.length cap), .is (.int .i64 (k : Int)), .is (.pointer (some ⟨b, off + k * 6, none⟩)), .is (.agg #[.int .i64 e.kind, .int .u64 (e.cyc : Int), .int .u64 (e.cnt : Int), .int .u32 (e.a : Int), .int .u32 (e.b : Int), .int .u32 (e.v : Int)]), .is (.tuple #[.int .u64 x, .int .u64 y, .bool tl]), .is (.tuple #[.int .u64 x, .int .u64 y, .bool tl]), .is (.int .u64 x), .is (.int .u64 y), .is (.bool tl), .is (.int .u64 x), .is (.int .u64 y), .is (.bool tl)]
            (fun w' => Below w3.heap.size w3 w') [(0, 34), (1, 35), (2, 36), (3, 37), (4, 38), (5, 39), (6, 33), (7, 40), (8, 41), (9, 42), (10, 7), (11, 8), (12, 9)] 13 (by kernel_rfl) (by kernel_rfl) (by kernel_rfl) (by kernel_rfl) ?hC ?hs ?hf
          case hC => exact below_drew (Below.refl _ _)
          case hs =>
            refine stepsOk_succ ?s12 (stepsOk_succ ?s11 (stepsOk_succ ?s10 (stepsOk_succ ?s9 (stepsOk_succ ?s8 (stepsOk_succ ?s7 (stepsOk_succ ?s6 (stepsOk_succ ?s5 (stepsOk_succ ?s4 (stepsOk_succ ?s3 (stepsOk_succ ?s2 (stepsOk_succ ?s1 (stepsOk_succ ?s0 (stepsOk_zero)))))))))))))
            case s0 =>
              refine stepOk0 rfl (by kernel_rfl) ?_
              rintro w' hC
              intro K hK
              obtain ⟨c0, c1, c2, c3, c4, c5⟩ := evcells ((hC.block _ (blk_lt N3.out)).trans N3.out)
              go_simp
              exact hK _ _ rfl ⟨rfl, hC, Below.refl _ _⟩
            case s1 =>
              refine stepOk0 rfl (by kernel_rfl) ?_
              rintro w' hC
              intro K hK
              go_simp
              exact hK _ _ rfl ⟨rfl, hC, Below.refl _ _⟩
            case s2 =>
              refine stepOk0 rfl (by kernel_rfl) ?_
              rintro w' hC
              intro K hK
              go_simp
              exact hK _ _ rfl ⟨rfl, hC, Below.refl _ _⟩
            case s3 =>
              refine stepOk2 1 35 2 36 rfl (by kernel_rfl) ?_
              rintro w' hC v1 v2 rfl rfl
              intro K hK
              go_simp
              exact hK _ _ rfl ⟨rfl, hC, Below.refl _ _⟩
            case s4 =>
              refine stepOk1 3 37 rfl (by kernel_rfl) ?_
              rintro w' hC v1 rfl
              intro K hK
              obtain ⟨c0, c1, c2, c3, c4, c5⟩ := A3.out.same (hC.block _ hbw3)
              go_simp
              exact hK _ _ rfl ⟨rfl, hC, Below.refl _ _⟩
            case s5 =>
              refine stepOk2 0 34 4 38 rfl (by kernel_rfl) ?_
              rintro w' hC v1 v2 rfl rfl
              intro K hK
              go_simp
              refine (HS.out w').mono ?_
              rintro e w2 ⟨rfl, h1⟩
              exact hK _ _ rfl ⟨rfl, hC.trans (h1.mono hC.size), h1⟩
            case s6 =>
              refine stepOk1 5 39 rfl (by kernel_rfl) ?_
              rintro w' hC v1 rfl
              intro K hK
              go_simp
              exact hK _ _ rfl ⟨rfl, hC, Below.refl _ _⟩
            case s7 =>
              refine stepOk1 6 33 rfl (by kernel_rfl) ?_
              rintro w' hC v1 rfl
              intro K hK
              go_simp
              exact hK _ _ rfl ⟨rfl, hC, Below.refl _ _⟩
            case s8 =>
              refine stepOk1 6 33 rfl (by kernel_rfl) ?_
              rintro w' hC v1 rfl
              intro K hK
              go_simp
              exact hK _ _ rfl ⟨rfl, hC, Below.refl _ _⟩
            case s9 =>
              refine stepOk1 6 33 rfl (by kernel_rfl) ?_
              rintro w' hC v1 rfl
              intro K hK
              go_simp
              exact hK _ _ rfl ⟨rfl, hC, Below.refl _ _⟩
            case s10 =>
              refine stepOk1 7 40 rfl (by kernel_rfl) ?_
              rintro w' hC v1 rfl
              intro K hK
              go_simp
              exact hK _ _ rfl ⟨rfl, hC, Below.refl _ _⟩
            case s11 =>
              refine stepOk1 8 41 rfl (by kernel_rfl) ?_
              rintro w' hC v1 rfl
              intro K hK
              go_simp
              exact hK _ _ rfl ⟨rfl, hC, Below.refl _ _⟩
            case s12 =>
              refine stepOk1 9 42 rfl (by kernel_rfl) ?_
              rintro w' hC v1 rfl
              intro K hK
              go_simp
              exact hK _ _ rfl ⟨rfl, hC, Below.refl _ _⟩
          case hf =>
            intro w' hC x_ hx
            have e0 : x_ 34 = (.agg #[.int .i64 d.kind, .int .u64 (d.cyc : Int), .int .u64 (d.cnt : Int), .int .u32 (d.a : Int), .int .u32 (d.b : Int), .int .u32 (d.v : Int)]) := hx (0, 34) (by simp)
            have e1 : x_ 35 = (.slice (some ⟨b, off, none⟩) l.length cap) := hx (1, 35) (by simp)
            have e2 : x_ 36 = (.int .i64 (k : Int)) := hx (2, 36) (by simp)
            have e3 : x_ 37 = (.pointer (some ⟨b, off + k * 6, none⟩)) := hx (3, 37) (by simp)
            have e4 : x_ 38 = (.agg #[.int .i64 e.kind, .int .u64 (e.cyc : Int), .int .u64 (e.cnt : Int), .int .u32 (e.a : Int), .int .u32 (e.b : Int), .int .u32 (e.v : Int)]) := hx (4, 38) (by simp)
            have e5 : x_ 39 = (.tuple #[.int .u64 x, .int .u64 y, .bool tl]) := hx (5, 39) (by simp)
            have e6 : x_ 33 = (.tuple #[.int .u64 x, .int .u64 y, .bool tl]) := hx (6, 33) (by simp)
            have e7 : x_ 40 = (.int .u64 x) := hx (7, 40) (by simp)
            have e8 : x_ 41 = (.int .u64 y) := hx (8, 41) (by simp)
            have e9 : x_ 42 = (.bool tl) := hx (9, 42) (by simp)
            have e10 : x_ 7 = (.int .u64 x) := hx (10, 7) (by simp)
            have e11 : x_ 8 = (.int .u64 y) := hx (11, 8) (by simp)
            have e12 : x_ 9 = (.bool tl) := hx (12, 9) (by simp)
            simp only [putAll, List.foldl_cons, List.foldl_nil, e0, e1, e2, e3, e4, e5, e6, e7, e8, e9, e10, e11, e12, Act.put, List.setIfInBounds_toArray, List.set_cons_succ, List.set_cons_zero]
            clear hx e0 e1 e2 e3 e4 e5 e6 e7 e8 e9 e10 e11 e12 HS
            have A4 := Lib.hid (A3.out.same (hC.block _ hbw3))
            have B4 := Lib.hid (B3.out.trans (hC.mono B3.out.size))
            obtain ⟨w4, x4⟩ : ∃ w4, w4 = w' := ⟨_, rfl⟩
            rw [← x4]
            rw [← x4] at A4 B4
            clear x4 hC A3 B3 N3
            cases tl
            · have hp5 : putE d e = 5 := by unfold putE; rw [if_pos Hc0.out, if_neg (by rw [← Htl.out]; decide)]
              have hE := Lib.hid (by have := ql_bad P.out hlt d e Hbe.out He.out (by rw [hp5]; decide); rw [hp5] at this; exact this)
              clear hp5
              go_wp2_with fail
              go_ret2
              rw [hE.out]
              exact ⟨rfl, B4.out⟩
            · obtain ⟨rfl, rfl⟩ := Hxy.out rfl
              have hp0 : putE d e = 0 := by unfold putE; rw [if_pos Hc0.out, if_pos Htl.out.symm]
              have HO := Lib.hid (rone_any d e Fe.out hp0 w4)
              have HQ := Lib.hid (fun wr' bb => ql_go (wr' := wr') P.out Hf.out hlt d e Hbe.out He.out hp0 bb)
              have hz0 := P.out.sz
              have hz1 := addB_len d e Fe.out
              have hadd : addB d e = evBytes d e := by unfold addB; rw [if_pos hp0]
              rw [hadd] at hz1
              obtain ⟨T, hT⟩ : ∃ T : ByteArray, T = ⟨acc.toArray⟩ := ⟨_, rfl⟩
              obtain ⟨S, hS⟩ : ∃ S : ByteArray, S = ⟨(evBytes d e).toArray⟩ := ⟨_, rfl⟩
              have hTz : T.size ≤ 100000000 := by rw [hT, bytes_size]; omega
              have hSz : S.size ≤ 100 := by rw [hS, bytes_size]; exact hz1
              have zb : ¬ 9223372036854775807 < T.size + S.size := by omega
              have HTS := Lib.hid (show T ++ S = ⟨(acc ++ evBytes d e).toArray⟩ by rw [hT, hS, bytes_app])
              rw [← hS] at HO
              rw [← hT]
              unfold evV at HO
              generalize ((stepN d e : Nat) : Int) = x at *
              generalize ((foldN d e : Nat) : Int) = y at *
              clear hT hS hz0 hz1 hadd hp0 Hxy
              obtain ⟨c0, c1, c2, c3, c4, c5⟩ := A4.out
              go_wp2_with fail
              refine HO.out.mono ?_
              rintro r w5 ⟨rfl, b5⟩
              have B5 := Lib.hid (B4.out.trans (b5.mono B4.out.size))
              clear b5 c0 c1 c2 c3 c4 c5 A4 B4 HO
              go_wp2_with fail
              go_roundw
              case rel => exact ⟨k + 1, _, by rw [HTS.out], by go_num, Lib.hid (HQ.out _ B5.out)⟩
              case measure => simp [intOf]; omega
        · have hd0 : decide ((0 : Int) < (k : Int)) = true := by simp; omega
          have hd0' : decide (0 < k) = true := by simp; omega
          obtain ⟨b', off', hao, -, p6⟩ := Hs.out.at (k - 1) (by omega)
          cases hao
          have p6 := p6.same (P1.out.block b hb)
          obtain ⟨q0, q1, q2, q3, q4, q5⟩ := p6
          obtain ⟨d, hd⟩ : ∃ d, d = l[k - 1] := ⟨_, rfl⟩
          rw [← hd] at q0 q1 q2 q3 q4 q5
          have hkk : ((k : Int) - 1).toNat = k - 1 := by omega
          have Hbe := Lib.hid (show d = befE l k by rw [hd]; unfold befE; simp [List.getD_eq_getElem?_getD, List.getElem?_eq_getElem (show k - 1 < l.length by omega)])
          clear hd
          obtain ⟨w3, x3⟩ : ∃ w3, w3 = w1.alloc (evO d) := ⟨_, rfl⟩
          obtain ⟨-, n3, b3⟩ := new_size x3
          unfold evO at x3
          have N3 := Lib.hid n3
          have A3 := Lib.hid (A6.out.same (b3.block b hbw1))
          have B3 := Lib.hid (P1.out.trans (b3.mono P1.out.size))
          have hbw3 : b < w3.heap.size := by have := b3.size; omega
          have hbX : b ≠ w1.heap.size := by omega
          clear n3 b3 P1 A6
          go_wp2_with fail
          rw [← x3]
          generalize hX : w1.heap.size = X at *
          clear x3 hX c0 c1 c2 c3 c4 c5 q0 q1 q2 q3 q4 q5 hbw1 hk0 hbX hkk
          obtain ⟨x, y, hxy, hS⟩ := rsteps_any d e Fe.out.cnt Fe.out.cyc
          unfold evV at hS
          have HS := Lib.hid hS
          have Hxy := Lib.hid hxy
          obtain ⟨tl, htl⟩ : ∃ tl, tl = told d e := ⟨_, rfl⟩
          rw [← htl] at HS Hxy
          have Htl := Lib.hid htl
          clear hS hxy htl
          refine wp_region_rel [.is (.agg #[.int .i64 d.kind, .int .u64 (d.cyc : Int), .int .u64 (d.cnt : Int), .int .u32 (d.a : Int), .int .u32 (d.b : Int), .int .u32 (d.v : Int)]), .is (.slice (some ⟨b, off, none⟩) l.length cap), .is (.int .i64 (k : Int)), .is (.pointer (some ⟨b, off + k * 6, none⟩)), .is (.agg #[.int .i64 e.kind, .int .u64 (e.cyc : Int), .int .u64 (e.cnt : Int), .int .u32 (e.a : Int), .int .u32 (e.b : Int), .int .u32 (e.v : Int)]), .is (.tuple #[.int .u64 x, .int .u64 y, .bool tl]), .is (.tuple #[.int .u64 x, .int .u64 y, .bool tl]), .is (.int .u64 x), .is (.int .u64 y), .is (.bool tl), .is (.int .u64 x), .is (.int .u64 y), .is (.bool tl)]
            (fun w' => Below w3.heap.size w3 w') [(0, 34), (1, 35), (2, 36), (3, 37), (4, 38), (5, 39), (6, 33), (7, 40), (8, 41), (9, 42), (10, 7), (11, 8), (12, 9)] 13 (by kernel_rfl) (by kernel_rfl) (by kernel_rfl) (by kernel_rfl) ?hC ?hs ?hf
          case hC => exact below_drew (Below.refl _ _)
          case hs =>
            refine stepsOk_succ ?s12 (stepsOk_succ ?s11 (stepsOk_succ ?s10 (stepsOk_succ ?s9 (stepsOk_succ ?s8 (stepsOk_succ ?s7 (stepsOk_succ ?s6 (stepsOk_succ ?s5 (stepsOk_succ ?s4 (stepsOk_succ ?s3 (stepsOk_succ ?s2 (stepsOk_succ ?s1 (stepsOk_succ ?s0 (stepsOk_zero)))))))))))))
            case s0 =>
              refine stepOk0 rfl (by kernel_rfl) ?_
              rintro w' hC
              intro K hK
              obtain ⟨c0, c1, c2, c3, c4, c5⟩ := evcells ((hC.block _ (blk_lt N3.out)).trans N3.out)
              go_simp
              exact hK _ _ rfl ⟨rfl, hC, Below.refl _ _⟩
            case s1 =>
              refine stepOk0 rfl (by kernel_rfl) ?_
              rintro w' hC
              intro K hK
              go_simp
              exact hK _ _ rfl ⟨rfl, hC, Below.refl _ _⟩
            case s2 =>
              refine stepOk0 rfl (by kernel_rfl) ?_
              rintro w' hC
              intro K hK
              go_simp
              exact hK _ _ rfl ⟨rfl, hC, Below.refl _ _⟩
            case s3 =>
              refine stepOk2 1 35 2 36 rfl (by kernel_rfl) ?_
              rintro w' hC v1 v2 rfl rfl
              intro K hK
              go_simp
              exact hK _ _ rfl ⟨rfl, hC, Below.refl _ _⟩
            case s4 =>
              refine stepOk1 3 37 rfl (by kernel_rfl) ?_
              rintro w' hC v1 rfl
              intro K hK
              obtain ⟨c0, c1, c2, c3, c4, c5⟩ := A3.out.same (hC.block _ hbw3)
              go_simp
              exact hK _ _ rfl ⟨rfl, hC, Below.refl _ _⟩
            case s5 =>
              refine stepOk2 0 34 4 38 rfl (by kernel_rfl) ?_
              rintro w' hC v1 v2 rfl rfl
              intro K hK
              go_simp
              refine (HS.out w').mono ?_
              rintro e w2 ⟨rfl, h1⟩
              exact hK _ _ rfl ⟨rfl, hC.trans (h1.mono hC.size), h1⟩
            case s6 =>
              refine stepOk1 5 39 rfl (by kernel_rfl) ?_
              rintro w' hC v1 rfl
              intro K hK
              go_simp
              exact hK _ _ rfl ⟨rfl, hC, Below.refl _ _⟩
            case s7 =>
              refine stepOk1 6 33 rfl (by kernel_rfl) ?_
              rintro w' hC v1 rfl
              intro K hK
              go_simp
              exact hK _ _ rfl ⟨rfl, hC, Below.refl _ _⟩
            case s8 =>
              refine stepOk1 6 33 rfl (by kernel_rfl) ?_
              rintro w' hC v1 rfl
              intro K hK
              go_simp
              exact hK _ _ rfl ⟨rfl, hC, Below.refl _ _⟩
            case s9 =>
              refine stepOk1 6 33 rfl (by kernel_rfl) ?_
              rintro w' hC v1 rfl
              intro K hK
              go_simp
              exact hK _ _ rfl ⟨rfl, hC, Below.refl _ _⟩
            case s10 =>
              refine stepOk1 7 40 rfl (by kernel_rfl) ?_
              rintro w' hC v1 rfl
              intro K hK
              go_simp
              exact hK _ _ rfl ⟨rfl, hC, Below.refl _ _⟩
            case s11 =>
              refine stepOk1 8 41 rfl (by kernel_rfl) ?_
              rintro w' hC v1 rfl
              intro K hK
              go_simp
              exact hK _ _ rfl ⟨rfl, hC, Below.refl _ _⟩
            case s12 =>
              refine stepOk1 9 42 rfl (by kernel_rfl) ?_
              rintro w' hC v1 rfl
              intro K hK
              go_simp
              exact hK _ _ rfl ⟨rfl, hC, Below.refl _ _⟩
          case hf =>
            intro w' hC x_ hx
            have e0 : x_ 34 = (.agg #[.int .i64 d.kind, .int .u64 (d.cyc : Int), .int .u64 (d.cnt : Int), .int .u32 (d.a : Int), .int .u32 (d.b : Int), .int .u32 (d.v : Int)]) := hx (0, 34) (by simp)
            have e1 : x_ 35 = (.slice (some ⟨b, off, none⟩) l.length cap) := hx (1, 35) (by simp)
            have e2 : x_ 36 = (.int .i64 (k : Int)) := hx (2, 36) (by simp)
            have e3 : x_ 37 = (.pointer (some ⟨b, off + k * 6, none⟩)) := hx (3, 37) (by simp)
            have e4 : x_ 38 = (.agg #[.int .i64 e.kind, .int .u64 (e.cyc : Int), .int .u64 (e.cnt : Int), .int .u32 (e.a : Int), .int .u32 (e.b : Int), .int .u32 (e.v : Int)]) := hx (4, 38) (by simp)
            have e5 : x_ 39 = (.tuple #[.int .u64 x, .int .u64 y, .bool tl]) := hx (5, 39) (by simp)
            have e6 : x_ 33 = (.tuple #[.int .u64 x, .int .u64 y, .bool tl]) := hx (6, 33) (by simp)
            have e7 : x_ 40 = (.int .u64 x) := hx (7, 40) (by simp)
            have e8 : x_ 41 = (.int .u64 y) := hx (8, 41) (by simp)
            have e9 : x_ 42 = (.bool tl) := hx (9, 42) (by simp)
            have e10 : x_ 7 = (.int .u64 x) := hx (10, 7) (by simp)
            have e11 : x_ 8 = (.int .u64 y) := hx (11, 8) (by simp)
            have e12 : x_ 9 = (.bool tl) := hx (12, 9) (by simp)
            simp only [putAll, List.foldl_cons, List.foldl_nil, e0, e1, e2, e3, e4, e5, e6, e7, e8, e9, e10, e11, e12, Act.put, List.setIfInBounds_toArray, List.set_cons_succ, List.set_cons_zero]
            clear hx e0 e1 e2 e3 e4 e5 e6 e7 e8 e9 e10 e11 e12 HS
            have A4 := Lib.hid (A3.out.same (hC.block _ hbw3))
            have B4 := Lib.hid (B3.out.trans (hC.mono B3.out.size))
            obtain ⟨w4, x4⟩ : ∃ w4, w4 = w' := ⟨_, rfl⟩
            rw [← x4]
            rw [← x4] at A4 B4
            clear x4 hC A3 B3 N3
            cases tl
            · have hp5 : putE d e = 5 := by unfold putE; rw [if_pos Hc0.out, if_neg (by rw [← Htl.out]; decide)]
              have hE := Lib.hid (by have := ql_bad P.out hlt d e Hbe.out He.out (by rw [hp5]; decide); rw [hp5] at this; exact this)
              clear hp5
              go_wp2_with fail
              go_ret2
              rw [hE.out]
              exact ⟨rfl, B4.out⟩
            · obtain ⟨rfl, rfl⟩ := Hxy.out rfl
              have hp0 : putE d e = 0 := by unfold putE; rw [if_pos Hc0.out, if_pos Htl.out.symm]
              have HO := Lib.hid (rone_any d e Fe.out hp0 w4)
              have HQ := Lib.hid (fun wr' bb => ql_go (wr' := wr') P.out Hf.out hlt d e Hbe.out He.out hp0 bb)
              have hz0 := P.out.sz
              have hz1 := addB_len d e Fe.out
              have hadd : addB d e = evBytes d e := by unfold addB; rw [if_pos hp0]
              rw [hadd] at hz1
              obtain ⟨T, hT⟩ : ∃ T : ByteArray, T = ⟨acc.toArray⟩ := ⟨_, rfl⟩
              obtain ⟨S, hS⟩ : ∃ S : ByteArray, S = ⟨(evBytes d e).toArray⟩ := ⟨_, rfl⟩
              have hTz : T.size ≤ 100000000 := by rw [hT, bytes_size]; omega
              have hSz : S.size ≤ 100 := by rw [hS, bytes_size]; exact hz1
              have zb : ¬ 9223372036854775807 < T.size + S.size := by omega
              have HTS := Lib.hid (show T ++ S = ⟨(acc ++ evBytes d e).toArray⟩ by rw [hT, hS, bytes_app])
              rw [← hS] at HO
              rw [← hT]
              unfold evV at HO
              generalize ((stepN d e : Nat) : Int) = x at *
              generalize ((foldN d e : Nat) : Int) = y at *
              clear hT hS hz0 hz1 hadd hp0 Hxy
              obtain ⟨c0, c1, c2, c3, c4, c5⟩ := A4.out
              go_wp2_with fail
              refine HO.out.mono ?_
              rintro r w5 ⟨rfl, b5⟩
              have B5 := Lib.hid (B4.out.trans (b5.mono B4.out.size))
              clear b5 c0 c1 c2 c3 c4 c5 A4 B4 HO
              go_wp2_with fail
              go_roundw
              case rel => exact ⟨k + 1, _, by rw [HTS.out], by go_num, Lib.hid (HQ.out _ B5.out)⟩
              case measure => simp [intOf]; omega
      · have hcb : (ck != 0) = true := by rw [bne_iff_ne]; exact hc
        have hp3 : putE (befE l k) e = 3 := by unfold putE; rw [if_neg (by rw [← Hck.out]; exact hc)]
        have hE := Lib.hid (by have := ql_bad P.out hlt _ e rfl He.out (by rw [hp3]; decide); rw [hp3] at this; exact this)
        clear hc hp3
        go_wp2
        go_ret2
        rw [hE.out]
        exact ⟨rfl, P1.out⟩
    · have hE := Lib.hid (coil_end hlt P.out.st)
      have HB := Lib.hid P.out.bel
      clear P
      go_wp2_with fail
      go_ret2
      rw [hE.out]
      exact ⟨rfl, HB.out⟩

end Go.Proofs.YtobioiicbdhboaaDoor
