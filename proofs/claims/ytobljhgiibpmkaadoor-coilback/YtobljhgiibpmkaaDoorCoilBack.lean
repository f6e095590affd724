/-
  CoilBack: for every slice of events the statement's function answers true: what is printed is read as it was. Conditions: none beyond the card's own: the listed package variables start as the program's text lays them, which the card ties to that text.
-/
import Derived.Test.YtobljhgiibpmkaaDoorCoilKit
import Derived.Test.YtobljhgiibpmkaaDoorCoilM
import Derived.Test.YtobljhgiibpmkaaDoorTie
import Derived.Test.YtobljhgiibpmkaaDoorCards
import Derived.ProofKit
import Derived.OpenShut
import Derived.ShutString
import Derived.LaidMore
import Derived.Lay
import Derived.SevenTiedAt
import Derived.Stop.Joined
import Derived.Deep.DeepHandedRow
namespace Go.Proofs.YtobljhgiibpmkaaDoor.CoilBack
open Go.ChangeShapes Go.WideShapes Go.ChangeAt Go.RowKit
open Go.ChangeMaps (open_string shut_string)
set_option linter.unusedVariables false
set_option linter.unusedSimpArgs false

set_option maxRecDepth 100000 in
set_option maxHeartbeats 2000000 in
theorem walk_out (ao : Option Addr) (len cap : Nat) (hl : decide ((len : Int) < 1) = true ∨ (decide ((len : Int) < 1) = false ∧ decide ((100 : Int) < (len : Int)) = true)) (w : World) (hL : EvL w) :
    Calls Tryd.prog 5 #[.slice ao len cap] w fun r w' => r = .returned (.bool true) ∧ Below w.heap.size w w' := by
  have HA := Lib.hid (awake6_any w hL)
  have HL := Lib.hid hL
  clear hL
  rcases hl with h1 | ⟨h1, h2⟩
  · go_enter Tryd.func5, Tryd.ntmps5
    go_wp2_with fail
    refine HA.out.mono ?_
    rintro r w2 ⟨rfl, h2⟩
    have L2 := Lib.hid (HL.out.below h2)
    have B2 := Lib.hid h2
    clear h2 HA HL
    go_wp2_with fail
    refine (awake6_any w2 L2.out).mono ?_
    rintro r w3 ⟨rfl, h3⟩
    have B3 := Lib.hid (B2.out.trans (h3.mono B2.out.size))
    clear h3
    go_wp2_with fail
    go_ret
    exact ⟨rfl, B3.out⟩
  · go_enter Tryd.func5, Tryd.ntmps5
    go_wp2_with fail
    refine HA.out.mono ?_
    rintro r w2 ⟨rfl, h2⟩
    have L2 := Lib.hid (HL.out.below h2)
    have B2 := Lib.hid h2
    clear h2 HA HL
    go_wp2_with fail
    refine (awake6_any w2 L2.out).mono ?_
    rintro r w3 ⟨rfl, h3⟩
    have B3 := Lib.hid (B2.out.trans (h3.mono B2.out.size))
    clear h3
    go_wp2_with fail
    go_ret
    exact ⟨rfl, B3.out⟩

set_option maxRecDepth 100000 in
set_option maxHeartbeats 8000000 in
theorem walk_few (ao : Option Addr) (cap : Nat) (l : List Ev) (hl1 : decide ((l.length : Int) < 1) = false) (hl : decide ((100 : Int) < (l.length : Int)) = false) (w : World) (hs : SeenE w ao cap l) (hf : ∀ e ∈ l, EvFits e) (hL : EvL w) :
    Calls Tryd.prog 5 #[.slice ao l.length cap] w fun r w' => r = .returned (.bool true) ∧ Below w.heap.size w w' := by
  have hn : l.length ≤ 100 := by simp only [decide_eq_false_iff_not] at hl; omega
  have hp : 0 < l.length := by simp only [decide_eq_false_iff_not] at hl1; omega
  have Hn := Lib.hid (show l.length ≤ 1000000 by omega)
  have HA := Lib.hid (awake6_any w hL)
  have HL := Lib.hid hL
  have HS := Lib.hid hs
  obtain ⟨S, hS⟩ : ∃ S : ByteArray, S = ⟨(coilL l).1.toArray⟩ := ⟨_, rfl⟩
  obtain ⟨c, hc⟩ : ∃ c : Int, c = (coilL l).2 := ⟨_, rfl⟩
  have HP : Hid (∀ ao cap w', SeenE w' ao cap l → EvL w' → Calls Tryd.prog 10 #[.slice ao l.length cap] w' fun r w'' => r = .returned (.tuple #[.string S, .int .i64 c]) ∧ Below w'.heap.size w' w'') :=
    Lib.hid (by rw [hS, hc]; exact fun ao cap w' h1 h2 => print_any ao cap l w' h1 h2 hf Hn.out)
  have hzl : S.size = (coilL l).1.length := by rw [hS]; simp [ByteArray.size]
  have hz : S.size ≤ 1000000 := by
    have := coil_len l (l.getD 0 ev0) hf
    have e : (coilL l).1.length = (coilGo (l.getD 0 ev0) l).1.length := rfl
    omega
  obtain ⟨b, off, rfl, hb, a6⟩ := hs.at 0 hp
  obtain ⟨e, he⟩ : ∃ e, e = l[0] := ⟨_, rfl⟩
  have fe : EvFits e := by rw [he]; exact hf _ (List.getElem_mem hp)
  have HR : Hid (c = 0 → ∀ w', EvL w' → Calls Tryd.prog 12 #[.int .u64 (e.cyc : Int), .int .u64 (e.cnt : Int), .string S] w' fun r w'' => ∃ mo mc, r = .returned (.tuple #[.slice mo l.length mc, .int .i64 0]) ∧ SeenE w'' mo mc l ∧ Below w'.heap.size w' w'') :=
    Lib.hid (fun h0 w' h' => by
      have := read_any' e.cyc e.cnt S hz fe.cyc fe.cnt w' h'
      rw [show S.data.toList = (coilL l).1 by rw [hS], coil_back (e := e) (by rw [he, List.getElem?_eq_getElem hp]) hf (by rw [← hc]; exact h0)] at this
      exact this)
  rw [← he] at a6
  simp only [Nat.zero_mul, Nat.add_zero] at a6
  have A0 := Lib.hid a6
  have hlI : (0 : Int) < (l.length : Int) := by omega
  clear hL hs hf hn hS hc hzl hz he fe a6
  go_enter Tryd.func5, Tryd.ntmps5
  go_wp2_with fail
  refine HA.out.mono ?_
  rintro r w2 ⟨rfl, h2⟩
  have B2 := Lib.hid h2
  obtain ⟨w3, e3⟩ : ∃ w3, w3 = w2.alloc (.cells #[] 39) := ⟨_, rfl⟩
  obtain ⟨s3, -, b3⟩ := new_size e3
  have O3 : Hid (w3.ownsRow w2.heap.size 39 6 (.slice (some ⟨w2.heap.size, 0, none⟩) 0 0) 0 []) := Lib.hid (by rw [e3]; exact World.ownsRow_lit w2 #[] 0 (Nat.le_refl _) (by decide) rfl)
  have B3 := Lib.hid (B2.out.trans (b3.mono B2.out.size))
  have Hsz := Lib.hid s3
  have Hgt := Lib.hid (show w.heap.size ≤ w2.heap.size from h2.size)
  obtain ⟨D, hD⟩ : ∃ D, w2.heap.size = D := ⟨_, rfl⟩
  rw [hD] at O3 Hsz Hgt
  have HD := Lib.hid hD
  clear h2 HA B2 s3 b3 hD
  go_wp2_with (at_builtin; rw [← e3, HD.out]; refine wpList_copy rfl _ _ rfl D _ rfl O3.out (some ⟨b, off, none⟩) cap l rfl (HS.out.below B3.out) Hn.out (by have := Hsz.out; omega) ?_)
  intro v' w4 h4 g4
  rw [← e3] at g4
  have B4 := Lib.hid (below_grown B3.out (by have := Hsz.out; have := Hgt.out; omega) Hgt.out g4)
  obtain ⟨ao4, cap4, rfl, s4, -⟩ := h4.seen
  have S4 := Lib.hid s4
  clear h4 g4 s4 e3 O3 B3 Hsz Hgt HD
  go_wp2_with fail
  refine (HP.out _ _ w4 S4.out (HL.out.below B4.out)).mono ?_
  rintro r w5 ⟨rfl, h5⟩
  have B5 := Lib.hid (B4.out.trans (h5.mono B4.out.size))
  clear h5 B4 S4 HP
  by_cases hc0 : c = 0
  · have hcb : (c != 0) = false := by rw [hc0]; rfl
    have HR := Lib.hid (HR.out hc0)
    have A5 := Lib.hid (A0.out.same (B5.out.block _ hb))
    have hbw : b < w5.heap.size := by have := B5.out.size; omega
    clear hc0 A0
    go_wp2_with fail
    refine wp_region_rel [.is (.slice (some ⟨b, off, none⟩) l.length cap), .is (.pointer (some ⟨b, off, none⟩)), .is (.pointer (some ⟨b, off + 1, none⟩)), .is (.int .u64 (e.cyc : Int)), .is (.slice (some ⟨b, off, none⟩) l.length cap), .is (.pointer (some ⟨b, off, none⟩)), .is (.pointer (some ⟨b, off + 2, none⟩)), .is (.int .u64 (e.cnt : Int)), .is (.string S), .has (fun v w => ∃ mo mc, v = .tuple #[.slice mo l.length mc, .int .i64 0] ∧ SeenE w mo mc l) (fun v w w' hb ⟨mo, mc, h1, h2⟩ => ⟨mo, mc, h1, h2.below hb⟩), .has (fun v w => ∃ mo mc, v = .tuple #[.slice mo l.length mc, .int .i64 0] ∧ SeenE w mo mc l) (fun v w w' hb ⟨mo, mc, h1, h2⟩ => ⟨mo, mc, h1, h2.below hb⟩), .has (fun v w => ∃ mo mc, v = .slice mo l.length mc ∧ SeenE w mo mc l) (fun v w w' hb ⟨mo, mc, h1, h2⟩ => ⟨mo, mc, h1, h2.below hb⟩), .is (.int .i64 0), .has (fun v w => ∃ mo mc, v = .slice mo l.length mc ∧ SeenE w mo mc l) (fun v w w' hb ⟨mo, mc, h1, h2⟩ => ⟨mo, mc, h1, h2.below hb⟩), .is (.int .i64 0)]
      (fun w' => Below w5.heap.size w5 w') [(0, 30), (1, 31), (2, 32), (3, 33), (4, 34), (5, 35), (6, 36), (7, 37), (8, 38), (9, 39), (10, 29), (11, 40), (12, 41), (13, 5), (14, 6)] 15 (by kernel_rfl) (by kernel_rfl) (by kernel_rfl) (by kernel_rfl) ?hC ?hs ?hf
    case hC => exact ⟨rfl, rfl, rfl, Nat.le_refl _, fun _ _ => rfl⟩
    case hs =>
      refine stepsOk_succ ?s14 (stepsOk_succ ?s13 (stepsOk_succ ?s12 (stepsOk_succ ?s11 (stepsOk_succ ?s10 (stepsOk_succ ?s9 (stepsOk_succ ?s8 (stepsOk_succ ?s7 (stepsOk_succ ?s6 (stepsOk_succ ?s5 (stepsOk_succ ?s4 (stepsOk_succ ?s3 (stepsOk_succ ?s2 (stepsOk_succ ?s1 (stepsOk_succ ?s0 (stepsOk_zero)))))))))))))))
      case s0 =>
        refine stepOk0 rfl (by kernel_rfl) ?_
        rintro w' hC
        intro K hK
        go_simp
        exact hK _ _ rfl ⟨rfl, hC, Below.refl _ _⟩
      case s1 =>
        refine stepOk1 0 30 rfl (by kernel_rfl) ?_
        rintro w' hC v1 rfl
        intro K hK
        go_simp
        exact hK _ _ rfl ⟨rfl, hC, Below.refl _ _⟩
      case s2 =>
        refine stepOk1 1 31 rfl (by kernel_rfl) ?_
        rintro w' hC v1 rfl
        intro K hK
        go_simp
        exact hK _ _ rfl ⟨rfl, hC, Below.refl _ _⟩
      case s3 =>
        refine stepOk1 2 32 rfl (by kernel_rfl) ?_
        rintro w' hC v1 rfl
        intro K hK
        obtain ⟨c0, c1, c2, c3, c4, c5⟩ := A5.out.same (hC.block _ hbw)
        go_simp
        exact hK _ _ rfl ⟨rfl, hC, Below.refl _ _⟩
      case s4 =>
        refine stepOk0 rfl (by kernel_rfl) ?_
        rintro w' hC
        intro K hK
        go_simp
        exact hK _ _ rfl ⟨rfl, hC, Below.refl _ _⟩
      case s5 =>
        refine stepOk1 4 34 rfl (by kernel_rfl) ?_
        rintro w' hC v1 rfl
        intro K hK
        go_simp
        exact hK _ _ rfl ⟨rfl, hC, Below.refl _ _⟩
      case s6 =>
        refine stepOk1 5 35 rfl (by kernel_rfl) ?_
        rintro w' hC v1 rfl
        intro K hK
        go_simp
        exact hK _ _ rfl ⟨rfl, hC, Below.refl _ _⟩
      case s7 =>
        refine stepOk1 6 36 rfl (by kernel_rfl) ?_
        rintro w' hC v1 rfl
        intro K hK
        obtain ⟨c0, c1, c2, c3, c4, c5⟩ := A5.out.same (hC.block _ hbw)
        go_simp
        exact hK _ _ rfl ⟨rfl, hC, Below.refl _ _⟩
      case s8 =>
        refine stepOk0 rfl (by kernel_rfl) ?_
        rintro w' hC
        intro K hK
        go_simp
        exact hK _ _ rfl ⟨rfl, hC, Below.refl _ _⟩
      case s9 =>
        refine stepOk3 3 33 7 37 8 38 rfl (by kernel_rfl) ?_
        rintro w' hC v1 v2 v3 rfl rfl rfl
        intro K hK
        go_simp
        refine (HR.out w' (HL.out.below (B5.out.trans (hC.mono B5.out.size)))).mono ?_
        rintro e w2 ⟨mo, mc, rfl, h1, h2⟩
        exact hK _ _ rfl ⟨⟨mo, mc, rfl, h1⟩, hC.trans (h2.mono hC.size), h2⟩
      case s10 =>
        refine stepOk1 9 39 rfl (by kernel_rfl) ?_
        rintro w' hC v1 ⟨mo, mc, rfl, hm⟩
        intro K hK
        go_simp
        exact hK _ _ rfl ⟨⟨mo, mc, rfl, hm⟩, hC, Below.refl _ _⟩
      case s11 =>
        refine stepOk1 10 29 rfl (by kernel_rfl) ?_
        rintro w' hC v1 ⟨mo, mc, rfl, hm⟩
        intro K hK
        go_simp
        exact hK _ _ rfl ⟨⟨mo, mc, rfl, hm⟩, hC, Below.refl _ _⟩
      case s12 =>
        refine stepOk1 10 29 rfl (by kernel_rfl) ?_
        rintro w' hC v1 ⟨mo, mc, rfl, hm⟩
        intro K hK
        go_simp
        exact hK _ _ rfl ⟨rfl, hC, Below.refl _ _⟩
      case s13 =>
        refine stepOk1 11 40 rfl (by kernel_rfl) ?_
        rintro w' hC v1 ⟨mo, mc, rfl, hm⟩
        intro K hK
        go_simp
        exact hK _ _ rfl ⟨⟨mo, mc, rfl, hm⟩, hC, Below.refl _ _⟩
      case s14 =>
        refine stepOk1 12 41 rfl (by kernel_rfl) ?_
        rintro w' hC v1 rfl
        intro K hK
        go_simp
        exact hK _ _ rfl ⟨rfl, hC, Below.refl _ _⟩
    case hf =>
      intro w' hC x_ hx
      have e0 : x_ 30 = (.slice (some ⟨b, off, none⟩) l.length cap) := hx (0, 30) (by simp)
      have e1 : x_ 31 = (.pointer (some ⟨b, off, none⟩)) := hx (1, 31) (by simp)
      have e2 : x_ 32 = (.pointer (some ⟨b, off + 1, none⟩)) := hx (2, 32) (by simp)
      have e3 : x_ 33 = (.int .u64 (e.cyc : Int)) := hx (3, 33) (by simp)
      have e4 : x_ 34 = (.slice (some ⟨b, off, none⟩) l.length cap) := hx (4, 34) (by simp)
      have e5 : x_ 35 = (.pointer (some ⟨b, off, none⟩)) := hx (5, 35) (by simp)
      have e6 : x_ 36 = (.pointer (some ⟨b, off + 2, none⟩)) := hx (6, 36) (by simp)
      have e7 : x_ 37 = (.int .u64 (e.cnt : Int)) := hx (7, 37) (by simp)
      have e8 : x_ 38 = (.string S) := hx (8, 38) (by simp)
      have e12 : x_ 41 = (.int .i64 0) := hx (12, 41) (by simp)
      have e14 : x_ 6 = (.int .i64 0) := hx (14, 6) (by simp)
      obtain ⟨mo, mc, e13, hm⟩ : ∃ mo mc, x_ 5 = .slice mo l.length mc ∧ SeenE w' mo mc l := hx (13, 5) (by simp)
      simp only [putAll, List.foldl_cons, List.foldl_nil, e0, e1, e2, e3, e4, e5, e6, e7, e8, e12, e14, e13, Act.put, List.setIfInBounds_toArray, List.set_cons_succ, List.set_cons_zero]
      clear hx e0 e1 e2 e3 e4 e5 e6 e7 e8 e12 e14 e13
      have B6 := Lib.hid (B5.out.trans (hC.mono B5.out.size))
      have HQ := Lib.hid (same_any (some ⟨b, off, none⟩) mo cap mc l w' (HS.out.below B6.out) hm)
      clear hC hm
      go_wp2_with fail
      refine HQ.out.mono ?_
      rintro r w7 ⟨rfl, h7⟩
      have B7 := Lib.hid (below_drawn B6.out h7)
      clear h7 HQ B6
      go_wp2_with fail
      go_ret
      exact ⟨rfl, B7.out⟩
  · have hcb : (c != 0) = true := by rw [bne_iff_ne]; exact hc0
    clear hc0
    go_wp2_with fail
    go_ret
    exact ⟨rfl, B5.out⟩

theorem walk {W : World} (ao : Option Addr) (len cap : Nat) (l : List Ev) (h : l.length = len ∧ SeenE W ao cap l ∧ ∀ e ∈ l, EvFits e) (hL : EvL W) :
    Calls Tryd.prog 5 #[.slice ao len cap] W fun r w' => r = .returned (.bool true) ∧ Below W.heap.size W w' := by
  obtain ⟨rfl, h1, h2⟩ := h
  by_cases h0 : (l.length : Int) < 1
  · exact walk_out ao _ cap (.inl (by rw [decide_eq_true_iff]; exact h0)) W hL
  · by_cases hl : (100 : Int) < (l.length : Int)
    · exact walk_out ao _ cap (.inr ⟨by rw [decide_eq_false_iff_not]; exact h0, by rw [decide_eq_true_iff]; exact hl⟩) W hL
    · exact walk_few ao cap l (by rw [decide_eq_false_iff_not]; exact h0) (by rw [decide_eq_false_iff_not]; exact hl) W h1 h2 hL

theorem own : ownKnob Tryd.prog.godebug = none := by kernel_rfl
theorem laidOut : laidOutB Tryd.prog = true := by kernel_rfl

set_option maxRecDepth 100000 in
theorem lifted (os : Os) (started : os.Started) (H : Type) (enc : TypeId × Value → H) :
    ReturnsInHanded {} Tryd.checked os 5 .any (fun w args => (Rows.coilBackSpec.pre enc Tryd.prog Tryd.f5 Rows.coilBackRow.domain false w args ∧ laidMetH Tryd.prog laidL w) ∧ sizedMet enc Tryd.prog Tryd.f5 (OpenSpec.ofChange Rows.coilBackSpec) false w args) (Rows.coilBackSpec.post enc Tryd.prog Tryd.f5 false true false false) := by
  refine returnsInHanded_of_row (s := OpenSpec.ofChange Rows.coilBackSpec) (F := fun _ _ _ => 0) (laid := laidL) (C := Tryd.checked) own started (by kernel_rfl) Tryd.func5
    (ChangeSpec.witness_shaped (enc := enc) (C := Tryd.checked) (os := os) (s := Rows.coilBackSpec) (X := fun w _ => laidMetH Tryd.prog laidL w) false (World.laidAll Tryd.prog os laidL) #[.slice none 0 0] 8 (World.laidAll_os _ _ _)
      (World.shaped_of_ZipB (by kernel_rfl) (by kernel_rfl)) (by kernel_rfl) (by kernel_rfl) (by kernel_rfl)
      (by rw [MakeChecks.laidMetH_plain _ _ _ (by kernel_rfl)]; exact laidMet_laidAll _ (by kernel_rfl) (by kernel_rfl))) ?_
  intro W base args ds gs before hval0 hW hcnd _ hsz0 hL hsh _
  have hval : ∀ (j : Nat) t v, Tryd.f5.params[j]? = some t → args[j]? = some v → Value.okWide Tryd.prog W .any base t v := hval0
  have hW' := hW
  obtain ⟨p, q, hA0, hV, rfl, hfz, hnd⟩ := hW
  have hA : DataW.TrodAll enc Tryd.prog W 0 (fun _ => true) true Tryd.f5.params.toList args.toList ds p := hA0
  rw [Tryd.params5] at hA hval
  obtain ⟨v0, vs0, d0, ds0, p0, q0, hargs, rfl, rfl, h0, r0⟩ := trodAll_cons hA
  obtain ⟨rfl, rfl, rfl⟩ := trodAll_nil r0
  obtain rfl : args = #[v0] := by cases args; simp_all
  obtain ⟨rfl, rfl⟩ := trodVars_none hV
  have k0 := h0
  have lt0 : ∀ x ∈ p0, x.block < W.heap.size := by obtain ⟨m, hm⟩ := k0; exact DataW.trod_lt m _ _ _ hm
  obtain ⟨a0, len0, cap0, rfl⟩ := okWide_slice Tryd.underlying22 (hval 0 22 v0 rfl rfl)
  obtain ⟨z0, w0⟩ := open_evs h0
  clear hA0 hval0
  refine (walk a0 len0 cap0 z0 w0 (of_laid hL hsh)).mono fun e W' ⟨he, bel⟩ => ?_
  subst he
  exact ⟨_, rfl, _, _, _, [], _, [], hW', trodAll_mk1 (shut_bool Tryd.underlying4 _), (trodAll_cons_mk (Below.trod laidOut (by kernel_rfl) (of_decide_eq_true (by kernel_rfl)) k0 bel lt0) trodAll_mk0), rfl, bel.frame _, fun h => by cases h⟩

theorem over : Rows.CoilBackSaid :=
  OpenClaim.holds_of_wide 5 Tryd.f5 rfl rfl rfl rfl rfl rfl rfl ⟨rfl, rfl, rfl, rfl, rfl⟩ rfl rfl rfl rfl rfl (by kernel_rfl) Tryd.func5 (by kernel_rfl)
    (of_decide_eq_true (by kernel_rfl)) (by unfold Func.isWrapper; first | (rw [if_pos (by decide +kernel)]; kernel_rfl) | (rw [if_neg (by decide +kernel)]; exact ⟨rfl, rfl⟩))
    (fun os started H enc _ => lifted os started H enc)

theorem proved : Rows.CoilBackCardSaid :=
  Claim7.holds_tied_plain_at .later [] _ true _ false over (fun _ h => by cases h) (by kernel_rfl) (fun _ h => by cases h) coilBack_row_tie rfl ⟨rfl, rfl⟩ (by kernel_rfl) rfl
    (fun f fn hf hfn => by
      obtain rfl : f = 5 := Option.some.inj ((show Tryd.prog.funcNamed "taffrail/taffraillaw06.CoilBack" = some 5 by kernel_rfl).symm.trans hf) |>.symm
      obtain rfl : fn = Tryd.f5 := (Option.some.inj (Tryd.func5.symm.trans hfn)).symm
      refine ⟨by kernel_rfl, fun j t ht => ?_⟩
      rw [Tryd.params5] at ht
      have hm : t ∈ [22] := by simpa using Array.mem_of_getElem? ht
      have hall : ([22].all fun u => !Tryd.prog.wantsStandIn u) = true := by kernel_rfl
      exact (show Tryd.prog.wantsStandIn t = false by simpa using List.all_eq_true.1 hall t hm))
    (by kernel_rfl)
#print axioms proved

end Go.Proofs.YtobljhgiibpmkaaDoor.CoilBack
