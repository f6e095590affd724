/-
  WaitPlays: for every list of calls and all levels the statement's function answers true: in every order of calls a row has whom the document says, and tells whose turn it is. No condition.
-/
import Derived.Test.YteglnlhdgfpglaaWa8
import Derived.Test.YteglnlhdgfpglaaRel7
import Derived.ProofKit
import Derived.OpenShut
import Derived.ShutString
import Derived.HandedShaped
import Derived.BigRegion
import Derived.Deep.RegionWith
import Derived.Deep.DeepCutAuto
namespace Go.Proofs.Yteglnlhdgfpglaa.waitPlays
open Go Go.ChangeShapes Go.WideShapes Go.ChangeAt Go.RowKit
open Go.ChangeMaps (open_string shut_string)
set_option linter.unusedVariables false

set_option maxRecDepth 100000 in
set_option maxHeartbeats 16000000 in
theorem walk_long {w : World} (ao : Option Addr) (cap n : Nat) (bo : Option Addr) (bc k : Nat) (hl : 300 < n ∨ 100 < k) : Calls Try.prog 3 #[.slice ao n cap, .slice bo k bc] w fun e w' => e = .returned (.bool true) ∧ Below w.heap.size w w' := by
  have HA := Lib.hid awake16_any
  by_cases h1 : 300 < n
  · have hd : decide ((300 : Int) < (n : Int)) = true := by simp <;> omega
    clear hl h1
    go_enter Try.func3, Try.ntmps3
    go_wp2_with fail
    refine (HA.out w).mono ?_
    rintro e w1 ⟨rfl, h⟩
    have B1 := Lib.hid h
    clear h
    go_wp2_with fail
    refine (HA.out w1).mono ?_
    rintro e w2 ⟨rfl, h⟩
    have B2 := Lib.hid (below_on B1.out h)
    clear h
    go_wp2_with fail
    go_ret
    exact ⟨rfl, B2.out⟩
  · have hd : decide ((300 : Int) < (n : Int)) = false := by simp <;> omega
    have hd2 : decide ((100 : Int) < (k : Int)) = true := by simp <;> omega
    clear hl h1
    go_enter Try.func3, Try.ntmps3
    go_wp2_with fail
    refine (HA.out w).mono ?_
    rintro e w1 ⟨rfl, h⟩
    have B1 := Lib.hid h
    clear h
    go_wp2_with fail
    refine (HA.out w1).mono ?_
    rintro e w2 ⟨rfl, h⟩
    have B2 := Lib.hid (below_on B1.out h)
    clear h
    go_wp2_with fail
    go_ret
    exact ⟨rfl, B2.out⟩

set_option maxRecDepth 100000 in
set_option maxHeartbeats 16000000 in
theorem walk_short {w : World} (ao : Option Addr) (cap : Nat) (ls : List (Int × Int)) (hs : SeenW w ao cap ls) (hl : ls.length ≤ 300) (bo : Option Addr) (bc : Nat) (lv : List Int) (hs2 : SeenL w bo bc lv) (hl2 : lv.length ≤ 100) : Calls Try.prog 3 #[.slice ao ls.length cap, .slice bo lv.length bc] w fun e w' => e = .returned (.bool true) ∧ Below w.heap.size w w' := by
  have HA := Lib.hid (awake16_any w)
  have HS := Lib.hid hs
  have HL := Lib.hid hs2
  clear hs hs2
  have KB := Lib.hid (fun (w0 u : World) (m : Nat) (v : Value) (l : List Nat) (hb : Below w.heap.size w w0) (h : OW w0 u m v l) => ow_best h (SeenR.below HL.out (below_on hb h.bel)))
  obtain ⟨M, hM⟩ : ∃ M, ls.length = M := ⟨_, rfl⟩
  obtain ⟨K, hK⟩ : ∃ K, lv.length = K := ⟨_, rfl⟩
  have hd : decide ((300 : Int) < (M : Int)) = false := by simp <;> omega
  have hd2 : decide ((100 : Int) < (K : Int)) = false := by simp <;> omega
  simp only [hM, hK] at hl hl2 KB ⊢
  have HM := Lib.hid hM
  have HK := Lib.hid hK
  clear hM hK
  go_enter Try.func3, Try.ntmps3
  go_wp2_with fail
  refine HA.out.mono ?_
  rintro e w1 ⟨rfl, h⟩
  have B1 := Lib.hid h
  clear h
  obtain ⟨w2, e2⟩ : ∃ w2, w2 = w1.alloc (.cells #[.slice none 0 0] 26) := ⟨_, rfl⟩
  obtain ⟨w3, e3⟩ : ∃ w3, w3 = w2.alloc (.cells #[] 3) := ⟨_, rfl⟩
  obtain ⟨D, hD⟩ : ∃ D, w1.heap.size = D := ⟨_, rfl⟩
  obtain ⟨E, hE⟩ : ∃ E, D + 1 = E := ⟨_, rfl⟩
  have hT3 := two_new e2 e3 (show w1.heap.size + 1 = E by omega)
  rw [hD] at hT3
  have T3 := Lib.hid hT3
  have HD := Lib.hid hD
  have HE := Lib.hid hE
  clear hT3 hD hE
  go_upto_region 5 with fail
  rw [← e2, ← e3, HD.out]
  try rw [HE.out]
  clear e2 e3
  go_wp2_with fail
  go_loopw [6, 30] (fun u i wr => ∃ (j : Nat) (v : Value) (l : List Nat), j ≤ M ∧ i = .int .i64 j ∧ Two w1 wr D v l u l) (fun _ i _ => M - (intOf i).toNat)
  case atStart => exact ⟨0, _, _, Nat.zero_le _, rfl, T3.out⟩
  case round =>
    clear T3
    obtain ⟨j, v, l, hj, rfl, hT3⟩ := hrel
    have hn2 : l.length ≤ 1000000 := by have := hT3.ow.ok.len; omega
    obtain ⟨ao6, c6, rfl, -⟩ := hT3.docLen hn2
    obtain ⟨n, hn⟩ : ∃ n, l.length = n := ⟨_, rfl⟩
    rw [hn] at hT3 hn2
    rw [hn]
    have HN := Lib.hid hn
    have T3 := Lib.hid hT3
    clear hT3 hn
    by_cases hlt : j < M
    · obtain ⟨b0, off, rfl, hb0, c0, c1⟩ := seenW_at (SeenR.below HS.out (below_on B1.out T3.out.bel)) j (by rw [HM.out]; exact hlt)
      generalize (ls[j]'(by rw [HM.out]; exact hlt)).1 = kd at *
      generalize (ls[j]'(by rw [HM.out]; exact hlt)).2 = t at *
      obtain ⟨w4, e4⟩ : ∃ w4, w4 = wr.alloc (.cells #[.int .i64 kd, .int .i64 t] 28) := ⟨_, rfl⟩
      obtain ⟨s4, n4, b4⟩ := new_size e4
      obtain ⟨F, hF⟩ : ∃ F, wr.heap.size = F := ⟨_, rfl⟩
      rw [hF] at n4
      have T4 := Lib.hid (T3.out.kept b4)
      have H4 := Lib.hid n4
      have HF := Lib.hid hF
      obtain ⟨o0, o1⟩ := wop_cells n4
      clear s4 n4 b4 hF T3
      go_upto_region 8 with fail
      rw [← e4, HF.out]
      clear e4 c0 c1
      go_upto_block 2 with fail
      go_cut [6] (fun u wx => (∃ v' l', Two w1 wx D v' l' u l') ∧ wx.heap[F]? = some (.cells #[.int .i64 kd, .int .i64 t] 28 (0, 0)))
      case first =>
        rcases (show kd = 1 ∨ kd = 2 ∨ (kd ≠ 1 ∧ kd ≠ 2) from by omega) with hkd | hkd | hkd
        · subst hkd
          obtain ⟨ak, hak⟩ : ∃ ak, addK l t = ak := ⟨_, rfl⟩
          go_upto_region 10 with fail
          go_cut [9] (fun c wx => c = .bool ak ∧ wx = w4)
          case first =>
            rcases (show t < 0 ∨ (0 ≤ t ∧ 64 ≤ t) ∨ (0 ≤ t ∧ t < 64) from by omega) with ht | ht | ht
            · have k0 : addK l t = false := by
                apply Bool.eq_false_iff.2
                intro h
                have := (addK_iff.1 h).1
                omega
              obtain rfl := hak.symm.trans k0
              clear hak k0
              have d1 : decide (0 ≤ t) = false := by simp; omega
              clear ht
              go_wp2_with fail
              go_meet
              exact ⟨rfl, rfl⟩
            · have k0 : addK l t = false := by
                apply Bool.eq_false_iff.2
                intro h
                have := (addK_iff.1 h).2.1
                omega
              obtain rfl := hak.symm.trans k0
              clear hak k0
              have d1 : decide (0 ≤ t) = true := by simp; omega
              have d2 : decide (t < 64) = false := by simp; omega
              clear ht
              go_wp2_with fail
              go_meet
              exact ⟨rfl, rfl⟩
            · have k0 : decide (idxW l t < 0) = ak := by
                rw [idxW_neg, ← hak]
                unfold addK
                simp [ht.1, ht.2]
              have d1 : decide (0 ≤ t) = true := by simp; omega
              have d2 : decide (t < 64) = true := by simp; omega
              have KI := Lib.hid (windex_own T4.out.doc hn2 t)
              generalize idxW l t = z at *
              clear ht hak
              go_wp2_with fail
              refine KI.out.mono ?_
              rintro e w5 ⟨rfl, rfl⟩
              go_wp2_with fail
              go_meet
              exact ⟨rfl, rfl⟩
          case rest =>
          obtain ⟨rfl, hwc⟩ := hcut
          obtain rfl := hwc
          have K5 := Lib.hid (tw_add T4.out t)
          cases ak with
          | true =>
            obtain ⟨x, rfl⟩ := Int.eq_ofNat_of_zero_le (addK_iff.1 hak).1
            have he : addW l (x : Int) = l ++ [x] := by unfold addW; rw [if_pos hak]; rfl
            rw [hak, he] at K5
            simp only [if_true] at K5
            have KK5 := Lib.hid K5.out
            clear hak he K5
            go_wp2_with fail
            refine KK5.out.mono ?_
            rintro e w5 ⟨rfl, v5, t5, p5⟩
            have T5 := Lib.hid t5
            have HN_ := p5 F _ _ H4.out (by decide) (by decide)
            have H5 := Lib.hid HN_
            obtain ⟨y0, y1⟩ := wop_cells HN_
            have B5 := Lib.hid (below_box (w := w5) (.cells #[.int .i64 (x : Int)] 3))
            clear t5 p5 HN_ KK5 T4 o0 o1
            go_wp2_with (at_builtin; refine wpList_pushI rfl _ _ rfl w1.heap.size _ rfl l (T5.out.kept B5.out).doc (T5.out.kept B5.out).bel.size n HN.out _ 1 x rfl (lit_int _ x _ (by simp)) hn2 ?_)
            intro a6 k6 w6 hA
            obtain ⟨t6, p6⟩ := (T5.out.kept B5.out).other hA.row hA.only hA.new
            have T6 := Lib.hid t6
            have H6 := Lib.hid (p6 F _ _ (blk_on B5.out H5.out) (by decide) (by decide))
            clear hA t6 p6 y0 y1 T5 H5 B5
            go_wp2_with fail
            go_meet
            exact ⟨⟨_, _, T6.out⟩, H6.out⟩
          | false =>
            have he : addW l t = l := by unfold addW; rw [hak]; rfl
            rw [hak, he] at K5
            simp only [Bool.false_eq_true, if_false] at K5
            have KK5 := Lib.hid K5.out
            clear hak he K5
            go_wp2_with fail
            refine KK5.out.mono ?_
            rintro e w5 ⟨rfl, v5, t5, p5⟩
            have T5 := Lib.hid t5
            have H5 := Lib.hid (p5 F _ _ H4.out (by decide) (by decide))
            clear t5 p5 KK5 T4 o0 o1
            go_wp2_with fail
            go_meet
            exact ⟨⟨_, _, T5.out⟩, H5.out⟩
        · subst hkd
          have KRm := Lib.hid (rem_any w1 D (.slice ao6 n c6) l t F #[.int .i64 2, .int .i64 t] 28 (by decide) (by decide))
          have KIx := Lib.hid (index_any w1 D ao6 n c6 hn2 l t F #[.int .i64 2, .int .i64 t] 28)
          have HZB := Lib.hid (idxW_in l t)
          have KWo := Lib.hid (fun (u : World) (h : OwnI u w1.heap.size (.slice ao6 n c6) l) => rwithout_own h hn2 t)
          generalize idxW l t = zi at *
          generalize inW l t = inb at *
          generalize remW l t = r' at *
          go_upto_region 17 with fail
          go_cut [84] (fun c wx => c = .bool false ∧ (∃ v', Two w1 wx D v' r' (.slice ao6 n c6) l) ∧ wx.heap[F]? = some (.cells #[.int .i64 2, .int .i64 t] 28 (0, 0)))
          case first =>
            have hzz := HZB.out
            refine wp_region_inv [fun v _ => v = Value.pointer (some ⟨F, 1, none⟩), fun v _ => v = Value.int .i64 t, fun v _ => ∃ q, v = .bool q, fun v _ => v = Value.slice ao6 n c6, fun v _ => v = Value.pointer (some ⟨F, 1, none⟩), fun v _ => v = Value.int .i64 t, fun v _ => v = Value.int .i64 zi, fun v _ => v = Value.bool inb, fun v _ => ∃ q, v = .bool q]
              (fun u => ∃ v' l', Two w1 u D v' l' (.slice ao6 n c6) l ∧ u.heap[F]? = some (.cells #[.int .i64 2, .int .i64 t] 28 (0, 0))) (fun _ _ => True) (fun _ _ _ => True) (fun dn_ sv u => OneC (fun u => ∃ v', Two w1 u D v' l (.slice ao6 n c6) l) (fun u => ∃ v', Two w1 u D v' r' (.slice ao6 n c6) l) inb 2 8 78 84 dn_ sv u) [(0, 76), (1, 77), (2, 78), (3, 79), (4, 80), (5, 81), (6, 82), (7, 83), (8, 84)] 9 (by kernel_rfl) (by kernel_rfl) (by kernel_rfl) (by kernel_rfl) ?hC ?hI ?hR ?hF ?hloc ?hs ?hf
            case hC => exact ⟨_, _, T4.out.drewN 1, H4.out⟩
            case hI => exact OneC.start _ _ ⟨_, T4.out.drewN 1⟩
            case hR =>
              intro i v w1' w2' _ _ h
              match i, h with
              | 0, h => exact h
              | 1, h => exact h
              | 2, h => exact h
              | 3, h => exact h
              | 4, h => exact h
              | 5, h => exact h
              | 6, h => exact h
              | 7, h => exact h
              | 8, h => exact h
              | _ + 9, h => exact h
            case hF => exact fun _ _ _ _ _ _ _ => trivial
            case hloc => exact fun _ _ _ _ _ _ _ _ => trivial
            case hs =>
              refine stepsI_succ ?s8 (stepsI_succ ?s7 (stepsI_succ ?s6 (stepsI_succ ?s5 (stepsI_succ ?s4 (stepsI_succ ?s3 (stepsI_succ ?s2 (stepsI_succ ?s1 (stepsI_succ ?s0 (stepsI_zero)))))))))
              case s0 =>
                refine stepI0 rfl (by kernel_rfl) ?_
                rintro w' hC sv
                intro K hK
                go_simp
                exact hK _ _ rfl ⟨rfl, hC, trivial, trivial, fun l hl hn hdn hde hi => hl.pure 0 76 _ (by rw [hn]; decide) (by decide) (by decide)⟩
              case s1 =>
                refine stepI1 0 76 rfl (by kernel_rfl) ?_
                rintro w' hC sv v1 - rfl
                intro K hK
                have hC9 := hC
                obtain ⟨_, _, _, hn9⟩ := hC9
                obtain ⟨x0, x1⟩ := wop_cells hn9
                go_simp
                exact hK _ _ rfl ⟨rfl, hC, trivial, trivial, fun l hl hn hdn hde hi => hl.pure 1 77 _ (by rw [hn]; decide) (by decide) (by decide)⟩
              case s2 =>
                refine stepI1 1 77 rfl (by kernel_rfl) ?_
                rintro w' hC sv v1 - rfl
                intro K hK
                go_simp
                refine (KRm.out w' hC).mono ?_
                rintro e w2 ⟨q, rfl, hc2, hp2⟩
                exact hK _ _ rfl ⟨⟨_, rfl⟩, hc2, trivial, trivial, fun l hl hn hdn hde hi => hl.first q (by rw [hn]; decide) (by decide) (by decide) (by rw [getD_bool l 2 (by rw [hn]; decide) false true]; exact hi) (by
                  cases hq : l.getD 8 false with
                  | false => rfl
                  | true =>
                    have := down_of hdn 8 2 (by kernel_rfl) (by rw [getD_bool l 8 (by rw [hn]; decide) true false]; exact hq)
                    rw [getD_bool l 2 (by rw [hn]; decide) false true, hi] at this
                    cases this) hp2⟩
              case s3 =>
                refine stepI0 rfl (by kernel_rfl) ?_
                rintro w' hC sv
                intro K hK
                go_simp
                exact hK _ _ rfl ⟨rfl, hC, trivial, trivial, fun l hl hn hdn hde hi => hl.pure 3 79 _ (by rw [hn]; decide) (by decide) (by decide)⟩
              case s4 =>
                refine stepI0 rfl (by kernel_rfl) ?_
                rintro w' hC sv
                intro K hK
                go_simp
                exact hK _ _ rfl ⟨rfl, hC, trivial, trivial, fun l hl hn hdn hde hi => hl.pure 4 80 _ (by rw [hn]; decide) (by decide) (by decide)⟩
              case s5 =>
                refine stepI1 4 80 rfl (by kernel_rfl) ?_
                rintro w' hC sv v1 - rfl
                intro K hK
                have hC9 := hC
                obtain ⟨_, _, _, hn9⟩ := hC9
                obtain ⟨x0, x1⟩ := wop_cells hn9
                go_simp
                exact hK _ _ rfl ⟨rfl, hC, trivial, trivial, fun l hl hn hdn hde hi => hl.pure 5 81 _ (by rw [hn]; decide) (by decide) (by decide)⟩
              case s6 =>
                refine stepI2 3 79 5 81 rfl (by kernel_rfl) ?_
                rintro w' hC sv v1 v2 - - rfl rfl
                intro K hK
                go_simp
                refine (KIx.out w' hC).mono ?_
                rintro e w2 ⟨rfl, rfl⟩
                exact hK _ _ rfl ⟨rfl, hC, trivial, trivial, fun l hl hn hdn hde hi => hl.pure 6 82 _ (by rw [hn]; decide) (by decide) (by decide)⟩
              case s7 =>
                refine stepI1 6 82 rfl (by kernel_rfl) ?_
                rintro w' hC sv v1 - rfl
                intro K hK
                go_simp
                exact hK _ _ rfl ⟨rfl, hC, trivial, trivial, fun l hl hn hdn hde hi => hl.pure 7 83 _ (by rw [hn]; decide) (by decide) (by decide)⟩
              case s8 =>
                refine stepI2 2 78 7 83 rfl (by kernel_rfl) ?_
                rintro w' hC sv v1 v2 e1 e2 ⟨z1, rfl⟩ rfl
                intro K hK
                have E1 := Lib.hid e1
                clear e1 e2
                cases z1 <;> cases inb
                all_goals
                  go_simp
                  exact hK _ _ rfl ⟨⟨_, rfl⟩, hC, trivial, trivial, fun l hl hn hdn hde hi => hl.third _ _ (by rw [hn]; decide) (by decide) (by decide) (deps_of hde 2 (by kernel_rfl)) E1.out.symm (by decide)⟩
            case hf =>
              intro w' hC sv hx _ hI
              obtain ⟨l', hl, hn, hj⟩ := hI
              obtain ⟨hP2, ea, ec⟩ := hj.done hl (by rw [hn]; decide) (by rw [hn]; decide)
              have e0 : sv 76 = Value.pointer (some ⟨F, 1, none⟩) := hx (0, 76) (by simp)
              have e1 : sv 77 = Value.int .i64 t := hx (1, 77) (by simp)
              have e3 : sv 79 = Value.slice ao6 n c6 := hx (3, 79) (by simp)
              have e4 : sv 80 = Value.pointer (some ⟨F, 1, none⟩) := hx (4, 80) (by simp)
              have e5 : sv 81 = Value.int .i64 t := hx (5, 81) (by simp)
              have e6 : sv 82 = Value.int .i64 zi := hx (6, 82) (by simp)
              have e7 : sv 83 = Value.bool inb := hx (7, 83) (by simp)
              simp only [putAll, List.foldl_cons, List.foldl_nil, ea, ec, e0, e1, e3, e4, e5, e6, e7, Act.put, List.setIfInBounds_toArray, List.set_cons_succ, List.set_cons_zero]
              clear hx hl hn hj ea ec e0 e1 e3 e4 e5 e6 e7
              obtain ⟨_, _, _, hn6⟩ := hC
              obtain ⟨v6, hP6⟩ := hP2
              have T6 := Lib.hid hP6
              have H6 := Lib.hid hn6
              clear hP6 hn6
              go_wp2_with fail
              go_meet
              exact ⟨rfl, ⟨_, T6.out⟩, H6.out⟩
          case rest =>
          obtain ⟨rfl, ⟨v6, t6⟩, n6⟩ := hcut
          have T6 := Lib.hid t6
          have H6 := Lib.hid n6
          obtain ⟨y0, y1⟩ := wop_cells n6
          have KW := Lib.hid (KWo.out _ t6.doc)
          clear t6 n6 o0 o1 KRm KIx KWo T4 H4
          go_wp2_with fail
          refine KW.out.mono ?_
          rintro e w7 ⟨bo7, bc7, rfl, r7, b7⟩
          have T7 := Lib.hid (Two.fresh (n := 0) T6.out.ow b7 r7)
          have H7 := Lib.hid (blk_on b7 H6.out)
          clear KW r7 b7
          go_wp2_with fail
          go_meet
          exact ⟨⟨_, _, T7.out⟩, H7.out⟩
        · have d1 : (kd == 1) = false := by simp; omega
          have d2 : (kd == 2) = false := by simp; omega
          clear hkd
          go_wp2_with fail
          go_meet
          exact ⟨⟨_, _, T4.out⟩, H4.out⟩
      case rest =>
      clear T4 H4 o0 o1 HN hn2
      obtain ⟨⟨v5, l5, hT5⟩, hH5⟩ := hcut
      have hn5 : l5.length ≤ 1000000 := by have := hT5.ow.ok.len; omega
      obtain ⟨ao5, c5, rfl, -⟩ := hT5.docLen hn5
      obtain ⟨n5, hn⟩ : ∃ n, l5.length = n := ⟨_, rfl⟩
      rw [hn] at hT5 hn5
      rw [hn]
      have HN5 := Lib.hid hn
      have T5 := Lib.hid hT5
      have H5 := Lib.hid hH5
      obtain ⟨G, hG⟩ : ∃ G, wc.heap.size = G := ⟨_, rfl⟩
      have O6 := Lib.hid (show OwnL (wc.alloc (.cells #[] 3)) wc.heap.size (.slice (some ⟨wc.heap.size, 0, none⟩) 0 0) [] from lit_own [] #[] rfl rfl (by decide))
      have b6 := below_box (w := wc) (.cells #[] 3)
      have B6 := Lib.hid b6
      have HL6 := Lib.hid (SeenR.below HL.out (below_on B1.out (hT5.kept b6).bel))
      clear hT5 hH5 hn b6 hG
      cases hb : bestW lv l5 with
      | none =>
        have HBt := Lib.hid hb
        clear hb
        go_wp2_with (at_builtin; refine wpList_copyOnto lv1_len lv1_one rfl _ _ rfl _ _ rfl O6.out (Nat.le_trans (Nat.le_refl _) B6.out.size) bo bc lv K HK.out rfl HL6.out (by omega) ?_)
        intro bo7 bc7 w7 h7 b7
        have B7 := B6.out.trans b7
        have T7 := T5.out.kept B7
        have H7 := blk_on B7 H5.out
        have K8 := tw_best T7 (own_seenL h7) HK.out
        rw [show bestV lv l5 = .tuple #[.int .i64 0, .bool false] by unfold bestV; rw [HBt.out]] at K8
        have KK8 := Lib.hid K8
        have T7 := Lib.hid T7
        have H7 := Lib.hid H7
        clear h7 b7 B7 K8 O6 HL6 B6 T5 H5
        go_wp2_with fail
        refine KK8.out.mono ?_
        rintro e w8 ⟨rfl, q8, rfl⟩
        have T8 := Lib.hid (T7.out.drewN q8)
        have H8 := Lib.hid (show (w7.drewN q8).heap[F]? = some (.cells #[.int .i64 kd, .int .i64 t] 28 (0, 0)) from H7.out)
        generalize w7.drewN q8 = w8 at *
        have K9 := rbest_own T8.out.doc (by omega) (SeenR.below HL.out (below_on B1.out T8.out.bel)) HK.out
        rw [show turnI lv l5 = -1 by unfold turnI; rw [HBt.out]] at K9
        have KK9 := Lib.hid K9
        clear K9 KK8 T7 H7
        go_wp2_with fail
        refine KK9.out.mono ?_
        rintro e w9 ⟨rfl, q9, rfl⟩
        have T9 := Lib.hid (T8.out.drewN q9)
        have H9 := Lib.hid (show (w8.drewN q9).heap[F]? = some (.cells #[.int .i64 kd, .int .i64 t] 28 (0, 0)) from H8.out)
        generalize w8.drewN q9 = w9 at *
        clear KK9 T8 H8 HBt
        have KAl := Lib.hid (fun u (hb : Below w9.heap.size w9 u) => tw_all (T9.out.kept hb) HN5.out)
        have KHs := Lib.hid (fun u (hb : Below w9.heap.size w9 u) => ow_has (T9.out.kept hb).ow t)
        have KIx := Lib.hid (fun u (hb : Below w9.heap.size w9 u) => windex_own (T9.out.kept hb).doc hn5 t)
        have HZB := Lib.hid (idxW_in l5 t)
        generalize inW l5 t = inb at *
        generalize idxW l5 t = zi at *
        go_upto_region 22 with fail
        refine wp_region_rel [.is (.bool false), .is (Value.int .i64 (-1)), .is (.bool false), .is (.bool false), .is (.bool false), .is (.bool false), .is (.bool false), .any, .any, .any, .is (.bool false), .is (.bool false), .is (.bool false), .is (.bool false), .is (.bool true), .is (.bool true), .is (Value.int .i64 0), .is (.bool false), .is (.bool false), .is (.bool false), .is (.bool false), .has (fun v u => ∃ bo bc B, v = .slice bo n5 bc ∧ OwnI u B (.slice bo n5 bc) l5) (by rintro v u u' hb ⟨bo, bc, B, hv, hO⟩; exact ⟨bo, bc, B, hv, OwnR.below hO hb⟩), .is (Value.slice ao5 n5 c5), .is (.bool true), .is (.bool false), .is (.bool false), .is (.bool false), .is (Value.pointer (some ⟨F, 1, none⟩)), .is (Value.int .i64 t), .is (.bool inb), .is (Value.slice ao5 n5 c5), .is (Value.pointer (some ⟨F, 1, none⟩)), .is (Value.int .i64 t), .is (Value.int .i64 zi), .is (.bool inb), .is (.bool false), .is (.bool false)]
          (fun u => Below w9.heap.size w9 u) [(0, 99), (1, 100), (2, 101), (3, 102), (4, 103), (5, 104), (6, 105), (7, 106), (8, 107), (9, 108), (10, 109), (11, 110), (12, 111), (13, 112), (14, 113), (15, 114), (16, 115), (17, 116), (18, 117), (19, 118), (20, 119), (21, 120), (22, 121), (23, 122), (24, 123), (25, 124), (26, 125), (27, 126), (28, 127), (29, 128), (30, 129), (31, 130), (32, 131), (33, 132), (34, 133), (35, 134), (36, 135)] 37 (by kernel_rfl) (by kernel_rfl) (by kernel_rfl) (by kernel_rfl) ?hC ?hs ?hf
        case hC => exact below_drew (Below.refl _ _)
        case hs =>
          refine stepsOk_succ ?s36 (stepsOk_succ ?s35 (stepsOk_succ ?s34 (stepsOk_succ ?s33 (stepsOk_succ ?s32 (stepsOk_succ ?s31 (stepsOk_succ ?s30 (stepsOk_succ ?s29 (stepsOk_succ ?s28 (stepsOk_succ ?s27 (stepsOk_succ ?s26 (stepsOk_succ ?s25 (stepsOk_succ ?s24 (stepsOk_succ ?s23 (stepsOk_succ ?s22 (stepsOk_succ ?s21 (stepsOk_succ ?s20 (stepsOk_succ ?s19 (stepsOk_succ ?s18 (stepsOk_succ ?s17 (stepsOk_succ ?s16 (stepsOk_succ ?s15 (stepsOk_succ ?s14 (stepsOk_succ ?s13 (stepsOk_succ ?s12 (stepsOk_succ ?s11 (stepsOk_succ ?s10 (stepsOk_succ ?s9 (stepsOk_succ ?s8 (stepsOk_succ ?s7 (stepsOk_succ ?s6 (stepsOk_succ ?s5 (stepsOk_succ ?s4 (stepsOk_succ ?s3 (stepsOk_succ ?s2 (stepsOk_succ ?s1 (stepsOk_succ ?s0 (stepsOk_zero)))))))))))))))))))))))))))))))))))))
          case s0 =>
            refine stepOk0 rfl (by kernel_rfl) ?_
            rintro w' hC
            intro K hK
            go_simp
            exact hK _ _ rfl ⟨rfl, hC, Below.refl _ _⟩
          case s1 =>
            refine stepOk0 rfl (by kernel_rfl) ?_
            rintro w' hC
            intro K hK
            go_simp
            exact hK _ _ rfl ⟨rfl, hC, Below.refl _ _⟩
          case s2 =>
            refine stepOk1 1 100 rfl (by kernel_rfl) ?_
            rintro w' hC v1 rfl
            intro K hK
            go_simp
            exact hK _ _ rfl ⟨rfl, hC, Below.refl _ _⟩
          case s3 =>
            refine stepOk2 0 99 2 101 rfl (by kernel_rfl) ?_
            rintro w' hC v1 v2 rfl rfl
            intro K hK
            go_simp
            exact hK _ _ rfl ⟨rfl, hC, Below.refl _ _⟩
          case s4 =>
            refine stepOk1 3 102 rfl (by kernel_rfl) ?_
            rintro w' hC v1 rfl
            intro K hK
            go_simp
            exact hK _ _ rfl ⟨rfl, hC, Below.refl _ _⟩
          case s5 =>
            refine stepOk1 4 103 rfl (by kernel_rfl) ?_
            rintro w' hC v1 rfl
            intro K hK
            go_simp
            exact hK _ _ rfl ⟨rfl, hC, Below.refl _ _⟩
          case s6 =>
            refine stepOk2 4 103 5 104 rfl (by kernel_rfl) ?_
            rintro w' hC v1 v2 rfl rfl
            intro K hK
            go_simp
            exact hK _ _ rfl ⟨rfl, hC, Below.refl _ _⟩
          case s7 =>
            refine stepOk1 6 105 rfl (by kernel_rfl) ?_
            rintro w' hC v1 rfl
            intro K hK
            go_simp
            exact hK _ _ rfl ⟨trivial, hC, Below.refl _ _⟩
          case s8 =>
            refine stepOk1 6 105 rfl (by kernel_rfl) ?_
            rintro w' hC v1 rfl
            intro K hK
            go_simp
            exact hK _ _ rfl ⟨trivial, hC, Below.refl _ _⟩
          case s9 =>
            refine stepOk3 6 105 7 106 8 107 rfl (by kernel_rfl) ?_
            rintro w' hC v1 v2 v3 rfl h1 h2
            intro K hK
            go_simp
            exact hK _ _ rfl ⟨trivial, hC, Below.refl _ _⟩
          case s10 =>
            refine stepOk3 4 103 6 105 9 108 rfl (by kernel_rfl) ?_
            rintro w' hC v1 v2 v3 rfl rfl h2
            intro K hK
            go_simp
            exact hK _ _ rfl ⟨rfl, hC, Below.refl _ _⟩
          case s11 =>
            refine stepOk2 4 103 10 109 rfl (by kernel_rfl) ?_
            rintro w' hC v1 v2 rfl rfl
            intro K hK
            go_simp
            exact hK _ _ rfl ⟨rfl, hC, Below.refl _ _⟩
          case s12 =>
            refine stepOk1 11 110 rfl (by kernel_rfl) ?_
            rintro w' hC v1 rfl
            intro K hK
            go_simp
            exact hK _ _ rfl ⟨rfl, hC, Below.refl _ _⟩
          case s13 =>
            refine stepOk1 12 111 rfl (by kernel_rfl) ?_
            rintro w' hC v1 rfl
            intro K hK
            go_simp
            exact hK _ _ rfl ⟨rfl, hC, Below.refl _ _⟩
          case s14 =>
            refine stepOk2 12 111 13 112 rfl (by kernel_rfl) ?_
            rintro w' hC v1 v2 rfl rfl
            intro K hK
            go_simp
            exact hK _ _ rfl ⟨rfl, hC, Below.refl _ _⟩
          case s15 =>
            refine stepOk2 12 111 14 113 rfl (by kernel_rfl) ?_
            rintro w' hC v1 v2 rfl rfl
            intro K hK
            go_simp
            exact hK _ _ rfl ⟨rfl, hC, Below.refl _ _⟩
          case s16 =>
            refine stepOk1 15 114 rfl (by kernel_rfl) ?_
            rintro w' hC v1 rfl
            intro K hK
            go_simp
            exact hK _ _ rfl ⟨rfl, hC, Below.refl _ _⟩
          case s17 =>
            refine stepOk2 15 114 16 115 rfl (by kernel_rfl) ?_
            rintro w' hC v1 v2 rfl rfl
            intro K hK
            go_simp
            exact hK _ _ rfl ⟨rfl, hC, Below.refl _ _⟩
          case s18 =>
            refine stepOk3 12 111 15 114 17 116 rfl (by kernel_rfl) ?_
            rintro w' hC v1 v2 v3 rfl rfl rfl
            intro K hK
            go_simp
            exact hK _ _ rfl ⟨rfl, hC, Below.refl _ _⟩
          case s19 =>
            refine stepOk2 12 111 18 117 rfl (by kernel_rfl) ?_
            rintro w' hC v1 v2 rfl rfl
            intro K hK
            go_simp
            exact hK _ _ rfl ⟨rfl, hC, Below.refl _ _⟩
          case s20 =>
            refine stepOk1 19 118 rfl (by kernel_rfl) ?_
            rintro w' hC v1 rfl
            intro K hK
            go_simp
            exact hK _ _ rfl ⟨rfl, hC, Below.refl _ _⟩
          case s21 =>
            refine stepOk1 20 119 rfl (by kernel_rfl) ?_
            rintro w' hC v1 rfl
            intro K hK
            go_simp
            refine (KAl.out w' hC).mono ?_
            rintro e w2 ⟨bo, bc, B, rfl, hO, hb⟩
            exact hK _ _ rfl ⟨⟨bo, bc, B, rfl, hO⟩, below_on hC hb, hb⟩
          case s22 =>
            refine stepOk1 20 119 rfl (by kernel_rfl) ?_
            rintro w' hC v1 rfl
            intro K hK
            go_simp
            exact hK _ _ rfl ⟨rfl, hC, Below.refl _ _⟩
          case s23 =>
            refine stepOk3 20 119 21 120 22 121 rfl (by kernel_rfl) ?_
            rintro w' hC v1 v2 v3 rfl ⟨bo, bc, B, rfl, hO⟩ rfl
            intro K hK
            have KS := wints_own hO (T9.out.kept hC).doc hn5
            rw [show decide (l5 = l5) = true from by simp] at KS
            go_simp
            refine KS.mono ?_
            rintro e w2 ⟨rfl, q, rfl⟩
            exact hK _ _ rfl ⟨rfl, below_drewN hC q, below_drewN (Below.refl _ _) q⟩
          case s24 =>
            refine stepOk2 20 119 23 122 rfl (by kernel_rfl) ?_
            rintro w' hC v1 v2 rfl rfl
            intro K hK
            go_simp
            exact hK _ _ rfl ⟨rfl, hC, Below.refl _ _⟩
          case s25 =>
            refine stepOk2 20 119 24 123 rfl (by kernel_rfl) ?_
            rintro w' hC v1 v2 rfl rfl
            intro K hK
            go_simp
            exact hK _ _ rfl ⟨rfl, hC, Below.refl _ _⟩
          case s26 =>
            refine stepOk1 25 124 rfl (by kernel_rfl) ?_
            rintro w' hC v1 rfl
            intro K hK
            go_simp
            exact hK _ _ rfl ⟨rfl, hC, Below.refl _ _⟩
          case s27 =>
            refine stepOk1 26 125 rfl (by kernel_rfl) ?_
            rintro w' hC v1 rfl
            intro K hK
            go_simp
            exact hK _ _ rfl ⟨rfl, hC, Below.refl _ _⟩
          case s28 =>
            refine stepOk2 26 125 27 126 rfl (by kernel_rfl) ?_
            rintro w' hC v1 v2 rfl rfl
            intro K hK
            obtain ⟨x0, x1⟩ := wop_cells (blk_on hC H9.out)
            go_simp
            exact hK _ _ rfl ⟨rfl, hC, Below.refl _ _⟩
          case s29 =>
            refine stepOk2 26 125 28 127 rfl (by kernel_rfl) ?_
            rintro w' hC v1 v2 rfl rfl
            intro K hK
            go_simp
            refine (KHs.out w' hC).mono ?_
            rintro e w2 ⟨rfl, rfl⟩
            exact hK _ _ rfl ⟨rfl, hC, Below.refl _ _⟩
          case s30 =>
            refine stepOk1 26 125 rfl (by kernel_rfl) ?_
            rintro w' hC v1 rfl
            intro K hK
            go_simp
            exact hK _ _ rfl ⟨rfl, hC, Below.refl _ _⟩
          case s31 =>
            refine stepOk1 26 125 rfl (by kernel_rfl) ?_
            rintro w' hC v1 rfl
            intro K hK
            go_simp
            exact hK _ _ rfl ⟨rfl, hC, Below.refl _ _⟩
          case s32 =>
            refine stepOk2 26 125 31 130 rfl (by kernel_rfl) ?_
            rintro w' hC v1 v2 rfl rfl
            intro K hK
            obtain ⟨x0, x1⟩ := wop_cells (blk_on hC H9.out)
            go_simp
            exact hK _ _ rfl ⟨rfl, hC, Below.refl _ _⟩
          case s33 =>
            refine stepOk3 26 125 30 129 32 131 rfl (by kernel_rfl) ?_
            rintro w' hC v1 v2 v3 rfl rfl rfl
            intro K hK
            go_simp
            refine (KIx.out w' hC).mono ?_
            rintro e w2 ⟨rfl, rfl⟩
            exact hK _ _ rfl ⟨rfl, hC, Below.refl _ _⟩
          case s34 =>
            refine stepOk2 26 125 33 132 rfl (by kernel_rfl) ?_
            rintro w' hC v1 v2 rfl rfl
            intro K hK
            have hzz := HZB.out
            go_simp
            exact hK _ _ rfl ⟨rfl, hC, Below.refl _ _⟩
          case s35 =>
            refine stepOk3 26 125 29 128 34 133 rfl (by kernel_rfl) ?_
            rintro w' hC v1 v2 v3 rfl rfl rfl
            intro K hK
            go_simp
            exact hK _ _ rfl ⟨rfl, hC, Below.refl _ _⟩
          case s36 =>
            refine stepOk2 26 125 35 134 rfl (by kernel_rfl) ?_
            rintro w' hC v1 v2 rfl rfl
            intro K hK
            go_simp
            exact hK _ _ rfl ⟨rfl, hC, Below.refl _ _⟩
        case hf =>
          intro w7 hC x_ hx
          have e0 : x_ 99 = (.bool false) := hx (0, 99) (by simp)
          have e1 : x_ 100 = (Value.int .i64 (-1)) := hx (1, 100) (by simp)
          have e2 : x_ 101 = (.bool false) := hx (2, 101) (by simp)
          have e3 : x_ 102 = (.bool false) := hx (3, 102) (by simp)
          have e4 : x_ 103 = (.bool false) := hx (4, 103) (by simp)
          have e5 : x_ 104 = (.bool false) := hx (5, 104) (by simp)
          have e6 : x_ 105 = (.bool false) := hx (6, 105) (by simp)
          have e10 : x_ 109 = (.bool false) := hx (10, 109) (by simp)
          have e11 : x_ 110 = (.bool false) := hx (11, 110) (by simp)
          have e12 : x_ 111 = (.bool false) := hx (12, 111) (by simp)
          have e13 : x_ 112 = (.bool false) := hx (13, 112) (by simp)
          have e14 : x_ 113 = (.bool true) := hx (14, 113) (by simp)
          have e15 : x_ 114 = (.bool true) := hx (15, 114) (by simp)
          have e16 : x_ 115 = (Value.int .i64 0) := hx (16, 115) (by simp)
          have e17 : x_ 116 = (.bool false) := hx (17, 116) (by simp)
          have e18 : x_ 117 = (.bool false) := hx (18, 117) (by simp)
          have e19 : x_ 118 = (.bool false) := hx (19, 118) (by simp)
          have e20 : x_ 119 = (.bool false) := hx (20, 119) (by simp)
          obtain ⟨bo21, bc21, B21, e21, -⟩ : ∃ bo bc B, x_ 120 = .slice bo n5 bc ∧ OwnI w7 B (.slice bo n5 bc) l5 := hx (21, 120) (by simp)
          have e22 : x_ 121 = (Value.slice ao5 n5 c5) := hx (22, 121) (by simp)
          have e23 : x_ 122 = (.bool true) := hx (23, 122) (by simp)
          have e24 : x_ 123 = (.bool false) := hx (24, 123) (by simp)
          have e25 : x_ 124 = (.bool false) := hx (25, 124) (by simp)
          have e26 : x_ 125 = (.bool false) := hx (26, 125) (by simp)
          have e27 : x_ 126 = (Value.pointer (some ⟨F, 1, none⟩)) := hx (27, 126) (by simp)
          have e28 : x_ 127 = (Value.int .i64 t) := hx (28, 127) (by simp)
          have e29 : x_ 128 = (.bool inb) := hx (29, 128) (by simp)
          have e30 : x_ 129 = (Value.slice ao5 n5 c5) := hx (30, 129) (by simp)
          have e31 : x_ 130 = (Value.pointer (some ⟨F, 1, none⟩)) := hx (31, 130) (by simp)
          have e32 : x_ 131 = (Value.int .i64 t) := hx (32, 131) (by simp)
          have e33 : x_ 132 = (Value.int .i64 zi) := hx (33, 132) (by simp)
          have e34 : x_ 133 = (.bool inb) := hx (34, 133) (by simp)
          have e35 : x_ 134 = (.bool false) := hx (35, 134) (by simp)
          have e36 : x_ 135 = (.bool false) := hx (36, 135) (by simp)
          simp only [putAll, List.foldl_cons, List.foldl_nil, e0, e1, e2, e3, e4, e5, e6, e10, e11, e12, e13, e14, e15, e16, e17, e18, e19, e20, e21, e22, e23, e24, e25, e26, e27, e28, e29, e30, e31, e32, e33, e34, e35, e36, Act.put, List.setIfInBounds_toArray, List.set_cons_succ, List.set_cons_zero]
          have TT := Lib.hid (T9.out.kept hC)
          clear hx hC e0 e1 e2 e3 e4 e5 e6 e10 e11 e12 e13 e14 e15 e16 e17 e18 e19 e20 e21 e22 e23 e24 e25 e26 e27 e28 e29 e30 e31 e32 e33 e34 e35 e36 KAl KHs KIx
          go_wp2_with fail
          go_roundw
          case rel =>
            first
              | exact ⟨j + 1, _, _, hlt, by go_num, TT.out⟩
              | ((repeat apply Exists.intro); exact ⟨⟨j + 1, _, _, hlt, by go_num, TT.out⟩, rfl⟩)
          case measure => simp [intOf]; omega
      | some t9 =>
        have HBt := Lib.hid hb
        clear hb
        go_wp2_with (at_builtin; refine wpList_copyOnto lv1_len lv1_one rfl _ _ rfl _ _ rfl O6.out (Nat.le_trans (Nat.le_refl _) B6.out.size) bo bc lv K HK.out rfl HL6.out (by omega) ?_)
        intro bo7 bc7 w7 h7 b7
        have B7 := B6.out.trans b7
        have T7 := T5.out.kept B7
        have H7 := blk_on B7 H5.out
        have K8 := tw_best T7 (own_seenL h7) HK.out
        rw [show bestV lv l5 = .tuple #[.int .i64 (t9 : Int), .bool true] by unfold bestV; rw [HBt.out]] at K8
        have KK8 := Lib.hid K8
        have T7 := Lib.hid T7
        have H7 := Lib.hid H7
        clear h7 b7 B7 K8 O6 HL6 B6 T5 H5
        go_wp2_with fail
        refine KK8.out.mono ?_
        rintro e w8 ⟨rfl, q8, rfl⟩
        have T8 := Lib.hid (T7.out.drewN q8)
        have H8 := Lib.hid (show (w7.drewN q8).heap[F]? = some (.cells #[.int .i64 kd, .int .i64 t] 28 (0, 0)) from H7.out)
        generalize w7.drewN q8 = w8 at *
        have K9 := rbest_own T8.out.doc (by omega) (SeenR.below HL.out (below_on B1.out T8.out.bel)) HK.out
        rw [show turnI lv l5 = (t9 : Int) by unfold turnI; rw [HBt.out]] at K9
        have KK9 := Lib.hid K9
        clear K9 KK8 T7 H7
        go_wp2_with fail
        refine KK9.out.mono ?_
        rintro e w9 ⟨rfl, q9, rfl⟩
        have T9 := Lib.hid (T8.out.drewN q9)
        have H9 := Lib.hid (show (w8.drewN q9).heap[F]? = some (.cells #[.int .i64 kd, .int .i64 t] 28 (0, 0)) from H8.out)
        generalize w8.drewN q9 = w9 at *
        clear KK9 T8 H8 HBt
        have KAl := Lib.hid (fun u (hb : Below w9.heap.size w9 u) => tw_all (T9.out.kept hb) HN5.out)
        have KHs := Lib.hid (fun u (hb : Below w9.heap.size w9 u) => ow_has (T9.out.kept hb).ow t)
        have KIx := Lib.hid (fun u (hb : Below w9.heap.size w9 u) => windex_own (T9.out.kept hb).doc hn5 t)
        have HZB := Lib.hid (idxW_in l5 t)
        generalize inW l5 t = inb at *
        generalize idxW l5 t = zi at *
        go_upto_region 22 with fail
        refine wp_region_rel [.is (.bool true), .is (Value.int .i64 (t9 : Int)), .is (.bool true), .is (.bool false), .is (.bool false), .is (.bool true), .is (.bool true), .is (Value.int .i64 (t9 : Int)), .is (Value.int .i64 (t9 : Int)), .is (.bool false), .is (.bool false), .is (.bool false), .is (.bool false), .is (.bool true), .is (.bool false), .is (.bool false), .any, .any, .is (.bool false), .is (.bool false), .is (.bool false), .has (fun v u => ∃ bo bc B, v = .slice bo n5 bc ∧ OwnI u B (.slice bo n5 bc) l5) (by rintro v u u' hb ⟨bo, bc, B, hv, hO⟩; exact ⟨bo, bc, B, hv, OwnR.below hO hb⟩), .is (Value.slice ao5 n5 c5), .is (.bool true), .is (.bool false), .is (.bool false), .is (.bool false), .is (Value.pointer (some ⟨F, 1, none⟩)), .is (Value.int .i64 t), .is (.bool inb), .is (Value.slice ao5 n5 c5), .is (Value.pointer (some ⟨F, 1, none⟩)), .is (Value.int .i64 t), .is (Value.int .i64 zi), .is (.bool inb), .is (.bool false), .is (.bool false)]
          (fun u => Below w9.heap.size w9 u) [(0, 99), (1, 100), (2, 101), (3, 102), (4, 103), (5, 104), (6, 105), (7, 106), (8, 107), (9, 108), (10, 109), (11, 110), (12, 111), (13, 112), (14, 113), (15, 114), (16, 115), (17, 116), (18, 117), (19, 118), (20, 119), (21, 120), (22, 121), (23, 122), (24, 123), (25, 124), (26, 125), (27, 126), (28, 127), (29, 128), (30, 129), (31, 130), (32, 131), (33, 132), (34, 133), (35, 134), (36, 135)] 37 (by kernel_rfl) (by kernel_rfl) (by kernel_rfl) (by kernel_rfl) ?hC ?hs ?hf
        case hC => exact below_drew (Below.refl _ _)
        case hs =>
          refine stepsOk_succ ?s36 (stepsOk_succ ?s35 (stepsOk_succ ?s34 (stepsOk_succ ?s33 (stepsOk_succ ?s32 (stepsOk_succ ?s31 (stepsOk_succ ?s30 (stepsOk_succ ?s29 (stepsOk_succ ?s28 (stepsOk_succ ?s27 (stepsOk_succ ?s26 (stepsOk_succ ?s25 (stepsOk_succ ?s24 (stepsOk_succ ?s23 (stepsOk_succ ?s22 (stepsOk_succ ?s21 (stepsOk_succ ?s20 (stepsOk_succ ?s19 (stepsOk_succ ?s18 (stepsOk_succ ?s17 (stepsOk_succ ?s16 (stepsOk_succ ?s15 (stepsOk_succ ?s14 (stepsOk_succ ?s13 (stepsOk_succ ?s12 (stepsOk_succ ?s11 (stepsOk_succ ?s10 (stepsOk_succ ?s9 (stepsOk_succ ?s8 (stepsOk_succ ?s7 (stepsOk_succ ?s6 (stepsOk_succ ?s5 (stepsOk_succ ?s4 (stepsOk_succ ?s3 (stepsOk_succ ?s2 (stepsOk_succ ?s1 (stepsOk_succ ?s0 (stepsOk_zero)))))))))))))))))))))))))))))))))))))
          case s0 =>
            refine stepOk0 rfl (by kernel_rfl) ?_
            rintro w' hC
            intro K hK
            go_simp
            exact hK _ _ rfl ⟨rfl, hC, Below.refl _ _⟩
          case s1 =>
            refine stepOk0 rfl (by kernel_rfl) ?_
            rintro w' hC
            intro K hK
            go_simp
            exact hK _ _ rfl ⟨rfl, hC, Below.refl _ _⟩
          case s2 =>
            refine stepOk1 1 100 rfl (by kernel_rfl) ?_
            rintro w' hC v1 rfl
            intro K hK
            go_simp
            exact hK _ _ rfl ⟨rfl, hC, Below.refl _ _⟩
          case s3 =>
            refine stepOk2 0 99 2 101 rfl (by kernel_rfl) ?_
            rintro w' hC v1 v2 rfl rfl
            intro K hK
            go_simp
            exact hK _ _ rfl ⟨rfl, hC, Below.refl _ _⟩
          case s4 =>
            refine stepOk1 3 102 rfl (by kernel_rfl) ?_
            rintro w' hC v1 rfl
            intro K hK
            go_simp
            exact hK _ _ rfl ⟨rfl, hC, Below.refl _ _⟩
          case s5 =>
            refine stepOk1 4 103 rfl (by kernel_rfl) ?_
            rintro w' hC v1 rfl
            intro K hK
            go_simp
            exact hK _ _ rfl ⟨rfl, hC, Below.refl _ _⟩
          case s6 =>
            refine stepOk2 4 103 5 104 rfl (by kernel_rfl) ?_
            rintro w' hC v1 v2 rfl rfl
            intro K hK
            go_simp
            exact hK _ _ rfl ⟨rfl, hC, Below.refl _ _⟩
          case s7 =>
            refine stepOk1 6 105 rfl (by kernel_rfl) ?_
            rintro w' hC v1 rfl
            intro K hK
            go_simp
            exact hK _ _ rfl ⟨rfl, hC, Below.refl _ _⟩
          case s8 =>
            refine stepOk1 6 105 rfl (by kernel_rfl) ?_
            rintro w' hC v1 rfl
            intro K hK
            go_simp
            exact hK _ _ rfl ⟨rfl, hC, Below.refl _ _⟩
          case s9 =>
            refine stepOk3 6 105 7 106 8 107 rfl (by kernel_rfl) ?_
            rintro w' hC v1 v2 v3 rfl rfl rfl
            intro K hK
            go_simp
            exact hK _ _ rfl ⟨rfl, hC, Below.refl _ _⟩
          case s10 =>
            refine stepOk3 4 103 6 105 9 108 rfl (by kernel_rfl) ?_
            rintro w' hC v1 v2 v3 rfl rfl rfl
            intro K hK
            go_simp
            exact hK _ _ rfl ⟨rfl, hC, Below.refl _ _⟩
          case s11 =>
            refine stepOk2 4 103 10 109 rfl (by kernel_rfl) ?_
            rintro w' hC v1 v2 rfl rfl
            intro K hK
            go_simp
            exact hK _ _ rfl ⟨rfl, hC, Below.refl _ _⟩
          case s12 =>
            refine stepOk1 11 110 rfl (by kernel_rfl) ?_
            rintro w' hC v1 rfl
            intro K hK
            go_simp
            exact hK _ _ rfl ⟨rfl, hC, Below.refl _ _⟩
          case s13 =>
            refine stepOk1 12 111 rfl (by kernel_rfl) ?_
            rintro w' hC v1 rfl
            intro K hK
            go_simp
            exact hK _ _ rfl ⟨rfl, hC, Below.refl _ _⟩
          case s14 =>
            refine stepOk2 12 111 13 112 rfl (by kernel_rfl) ?_
            rintro w' hC v1 v2 rfl rfl
            intro K hK
            go_simp
            exact hK _ _ rfl ⟨rfl, hC, Below.refl _ _⟩
          case s15 =>
            refine stepOk2 12 111 14 113 rfl (by kernel_rfl) ?_
            rintro w' hC v1 v2 rfl rfl
            intro K hK
            go_simp
            exact hK _ _ rfl ⟨rfl, hC, Below.refl _ _⟩
          case s16 =>
            refine stepOk1 15 114 rfl (by kernel_rfl) ?_
            rintro w' hC v1 rfl
            intro K hK
            go_simp
            exact hK _ _ rfl ⟨trivial, hC, Below.refl _ _⟩
          case s17 =>
            refine stepOk2 15 114 16 115 rfl (by kernel_rfl) ?_
            rintro w' hC v1 v2 rfl h1
            intro K hK
            go_simp
            exact hK _ _ rfl ⟨trivial, hC, Below.refl _ _⟩
          case s18 =>
            refine stepOk3 12 111 15 114 17 116 rfl (by kernel_rfl) ?_
            rintro w' hC v1 v2 v3 rfl rfl h2
            intro K hK
            go_simp
            exact hK _ _ rfl ⟨rfl, hC, Below.refl _ _⟩
          case s19 =>
            refine stepOk2 12 111 18 117 rfl (by kernel_rfl) ?_
            rintro w' hC v1 v2 rfl rfl
            intro K hK
            go_simp
            exact hK _ _ rfl ⟨rfl, hC, Below.refl _ _⟩
          case s20 =>
            refine stepOk1 19 118 rfl (by kernel_rfl) ?_
            rintro w' hC v1 rfl
            intro K hK
            go_simp
            exact hK _ _ rfl ⟨rfl, hC, Below.refl _ _⟩
          case s21 =>
            refine stepOk1 20 119 rfl (by kernel_rfl) ?_
            rintro w' hC v1 rfl
            intro K hK
            go_simp
            refine (KAl.out w' hC).mono ?_
            rintro e w2 ⟨bo, bc, B, rfl, hO, hb⟩
            exact hK _ _ rfl ⟨⟨bo, bc, B, rfl, hO⟩, below_on hC hb, hb⟩
          case s22 =>
            refine stepOk1 20 119 rfl (by kernel_rfl) ?_
            rintro w' hC v1 rfl
            intro K hK
            go_simp
            exact hK _ _ rfl ⟨rfl, hC, Below.refl _ _⟩
          case s23 =>
            refine stepOk3 20 119 21 120 22 121 rfl (by kernel_rfl) ?_
            rintro w' hC v1 v2 v3 rfl ⟨bo, bc, B, rfl, hO⟩ rfl
            intro K hK
            have KS := wints_own hO (T9.out.kept hC).doc hn5
            rw [show decide (l5 = l5) = true from by simp] at KS
            go_simp
            refine KS.mono ?_
            rintro e w2 ⟨rfl, q, rfl⟩
            exact hK _ _ rfl ⟨rfl, below_drewN hC q, below_drewN (Below.refl _ _) q⟩
          case s24 =>
            refine stepOk2 20 119 23 122 rfl (by kernel_rfl) ?_
            rintro w' hC v1 v2 rfl rfl
            intro K hK
            go_simp
            exact hK _ _ rfl ⟨rfl, hC, Below.refl _ _⟩
          case s25 =>
            refine stepOk2 20 119 24 123 rfl (by kernel_rfl) ?_
            rintro w' hC v1 v2 rfl rfl
            intro K hK
            go_simp
            exact hK _ _ rfl ⟨rfl, hC, Below.refl _ _⟩
          case s26 =>
            refine stepOk1 25 124 rfl (by kernel_rfl) ?_
            rintro w' hC v1 rfl
            intro K hK
            go_simp
            exact hK _ _ rfl ⟨rfl, hC, Below.refl _ _⟩
          case s27 =>
            refine stepOk1 26 125 rfl (by kernel_rfl) ?_
            rintro w' hC v1 rfl
            intro K hK
            go_simp
            exact hK _ _ rfl ⟨rfl, hC, Below.refl _ _⟩
          case s28 =>
            refine stepOk2 26 125 27 126 rfl (by kernel_rfl) ?_
            rintro w' hC v1 v2 rfl rfl
            intro K hK
            obtain ⟨x0, x1⟩ := wop_cells (blk_on hC H9.out)
            go_simp
            exact hK _ _ rfl ⟨rfl, hC, Below.refl _ _⟩
          case s29 =>
            refine stepOk2 26 125 28 127 rfl (by kernel_rfl) ?_
            rintro w' hC v1 v2 rfl rfl
            intro K hK
            go_simp
            refine (KHs.out w' hC).mono ?_
            rintro e w2 ⟨rfl, rfl⟩
            exact hK _ _ rfl ⟨rfl, hC, Below.refl _ _⟩
          case s30 =>
            refine stepOk1 26 125 rfl (by kernel_rfl) ?_
            rintro w' hC v1 rfl
            intro K hK
            go_simp
            exact hK _ _ rfl ⟨rfl, hC, Below.refl _ _⟩
          case s31 =>
            refine stepOk1 26 125 rfl (by kernel_rfl) ?_
            rintro w' hC v1 rfl
            intro K hK
            go_simp
            exact hK _ _ rfl ⟨rfl, hC, Below.refl _ _⟩
          case s32 =>
            refine stepOk2 26 125 31 130 rfl (by kernel_rfl) ?_
            rintro w' hC v1 v2 rfl rfl
            intro K hK
            obtain ⟨x0, x1⟩ := wop_cells (blk_on hC H9.out)
            go_simp
            exact hK _ _ rfl ⟨rfl, hC, Below.refl _ _⟩
          case s33 =>
            refine stepOk3 26 125 30 129 32 131 rfl (by kernel_rfl) ?_
            rintro w' hC v1 v2 v3 rfl rfl rfl
            intro K hK
            go_simp
            refine (KIx.out w' hC).mono ?_
            rintro e w2 ⟨rfl, rfl⟩
            exact hK _ _ rfl ⟨rfl, hC, Below.refl _ _⟩
          case s34 =>
            refine stepOk2 26 125 33 132 rfl (by kernel_rfl) ?_
            rintro w' hC v1 v2 rfl rfl
            intro K hK
            have hzz := HZB.out
            go_simp
            exact hK _ _ rfl ⟨rfl, hC, Below.refl _ _⟩
          case s35 =>
            refine stepOk3 26 125 29 128 34 133 rfl (by kernel_rfl) ?_
            rintro w' hC v1 v2 v3 rfl rfl rfl
            intro K hK
            go_simp
            exact hK _ _ rfl ⟨rfl, hC, Below.refl _ _⟩
          case s36 =>
            refine stepOk2 26 125 35 134 rfl (by kernel_rfl) ?_
            rintro w' hC v1 v2 rfl rfl
            intro K hK
            go_simp
            exact hK _ _ rfl ⟨rfl, hC, Below.refl _ _⟩
        case hf =>
          intro w7 hC x_ hx
          have e0 : x_ 99 = (.bool true) := hx (0, 99) (by simp)
          have e1 : x_ 100 = (Value.int .i64 (t9 : Int)) := hx (1, 100) (by simp)
          have e2 : x_ 101 = (.bool true) := hx (2, 101) (by simp)
          have e3 : x_ 102 = (.bool false) := hx (3, 102) (by simp)
          have e4 : x_ 103 = (.bool false) := hx (4, 103) (by simp)
          have e5 : x_ 104 = (.bool true) := hx (5, 104) (by simp)
          have e6 : x_ 105 = (.bool true) := hx (6, 105) (by simp)
          have e7 : x_ 106 = (Value.int .i64 (t9 : Int)) := hx (7, 106) (by simp)
          have e8 : x_ 107 = (Value.int .i64 (t9 : Int)) := hx (8, 107) (by simp)
          have e9 : x_ 108 = (.bool false) := hx (9, 108) (by simp)
          have e10 : x_ 109 = (.bool false) := hx (10, 109) (by simp)
          have e11 : x_ 110 = (.bool false) := hx (11, 110) (by simp)
          have e12 : x_ 111 = (.bool false) := hx (12, 111) (by simp)
          have e13 : x_ 112 = (.bool true) := hx (13, 112) (by simp)
          have e14 : x_ 113 = (.bool false) := hx (14, 113) (by simp)
          have e15 : x_ 114 = (.bool false) := hx (15, 114) (by simp)
          have e18 : x_ 117 = (.bool false) := hx (18, 117) (by simp)
          have e19 : x_ 118 = (.bool false) := hx (19, 118) (by simp)
          have e20 : x_ 119 = (.bool false) := hx (20, 119) (by simp)
          obtain ⟨bo21, bc21, B21, e21, -⟩ : ∃ bo bc B, x_ 120 = .slice bo n5 bc ∧ OwnI w7 B (.slice bo n5 bc) l5 := hx (21, 120) (by simp)
          have e22 : x_ 121 = (Value.slice ao5 n5 c5) := hx (22, 121) (by simp)
          have e23 : x_ 122 = (.bool true) := hx (23, 122) (by simp)
          have e24 : x_ 123 = (.bool false) := hx (24, 123) (by simp)
          have e25 : x_ 124 = (.bool false) := hx (25, 124) (by simp)
          have e26 : x_ 125 = (.bool false) := hx (26, 125) (by simp)
          have e27 : x_ 126 = (Value.pointer (some ⟨F, 1, none⟩)) := hx (27, 126) (by simp)
          have e28 : x_ 127 = (Value.int .i64 t) := hx (28, 127) (by simp)
          have e29 : x_ 128 = (.bool inb) := hx (29, 128) (by simp)
          have e30 : x_ 129 = (Value.slice ao5 n5 c5) := hx (30, 129) (by simp)
          have e31 : x_ 130 = (Value.pointer (some ⟨F, 1, none⟩)) := hx (31, 130) (by simp)
          have e32 : x_ 131 = (Value.int .i64 t) := hx (32, 131) (by simp)
          have e33 : x_ 132 = (Value.int .i64 zi) := hx (33, 132) (by simp)
          have e34 : x_ 133 = (.bool inb) := hx (34, 133) (by simp)
          have e35 : x_ 134 = (.bool false) := hx (35, 134) (by simp)
          have e36 : x_ 135 = (.bool false) := hx (36, 135) (by simp)
          simp only [putAll, List.foldl_cons, List.foldl_nil, e0, e1, e2, e3, e4, e5, e6, e7, e8, e9, e10, e11, e12, e13, e14, e15, e18, e19, e20, e21, e22, e23, e24, e25, e26, e27, e28, e29, e30, e31, e32, e33, e34, e35, e36, Act.put, List.setIfInBounds_toArray, List.set_cons_succ, List.set_cons_zero]
          have TT := Lib.hid (T9.out.kept hC)
          clear hx hC e0 e1 e2 e3 e4 e5 e6 e7 e8 e9 e10 e11 e12 e13 e14 e15 e18 e19 e20 e21 e22 e23 e24 e25 e26 e27 e28 e29 e30 e31 e32 e33 e34 e35 e36 KAl KHs KIx
          go_wp2_with fail
          go_roundw
          case rel =>
            first
              | exact ⟨j + 1, _, _, hlt, by go_num, TT.out⟩
              | ((repeat apply Exists.intro); exact ⟨⟨j + 1, _, _, hlt, by go_num, TT.out⟩, rfl⟩)
          case measure => simp [intOf]; omega
    · obtain rfl : j = M := by omega
      have BF := Lib.hid (below_on B1.out T3.out.bel)
      go_wp2_with fail
      go_ret
      exact ⟨rfl, BF.out⟩

theorem walk {w : World} (ao : Option Addr) (len cap : Nat) (ls : List (Int × Int)) (hs : ls.length = len ∧ SeenW w ao cap ls ∧ ∀ o ∈ ls, ((Lit.int .i64 o.1).wf = true ∧ (Lit.int .i64 o.2).wf = true)) (bo : Option Addr) (len2 bc : Nat) (lv : List Int) (hs2 : lv.length = len2 ∧ SeenL w bo bc lv ∧ ∀ z ∈ lv, (Lit.int .i64 z).wf = true) : Calls Try.prog 3 #[.slice ao len cap, .slice bo len2 bc] w fun e w' => e = .returned (.bool true) ∧ Below w.heap.size w w' := by
  obtain ⟨rfl, hs, -⟩ := hs
  obtain ⟨rfl, hs2, -⟩ := hs2
  by_cases h : 300 < ls.length ∨ 100 < lv.length
  · exact walk_long ao cap _ bo bc _ h
  · exact walk_short ao cap ls hs (by omega) bo bc lv hs2 (by omega)

theorem own : ownKnob Try.prog.godebug = none := by kernel_rfl
theorem laidOut : laidOutB Try.prog = true := by kernel_rfl

set_option maxRecDepth 100000 in
theorem lifted (os : Os) (started : os.Started) (H : Type) (enc : TypeId × Value → H) :
    ReturnsInHanded {} Try.checked os 3 .any (Rows.waitPlaysSpec.pre6 enc Try.prog Try.f3 Rows.waitPlaysRow.domain false) (Rows.waitPlaysSpec.post enc Try.prog Try.f3 false true false false) := by
  refine returnsInHanded_of_change_shaped (C := Try.checked) own started (by kernel_rfl) Try.func3
    (ChangeSpec.witness6 (enc := enc) (C := Try.checked) false ⟨#[], #[.slice none 0 0, .slice none 0 0], []⟩ 8 (by kernel_rfl) (by kernel_rfl) (by kernel_rfl) (by kernel_rfl)) ?_
  intro W base args ds gs before hval0 hW hcnd hsz0 hsh _
  have hval : ∀ (j : Nat) t v, Try.f3.params[j]? = some t → args[j]? = some v → Value.okWide Try.prog W .any base t v := hval0
  have hsz : (DataW.weightsEach Try.prog (Try.f3.params.toList ++ Rows.waitPlaysSpec.plain.varTypes Try.prog) (ds ++ gs)).all (· ≤ reachBytes) = true := hsz0
  have hW' := hW
  obtain ⟨p, q, hA0, hV, rfl, hfz, hnd⟩ := hW
  have hA : DataW.TrodAll enc Try.prog W 0 (fun _ => true) true Try.f3.params.toList args.toList ds p := hA0
  rw [Try.params3] at hA hval hsz
  obtain ⟨v0, vs0, d0, ds0, p0, q0, hargs, rfl, rfl, h0, r0⟩ := trodAll_cons hA
  obtain ⟨v1, vs1, d1, ds1, p1, q1, rfl, rfl, rfl, h1, r1⟩ := trodAll_cons r0
  obtain ⟨rfl, rfl, rfl⟩ := trodAll_nil r1
  obtain rfl : args = #[v0, v1] := by cases args; simp_all
  obtain ⟨rfl, rfl⟩ := trodVars_none hV
  have k0 := h0
  have lt0 : ∀ x ∈ p0, x.block < W.heap.size := by obtain ⟨m, hm⟩ := k0; exact DataW.trod_lt m _ _ _ hm
  have k1 := h1
  have lt1 : ∀ x ∈ p1, x.block < W.heap.size := by obtain ⟨m, hm⟩ := k1; exact DataW.trod_lt m _ _ _ hm
  obtain ⟨a0, len0, cap0, rfl⟩ := okWide_slice Try.underlying22 (hval 0 22 v0 rfl rfl)
  obtain ⟨z0, w0⟩ := open_wops h0
  obtain ⟨a1, len1, cap1, rfl⟩ := okWide_slice Try.underlying23 (hval 1 23 v1 rfl rfl)
  obtain ⟨z1, w1⟩ := open_lvs h1
  clear hA0 hval0
  refine (walk a0 len0 cap0 z0 w0 a1 len1 cap1 z1 w1 ).mono fun e W' ⟨he, bel⟩ => ?_
  subst he
  exact ⟨_, rfl, _, _, _, [], _, [], hW', trodAll_mk1 (shut_bool Try.underlying4 _), (trodAll_cons_mk (Below.trod laidOut (by kernel_rfl) (of_decide_eq_true (by kernel_rfl)) k0 bel lt0) (trodAll_cons_mk (Below.trod laidOut (by kernel_rfl) (of_decide_eq_true (by kernel_rfl)) k1 bel lt1) trodAll_mk0)), rfl, bel.frame _, fun h => by cases h⟩

theorem over : Rows.waitPlaysRow.holds Try.pinned (OpenSpec.ofChange Rows.waitPlaysSpec) :=
  OpenClaim.holds_of_wide 3 Try.f3 rfl rfl rfl rfl rfl rfl rfl ⟨rfl, rfl, rfl, rfl, rfl⟩ rfl rfl rfl rfl rfl (by kernel_rfl) Try.func3 (by kernel_rfl)
    (of_decide_eq_true (by kernel_rfl)) (by unfold Func.isWrapper; first | (rw [if_pos (by decide +kernel)]; kernel_rfl) | (rw [if_neg (by decide +kernel)]; exact ⟨rfl, rfl⟩))
    (fun os started H enc _ => lifted os started H enc)

theorem proved : Rows.WaitPlaysSaid :=
  over
#print axioms proved

end Go.Proofs.Yteglnlhdgfpglaa.waitPlays
