/-
  DeltaOver: for every list of numbers of ticks the statement's function answers true: each clock that is put is over behind just its ticks, whichever others run. No condition.
-/
import Derived.Test.YtmgcdfndmokgnaaDe16
import Derived.ProofKit
import Derived.OpenShut
import Derived.ShutString
import Derived.HandedShaped
import Derived.BigRegion
import Derived.Deep.RegionWith
import Derived.Deep.DeepCutAuto
namespace Go.Proofs.Ytmgcdfndmokgnaa.deltaOver
open Go Go.ChangeShapes Go.WideShapes Go.ChangeAt Go.RowKit
open Go.ChangeMaps (open_string shut_string)
set_option linter.unusedVariables false

set_option maxRecDepth 100000 in
set_option maxHeartbeats 16000000 in
theorem walk_long {w : World} (ao : Option Addr) (cap : Nat) (l : List Int) (hl : 100 < l.length) : Calls Try.prog 4 #[.slice ao l.length cap] w fun e w' => e = .returned (.bool true) ∧ Below w.heap.size w w' := by
  have HA := Lib.hid awake15_any
  have hd : decide ((100 : Int) < (l.length : Int)) = true := by simp <;> omega
  go_enter Try.func4, Try.ntmps4
  go_wp2_with fail
  refine (HA.out w).mono ?_
  rintro e w1 ⟨rfl, h⟩
  have B1 := Lib.hid h
  clear h
  go_wp2_with fail
  refine (HA.out w1).mono ?_
  rintro e w2 ⟨rfl, h⟩
  have B2 := Lib.hid (below_on B1.out h)
  clear h
  go_wp2_with fail
  go_ret
  exact ⟨rfl, B2.out⟩

set_option maxRecDepth 100000 in
set_option maxHeartbeats 16000000 in
theorem walk_short {w : World} (ao : Option Addr) (cap : Nat) (l : List Int) (hs : SeenZ w ao cap l) (hok : ∀ z ∈ l, (Lit.int .i64 z).wf = true) (hl : l.length ≤ 100) : Calls Try.prog 4 #[.slice ao l.length cap] w fun e w' => e = .returned (.bool true) ∧ Below w.heap.size w w' := by
  have HA := Lib.hid (awake15_any w)
  have hd : decide ((100 : Int) < (l.length : Int)) = false := by simp <;> omega
  have HS := Lib.hid hs
  obtain ⟨Z, hZ, hz⟩ := zero_100
  have HZ := Lib.hid hZ
  clear hs hok hZ
  obtain ⟨M, hM⟩ : ∃ M, l.length = M := ⟨_, rfl⟩
  rw [hM] at hl hd
  simp only [hM]
  have HM := Lib.hid hM
  clear hM
  go_enter Try.func4, Try.ntmps4
  go_wp2_with fail
  refine HA.out.mono ?_
  rintro e w1 ⟨rfl, h⟩
  have B1 := Lib.hid h
  clear h
  obtain ⟨w2, e2⟩ : ∃ w2, w2 = w1.alloc (.cells #[.slice none 0 0] 26) := ⟨_, rfl⟩
  obtain ⟨w3, e3⟩ : ∃ w3, w3 = w2.alloc (.cells Z 44) := ⟨_, rfl⟩
  obtain ⟨s2, -, -⟩ := new_size e2
  obtain ⟨s3, -, b3⟩ := new_size e3
  obtain ⟨D, hD⟩ : ∃ D, w1.heap.size = D := ⟨_, rfl⟩
  obtain ⟨E, hE⟩ : ∃ E, D + 1 = E := ⟨_, rfl⟩
  have hT3 := (one_new e2).kept b3
  have hA3 := HZ.out w2
  rw [← e3] at hA3
  rw [s2, hD, hE] at hA3
  rw [hD] at hT3
  have T3 := Lib.hid hT3
  have A3 := Lib.hid hA3
  have HD := Lib.hid hD
  have HE := Lib.hid hE
  have hE1 : w1.heap.size ≤ E := by omega
  clear hT3 hA3 s2 s3 b3 hD hE
  go_upto_region 5 with fail
  rw [← e2, ← e3, HD.out, HE.out]
  clear e2 e3 hz
  go_wp2_with fail
  go_loopw [25] (fun i wr => ∃ j : Nat, j ≤ M ∧ i = .int .i64 j ∧ OneL w1 wr D (ovD l 0 j) ∧ AB wr E (fun i => decide (i < j) && okV (l.getD i 0))) (fun i _ => M - (intOf i).toNat)
  case atStart => exact ⟨0, Nat.zero_le _, rfl, T3.out, AB.as A3.out (fun j _ => by simp)⟩
  case round =>
    clear T3 A3 HZ
    obtain ⟨j, hj, rfl, hT4, hA4⟩ := hrel
    have T4 := Lib.hid hT4
    have A4 := Lib.hid hA4
    clear hT4 hA4
    by_cases hlt : j < M
    · have hjl : j < l.length := by rw [HM.out]; exact hlt
      have hj100 : j < 100 := by omega
      obtain ⟨b0, off, rfl, hb0, c0⟩ := seenZ_at (SeenR.below HS.out (below_on B1.out T4.out.bel)) j hjl
      have KP := on_put T4.out (j : Int) (l.getD j 0)
      have hPK := ovD_put l j (by omega)
      have hPD := ovD_next l j (by omega)
      obtain ⟨tv, htv⟩ : ∃ tv, l.getD j 0 = tv := ⟨_, rfl⟩
      rw [show l[j] = tv by rw [← htv, List.getD_eq_getElem?_getD, List.getElem?_eq_getElem hjl]; rfl] at c0
      rw [htv] at KP hPK hPD
      have HLv := Lib.hid htv
      clear htv hjl hd
      by_cases h1 : 1 ≤ tv
      · by_cases h2 : tv < 4294967296
        · have d0 : tv < 4294967296 := h2
          have hV : okV tv = true := by unfold okV; exact decide_eq_true ⟨by omega, by omega⟩
          rw [hV] at hPK
          simp only [hPK, if_true] at KP
          have KPP := Lib.hid KP
          have HPD := Lib.hid hPD
          clear KP hPK hPD
          go_wp2_with fail
          refine KPP.out.mono ?_
          rintro e w5 ⟨rfl, t5, p5⟩
          rw [HPD.out] at t5
          have A5 := A4.out.kc p5
          obtain ⟨w6, e6⟩ : ∃ w6, w6 = w5.setCell ⟨E, j, none⟩ (.bool true) := ⟨_, rfl⟩
          have f5 := A5.thawed j
          have c5 := A5.cell j hj100
          have T6 := Lib.hid (show OneL w1 w6 D (ovD l 0 (j + 1)) by rw [e6]; exact t5.aside A5 hE1 j _)
          have A6 := Lib.hid (show AB w6 E (fun i => decide (i < j + 1) && okV (l.getD i 0)) from AB.as (by rw [e6]; exact A5.set j true) (fun i hi => by
            have hL := HLv.out
            by_cases hij : i = j
            · subst hij
              rw [if_pos rfl, hL, hV]
              simp
            · rw [if_neg hij]
              congr 1
              exact bool_eq (by simp; omega)))
          have c6 : w6.cell? ⟨E, j, none⟩ = some (.bool true) := by
            rw [A6.out.cell j hj100]
            have hL := HLv.out
            simp only [hL, hV]
            simp
          clear t5 p5 A5 KPP
          go_upto_region 10 with fail
          rw [← e6]
          clear e6 f5 c5
          go_wp2_with fail
          go_roundw
          case rel =>
            first
              | exact ⟨j + 1, hlt, by go_num, T6.out, A6.out⟩
              | ((repeat apply Exists.intro); exact ⟨⟨j + 1, hlt, by go_num, T6.out, A6.out⟩, rfl⟩)
          case measure => simp [intOf]; omega
        · have d1 : ¬ (tv < 4294967296) := h2
          have hV : okV tv = false := by unfold okV; exact decide_eq_false (fun h => by omega)
          rw [hV] at hPK
          simp only [hPK, Bool.false_eq_true, if_false] at KP
          have KPP := Lib.hid KP
          have HPD := Lib.hid hPD
          clear KP hPK hPD
          go_wp2_with fail
          refine KPP.out.mono ?_
          rintro e w5 ⟨rfl, t5, p5⟩
          rw [HPD.out] at t5
          have A5 := A4.out.kc p5
          obtain ⟨w6, e6⟩ : ∃ w6, w6 = w5.setCell ⟨E, j, none⟩ (.bool false) := ⟨_, rfl⟩
          have f5 := A5.thawed j
          have c5 := A5.cell j hj100
          have T6 := Lib.hid (show OneL w1 w6 D (ovD l 0 (j + 1)) by rw [e6]; exact t5.aside A5 hE1 j _)
          have A6 := Lib.hid (show AB w6 E (fun i => decide (i < j + 1) && okV (l.getD i 0)) from AB.as (by rw [e6]; exact A5.set j false) (fun i hi => by
            have hL := HLv.out
            by_cases hij : i = j
            · subst hij
              rw [if_pos rfl, hL, hV]
              simp
            · rw [if_neg hij]
              congr 1
              exact bool_eq (by simp; omega)))
          have c6 : w6.cell? ⟨E, j, none⟩ = some (.bool false) := by
            rw [A6.out.cell j hj100]
            have hL := HLv.out
            simp only [hL, hV]
            simp
          clear t5 p5 A5 KPP
          go_upto_region 10 with fail
          rw [← e6]
          clear e6 f5 c5
          go_wp2_with fail
          go_roundw
          case rel =>
            first
              | exact ⟨j + 1, hlt, by go_num, T6.out, A6.out⟩
              | ((repeat apply Exists.intro); exact ⟨⟨j + 1, hlt, by go_num, T6.out, A6.out⟩, rfl⟩)
          case measure => simp [intOf]; omega
      · have d1 : ¬ (1 ≤ tv) := h1
        have hV : okV tv = false := by unfold okV; exact decide_eq_false (fun h => by omega)
        rw [hV] at hPK
        simp only [hPK, Bool.false_eq_true, if_false] at KP
        have KPP := Lib.hid KP
        have HPD := Lib.hid hPD
        clear KP hPK hPD
        go_wp2_with fail
        refine KPP.out.mono ?_
        rintro e w5 ⟨rfl, t5, p5⟩
        rw [HPD.out] at t5
        have A5 := A4.out.kc p5
        obtain ⟨w6, e6⟩ : ∃ w6, w6 = w5.setCell ⟨E, j, none⟩ (.bool false) := ⟨_, rfl⟩
        have f5 := A5.thawed j
        have c5 := A5.cell j hj100
        have T6 := Lib.hid (show OneL w1 w6 D (ovD l 0 (j + 1)) by rw [e6]; exact t5.aside A5 hE1 j _)
        have A6 := Lib.hid (show AB w6 E (fun i => decide (i < j + 1) && okV (l.getD i 0)) from AB.as (by rw [e6]; exact A5.set j false) (fun i hi => by
          have hL := HLv.out
          by_cases hij : i = j
          · subst hij
            rw [if_pos rfl, hL, hV]
            simp
          · rw [if_neg hij]
            congr 1
            exact bool_eq (by simp; omega)))
        have c6 : w6.cell? ⟨E, j, none⟩ = some (.bool false) := by
          rw [A6.out.cell j hj100]
          have hL := HLv.out
          simp only [hL, hV]
          simp
        clear t5 p5 A5 KPP
        go_upto_region 10 with fail
        rw [← e6]
        clear e6 f5 c5
        go_wp2_with fail
        go_roundw
        case rel =>
          first
            | exact ⟨j + 1, hlt, by go_num, T6.out, A6.out⟩
            | ((repeat apply Exists.intro); exact ⟨⟨j + 1, hlt, by go_num, T6.out, A6.out⟩, rfl⟩)
        case measure => simp [intOf]; omega
    · obtain rfl : M = j := by omega
      have A5 := Lib.hid (show AB wr E (fun i => decide (i < M) && okV (l.getD i 0)) from A4.out)
      have T5 := Lib.hid T4.out
      clear T4 A4 hlt hj
      go_wp2_with fail
      go_loopw [8] (fun i wr => ∃ t : Nat, t ≤ 60 ∧ i = .int .i64 ((t : Int) + 1) ∧ OneL w1 wr D (ovD l t M) ∧ AB wr E (fun i => decide (i < M) && okV (l.getD i 0))) (fun i _ => 61 - (intOf i).toNat)
      case atStart => exact ⟨0, by omega, rfl, T5.out, A5.out⟩
      case round =>
        clear T5 A5
        obtain ⟨t, ht, rfl, hT6, hA6⟩ := hrel
        have T6 := Lib.hid hT6
        have A6 := Lib.hid hA6
        clear hT6 hA6
        by_cases htt : t < 60
        · have KT := on_tick T6.out
          rw [ovD_over l t M (by omega), ovD_tick] at KT
          have hle := ovI_le l (t + 1) M
          obtain ⟨u, hu⟩ : ∃ u, t + 1 = u := ⟨_, rfl⟩
          have hui : ((t : Int) + 1) = (u : Int) := by omega
          rw [hu] at KT hle
          obtain ⟨X, hX⟩ : ∃ X, ovI l u M = X := ⟨_, rfl⟩
          rw [hX] at KT hle
          have HAt := Lib.hid (show ∀ i (h : i < X.length), X[i] < M ∧ l.getD X[i] 0 = (u : Int) from by subst hX; exact ovI_at l u M)
          have HUp := Lib.hid (show ∀ i (h : i + 1 < X.length), X[i] < X[i + 1] from by subst hX; exact ovI_up l u M)
          obtain ⟨q, hq⟩ : ∃ q, X.length = q := ⟨_, rfl⟩
          rw [hq] at KT hle
          have HX := Lib.hid hX
          have HQ := Lib.hid hq
          have HU := Lib.hid hu
          have KTT := Lib.hid KT
          have hu1 : 1 ≤ u := by omega
          have hu60 : u ≤ 60 := by omega
          have d60 : (u : Int) ≤ 60 := by omega
          rw [hui]
          clear KT hu hX hq hui
          go_wp2_with fail
          refine KTT.out.mono ?_
          rintro e w5 ⟨a5, c5, rfl, r5, t5, p5⟩
          have R5 := Lib.hid r5
          have T7 := Lib.hid t5
          have A7 := Lib.hid (A6.out.kc p5)
          clear r5 t5 p5 KTT T6 A6
          go_wp2_with fail
          go_loopw [10, 55] (fun la i wr => ∃ (p : Nat) (lv : Int), p ≤ q ∧ i = .int .i64 p ∧ la = .int .i64 lv ∧ (∀ h : p < X.length, lv < (X[p] : Int)) ∧ Below w5.heap.size w5 wr) (fun _ i _ => q - (intOf i).toNat)
          case atStart => exact ⟨0, -1, Nat.zero_le _, rfl, rfl, fun _ => by omega, Below.refl _ _⟩
          case round =>
            obtain ⟨p, lv, hp, rfl, rfl, hlv, hB⟩ := hrel
            have HB := Lib.hid hB
            clear hB
            by_cases hlp : p < q
            · have hpX : p < X.length := by rw [HQ.out]; exact hlp
              have hl1 := hlv hpX
              obtain ⟨hxM, hlx⟩ := HAt.out p hpX
              have hup := HUp.out p
              obtain ⟨g, hg, cs⟩ := ownI_at (OwnR.below R5.out HB.out) p hpX
              cases hg
              obtain ⟨x, hx⟩ : ∃ x, X[p] = x := ⟨_, rfl⟩
              rw [hx] at cs hl1 hxM hlx
              simp only [hx] at hup
              have hxl : x < l.length := by rw [HM.out]; exact hxM
              obtain ⟨b0, off, rfl, hb0, c0⟩ := seenZ_at (SeenR.below HS.out (below_on B1.out (T7.out.kept HB.out).bel)) x hxl
              rw [show l[x] = (u : Int) by rw [← hlx, List.getD_eq_getElem?_getD, List.getElem?_eq_getElem hxl]; rfl] at c0
              have HN2 := Lib.hid (show ∀ h : p + 1 < X.length, (x : Int) < (X[p + 1] : Int) from fun h => by have := hup h; omega)
              have d1 : ¬ ((x : Int) < 0) := by omega
              have d2 : ¬ ((M : Int) ≤ (x : Int)) := by omega
              have d3 : ((u : Int) != (u : Int)) = false := by simp
              have d4 : ¬ ((x : Int) ≤ lv) := by omega
              clear hlv hpX hup hx hlx hxl hl1 htt
              go_wp2_with fail
              go_roundw
              case rel =>
                first
                  | exact ⟨p + 1, (x : Int), hlp, by go_num, rfl, HN2.out, HB.out⟩
                  | ((repeat apply Exists.intro); exact ⟨⟨p + 1, (x : Int), hlp, by go_num, rfl, HN2.out, HB.out⟩, rfl⟩)
              case measure => simp [intOf]; omega
            · obtain rfl : q = p := by omega
              have T8 := Lib.hid (T7.out.kept HB.out)
              have A8 := Lib.hid (A7.out.below HB.out)
              clear R5 T7 A7 HB hlv hlp hp
              obtain ⟨wo, rfl⟩ : ∃ wo, wo = wr := ⟨_, rfl⟩
              go_wp2_with fail
              go_loopw [13, 84] (fun n i wr => ∃ p c : Nat, p ≤ M ∧ i = .int .i64 p ∧ n = .int .i64 c ∧ (ovI l u p).length = c ∧ Below wo.heap.size wo wr) (fun _ i _ => M - (intOf i).toNat)
              case atStart => exact ⟨0, 0, Nat.zero_le _, rfl, rfl, rfl, Below.refl _ _⟩
              case round =>
                obtain ⟨p, c, hp, rfl, rfl, hc, hB⟩ := hrel
                have HB := Lib.hid hB
                clear hB
                by_cases hlp : p < M
                · have hpl : p < l.length := by rw [HM.out]; exact hlp
                  have hcp : c ≤ p := by rw [← hc]; exact ovI_le l u p
                  have hnx := ovI_next l u p
                  have A9 := A8.out.below HB.out
                  have ca := A9.cell p (by omega)
                  obtain ⟨b0, off, rfl, hb0, c0⟩ := seenZ_at (SeenR.below HS.out (below_on B1.out (T8.out.kept HB.out).bel)) p hpl
                  obtain ⟨tv, htv⟩ : ∃ tv, l.getD p 0 = tv := ⟨_, rfl⟩
                  rw [show l[p] = tv by rw [← htv, List.getD_eq_getElem?_getD, List.getElem?_eq_getElem hpl]; rfl] at c0
                  simp only [htv] at ca
                  rw [htv] at hnx
                  have hpd : decide (p < M) = true := decide_eq_true hlp
                  by_cases hv : okV tv = true
                  · rw [hpd, hv] at ca
                    simp only [Bool.and_self] at ca
                    by_cases he : tv = (u : Int)
                    · have d1 : (tv == (u : Int)) = true := by simp [he]
                      have HC1 := Lib.hid (show (ovI l u (p + 1)).length = c + 1 from by rw [hnx, if_pos he, List.length_append, hc]; rfl)
                      clear hnx hc A9 htv hpl hpd hv he htt
                      go_wp2_with fail
                      go_roundw
                      case rel =>
                        first
                          | exact ⟨p + 1, c + 1, hlp, by go_num, by go_num, HC1.out, HB.out⟩
                          | ((repeat apply Exists.intro); exact ⟨⟨p + 1, c + 1, hlp, by go_num, by go_num, HC1.out, HB.out⟩, rfl⟩)
                      case measure => simp [intOf]; omega
                    · have d1 : (tv == (u : Int)) = false := by simpa using he
                      have HC1 := Lib.hid (show (ovI l u (p + 1)).length = c from by rw [hnx, if_neg he, List.length_append, hc]; rfl)
                      clear hnx hc A9 htv hpl hpd hv he htt
                      go_wp2_with fail
                      go_roundw
                      case rel =>
                        first
                          | exact ⟨p + 1, c, hlp, by go_num, rfl, HC1.out, HB.out⟩
                          | ((repeat apply Exists.intro); exact ⟨⟨p + 1, c, hlp, by go_num, rfl, HC1.out, HB.out⟩, rfl⟩)
                      case measure => simp [intOf]; omega
                  · have he : ¬ tv = (u : Int) := fun e => hv (by unfold okV; exact decide_eq_true ⟨by omega, by omega⟩)
                    rw [hpd, Bool.eq_false_iff.2 hv] at ca
                    simp only [Bool.and_false] at ca
                    have HC1 := Lib.hid (show (ovI l u (p + 1)).length = c from by rw [hnx, if_neg he, List.length_append, hc]; rfl)
                    clear hnx hc A9 htv hpl hpd hv he htt
                    go_wp2_with fail
                    go_roundw
                    case rel =>
                      first
                        | exact ⟨p + 1, c, hlp, by go_num, rfl, HC1.out, HB.out⟩
                        | ((repeat apply Exists.intro); exact ⟨⟨p + 1, c, hlp, by go_num, rfl, HC1.out, HB.out⟩, rfl⟩)
                    case measure => simp [intOf]; omega
                · obtain rfl : M = p := by omega
                  obtain rfl : q = c := by rw [← hc, HX.out]; exact HQ.out.symm
                  have d3 : ((q : Int) != (q : Int)) = false := by simp
                  have T9 := Lib.hid (T8.out.kept HB.out)
                  have A9 := Lib.hid (A8.out.below HB.out)
                  clear T8 A8 HB hc hlp hp
                  go_wp2_with fail
                  go_roundw
                  case rel =>
                    first
                      | exact ⟨u, hu60, by go_num, T9.out, A9.out⟩
                      | ((repeat apply Exists.intro); exact ⟨⟨u, hu60, by go_num, T9.out, A9.out⟩, rfl⟩)
                  case measure => simp [intOf]; omega
        · obtain rfl : t = 60 := by omega
          have BF := Lib.hid (below_on B1.out T6.out.bel)
          go_wp2_with fail
          go_ret
          exact ⟨rfl, BF.out⟩

theorem walk {w : World} (ao : Option Addr) (len cap : Nat) (l : List Int) (hs : l.length = len ∧ SeenZ w ao cap l ∧ ∀ o ∈ l, (fun z => (Lit.int .i64 z).wf = true) o) : Calls Try.prog 4 #[.slice ao len cap] w fun e w' => e = .returned (.bool true) ∧ Below w.heap.size w w' := by
  obtain ⟨rfl, hs, hok⟩ := hs
  rcases Nat.lt_or_ge 100 l.length with h | h
  · exact walk_long ao cap l h
  · exact walk_short ao cap l hs hok h

theorem own : ownKnob Try.prog.godebug = none := by kernel_rfl
theorem laidOut : laidOutB Try.prog = true := by kernel_rfl

set_option maxRecDepth 100000 in
theorem lifted (os : Os) (started : os.Started) (H : Type) (enc : TypeId × Value → H) :
    ReturnsInHanded {} Try.checked os 4 .any (Rows.deltaOverSpec.pre6 enc Try.prog Try.f4 Rows.deltaOverRow.domain false) (Rows.deltaOverSpec.post enc Try.prog Try.f4 false true false false) := by
  refine returnsInHanded_of_change_shaped (C := Try.checked) own started (by kernel_rfl) Try.func4
    (ChangeSpec.witness6 (enc := enc) (C := Try.checked) false ⟨#[], #[.slice none 0 0], []⟩ 8 (by kernel_rfl) (by kernel_rfl) (by kernel_rfl) (by kernel_rfl)) ?_
  intro W base args ds gs before hval0 hW hcnd hsz0 hsh _
  have hval : ∀ (j : Nat) t v, Try.f4.params[j]? = some t → args[j]? = some v → Value.okWide Try.prog W .any base t v := hval0
  have hsz : (DataW.weightsEach Try.prog (Try.f4.params.toList ++ Rows.deltaOverSpec.plain.varTypes Try.prog) (ds ++ gs)).all (· ≤ reachBytes) = true := hsz0
  have hW' := hW
  obtain ⟨p, q, hA0, hV, rfl, hfz, hnd⟩ := hW
  have hA : DataW.TrodAll enc Try.prog W 0 (fun _ => true) true Try.f4.params.toList args.toList ds p := hA0
  rw [Try.params4] at hA hval hsz
  obtain ⟨v0, vs0, d0, ds0, p0, q0, hargs, rfl, rfl, h0, r0⟩ := trodAll_cons hA
  obtain ⟨rfl, rfl, rfl⟩ := trodAll_nil r0
  obtain rfl : args = #[v0] := by cases args; simp_all
  obtain ⟨rfl, rfl⟩ := trodVars_none hV
  have k0 := h0
  have lt0 : ∀ x ∈ p0, x.block < W.heap.size := by obtain ⟨m, hm⟩ := k0; exact DataW.trod_lt m _ _ _ hm
  obtain ⟨a0, len0, cap0, rfl⟩ := okWide_slice Try.underlying38 (hval 0 38 v0 rfl rfl)
  obtain ⟨z0, w0⟩ := open_zs h0
  clear hA0 hval0
  refine (walk a0 len0 cap0 z0 w0 ).mono fun e W' ⟨he, bel⟩ => ?_
  subst he
  exact ⟨_, rfl, _, _, _, [], _, [], hW', trodAll_mk1 (shut_bool Try.underlying4 _), (trodAll_cons_mk (Below.trod laidOut (by kernel_rfl) (of_decide_eq_true (by kernel_rfl)) k0 bel lt0) trodAll_mk0), rfl, bel.frame _, fun h => by cases h⟩

theorem over : Rows.deltaOverRow.holds Try.pinned (OpenSpec.ofChange Rows.deltaOverSpec) :=
  OpenClaim.holds_of_wide 4 Try.f4 rfl rfl rfl rfl rfl rfl rfl ⟨rfl, rfl, rfl, rfl, rfl⟩ rfl rfl rfl rfl rfl (by kernel_rfl) Try.func4 (by kernel_rfl)
    (of_decide_eq_true (by kernel_rfl)) (by unfold Func.isWrapper; first | (rw [if_pos (by decide +kernel)]; kernel_rfl) | (rw [if_neg (by decide +kernel)]; exact ⟨rfl, rfl⟩))
    (fun os started H enc _ => lifted os started H enc)

theorem proved : Rows.DeltaOverSaid :=
  over
#print axioms proved

end Go.Proofs.Ytmgcdfndmokgnaa.deltaOver
