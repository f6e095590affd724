/-
  The document's clocks: Dues. No condition but the state's own.
-/
import Derived.Test.YtmgcdfndmokgnaaDe9
import Derived.BigQuiet
namespace Go.Proofs.Ytmgcdfndmokgnaa
open Go Go.RowKit
set_option linter.unusedVariables false
set_option linter.unusedSimpArgs false

theorem up_take_le {l : List Ck} {k b : Nat} (hu : Up l) (hk : k ≤ l.length) (h : ∀ (h0 : 0 < k) (h1 : k - 1 < l.length), (l[k - 1]).2 ≤ b) : ∀ z ∈ l.take k, z.2 ≤ b := by
  intro z hz
  obtain ⟨i, hi, rfl⟩ := List.getElem_of_mem hz
  rw [List.length_take] at hi
  have h2 := h (by omega) (by omega)
  rw [List.getElem_take]
  rcases Nat.lt_or_ge i (k - 1) with h' | h'
  · have := List.pairwise_iff_getElem.1 hu i (k - 1) (by omega) (by omega) h'
    exact Nat.le_trans this h2
  · obtain rfl : i = k - 1 := by omega
    exact h2
theorem drop_gt {l : List Ck} {k b : Nat} (hk : k < l.length) (h : ∀ z ∈ l.drop (k + 1), b < z.2) (h1 : b < (l[k]).2) : ∀ z ∈ l.drop k, b < z.2 := by
  intro z hz
  rw [List.drop_eq_getElem_cons hk] at hz
  rcases List.mem_cons.1 hz with rfl | hz
  · exact h1
  · exact h z hz
theorem srt_next {D : List Ck} {j : Nat} (h : j < D.length) : srt (D.take (j + 1)) = insS (srt (D.take j)) ((D[j]).1, (D[j]).2) := by
  rw [List.take_add_one, List.getElem?_eq_getElem h]
  exact srt_snoc _ _
theorem srt_len (D : List Ck) : (srt D).length = D.length := (srt_perm D).length_eq

/-- append(row, more...) onto a row of one's own. -/
theorem wpList_moreD {w : World} {ops : Array Oper} {rest : List Oper} {o : Oper} {a : Act} {Q : Exit → Act → World → Prop} (hgd : o.guard = none) (s x : Operand)
    (ho : o.op = .call { callee := .builtin .append, args := #[s, x], argTypes := #[28, 28] }) (B : Nat) (v : Value) (hs : a.eval s = v) (l : List Ck) (h : OwnD w B v l) (hB : B ≤ w.heap.size) (n : Nat) (hl : l.length = n)
    (ad : Addr) (m c : Nat) (l2 : List Ck) (hx : a.eval x = .slice (some ad) m c) (hm : l2.length = m) (r : Nat) (hr : n + m = r) (hc : ∀ j u, (l2.flatMap cc)[j]? = some u → w.cell? (ad.add j) = some u) (hb : n + m ≤ 1000000)
    (hK : ∀ ao cap w', AppR 48 2 cc B w w' v (.slice ao r cap) (l ++ l2) → wpList Try.prog ops Q rest (a.put o.dst (.slice ao r cap)) w') : wpList Try.prog ops Q (o :: rest) a w := by
  subst hl hm hr
  obtain ⟨i0, hi, hz0, hz1, hz2⟩ := Try.infoDue
  have hown : w.ownsRow 0 48 2 v l.length (l.flatMap cc) := row_base h (fun k _ => Nat.zero_le _)
  refine wpList_append_foot w hgd s x _ ho 48 i0 _ 2 16 Try.underlying28 hi hz0 hz1 hz2 rfl (by decide) v l.length (l.flatMap cc) hs hown ad l2.length c (l2.flatMap cc) hx (ccs_len l2) hc (ccs_one l2) (by unfold maxLen; omega) (by omega) ?_
  intro v' w' h1 h2 h3
  obtain ⟨ao, cap, rfl⟩ := own_slice' h1
  refine hK ao cap w' ⟨?_, h2, h3⟩
  unfold OwnR
  rw [List.flatMap_append, List.length_append]
  exact row_base h1 (fun k hk => by
    rcases h3 k hk with h' | h'
    · exact (h.lt k h').1
    · omega)

/-- What stands in a row of one's own, at its front and behind a place. -/
theorem own_front {w : World} {B g n bc : Nat} {S : List Ck} (h : OwnD w B (.slice (some ⟨g, 0, none⟩) n bc) S) (k : Nat) : ∀ j u, ((S.take k).flatMap cc)[j]? = some u → w.cell? ((⟨g, 0, none⟩ : Addr).add j) = some u := by
  obtain ⟨rest, -, hl, -⟩ := h.list cc_len
  refine list_seg (A := []) (X := (S.take k).flatMap cc) (C := (S.drop k).flatMap cc ++ rest) (ty := 48) ?_ 0 rfl
  rw [List.nil_append, ← List.append_assoc, ← List.flatMap_append, List.take_append_drop]
  exact hl
theorem own_behind {w : World} {B g n bc : Nat} {S : List Ck} (h : OwnD w B (.slice (some ⟨g, 0, none⟩) n bc) S) (k : Nat) (hk : k ≤ S.length) : ∀ j u, ((S.drop k).flatMap cc)[j]? = some u → w.cell? ((⟨g, k * 2, none⟩ : Addr).add j) = some u := by
  obtain ⟨rest, -, hl, -⟩ := h.list cc_len
  refine list_seg (A := (S.take k).flatMap cc) (X := (S.drop k).flatMap cc) (C := rest) (ty := 48) ?_ (k * 2) (by rw [ccs_len, List.length_take]; omega)
  rw [← List.append_assoc, ← List.flatMap_append, List.take_append_drop]
  exact hl

theorem own_at {w : World} {B g n bc : Nat} {S : List Ck} (h : OwnD w B (.slice (some ⟨g, 0, none⟩) n bc) S) (i : Nat) (hi : i < S.length) :
    w.cell? ⟨g, i * 2, none⟩ = some (.int .i64 ((S[i]).1 : Int)) ∧ w.cell? ⟨g, i * 2 + 1, none⟩ = some (.int .i64 ((S[i]).2 : Int)) := by
  obtain ⟨a', c', e', hsn, -⟩ := OwnR.seen cc_len h
  cases e'
  obtain ⟨b', off', e', -, c0, c1⟩ := seenK_at hsn i hi
  cases e'
  rw [Nat.zero_add] at c0 c1
  exact ⟨c0, c1⟩

set_option maxRecDepth 100000 in
set_option maxHeartbeats 8000000 in
theorem rdues_any {w : World} {m B : Nat} {v : Value} {D : List Ck} (h : RV w m B v D) :
    Calls Try.prog 18 #[.pointer (some ⟨m, 0, none⟩)] w fun e w' => ∃ bo bc, e = .returned (.slice bo D.length bc) ∧ OwnD w' w.heap.size (.slice bo D.length bc) (srt D) ∧ Below w.heap.size w w' := by
  have H := Lib.hid h
  obtain ⟨ao, cap, rfl, hs⟩ := h.shape
  have HS := Lib.hid hs
  have hL := h.len
  have hmw := h.lt
  obtain ⟨Z, hZ⟩ : ∃ Z, w.heap.size = Z := ⟨_, rfl⟩
  obtain ⟨w1, e1⟩ : ∃ w1, w1 = w.alloc (.cells #[] 48) := ⟨_, rfl⟩
  obtain ⟨s1, n1, b1⟩ := new_size e1
  have O1 := Lib.hid (show OwnD w1 w.heap.size (.slice (some ⟨Z, 0, none⟩) 0 0) [] by rw [e1]; exact ownD_lit0 w Z hZ.symm)
  have B1 := Lib.hid b1
  have HZ := Lib.hid hZ
  rw [hZ] at hmw
  clear h hs hZ s1 n1 b1
  obtain ⟨M, hM⟩ : ∃ M, D.length = M := ⟨_, rfl⟩
  rw [hM] at hL H
  simp only [hM]
  have HM := Lib.hid hM
  clear hM
  go_enter Try.func18, Try.ntmps18
  go_upto_region 2 with fail
  rw [← e1, HZ.out]
  clear e1
  go_wp2_with fail
  go_loopw [3, 4] (fun d i wr => ∃ (j g bc : Nat), j ≤ M ∧ i = .int .i64 j ∧ d = .slice (some ⟨g, 0, none⟩) j bc ∧ OwnD wr w.heap.size (.slice (some ⟨g, 0, none⟩) j bc) (srt (D.take j)) ∧ Below w.heap.size w wr) (fun _ i _ => M - (intOf i).toNat)
  case atStart => exact ⟨0, _, _, Nat.zero_le _, rfl, rfl, O1.out, B1.out⟩
  case round =>
    clear O1 B1
    obtain ⟨wo, rfl⟩ : ∃ wo, wo = wr := ⟨_, rfl⟩
    obtain ⟨j, g, bc, hj, rfl, rfl, hO, hBl⟩ := hrel
    have HO := Lib.hid hO
    have HB := Lib.hid hBl
    have cm := (H.out.below HB.out).cell
    obtain ⟨hjb, hbb⟩ := hO.caps
    clear hO hBl
    by_cases hlt : j < M
    · have hlt' : j < D.length := by rw [HM.out]; exact hlt
      obtain ⟨b, off, rfl, hbw, c0, c1⟩ := seenK_at (SeenR.below HS.out HB.out) j hlt'
      have hnx := srt_next hlt'
      obtain ⟨S, hS⟩ : ∃ S, srt (D.take j) = S := ⟨_, rfl⟩
      have hup := srt_up (D.take j)
      have hSl : S.length = j := by rw [← hS, srt_len, List.length_take]; omega
      rw [hS] at hnx HO hup
      obtain ⟨ci, hci⟩ : ∃ ci, (D[j]).1 = ci := ⟨_, rfl⟩
      obtain ⟨cg, hcg⟩ : ∃ cg, (D[j]).2 = cg := ⟨_, rfl⟩
      have HCI := Lib.hid (And.intro hci hcg)
      rw [hci] at c0 hnx
      rw [hcg] at c1 hnx
      clear hci hcg
      have HNX := Lib.hid hnx
      have HUP := Lib.hid hup
      have HSL := Lib.hid hSl
      clear hnx hup hSl hS
      go_wp2_with fail
      go_loopw [5] (fun i wq => ∃ (k q : Nat), k ≤ j ∧ i = .int .i64 k ∧ wq = wo.drewN q ∧ Hid (∀ z ∈ S.drop k, cg < z.2)) (fun i _ => (intOf i).toNat)
      case atStart => exact ⟨j, 0, Nat.le_refl _, rfl, rfl, Lib.hid (by rw [List.drop_of_length_le (by rw [HSL.out]; exact Nat.le_refl _)]; simp)⟩
      case round =>
        obtain ⟨k, q, hk, rfl, hw, hgt⟩ := hrel
        have HW := Lib.hid hw
        have hbq : Below wo.heap.size wo wr := by rw [hw]; exact below_drewN (Below.refl _ _) q
        have cqm := (H.out.below (below_on HB.out hbq)).cell
        have cq0 := cell_kept hbq c0
        have cq1 := cell_kept hbq c1
        have Oq := Lib.hid (OwnR.below HO.out hbq)
        clear hw hbq cm c0 c1
        by_cases h0 : 0 < k
        · have hks : k - 1 < S.length := by rw [HSL.out]; omega
          have cs1 := (own_at Oq.out (k - 1) hks).2
          have hle0 := fun (h : (S[k - 1]).2 ≤ cg) => up_take_le HUP.out (by rw [HSL.out]; exact hk) (b := cg) (fun _ _ => h)
          have hgt0 := fun (h : cg < (S[k - 1]).2) => drop_gt (l := S) (k := k - 1) (b := cg) hks (by rw [Nat.sub_add_cancel h0]; exact hgt.out) h
          generalize (S[k - 1]).2 = sg at *
          have d0 : (0 : Int) < (k : Int) := by omega
          have d1 : (0 : Int) ≤ (k : Int) - 1 := by omega
          have d2 : ((k : Int) - 1).toNat = k - 1 := by omega
          have d3 : (k : Int) - 1 < (j : Int) := by omega
          have d4 : IntKind.i64.wrap ((k : Int) - 1) = (k : Int) - 1 := by rw [IntKind.wrap_i64]; omega
          by_cases hst : cg < sg
          · have d5 : (cg : Int) < (sg : Int) := by omega
            have HG := Lib.hid (hgt0 hst)
            clear hle0 hgt0 hst hgt
            go_wp2_with fail
            go_quiet (fail)
            go_wp2_with fail
            go_roundw
            case rel => exact ⟨k - 1, q + nq, by omega, by go_num, by rw [HW.out]; exact drewN_more wo q nq, HG⟩
            case measure => simp [intOf]; omega
          · have d5 : ¬ ((cg : Int) < (sg : Int)) := by omega
            have hle := hle0 (by omega)
            clear hle0 hgt0 hst
            go_wp2_with fail
            go_quiet (fail)
            obtain ⟨w5, e5⟩ : ∃ w5, w5 = wr.drewN nq := ⟨_, rfl⟩
            have hb5 : Below wo.heap.size wo w5 := by rw [e5, HW.out]; exact below_drewN (below_drewN (Below.refl _ _) q) nq
            have B5 := Lib.hid (below_on HB.out hb5)
            have O5 := Lib.hid (OwnR.below HO.out hb5)
            rw [← e5]
            clear e5 hb5 cq0 cq1 cqm
            have hins := insS_at S (ci, cg) k (by rw [HSL.out]; exact hk) hle hgt.out
            have HINS := Lib.hid hins
            clear hins hle hgt
            have b6 := below_box (w := w5) (.cells #[] 48)
            have B6 := Lib.hid b6
            have O6 := Lib.hid (OwnR.below O5.out b6)
            have HT := Lib.hid (show (S.take k).length = k by rw [List.length_take, HSL.out]; omega)
            have HDr := Lib.hid (show (S.drop k).length = j - k by rw [List.length_drop, HSL.out])
            have cm5 := (H.out.below B5.out).cell
            clear b6
            go_wp2_with (at_builtin; refine wpList_moreD rfl _ _ rfl w5.heap.size _ rfl [] ?za01 ?za02 0 rfl ⟨g, 0, none⟩ k bc (S.take k) rfl HT.out k (by omega) ?za03 (by omega) ?_)
            case za01 => exact ownD_lit0 w5 _ (by simp)
            case za02 => exact B6.out.size
            case za03 => exact own_front O6.out k
            intro a7 k7 w7 hA
            have B7 := Lib.hid (show Below w5.heap.size w5 w7 from B6.out.trans (hA.only.below B6.out.size (fun q hq => by
              have := ((ownD_lit0 w5 w5.heap.size rfl).lt q (by simpa using hq)).1
              omega)))
            have R7 := Lib.hid (show OwnD w7 w5.heap.size (.slice a7 k k7) (S.take k) from hA.row)
            clear hA
            have cm7 := (H.out.below (below_on B5.out B7.out)).cell
            obtain ⟨b', off', e', hbw', c0', c1'⟩ := seenK_at (SeenR.below HS.out (below_on B5.out B7.out)) j hlt'
            cases e'
            rw [(HCI.out).1] at c0'
            rw [(HCI.out).2] at c1'
            clear hbw' cm5
            have b8 := below_box (w := w7) (.cells #[.int .i64 (ci : Int), .int .i64 (cg : Int)] 48)
            have B8 := Lib.hid (B7.out.trans (b8.mono B7.out.size))
            have R8 := Lib.hid (OwnR.below R7.out b8)
            clear b8
            go_wp2_with (at_builtin; refine wpList_pushD rfl _ _ rfl w5.heap.size _ rfl (S.take k) ?zb01 ?zb02 k HT.out _ 1 (ci, cg) rfl ?zb03 (by omega) ?_)
            case zb01 => exact R8.out
            case zb02 => exact B8.out.size
            case zb03 => exact lit_due _ ci cg _ (by simp)
            intro a9 k9 w9 hA
            have B9 := Lib.hid (show Below w5.heap.size w5 w9 from B8.out.trans (hA.only.below B8.out.size (fun q hq => (R8.out.lt q hq).1)))
            have R9 := Lib.hid (show OwnD w9 w5.heap.size (.slice a9 (k + 1) k9) (S.take k ++ [(ci, cg)]) from hA.row)
            clear hA cm7 c0' c1'
            have O9 := Lib.hid (OwnR.below O5.out B9.out)
            have cm9 := (H.out.below (below_on B5.out B9.out)).cell
            have HT9 := Lib.hid (show (S.take k ++ [(ci, cg)]).length = k + 1 by rw [List.length_append, HT.out]; rfl)
            by_cases hbk : bc = k
            · subst hbk
              go_wp2_with (at_builtin; refine wpList_moreD rfl _ _ rfl w5.heap.size _ rfl (S.take bc ++ [(ci, cg)]) ?zc001 ?zc002 (bc + 1) HT9.out ⟨g, 0, none⟩ 0 _ (S.drop bc) rfl (by rw [HDr.out]; omega) (j + 1) (by omega) ?zc003 (by omega) ?_)
              case zc001 => exact R9.out
              case zc002 => exact B9.out.size
              case zc003 =>
                intro t u hu
                rw [show S.drop bc = [] from List.drop_of_length_le (by rw [HSL.out]; omega)] at hu
                cases hu
              intro a10 k10 w10 hA
              have hr10 : OwnD w10 w5.heap.size (.slice a10 (j + 1) k10) (srt (D.take (j + 1))) := by
                have := hA.row
                rw [HNX.out, HINS.out]
                simpa using this
              have B10 := Lib.hid (below_on B5.out (show Below w5.heap.size w5 w10 from B9.out.trans (hA.only.below B9.out.size (fun q hq => (R9.out.lt q hq).1))))
              rcases hr10.2 with ⟨e, e2⟩ | ⟨g', cap', cur, e, -⟩
              · exfalso
                rw [srt_len, List.length_take] at e2
                omega
              have e1 : a10 = some ⟨g', 0, none⟩ := by injection e
              subst e1
              have R10 := Lib.hid (OwnR.mono hr10 B5.out.size)
              clear hA hr10 e
              go_wp2_with fail
              go_roundw
              case rel => exact ⟨j + 1, g', k10, hlt, by go_num, rfl, R10.out, B10.out⟩
              case measure => simp [intOf]; omega
            · go_wp2_with (at_builtin; refine wpList_moreD rfl _ _ rfl w5.heap.size _ rfl (S.take k ++ [(ci, cg)]) ?zc001 ?zc002 (k + 1) HT9.out ⟨g, k * 2, none⟩ (j - k) _ (S.drop k) rfl HDr.out (j + 1) (by omega) ?zc003 (by omega) ?_)
              case zc001 => exact R9.out
              case zc002 => exact B9.out.size
              case zc003 => exact own_behind O9.out k (by rw [HSL.out]; exact hk)
              intro a10 k10 w10 hA
              have hr10 : OwnD w10 w5.heap.size (.slice a10 (j + 1) k10) (srt (D.take (j + 1))) := by
                have := hA.row
                rw [HNX.out, HINS.out]
                simpa using this
              have B10 := Lib.hid (below_on B5.out (show Below w5.heap.size w5 w10 from B9.out.trans (hA.only.below B9.out.size (fun q hq => (R9.out.lt q hq).1))))
              rcases hr10.2 with ⟨e, e2⟩ | ⟨g', cap', cur, e, -⟩
              · exfalso
                rw [srt_len, List.length_take] at e2
                omega
              have e1 : a10 = some ⟨g', 0, none⟩ := by injection e
              subst e1
              have R10 := Lib.hid (OwnR.mono hr10 B5.out.size)
              clear hA hr10 e
              go_wp2_with fail
              go_roundw
              case rel => exact ⟨j + 1, g', k10, hlt, by go_num, rfl, R10.out, B10.out⟩
              case measure => simp [intOf]; omega
        · have hle : ∀ z ∈ S.take k, z.2 ≤ cg := by
            obtain rfl : k = 0 := by omega
            simp
          have d0 : ¬ ((0 : Int) < (k : Int)) := by omega
          go_wp2_with fail
          go_quiet (fail)
          obtain ⟨w5, e5⟩ : ∃ w5, w5 = wr.drewN nq := ⟨_, rfl⟩
          have hb5 : Below wo.heap.size wo w5 := by rw [e5, HW.out]; exact below_drewN (below_drewN (Below.refl _ _) q) nq
          have B5 := Lib.hid (below_on HB.out hb5)
          have O5 := Lib.hid (OwnR.below HO.out hb5)
          rw [← e5]
          clear e5 hb5 cq0 cq1 cqm
          have hins := insS_at S (ci, cg) k (by rw [HSL.out]; exact hk) hle hgt.out
          have HINS := Lib.hid hins
          clear hins hle hgt
          have b6 := below_box (w := w5) (.cells #[] 48)
          have B6 := Lib.hid b6
          have O6 := Lib.hid (OwnR.below O5.out b6)
          have HT := Lib.hid (show (S.take k).length = k by rw [List.length_take, HSL.out]; omega)
          have HDr := Lib.hid (show (S.drop k).length = j - k by rw [List.length_drop, HSL.out])
          have cm5 := (H.out.below B5.out).cell
          clear b6
          go_wp2_with (at_builtin; refine wpList_moreD rfl _ _ rfl w5.heap.size _ rfl [] ?za11 ?za12 0 rfl ⟨g, 0, none⟩ k bc (S.take k) rfl HT.out k (by omega) ?za13 (by omega) ?_)
          case za11 => exact ownD_lit0 w5 _ (by simp)
          case za12 => exact B6.out.size
          case za13 => exact own_front O6.out k
          intro a7 k7 w7 hA
          have B7 := Lib.hid (show Below w5.heap.size w5 w7 from B6.out.trans (hA.only.below B6.out.size (fun q hq => by
            have := ((ownD_lit0 w5 w5.heap.size rfl).lt q (by simpa using hq)).1
            omega)))
          have R7 := Lib.hid (show OwnD w7 w5.heap.size (.slice a7 k k7) (S.take k) from hA.row)
          clear hA
          have cm7 := (H.out.below (below_on B5.out B7.out)).cell
          obtain ⟨b', off', e', hbw', c0', c1'⟩ := seenK_at (SeenR.below HS.out (below_on B5.out B7.out)) j hlt'
          cases e'
          rw [(HCI.out).1] at c0'
          rw [(HCI.out).2] at c1'
          clear hbw' cm5
          have b8 := below_box (w := w7) (.cells #[.int .i64 (ci : Int), .int .i64 (cg : Int)] 48)
          have B8 := Lib.hid (B7.out.trans (b8.mono B7.out.size))
          have R8 := Lib.hid (OwnR.below R7.out b8)
          clear b8
          go_wp2_with (at_builtin; refine wpList_pushD rfl _ _ rfl w5.heap.size _ rfl (S.take k) ?zb11 ?zb12 k HT.out _ 1 (ci, cg) rfl ?zb13 (by omega) ?_)
          case zb11 => exact R8.out
          case zb12 => exact B8.out.size
          case zb13 => exact lit_due _ ci cg _ (by simp)
          intro a9 k9 w9 hA
          have B9 := Lib.hid (show Below w5.heap.size w5 w9 from B8.out.trans (hA.only.below B8.out.size (fun q hq => (R8.out.lt q hq).1)))
          have R9 := Lib.hid (show OwnD w9 w5.heap.size (.slice a9 (k + 1) k9) (S.take k ++ [(ci, cg)]) from hA.row)
          clear hA cm7 c0' c1'
          have O9 := Lib.hid (OwnR.below O5.out B9.out)
          have cm9 := (H.out.below (below_on B5.out B9.out)).cell
          have HT9 := Lib.hid (show (S.take k ++ [(ci, cg)]).length = k + 1 by rw [List.length_append, HT.out]; rfl)
          by_cases hbk : bc = k
          · subst hbk
            go_wp2_with (at_builtin; refine wpList_moreD rfl _ _ rfl w5.heap.size _ rfl (S.take bc ++ [(ci, cg)]) ?zc101 ?zc102 (bc + 1) HT9.out ⟨g, 0, none⟩ 0 _ (S.drop bc) rfl (by rw [HDr.out]; omega) (j + 1) (by omega) ?zc103 (by omega) ?_)
            case zc101 => exact R9.out
            case zc102 => exact B9.out.size
            case zc103 =>
              intro t u hu
              rw [show S.drop bc = [] from List.drop_of_length_le (by rw [HSL.out]; omega)] at hu
              cases hu
            intro a10 k10 w10 hA
            have hr10 : OwnD w10 w5.heap.size (.slice a10 (j + 1) k10) (srt (D.take (j + 1))) := by
              have := hA.row
              rw [HNX.out, HINS.out]
              simpa using this
            have B10 := Lib.hid (below_on B5.out (show Below w5.heap.size w5 w10 from B9.out.trans (hA.only.below B9.out.size (fun q hq => (R9.out.lt q hq).1))))
            rcases hr10.2 with ⟨e, e2⟩ | ⟨g', cap', cur, e, -⟩
            · exfalso
              rw [srt_len, List.length_take] at e2
              omega
            have e1 : a10 = some ⟨g', 0, none⟩ := by injection e
            subst e1
            have R10 := Lib.hid (OwnR.mono hr10 B5.out.size)
            clear hA hr10 e
            go_wp2_with fail
            go_roundw
            case rel => exact ⟨j + 1, g', k10, hlt, by go_num, rfl, R10.out, B10.out⟩
            case measure => simp [intOf]; omega
          · go_wp2_with (at_builtin; refine wpList_moreD rfl _ _ rfl w5.heap.size _ rfl (S.take k ++ [(ci, cg)]) ?zc101 ?zc102 (k + 1) HT9.out ⟨g, k * 2, none⟩ (j - k) _ (S.drop k) rfl HDr.out (j + 1) (by omega) ?zc103 (by omega) ?_)
            case zc101 => exact R9.out
            case zc102 => exact B9.out.size
            case zc103 => exact own_behind O9.out k (by rw [HSL.out]; exact hk)
            intro a10 k10 w10 hA
            have hr10 : OwnD w10 w5.heap.size (.slice a10 (j + 1) k10) (srt (D.take (j + 1))) := by
              have := hA.row
              rw [HNX.out, HINS.out]
              simpa using this
            have B10 := Lib.hid (below_on B5.out (show Below w5.heap.size w5 w10 from B9.out.trans (hA.only.below B9.out.size (fun q hq => (R9.out.lt q hq).1))))
            rcases hr10.2 with ⟨e, e2⟩ | ⟨g', cap', cur, e, -⟩
            · exfalso
              rw [srt_len, List.length_take] at e2
              omega
            have e1 : a10 = some ⟨g', 0, none⟩ := by injection e
            subst e1
            have R10 := Lib.hid (OwnR.mono hr10 B5.out.size)
            clear hA hr10 e
            go_wp2_with fail
            go_roundw
            case rel => exact ⟨j + 1, g', k10, hlt, by go_num, rfl, R10.out, B10.out⟩
            case measure => simp [intOf]; omega
    · obtain rfl : j = M := by omega
      have e : D.take j = D := List.take_of_length_le (by rw [HM.out]; exact Nat.le_refl _)
      rw [e] at HO
      go_wp2_with fail
      go_ret
      exact ⟨_, bc, rfl, HO.out, HB.out⟩

end Go.Proofs.Ytmgcdfndmokgnaa
