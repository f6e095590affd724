/-
  The code's clocks: Tick: the clocks that are over, in a row of their own; what the list holds then. Condition: the first gap is at least 1.
-/
import Derived.Test.YtmgcdfndmokgnaaDe6
namespace Go.Proofs.Ytmgcdfndmokgnaa
open Go Go.RowKit
set_option linter.unusedVariables false
set_option linter.unusedSimpArgs false

theorem while_at : ∀ (T : List Ck) (j : Nat), j ≤ T.length → (∀ k (hk : k < T.length), k < j → (T[k]).2 = 0) → (∀ h : j < T.length, (T[j]).2 ≠ 0) → T.takeWhile nilG = T.take j ∧ T.dropWhile nilG = T.drop j
  | [], j, hj, _, _ => by simp
  | c :: r, 0, _, _, h1 => by
    have : ¬ nilG c = true := by have := h1 (by simp); simpa [nilG] using this
    exact ⟨by rw [List.takeWhile_cons_of_neg this]; rfl, by rw [List.dropWhile_cons_of_neg this]; rfl⟩
  | c :: r, j + 1, hj, h0, h1 => by
    have hc : nilG c = true := by have := h0 0 (by simp) (by omega); simpa [nilG] using this
    obtain ⟨h2, h3⟩ := while_at r j (by simpa using hj) (fun k hk hkj => h0 (k + 1) (by simpa using hk) (by omega)) (fun h => h1 (by simpa using h))
    exact ⟨by rw [List.takeWhile_cons_of_pos hc, h2]; rfl, by rw [List.dropWhile_cons_of_pos hc, h3]; rfl⟩
theorem decG_len (L : List Ck) : (decG L).length = L.length := by cases L <;> rfl
theorem decG_set {L : List Ck} (h : 0 < L.length) : L.set 0 ((L[0]).1, (L[0]).2 - 1) = decG L := by
  cases L with
  | nil => simp at h
  | cons c r => rfl
theorem overC_len (L : List Ck) : (overC L).length ≤ L.length := by
  unfold overC
  rw [List.length_map]
  exact Nat.le_trans (List.takeWhile_sublist _).length_le (by rw [decG_len]; exact Nat.le_refl _)
/-- The numbers of the first so many. -/
def idsT (T : List Ck) (j : Nat) : List Nat := (T.take j).map (·.1)
theorem idsT_len {T : List Ck} {j : Nat} (h : j ≤ T.length) : (idsT T j).length = j := by unfold idsT; rw [List.length_map, List.length_take]; omega
theorem ids_next {T : List Ck} {j : Nat} (h : j < T.length) : idsT T (j + 1) = idsT T j ++ [(T[j]).1] := by
  unfold idsT
  rw [List.take_add_one, List.getElem?_eq_getElem h, List.map_append]; rfl

/-- So many at the front are taken out, or none. -/
theorem front_rest {w : World} {m B g n cap : Nat} {L : List Ck} (h : KV w m B (.slice (some ⟨g, 0, none⟩) n cap) L) (h0 : 0 < n) (j : Nat) (hj : j ≤ n) :
    Calls Try.prog 26 #[.slice (some ⟨g, 0, none⟩) n cap, .int .i64 0, .int .i64 (j : Int)] w fun e w4 => e = .returned (.slice (some ⟨g, 0, none⟩) (n - j) cap) ∧
      KStep B m w (w4.setCell ⟨m, 0, none⟩ (.slice (some ⟨g, 0, none⟩) (n - j) cap)) (.slice (some ⟨g, 0, none⟩) n cap) (.slice (some ⟨g, 0, none⟩) (n - j) cap) (L.drop j) ∧
      w4.cell? ⟨m, 0, none⟩ = some (.slice (some ⟨g, 0, none⟩) n cap) ∧ w4.frozen? ⟨m, 0, none⟩ = false := by
  rcases Nat.eq_zero_or_pos j with rfl | hp
  · obtain ⟨hc, hc2⟩ := h.row.caps
    refine (delete_none (w := w) (g := g) h0 hc hc2).mono ?_
    rintro e w4 ⟨rfl, rfl⟩
    refine ⟨rfl, ?_, h.cell, h.thawed⟩
    rw [Nat.sub_zero, List.drop_zero]
    exact h.fin h.row (Only.refl _ _) (fun k hk => .inl hk) h.len h.ok h.gap
  · have := del_rest h 0 j hp hj
    rw [Nat.zero_add, List.take_zero, List.nil_append] at this
    refine this.mono ?_
    rintro e w4 ⟨rfl, h1, h2, h3, -⟩
    exact ⟨rfl, h1, h2, h3⟩

set_option maxRecDepth 100000 in
set_option maxHeartbeats 4000000 in
theorem tick_none {w : World} {q : Option Addr} {ao : Option Addr} {cap : Nat} (hK : Calls Try.prog 27 #[.pointer q] w fun e w' => e = .returned (.slice ao 0 cap) ∧ w = w') :
    Calls Try.prog 14 #[.pointer q] w fun e w' => e = .returned (.slice none 0 0) ∧ w = w' := by
  have K := Lib.hid hK
  clear hK
  go_enter Try.func14, Try.ntmps14
  go_wp2_with fail
  refine K.out.mono ?_
  rintro e w1 ⟨rfl, rfl⟩
  go_wp2_with fail
  go_ret
  exact ⟨rfl, rfl⟩
theorem tick_nil (w : World) : Calls Try.prog 14 #[.pointer none] w fun e w' => e = .returned (.slice none 0 0) ∧ w = w' := tick_none (running_nil w)

set_option maxRecDepth 100000 in
set_option maxHeartbeats 8000000 in
theorem tick_some {w : World} {m B : Nat} {v : Value} {L : List Ck} (h : KV w m B v L) (hB : B ≤ w.heap.size) (h0 : 0 < L.length) (h1 : 1 ≤ (L[0]).2) :
    Calls Try.prog 14 #[.pointer (some ⟨m, 0, none⟩)] w fun e w' => ∃ ao cap, e = .returned (.slice ao (overC L).length cap) ∧ OwnI w' w.heap.size (.slice ao (overC L).length cap) (overC L) ∧ ∃ v', KStep B m w w' v v' (tickC L) := by
  have K := Lib.hid (running_any h)
  rcases h.row.2 with ⟨e, e2⟩ | ⟨b, cap, cur, e, -⟩
  · omega
  subst e
  have hL := h.len
  have hx := h.gap _ (List.getElem_mem h0)
  have cm := h.cell
  have hgm : b < w.heap.size := (h.row.lt b rfl).2
  have hmw := h.lt
  have c1 : w.cell? ⟨b, 1, none⟩ = some (.int .i64 ((L[0]).2 : Int)) := by
    obtain ⟨ao, cap', e, hs⟩ := h.shape
    cases e
    obtain ⟨b', off, e, -, -, c1⟩ := seenK_at hs 0 h0
    cases e
    exact c1
  have f1 : w.frozen? ⟨b, 1, none⟩ = false := by
    obtain ⟨rest, -, hl, -⟩ := h.row.list cc_len
    exact list_thawed hl _
  obtain ⟨T, hT⟩ : ∃ T, decG L = T := ⟨_, rfl⟩
  have hs1 : KStep B m w (w.setCell ⟨b, 1, none⟩ (.int .i64 (((L[0]).2 : Int) - 1))) (.slice (some ⟨b, 0, none⟩) L.length cap) (.slice (some ⟨b, 0, none⟩) L.length cap) T := by
    have := h.setGap 0 ((L[0]).2 - 1) h0 (by omega)
    rw [decG_set h0, hT, show (((L[0]).2 - 1 : Nat) : Int) = ((L[0]).2 : Int) - 1 by omega, Nat.zero_mul, Nat.zero_add] at this
    exact ⟨this.1, this.2.mono (fun k _ hk => .inr (by rw [hk]; rfl)), fun k hk => .inl hk⟩
  have X : ∀ j, j ≤ T.length → (∀ k (hk : k < T.length), k < j → (T[k]).2 = 0) → (∀ h : j < T.length, (T[j]).2 ≠ 0) → overC L = idsT T j ∧ tickC L = T.drop j := by
    intro j hj ha hb
    obtain ⟨h2, h3⟩ := while_at T j hj ha hb
    unfold overC tickC
    rw [hT, h2, h3]
    exact ⟨rfl, rfl⟩
  have HX := Lib.hid X
  have hTl : T.length = L.length := by rw [← hT, decG_len]
  generalize (L[0]).2 = x0 at *
  generalize overC L = ov at *
  generalize tickC L = L' at *
  obtain ⟨n, hnn⟩ : ∃ n, L.length = n := ⟨_, rfl⟩
  rw [hnn] at hL hs1 cm h0 K hTl ⊢
  have HTl := Lib.hid hTl
  obtain ⟨w1, e1⟩ : ∃ w1, w1 = w.setCell ⟨b, 1, none⟩ (.int .i64 ((x0 : Int) - 1)) := ⟨_, rfl⟩
  rw [← e1] at hs1
  have S1 := Lib.hid hs1
  have cm1 := hs1.st.cell
  have hsz : w1.heap.size = w.heap.size := by rw [e1]; simp
  obtain ⟨Z, hZ⟩ : ∃ Z, w.heap.size = Z := ⟨_, rfl⟩
  rw [hZ] at hsz hgm hmw ⊢
  have HSZ := Lib.hid hsz
  have HB := Lib.hid hB
  have HZ := Lib.hid hZ
  have d1 : ((n : Int) == 0) = false := by simp; omega
  have d2 : (0 : Int) < (n : Int) := by omega
  have g1 : 0 ≤ (x0 : Int) - 1 := by omega
  have g2 : (x0 : Int) - 1 ≤ 4294967296 := by omega
  have hbm : b ≠ m := fun e => h.nm (by rw [e]; rfl)
  clear h X hT hnn hs1 hsz hZ hB hTl h1 hx
  go_enter Try.func14, Try.ntmps14
  go_wp2_with fail
  refine K.out.mono ?_
  rintro e w0 ⟨rfl, rfl⟩
  go_upto_region 4 with fail
  rw [← e1]
  clear e1 cm c1 f1 g1 g2 K
  go_wp2_with fail
  go_loopw [3, 25] (fun d i wr => ∃ (j : Nat) (bo : Option Addr) (bc : Nat), j ≤ n ∧ i = .int .i64 j ∧ d = .slice bo j bc ∧ OwnI wr Z (.slice bo j bc) (idsT T j) ∧ Below Z w1 wr ∧ Hid (∀ k (hk : k < T.length), k < j → (T[k]).2 = 0)) (fun _ i _ => n - (intOf i).toNat)
  case atStart => exact ⟨0, none, 0, Nat.zero_le _, rfl, rfl, ownR_nil, Below.refl _ _, Lib.hid (fun k _ hk => absurd hk (by omega))⟩
  case round =>
    obtain ⟨j, bo, bc, hj, rfl, rfl, hO, hBr, hno⟩ := hrel
    have HO := Lib.hid hO
    have HBr := Lib.hid hBr
    clear hO hBr
    by_cases hlt : j < n
    · have hlt' : j < T.length := by rw [HTl.out]; exact hlt
      have hkv0 := S1.out.st.below (w' := wr) (by rw [HSZ.out]; exact HBr.out)
      obtain ⟨ao, cap', e, hs⟩ := hkv0.shape
      cases e
      obtain ⟨b', off, e, hbw, c0, c1⟩ := seenK_at hs j hlt'
      cases e
      rw [Nat.zero_add] at c0 c1
      have hNo1 := Lib.hid (fun (h : (T[j]).2 = 0) => (show ∀ k (hk : k < T.length), k < j + 1 → (T[k]).2 = 0 from fun k hk hkj => by
        rcases Nat.lt_or_ge k j with h' | h'
        · exact hno.out k hk h'
        · obtain rfl : k = j := by omega
          exact h))
      have hIds := ids_next hlt'
      have HNx := Lib.hid (fun (h : (T[j]).2 ≠ 0) => HX.out j (Nat.le_of_lt hlt') hno.out (fun _ => h))
      generalize (T[j]).1 = ci at *
      generalize (T[j]).2 = cg at *
      obtain ⟨w2, e2⟩ : ∃ w2, w2 = wr.alloc (.cells #[.int .i64 (ci : Int), .int .i64 (cg : Int)] 53) := ⟨_, rfl⟩
      obtain ⟨s2, n2, b2⟩ := new_size e2
      obtain ⟨N, hN⟩ : ∃ N, wr.heap.size = N := ⟨_, rfl⟩
      rw [hN] at n2
      have d3 : w2.cell? ⟨N, 0, none⟩ = some (.int .i64 (ci : Int)) := by rw [cell_of_row _ _ 0 _ _ (0, 0) n2]; rfl
      have d4 : w2.cell? ⟨N, 1, none⟩ = some (.int .i64 (cg : Int)) := by rw [cell_of_row _ _ 1 _ _ (0, 0) n2]; rfl
      have HN := Lib.hid hN
      have B2 := Lib.hid (HBr.out.trans (b2.mono (by rw [← HSZ.out]; exact HBr.out.size)))
      have O2 := Lib.hid (HO.out.below b2)
      clear s2 n2 b2 hN hkv0 hs hbw
      by_cases he : cg = 0
      · have D : ¬ ((0 : Int) < (cg : Int)) := by omega
        have hNo := Lib.hid (hNo1.out he)
        have HI := Lib.hid hIds
        have hj2 : j ≤ 1000000 := by omega
        have HLn := Lib.hid (show (idsT T j).length = j from idsT_len (by omega))
        have B3 := Lib.hid (B2.out.trans ((below_box (.cells #[.int .i64 (ci : Int)] 3)).mono (by rw [← HSZ.out]; exact B2.out.size)))
        clear hNo1 HNx hIds he hno HX
        go_upto_region 8 with fail
        rw [← e2, HN.out]
        clear e2 c0 c1
        go_wp2_with (at_builtin; refine wpList_pushI rfl _ _ rfl Z _ rfl (idsT T j) ?h ?hB j HLn.out _ 1 ci rfl ?hc hj2 ?_)
        case h => exact O2.out.below (below_box _)
        case hB => have := B2.out.size; have := HSZ.out; omega
        intro a4 k4 w4 hA
        have B4 := Lib.hid (B3.out.trans (hA.only.below (by have := B3.out.size; have := HSZ.out; omega) (fun k hk => (O2.out.lt k hk).1)))
        have O4 := Lib.hid (show OwnI w4 Z (.slice a4 (j + 1) k4) (idsT T (j + 1)) by rw [HI.out]; exact hA.row)
        clear hA
        go_wp2_with fail
        go_roundw
        case rel => exact ⟨j + 1, a4, k4, hlt, by go_num, rfl, O4.out, B4.out, hNo⟩
        case measure => simp [intOf]; omega
      · have D : (0 : Int) < (cg : Int) := by omega
        have hNx := HNx.out (by omega)
        clear hNo1 HNx hIds HO HBr
        go_upto_region 8 with fail
        rw [← e2, HN.out]
        clear e2 c0 c1
        obtain ⟨hov, hti⟩ := hNx
        have hol : ov.length = j := by
          have := HTl.out
          rw [hov, idsT_len (by omega)]
        have HOv := Lib.hid hov
        have HOl := Lib.hid hol
        have hkv := S1.out.st.below (w' := w2) (by rw [HSZ.out]; exact B2.out)
        have KD := Lib.hid (front_rest hkv (by omega) j hj)
        rw [← hti] at KD
        obtain ⟨r, hr⟩ : ∃ r, T.length - j = r := ⟨_, rfl⟩
        rw [hr] at KD
        clear hr
        have HKV := Lib.hid hkv
        have cmr := hkv.cell
        clear hov hti hol hkv hno HX cm1
        go_wp2_with fail
        refine KD.out.mono ?_
        rintro e w4 ⟨rfl, h4, cm4, fm4⟩
        have H4 := Lib.hid (S1.out.trans (KStep.after S1.out.st (by rw [HSZ.out]; exact B2.out) h4))
        have R4 := Lib.hid (OwnR.only O2.out h4.only (fun k hk e => by
          have hk1 := (OwnR.lt O2.out k hk).1
          rcases e with rfl | e
          · omega
          · have e : b = k := Option.some.inj e
            omega))
        clear h4
        go_wp2_with fail
        go_ret
        exact ⟨bo, bc, by rw [HOl.out]; rfl, by rw [HOl.out, HOv.out]; exact R4.out, _, H4.out⟩
    · obtain rfl : j = n := by omega
      obtain ⟨hov, hti⟩ := HX.out j (by rw [HTl.out]; exact hj) hno.out (fun h => absurd h (by rw [HTl.out]; omega))
      have hol : ov.length = j := by
        have := HTl.out
        rw [hov, idsT_len (by omega)]
      have HOv := Lib.hid hov
      have HOl := Lib.hid hol
      have hkv := S1.out.st.below (w' := wr) (by rw [HSZ.out]; exact HBr.out)
      have KD := Lib.hid (front_rest hkv (by omega) j hj)
      rw [← hti] at KD
      obtain ⟨r, hr⟩ : ∃ r, j - j = r := ⟨_, rfl⟩
      rw [hr] at KD
      clear hr
      have HKV := Lib.hid hkv
      have cmr := hkv.cell
      clear hov hti hol hkv hno HX cm1
      go_wp2_with fail
      refine KD.out.mono ?_
      rintro e w4 ⟨rfl, h4, cm4, fm4⟩
      have H4 := Lib.hid (S1.out.trans (KStep.after S1.out.st (by rw [HSZ.out]; exact HBr.out) h4))
      have R4 := Lib.hid (OwnR.only HO.out h4.only (fun k hk e => by
        have hk1 := (OwnR.lt HO.out k hk).1
        rcases e with rfl | e
        · omega
        · have e : b = k := Option.some.inj e
          omega))
      clear h4
      go_wp2_with fail
      go_ret
      exact ⟨bo, bc, by rw [HOl.out]; rfl, by rw [HOl.out, HOv.out]; exact R4.out, _, H4.out⟩

end Go.Proofs.Ytmgcdfndmokgnaa
