/-
  The code's clocks: Cancel and Tick: what each answers, what the list holds then, what is turned. Conditions: the clocks' numbers and sums are in bounds; for Tick, the first gap is at least 1.
-/
import Derived.Test.YtmgcdfndmokgnaaDe5
namespace Go.Proofs.Ytmgcdfndmokgnaa
open Go Go.RowKit
set_option linter.unusedVariables false
set_option linter.unusedSimpArgs false

/-- Taken out, and the slice stored. -/
theorem del_rest {w : World} {m B g n cap : Nat} {L : List Ck} (h : KV w m B (.slice (some ⟨g, 0, none⟩) n cap) L) (i j : Nat) (hij : i < j) (hj : j ≤ n) :
    Calls Try.prog 26 #[.slice (some ⟨g, 0, none⟩) n cap, .int .i64 (i : Int), .int .i64 (j : Int)] w fun e w4 => e = .returned (.slice (some ⟨g, 0, none⟩) (i + (n - j)) cap) ∧
      KStep B m w (w4.setCell ⟨m, 0, none⟩ (.slice (some ⟨g, 0, none⟩) (i + (n - j)) cap)) (.slice (some ⟨g, 0, none⟩) n cap) (.slice (some ⟨g, 0, none⟩) (i + (n - j)) cap) (L.take i ++ L.drop j) ∧
      w4.cell? ⟨m, 0, none⟩ = some (.slice (some ⟨g, 0, none⟩) n cap) ∧ w4.frozen? ⟨m, 0, none⟩ = false ∧ Only w w4 (fun k => k = g) := by
  have hn : n = L.length := h.row.len
  have hm : ¬ (m = g) := fun e => h.nm (by rw [e]; rfl)
  refine (delete_any h.row hij hj (by have := h.len; omega)).mono ?_
  rintro e w4 ⟨rfl, h1, h2⟩
  have hmem : ∀ c ∈ L.take i ++ L.drop j, c ∈ L := fun c hc => by
    rcases List.mem_append.1 hc with hc | hc
    · exact List.mem_of_mem_take hc
    · exact List.mem_of_mem_drop hc
  refine ⟨rfl, h.fin h1 (h2.mono (fun k _ hk => by rw [hk]; rfl)) (fun k hk => .inl hk) ?_ (fun c hc => h.ok c (hmem c hc)) (fun c hc => h.gap c (hmem c hc)), h2.cell h.cell hm, ?_, h2⟩
  · have := h.len
    simp only [List.length_append, List.length_take, List.length_drop]; omega
  · have := (h2.block m h.lt hm).trans h.blk
    simp [World.frozen?, this]

theorem can_cut {L : List Ck} {a : Nat} {id : Int} (e : atC L id = a) (h : a + 1 < L.length) : canC L id = (L.set (a + 1) ((L[a + 1]).1, (L[a + 1]).2 + (L[a]).2)).take a ++ (L.set (a + 1) ((L[a + 1]).1, (L[a + 1]).2 + (L[a]).2)).drop (a + 1) := by
  subst e
  rw [canC_is L id (by omega), List.take_set_of_le (by omega), List.drop_set, if_neg (by omega), Nat.sub_self, List.drop_eq_getElem_cons h, List.set_cons_zero]
  rfl
theorem can_last {L : List Ck} {a : Nat} {id : Int} (ha : a < L.length) (e : atC L id = a) (h : ¬ a + 1 < L.length) : canC L id = L.take a ++ L.drop (a + 1) := by
  subst e
  have : L.drop (atC L id + 1) = [] := List.drop_of_length_le (by omega)
  rw [canC_is L id ha, this]; rfl

set_option maxRecDepth 100000 in
set_option maxHeartbeats 4000000 in
theorem cancel_no {w : World} {m B : Nat} {v : Value} {L : List Ck} (h : KV w m B v L) (id : Int) (hn : ¬ atC L id < L.length) :
    Calls Try.prog 11 #[.pointer (some ⟨m, 0, none⟩), .int .i64 id] w fun e w' => e = .returned (.bool false) ∧ Below w.heap.size w w' := by
  have K := Lib.hid (place_any h id)
  rw [show placeI L id = -1 from if_neg hn] at K
  clear h hn
  go_enter Try.func11, Try.ntmps11
  go_wp2_with fail
  refine K.out.mono ?_
  rintro e w1 ⟨rfl, b1⟩
  have B1 := Lib.hid b1
  clear b1
  go_wp2_with fail
  go_ret
  exact ⟨rfl, B1.out⟩
set_option maxRecDepth 100000 in
set_option maxHeartbeats 4000000 in
theorem cancel_nil (w : World) (id : Int) : Calls Try.prog 11 #[.pointer none, .int .i64 id] w fun e w' => e = .returned (.bool false) ∧ Below w.heap.size w w' := by
  have K := Lib.hid (place_nil w id)
  go_enter Try.func11, Try.ntmps11
  go_wp2_with fail
  refine K.out.mono ?_
  rintro e w1 ⟨rfl, b1⟩
  have B1 := Lib.hid b1
  clear b1
  go_wp2_with fail
  go_ret
  exact ⟨rfl, B1.out⟩

set_option maxRecDepth 100000 in
set_option maxHeartbeats 4000000 in
theorem cancel_yes {w : World} {m B : Nat} {v : Value} {L : List Ck} (h : KV w m B v L) (hS : OkL L) (id : Int) (hn : atC L id < L.length) :
    Calls Try.prog 11 #[.pointer (some ⟨m, 0, none⟩), .int .i64 id] w fun e w' => e = .returned (.bool true) ∧ ∃ v', KStep B m w w' v v' (canC L id) := by
  have K := Lib.hid (place_any h id)
  rw [show placeI L id = (atC L id : Int) from if_pos hn] at K
  obtain ⟨a, ha⟩ : ∃ a, atC L id = a := ⟨_, rfl⟩
  have hcl := @can_last L a id
  have hcc := @can_cut L a id ha
  rw [ha] at K hn
  rcases h.row.2 with ⟨e, e2⟩ | ⟨b, cap, cur, e, -⟩
  · omega
  subst e
  have hL := h.len
  have d0 : ¬ ((a : Int) < 0) := by omega
  by_cases hlt : a + 1 < L.length
  · have hcn := hcc hlt
    have hsum := hS.sum hlt
    rw [sumG_next hlt, sumG_next (show a < L.length by omega)] at hsum
    have C1 := Lib.hid (fun w1 (b1 : Below w.heap.size w w1) => (show w1.cell? ⟨b, (a + 1) * 2 + 1, none⟩ = some (.int .i64 ((L[a + 1]).2 : Int)) ∧ w1.cell? ⟨b, a * 2 + 1, none⟩ = some (.int .i64 ((L[a]).2 : Int)) by
      obtain ⟨ao, cap', e, hs⟩ := (h.below b1).shape
      cases e
      obtain ⟨b', off, e, -, -, c1⟩ := seenK_at hs (a + 1) hlt
      cases e
      obtain ⟨b', off, e, -, -, c2⟩ := seenK_at hs a (by omega)
      cases e
      rw [Nat.zero_add] at c1 c2
      exact ⟨c1, c2⟩))
    have F1 := Lib.hid (fun w1 (b1 : Below w.heap.size w w1) => (show w1.frozen? ⟨b, (a + 1) * 2 + 1, none⟩ = false by
      obtain ⟨rest, -, hl, -⟩ := (h.below b1).row.list cc_len
      exact list_thawed hl _))
    have S1 := Lib.hid (fun w1 (b1 : Below w.heap.size w w1) => (show KStep B m w (w1.setCell ⟨b, (a + 1) * 2 + 1, none⟩ (.int .i64 (((L[a + 1]).2 : Int) + ((L[a]).2 : Int)))) (.slice (some ⟨b, 0, none⟩) L.length cap) (.slice (some ⟨b, 0, none⟩) L.length cap) (L.set (a + 1) ((L[a + 1]).1, (L[a + 1]).2 + (L[a]).2)) by
      have := (h.below b1).setGap (a + 1) ((L[a + 1]).2 + (L[a]).2) hlt (by omega)
      rw [Int.natCast_add] at this
      exact KStep.after h b1 ⟨this.1, this.2.mono (fun k _ hk => .inr (by rw [hk]; rfl)), fun k hk => .inl hk⟩))
    have CM := Lib.hid (fun w1 (b1 : Below w.heap.size w w1) => (h.below b1).cell)
    have hlen2 : (L.set (a + 1) ((L[a + 1]).1, (L[a + 1]).2 + (L[a]).2)).length = L.length := List.length_set
    obtain ⟨L1, hL1⟩ : ∃ L1, L.set (a + 1) ((L[a + 1]).1, (L[a + 1]).2 + (L[a]).2) = L1 := ⟨_, rfl⟩
    rw [hL1] at hcn S1 hlen2
    clear hL1
    generalize (L[a]).2 = ga at *
    generalize (L[a + 1]).2 = gx at *
    generalize sumG (L.take a) = sa at *
    have HI := Lib.hid hcn
    generalize canC L id = L' at *
    obtain ⟨n, hnn⟩ : ∃ n, L.length = n := ⟨_, rfl⟩
    rw [hnn] at hlen2 hL S1 hlt CM hn ⊢
    have HL2 := Lib.hid hlen2
    have e1 : IntKind.i64.wrap ((a : Int) + 1) = (a : Int) + 1 := by rw [IntKind.wrap_i64]; omega
    have e2 : IntKind.i64.wrap ((gx : Int) + (ga : Int)) = (gx : Int) + (ga : Int) := by rw [IntKind.wrap_i64]; omega
    have e3 : (0 : Int) ≤ (a : Int) + 1 := by omega
    have e4 : (a : Int) + 1 < (n : Int) := by omega
    have e5 : ((a : Int) + 1).toNat = a + 1 := by omega
    have e6 : (0 : Int) ≤ (a : Int) := by omega
    have e7 : (a : Int) < (n : Int) := by omega
    clear hcn hcl hcc ha h hS hlen2 hnn hsum
    go_enter Try.func11, Try.ntmps11
    go_wp2_with fail
    refine K.out.mono ?_
    rintro e w1 ⟨rfl, b1⟩
    have B1 := Lib.hid b1
    have cm := CM.out w1 b1
    obtain ⟨c1, c2⟩ := C1.out w1 b1
    have f1 := F1.out w1 b1
    have S2 := Lib.hid (S1.out w1 b1)
    clear b1 K CM C1 F1 S1
    go_upto_region 5 with fail
    go_cut [] (fun wx => KStep B m w wx (.slice (some ⟨b, 0, none⟩) n cap) (.slice (some ⟨b, 0, none⟩) n cap) L1)
    case first =>
      go_region
      all_goals
        go_wp2_with fail
        go_meet
        have := S2.out
        exact this.trans (this.st.same ⟨rfl, rfl, rfl, Nat.le_refl _, fun _ _ => rfl⟩)
    case rest =>
    have S3 := Lib.hid hcut
    have KD := Lib.hid (del_rest hcut.st a (a + 1) (by omega) (by omega))
    have cm3 := hcut.st.cell
    rw [← HI.out] at KD
    clear hcut cm c1 c2 f1 S2 e2
    go_wp2_with fail
    refine KD.out.mono ?_
    rintro e w4 ⟨rfl, h4, cm4, fm4, -⟩
    have H4 := Lib.hid (S3.out.trans h4)
    clear h4
    go_wp2_with fail
    go_ret
    exact ⟨rfl, _, H4.out⟩
  · have hcn := hcl hn ha hlt
    have KD := Lib.hid (fun w1 (b1 : Below w.heap.size w w1) => del_rest (h.below b1) a (a + 1) (by omega) (by omega))
    rw [← hcn] at KD
    have CM := Lib.hid (fun w1 (b1 : Below w.heap.size w w1) => (h.below b1).cell)
    have H := Lib.hid h
    generalize canC L id = L' at *
    obtain ⟨n, hnn⟩ : ∃ n, L.length = n := ⟨_, rfl⟩
    rw [hnn] at hL KD hlt CM hn H ⊢
    clear hcn hcl hcc ha h hS hnn
    go_enter Try.func11, Try.ntmps11
    go_wp2_with fail
    refine K.out.mono ?_
    rintro e w1 ⟨rfl, b1⟩
    have B1 := Lib.hid b1
    have cm := CM.out w1 b1
    have KD1 := Lib.hid (KD.out w1 b1)
    clear b1 K CM KD
    go_wp2_with fail
    refine KD1.out.mono ?_
    rintro e w4 ⟨rfl, h4, cm4, fm4, -⟩
    have H4 := Lib.hid (KStep.after H.out B1.out h4)
    clear h4
    go_wp2_with fail
    go_ret
    exact ⟨rfl, _, H4.out⟩

end Go.Proofs.Ytmgcdfndmokgnaa
