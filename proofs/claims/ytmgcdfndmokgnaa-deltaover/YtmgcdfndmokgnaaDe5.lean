/-
  The code's clocks: Put, Cancel, Tick: what each answers, what the list holds then, what is turned. Conditions: the clocks' numbers and sums are in bounds.
-/
import Derived.Test.YtmgcdfndmokgnaaDe4
namespace Go.Proofs.Ytmgcdfndmokgnaa
open Go Go.RowKit
set_option linter.unusedVariables false
set_option linter.unusedSimpArgs false

/-- What a call leaves of a list that it turns: the list goes on; its own block and its row's are turned alone; the row lies there, or in a new block. -/
structure KStep (B m : Nat) (w w' : World) (v v' : Value) (L' : List Ck) : Prop where
  st : KV w' m B v' L'
  only : Only w w' (fun k => k = m ∨ v.ownBlock = some k)
  new : ∀ k, v'.ownBlock = some k → v.ownBlock = some k ∨ w.heap.size ≤ k
section
variable {w w' w1 : World} {m B : Nat} {v v' : Value} {L L' : List Ck}
theorem KStep.below {C : Nat} (h : KV w m B v L) (hs : KStep B m w w' v v' L') (hC : C ≤ B) (hm : C ≤ m) (hw : C ≤ w.heap.size) : Below C w w' :=
  hs.only.below hw (fun k hk => by
    rcases hk with rfl | hk
    · exact hm
    · have := (h.row.lt k hk).1; omega)
theorem KStep.after (h : KV w m B v L) (hb : Below w.heap.size w w1) (hs : KStep B m w1 w' v v' L') : KStep B m w w' v v' L' :=
  ⟨hs.st, (Only.of_below hb _).trans hs.only (fun k _ hk => hk), fun k hk => (hs.new k hk).imp id (fun h => Nat.le_trans hb.size h)⟩
theorem KStep.trans {v1 : Value} {L1 : List Ck} (h : KStep B m w w1 v v1 L1) (g : KStep B m w1 w' v1 v' L') : KStep B m w w' v v' L' :=
  ⟨g.st, h.only.trans g.only (fun k hk hk2 => by
    rcases hk2 with rfl | hk2
    · exact .inl rfl
    · rcases h.new k hk2 with h' | h'
      · exact .inr h'
      · omega), fun k hk => by
    rcases g.new k hk with h' | h'
    · exact h.new k h'
    · exact .inr (Nat.le_trans h.only.size h')⟩
theorem KV.same (h : KV w m B v L) (hb : Below w.heap.size w w') : KStep B m w w' v v L := ⟨h.below hb, Only.of_below hb _, fun k hk => .inl hk⟩
/-- A gap that is stored. -/
theorem KV.setGap {g n cap : Nat} (h : KV w m B (.slice (some ⟨g, 0, none⟩) n cap) L) (i x : Nat) (hi : i < L.length) (hx : x < 4294967296) :
    KV (w.setCell ⟨g, i * 2 + 1, none⟩ (.int .i64 (x : Int))) m B (.slice (some ⟨g, 0, none⟩) n cap) (L.set i ((L[i]).1, x)) ∧ Only w (w.setCell ⟨g, i * 2 + 1, none⟩ (.int .i64 (x : Int))) (fun k => k = g) := by
  have ho : Only w (w.setCell ⟨g, i * 2 + 1, none⟩ (.int .i64 (x : Int))) (fun k => k = g) := Only.setCell w g _ _ _ rfl
  have hm : m ≠ g := fun e => h.nm (by rw [e]; rfl)
  refine ⟨⟨(ho.block m h.lt hm).trans h.blk, h.row.set cc_len i hi 1 (by omega) _ ((L[i]).1, x) rfl, by rw [List.length_set]; exact h.len, fun c hc => ?_, fun c hc => ?_⟩, ho⟩
  · rcases List.mem_or_eq_of_mem_set hc with hc | rfl
    · exact h.ok c hc
    · exact h.ok (L[i]) (List.getElem_mem hi)
  · rcases List.mem_or_eq_of_mem_set hc with hc | rfl
    · exact h.gap c hc
    · exact hx
/-- The slice stored behind a call that gave it back. -/
theorem KV.fin {w4 : World} (h : KV w m B v L) (hrow : OwnK w4 B v' L') (ho : Only w w4 (fun k => v.ownBlock = some k)) (hnew : ∀ k, v'.ownBlock = some k → v.ownBlock = some k ∨ w.heap.size ≤ k)
    (hl : L'.length ≤ 256) (hok : ∀ c ∈ L', c.1 < 256) (hg : ∀ c ∈ L', c.2 < 4294967296) : KStep B m w (w4.setCell ⟨m, 0, none⟩ v') v v' L' := by
  have hm4 : w4.heap[m]? = some (.cells #[v] 26 (0, 0)) := (ho.block m h.lt h.nm).trans h.blk
  have hne : v'.ownBlock ≠ some m := by
    intro e
    rcases hnew m e with h' | h'
    · exact h.nm h'
    · have := h.lt; omega
  have hs : Only w4 (w4.setCell ⟨m, 0, none⟩ v') (fun k => k = m) := Only.setCell w4 m _ _ _ rfl
  refine ⟨⟨?_, hrow.only hs (fun k hk e => hne (by rw [hk, e])), hl, hok, hg⟩, ?_, hnew⟩
  · exact heap_setCell_same w4 m 0 #[v] _ v' hm4
  · exact (ho.mono (fun k _ hk => Or.inr hk)).trans hs (fun k _ hk => .inl hk)
end

def putOk (L : List Ck) (id t : Int) : Prop := 0 ≤ id ∧ id < 256 ∧ 1 ≤ t ∧ t ≤ 4294967295 ∧ ¬ atC L id < L.length

set_option maxRecDepth 100000 in
set_option maxHeartbeats 4000000 in
theorem put_bad {w : World} {m B : Nat} {v : Value} {L : List Ck} (h : KV w m B v L) (id t : Int) (hb : ¬ putOk L id t) :
    Calls Try.prog 9 #[.pointer (some ⟨m, 0, none⟩), .int .i64 id, .int .i64 t] w fun e w' => e = .returned (.int .i64 1) ∧ Below w.heap.size w w' := by
  have K := Lib.hid (place_any h id)
  have X := Lib.hid hb
  unfold putOk at X
  have hp : atC L id < L.length → placeI L id = (atC L id : Int) := fun h => if_pos h
  clear hb h
  by_cases h1 : id < 0
  · clear X hp
    go_enter Try.func9, Try.ntmps9
    go_wp2_with fail
    go_ret
    exact ⟨rfl, Below.refl _ _⟩
  by_cases h2 : 256 ≤ id
  · clear X hp
    go_enter Try.func9, Try.ntmps9
    go_wp2_with fail
    go_ret
    exact ⟨rfl, Below.refl _ _⟩
  by_cases h3 : t < 1
  · clear X hp
    go_enter Try.func9, Try.ntmps9
    go_wp2_with fail
    go_ret
    exact ⟨rfl, Below.refl _ _⟩
  by_cases h4 : 4294967295 < t
  · clear X hp
    go_enter Try.func9, Try.ntmps9
    go_wp2_with fail
    go_ret
    exact ⟨rfl, Below.refl _ _⟩
  · have ha : atC L id < L.length := Classical.byContradiction fun h => X.out ⟨by omega, by omega, by omega, by omega, h⟩
    have e := hp ha
    rw [e] at K
    generalize atC L id = p at *
    clear hp X e ha
    have g : (0 : Int) ≤ (p : Int) := by omega
    go_enter Try.func9, Try.ntmps9
    go_wp2_with fail
    refine K.out.mono ?_
    rintro e w1 ⟨rfl, b1⟩
    have B1 := Lib.hid b1
    clear b1
    go_wp2_with fail
    go_ret
    exact ⟨rfl, B1.out⟩
theorem put_nil (w : World) (id t : Int) : Calls Try.prog 9 #[.pointer none, .int .i64 id, .int .i64 t] w fun e w' => e = .returned (.int .i64 16) ∧ w = w' := by
  go_enter Try.func9, Try.ntmps9
  go_wp2_with fail
  go_ret
  exact ⟨rfl, rfl⟩

/-- Set in, and the slice stored. -/
theorem ins_rest {w : World} {m B : Nat} {v : Value} {L : List Ck} (h : KV w m B v L) (hB : B ≤ w.heap.size) (hL : L.length < 256) (a id g : Nat) (ha : a ≤ L.length) (hid : id < 256) (hg : g < 4294967296) :
    Calls Try.prog 25 #[v, .int .i64 (a : Int), .slice (some ⟨w.heap.size, 0, none⟩) 1 1] (w.alloc (.cells #[.int .i64 (id : Int), .int .i64 (g : Int)] 53)) fun e w4 => ∃ ao cap, e = .returned (.slice ao (L.length + 1) cap) ∧
      KStep B m w (w4.setCell ⟨m, 0, none⟩ (.slice ao (L.length + 1) cap)) v (.slice ao (L.length + 1) cap) (L.take a ++ (id, g) :: L.drop a) ∧ w4.cell? ⟨m, 0, none⟩ = some v ∧ w4.frozen? ⟨m, 0, none⟩ = false := by
  obtain ⟨w1, e1⟩ : ∃ w1, w1 = w.alloc (.cells #[.int .i64 (id : Int), .int .i64 (g : Int)] 53) := ⟨_, rfl⟩
  obtain ⟨s1, n1, b1⟩ := new_size e1
  rw [← e1]
  have h1 := h.below b1
  refine (insert_any h1.row (by omega) (by omega) a ha w.heap.size (id, g) n1 (fun e => by have := (h.row.lt _ e).2; omega)).mono ?_
  rintro e w4 ⟨ao, cap, rfl, hA⟩
  have hm : ¬ (v.ownBlock = some m) := h.nm
  refine ⟨ao, cap, rfl, ?_, hA.only.cell h1.cell hm, ?_⟩
  · have hmem : ∀ c ∈ L.take a ++ (id, g) :: L.drop a, c ∈ L ∨ c = (id, g) := fun c hc => by
      rcases List.mem_append.1 hc with hc | hc
      · exact .inl (List.mem_of_mem_take hc)
      · rcases List.mem_cons.1 hc with rfl | hc
        · exact .inr rfl
        · exact .inl (List.mem_of_mem_drop hc)
    have hlen : (L.take a ++ (id, g) :: L.drop a).length = L.length + 1 := by simp only [List.length_append, List.length_take, List.length_cons, List.length_drop]; omega
    have := h1.fin hA.row hA.only hA.new (by rw [hlen]; omega) (fun c hc => by
        rcases hmem c hc with hc | rfl
        · exact h.ok c hc
        · exact hid) (fun c hc => by
        rcases hmem c hc with hc | rfl
        · exact h.gap c hc
        · exact hg)
    exact KStep.after h b1 this
  · have := (hA.only.block m h1.lt hm).trans h1.blk
    simp [World.frozen?, this]

set_option maxRecDepth 100000 in
set_option maxHeartbeats 4000000 in
theorem put_good {w : World} {m B : Nat} {v : Value} {L : List Ck} (h : KV w m B v L) (hB : B ≤ w.heap.size) (hL : L.length < 256) (id t : Nat) (hid : id < 256) (ht1 : 1 ≤ t) (ht : t < 4294967296) (hn : ¬ atC L (id : Int) < L.length) :
    Calls Try.prog 9 #[.pointer (some ⟨m, 0, none⟩), .int .i64 (id : Int), .int .i64 (t : Int)] w fun e w' => e = .returned (.int .i64 0) ∧ ∃ v', KStep B m w w' v v' (insC L id t) := by
  have K := Lib.hid (place_any h (id : Int))
  rw [show placeI L (id : Int) = -1 from if_neg hn] at K
  have K2 := Lib.hid (fun w1 (b1 : Below w.heap.size w w1) => behind_any (h.below b1) t ht)
  obtain ⟨a, g, hag⟩ : ∃ a g, behC L t = (a, g) := ⟨_, _, rfl⟩
  have hle := behC_le L t
  have hgap : ∀ (h : a < L.length), g < (L[a]).2 := by
    intro h
    have := behC_gap L t (by rw [hag]; exact h)
    simpa only [hag] using this
  have his := insC_is L id t
  simp only [hag] at K2 hle his
  have d1 : ¬ ((id : Int) < 0) := by omega
  have d2 : ¬ (256 ≤ (id : Int)) := by omega
  have d3 : ¬ ((t : Int) < 1) := by omega
  have d4 : ¬ (4294967295 < (t : Int)) := by omega
  clear hn hag
  by_cases hlt : a < L.length
  · -- one stands behind the place: its gap is cut
    have hg := hgap hlt
    rcases h.row.2 with ⟨e, e2⟩ | ⟨b, cap, cur, e, -⟩
    · omega
    subst e
    have hcut : cutG L a g = L.set a ((L[a]).1, (L[a]).2 - g) := dif_pos hlt
    have hgx := h.gap _ (List.getElem_mem hlt)
    have C1 := Lib.hid (fun w1 (b1 : Below w.heap.size w w1) => (show w1.cell? ⟨b, a * 2 + 1, none⟩ = some (.int .i64 ((L[a]).2 : Int)) by
      obtain ⟨ao, cap', e, hs⟩ := (h.below b1).shape
      cases e
      obtain ⟨b', off, e, -, -, c1⟩ := seenK_at hs a hlt
      cases e
      rw [Nat.zero_add] at c1
      exact c1))
    have F1 := Lib.hid (fun w1 (b1 : Below w.heap.size w w1) => (show w1.frozen? ⟨b, a * 2 + 1, none⟩ = false by
      obtain ⟨rest, -, hl, -⟩ := (h.below b1).row.list cc_len
      exact list_thawed hl _))
    have ec : (((L[a]).2 - g : Nat) : Int) = ((L[a]).2 : Int) - (g : Int) := by omega
    have S1 := Lib.hid (fun w1 (b1 : Below w.heap.size w w1) => (show KStep B m w (w1.setCell ⟨b, a * 2 + 1, none⟩ (.int .i64 (((L[a]).2 : Int) - (g : Int)))) (.slice (some ⟨b, 0, none⟩) L.length cap) (.slice (some ⟨b, 0, none⟩) L.length cap) (cutG L a g) by
      have := (h.below b1).setGap a ((L[a]).2 - g) hlt (by omega)
      rw [ec, ← hcut] at this
      exact KStep.after h b1 ⟨this.1, this.2.mono (fun k _ hk => .inr (by rw [hk]; rfl)), fun k hk => .inl hk⟩))
    have hlen2 : (cutG L a g).length = L.length := by rw [hcut, List.length_set]
    have CM := Lib.hid (fun w1 (b1 : Below w.heap.size w w1) => (h.below b1).cell)
    generalize (L[a]).2 = cg at *
    generalize cutG L a g = L1 at *
    have HI := Lib.hid his
    generalize insC L id t = L' at *
    have HB := Lib.hid hB
    obtain ⟨n, hnn⟩ : ∃ n, L.length = n := ⟨_, rfl⟩
    rw [hnn] at hlen2 hL S1 hlt CM hle ⊢
    have HL2 := Lib.hid hlen2
    have e9 : (cg : Int) - (g : Int) ≤ 4294967296 := by omega
    have e10 : 0 ≤ (cg : Int) - (g : Int) := by omega
    have hle1 := hle.1
    have hle2 := hle.2
    clear hcut hgx ec hB h hg hgap hle his hnn hlen2
    go_enter Try.func9, Try.ntmps9
    go_wp2_with fail
    refine K.out.mono ?_
    rintro e w1 ⟨rfl, b1⟩
    have B1 := Lib.hid b1
    have KB := Lib.hid (K2.out w1 b1)
    have cm := CM.out w1 b1
    have c1 := C1.out w1 b1
    have f1 := F1.out w1 b1
    clear b1 K2 K CM C1 F1
    go_wp2_with fail
    refine KB.out.mono ?_
    rintro e w1' ⟨rfl, rfl⟩
    obtain ⟨w2, e2⟩ : ∃ w2, w2 = w1.setCell ⟨b, a * 2 + 1, none⟩ (.int .i64 ((cg : Int) - (g : Int))) := ⟨_, rfl⟩
    have s2 := S1.out w1 B1.out
    rw [← e2] at s2
    have S2 := Lib.hid s2
    have cm2 := s2.st.cell
    have KI := Lib.hid (ins_rest s2.st (Nat.le_trans HB.out s2.only.size) (by rw [HL2.out]; exact hL) a id g (by rw [HL2.out]; omega) hid (by omega))
    rw [← HI.out, HL2.out] at KI
    clear S1 s2 KB
    go_upto_region 8 with fail
    rw [← e2]
    clear e2 cm c1 f1
    go_wp2_with fail
    refine KI.out.mono ?_
    rintro e w4 ⟨ao, cap4, rfl, h4, cm4, fm4⟩
    have H4 := Lib.hid (S2.out.trans h4)
    clear h4
    go_wp2_with fail
    go_ret
    exact ⟨rfl, _, H4.out⟩
  · -- none does
    obtain ⟨ao, cap, rfl, -⟩ := h.shape
    have hcut : cutG L a g = L := dif_neg hlt
    rw [hcut] at his
    have hla : a = L.length := by omega
    have HI := Lib.hid his
    have KI := Lib.hid (fun w1 (b1 : Below w.heap.size w w1) => ins_rest (h.below b1) (Nat.le_trans hB b1.size) hL a id g (by omega) hid (by omega))
    rw [← his] at KI
    have CM := Lib.hid (fun w1 (b1 : Below w.heap.size w w1) => (h.below b1).cell)
    have H := Lib.hid h
    generalize insC L id t = L' at *
    obtain ⟨n, hnn⟩ : ∃ n, L.length = n := ⟨_, rfl⟩
    rw [hnn] at hL hlt CM hle KI hla ⊢
    have hle1 := hle.1
    have hle2 := hle.2
    obtain rfl := hla
    have HN := Lib.hid hnn
    clear hcut hB h hgap hle his hnn HI
    go_enter Try.func9, Try.ntmps9
    go_wp2_with fail
    refine K.out.mono ?_
    rintro e w1 ⟨rfl, b1⟩
    have B1 := Lib.hid b1
    have KB := Lib.hid (K2.out w1 b1)
    have cm := CM.out w1 b1
    have KI1 := Lib.hid (KI.out w1 b1)
    clear b1 K2 K CM KI
    go_wp2_with fail
    refine KB.out.mono ?_
    rintro e w1' ⟨rfl, rfl⟩
    go_wp2_with fail
    refine KI1.out.mono ?_
    rintro e w4 ⟨ao4, cap4, rfl, h4, cm4, fm4⟩
    have H4 := Lib.hid (show KStep B m w (w4.setCell ⟨m, 0, none⟩ (.slice ao4 (a + 1) cap4)) (.slice ao a cap) (.slice ao4 (a + 1) cap4) L' by
      have := H.out
      rw [HN.out] at this
      exact KStep.after this B1.out h4)
    clear h4
    go_wp2_with fail
    go_ret
    exact ⟨rfl, _, H4.out⟩

end Go.Proofs.Ytmgcdfndmokgnaa
