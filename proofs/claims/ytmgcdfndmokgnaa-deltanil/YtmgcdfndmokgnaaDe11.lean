/-
  Lists of the call's own, the code's and the document's, told by the clocks in the order in which they were put; what each call answers and leaves; that the statements' awake is true. No condition.
-/
import Derived.Test.YtmgcdfndmokgnaaDe10
namespace Go.Proofs.Ytmgcdfndmokgnaa
open Go Go.RowKit
set_option linter.unusedVariables false
set_option linter.unusedSimpArgs false

/-- May a clock be put; the clocks then; does one run. -/
def putK (D : List Ck) (id t : Int) : Bool := decide (0 ≤ id ∧ id < 256 ∧ 1 ≤ t ∧ t ≤ 4294967295 ∧ ∀ c ∈ D, (c.1 : Int) ≠ id)
def putD (D : List Ck) (id t : Int) : List Ck := if putK D id t then D ++ [(id.toNat, t.toNat)] else D
def runsK (D : List Ck) (id : Int) : Bool := decide (∃ c ∈ D, (c.1 : Int) = id)
theorem runsK_off (D : List Ck) (id : Int) : decide ((offD D id).length < D.length) = runsK D id := by
  unfold runsK offD
  apply bool_eq
  simp only [decide_eq_true_eq]
  constructor
  · intro h
    rcases Classical.em (∃ c ∈ D, (c.1 : Int) = id) with h' | h'
    · exact h'
    · have : D.filter (fun c => decide ((c.1 : Int) ≠ id)) = D := List.filter_eq_self.2 (fun c hc => by simpa using fun e => h' ⟨c, hc, e⟩)
      rw [this] at h
      omega
  · rintro ⟨c, hc, e⟩
    have hle := List.length_filter_le (fun c : Ck => decide ((c.1 : Int) ≠ id)) D
    rcases Nat.lt_or_eq_of_le hle with h | h
    · exact h
    · have := List.length_filter_eq_length_iff.1 h c hc
      simp at this
      exact absurd e this
theorem offD_none {D : List Ck} {id : Int} (h : runsK D id = false) : offD D id = D := by
  unfold runsK at h
  simp only [decide_eq_false_iff_not] at h
  exact List.filter_eq_self.2 (fun c hc => by simpa using fun e => h ⟨c, hc, e⟩)
theorem OkD.putD {D : List Ck} (h : OkD D) (id t : Int) : OkD (putD D id t) := by
  unfold Go.Proofs.Ytmgcdfndmokgnaa.putD
  split
  · rename_i hk
    unfold putK at hk
    simp only [decide_eq_true_eq] at hk
    obtain ⟨h1, h2, h3, h4, h5⟩ := hk
    exact h.put id.toNat t.toNat (by omega) (by omega) (by omega) (fun c hc e => h5 c hc (by omega))
  · exact h
theorem OkD.off {D : List Ck} (h : OkD D) (id : Int) : OkD (offD D id) := h.filter _

/-- Which blocks a call may turn, and where the row lies then. -/
structure Foot (m : Nat) (v v' : Value) (w w' : World) : Prop where
  only : Only w w' (fun k => k = m ∨ v.ownBlock = some k)
  new : ∀ k, v'.ownBlock = some k → v.ownBlock = some k ∨ w.heap.size ≤ k
theorem Foot.same {m : Nat} {v : Value} {w w' : World} (hb : Below w.heap.size w w') : Foot m v v w w' := ⟨Only.of_below hb _, fun k hk => .inl hk⟩
theorem Foot.trans {m : Nat} {v v1 v2 : Value} {w w1 w2 : World} (h : Foot m v v1 w w1) (g : Foot m v1 v2 w1 w2) (hm : m < w.heap.size) : Foot m v v2 w w2 :=
  ⟨h.only.trans g.only (fun k hk hk2 => by
    rcases hk2 with rfl | hk2
    · exact .inl rfl
    · rcases h.new k hk2 with h' | h'
      · exact .inr h'
      · omega), fun k hk => by
    rcases g.new k hk with h' | h'
    · exact h.new k h'
    · exact .inr (Nat.le_trans h.only.size h')⟩

/-- The code's list, made behind w0. -/
structure OL (w0 w : World) (m : Nat) (v : Value) (D : List Ck) : Prop where
  st : ∃ L, KV w m w0.heap.size v L ∧ Sim L D
  bel : Below w0.heap.size w0 w
  hm : w0.heap.size ≤ m
/-- The document's list, made behind w0. -/
structure DL (w0 w : World) (n : Nat) (u : Value) (D : List Ck) : Prop where
  st : RV w n w0.heap.size u D
  ok : OkD D
  bel : Below w0.heap.size w0 w
  hn : w0.heap.size ≤ n
section
variable {w0 w w' : World} {m n : Nat} {v v' u u' : Value} {D D' L' : List Ck}
theorem OL.ok (h : OL w0 w m v D) : OkD D := by obtain ⟨L, _, hs⟩ := h.st; exact hs.ok
theorem OL.lt (h : OL w0 w m v D) : m < w.heap.size := by obtain ⟨L, hk, _⟩ := h.st; exact hk.lt
theorem OL.own (h : OL w0 w m v D) : ∀ k, v.ownBlock = some k → w0.heap.size ≤ k ∧ k < w.heap.size := by obtain ⟨L, hk, _⟩ := h.st; exact hk.row.lt
theorem OL.only {S : Nat → Prop} (h : OL w0 w m v D) (ho : Only w w' S) (hb : Below w0.heap.size w0 w') (hm : ¬ S m) (hv : ∀ k, v.ownBlock = some k → ¬ S k) : OL w0 w' m v D := by
  obtain ⟨L, hk, hs⟩ := h.st
  exact ⟨⟨L, hk.only ho hm hv, hs⟩, hb, h.hm⟩
theorem OL.kept (h : OL w0 w m v D) (hb : Below w.heap.size w w') : OL w0 w' m v D := h.only (Only.of_below hb (fun _ => False)) (below_on h.bel hb) (fun e => e) (fun _ _ e => e)
theorem OL.drewN (h : OL w0 w m v D) (q : Nat) : OL w0 (w.drewN q) m v D := h.kept (below_drewN (Below.refl _ _) q)
theorem OL.foot (h : OL w0 w m v D) (f : Foot m v v' w w') : Below w0.heap.size w0 w' :=
  h.bel.trans (f.only.below h.bel.size (fun k hk => by
    rcases hk with rfl | hk
    · exact h.hm
    · exact (h.own k hk).1))
theorem OL.step (h : OL w0 w m v D) (hs : KStep w0.heap.size m w w' v v' L') (hsim : Sim L' D') : OL w0 w' m v' D' ∧ Foot m v v' w w' :=
  ⟨⟨⟨L', hs.st, hsim⟩, h.foot ⟨hs.only, hs.new⟩, h.hm⟩, ⟨hs.only, hs.new⟩⟩
theorem DL.lt (h : DL w0 w n u D) : n < w.heap.size := h.st.lt
theorem DL.own (h : DL w0 w n u D) : ∀ k, u.ownBlock = some k → w0.heap.size ≤ k ∧ k < w.heap.size := h.st.row.lt
theorem DL.only {S : Nat → Prop} (h : DL w0 w n u D) (ho : Only w w' S) (hb : Below w0.heap.size w0 w') (hm : ¬ S n) (hv : ∀ k, u.ownBlock = some k → ¬ S k) : DL w0 w' n u D := ⟨h.st.only ho hm hv, h.ok, hb, h.hn⟩
theorem DL.kept (h : DL w0 w n u D) (hb : Below w.heap.size w w') : DL w0 w' n u D := h.only (Only.of_below hb (fun _ => False)) (below_on h.bel hb) (fun e => e) (fun _ _ e => e)
theorem DL.foot (h : DL w0 w n u D) (f : Foot n u u' w w') : Below w0.heap.size w0 w' :=
  h.bel.trans (f.only.below h.bel.size (fun k hk => by
    rcases hk with rfl | hk
    · exact h.hn
    · exact (h.own k hk).1))
theorem DL.step (h : DL w0 w n u D) (hs : RStep w0.heap.size n w w' u u' D') (ok : OkD D') : DL w0 w' n u' D' ∧ Foot n u u' w w' :=
  ⟨⟨hs.st, ok, h.foot ⟨hs.only, hs.new⟩, h.hn⟩, ⟨hs.only, hs.new⟩⟩
end
theorem ol_new {w w1 : World} (e1 : w1 = w.alloc (.cells #[.slice none 0 0] 26)) : OL w w1 w.heap.size (.slice none 0 0) [] := by
  obtain ⟨s1, n1, b1⟩ := new_size e1
  exact ⟨⟨[], ⟨n1, ownR_nil, by simp, by simp, by simp⟩, Sim.nil⟩, b1, Nat.le_refl _⟩
theorem dl_new {w w1 : World} (e1 : w1 = w.alloc (.cells #[.slice none 0 0] 30)) : DL w w1 w.heap.size (.slice none 0 0) [] := by
  obtain ⟨s1, n1, b1⟩ := new_size e1
  exact ⟨⟨n1, ownR_nil, by simp, by simp, by simp⟩, ⟨by simp, by simp, by simp, by simp⟩, b1, Nat.le_refl _⟩

/-! ### The code's calls -/
section
variable {w0 w : World} {m n : Nat} {v u : Value} {D : List Ck}
theorem ol_put (h : OL w0 w m v D) (id t : Int) : Calls Try.prog 9 #[.pointer (some ⟨m, 0, none⟩), .int .i64 id, .int .i64 t] w fun e w' => e = .returned (.int .i64 (if putK D id t then 0 else 1)) ∧ ∃ v', OL w0 w' m v' (putD D id t) ∧ Foot m v v' w w' := by
  obtain ⟨L, hk, hs⟩ := h.st
  by_cases hp : putK D id t = true
  · have hp' := hp
    unfold putK at hp'
    simp only [decide_eq_true_eq] at hp'
    obtain ⟨h1, h2, h3, h4, h5⟩ := hp'
    have e1 : ((id.toNat : Nat) : Int) = id := by omega
    have e2 : ((t.toNat : Nat) : Int) = t := by omega
    have hne : ∀ c ∈ D, c.1 ≠ id.toNat := fun c hc e => h5 c hc (by omega)
    have hsim := hs.put id.toNat t.toNat (by omega) (by omega) (by omega) hne
    have hlen := hsim.ok.len
    rw [List.length_append, List.length_singleton] at hlen
    have := put_good hk h.bel.size (by rw [hs.len]; omega) id.toNat t.toNat (by omega) (by omega) (by omega) (fun hlt => by
      obtain ⟨c, hc, e⟩ := (hs.runs _).1 hlt
      exact hne c hc (by omega))
    rw [e1, e2] at this
    refine this.mono ?_
    rintro e w' ⟨rfl, v', hst⟩
    obtain ⟨o1, o2⟩ := h.step hst hsim
    exact ⟨by rw [if_pos hp], v', by unfold putD; rw [if_pos hp]; exact o1, o2⟩
  · refine (put_bad hk id t (fun hb => hp ?_)).mono ?_
    · obtain ⟨h1, h2, h3, h4, h5⟩ := hb
      unfold putK
      rw [decide_eq_true_eq]
      exact ⟨h1, h2, h3, h4, fun c hc e => h5 ((hs.runs id).2 ⟨c, hc, e⟩)⟩
    · rintro e w' ⟨rfl, hb⟩
      exact ⟨by rw [if_neg hp], v, by unfold putD; rw [if_neg hp]; exact h.kept hb, Foot.same hb⟩
theorem ol_cancel (h : OL w0 w m v D) (id : Int) : Calls Try.prog 11 #[.pointer (some ⟨m, 0, none⟩), .int .i64 id] w fun e w' => e = .returned (.bool (runsK D id)) ∧ ∃ v', OL w0 w' m v' (offD D id) ∧ Foot m v v' w w' := by
  obtain ⟨L, hk, hs⟩ := h.st
  by_cases hr : ∃ c ∈ D, (c.1 : Int) = id
  · refine (cancel_yes hk hs.okL id ((hs.runs id).2 hr)).mono ?_
    rintro e w' ⟨rfl, v', hst⟩
    obtain ⟨o1, o2⟩ := h.step hst (hs.can id)
    exact ⟨by unfold runsK; rw [decide_eq_true hr], v', o1, o2⟩
  · refine (cancel_no hk id (fun hlt => hr ((hs.runs id).1 hlt))).mono ?_
    rintro e w' ⟨rfl, hb⟩
    have hf : runsK D id = false := by unfold runsK; exact decide_eq_false hr
    exact ⟨by rw [hf], v, by rw [offD_none hf]; exact h.kept hb, Foot.same hb⟩
theorem ol_tick (h : OL w0 w m v D) : Calls Try.prog 14 #[.pointer (some ⟨m, 0, none⟩)] w fun e w' => ∃ ao cap, e = .returned (.slice ao (overD D).length cap) ∧ OwnI w' w.heap.size (.slice ao (overD D).length cap) (overD D) ∧ ∃ v', OL w0 w' m v' (tickD D) ∧ Foot m v v' w w' := by
  obtain ⟨L, hk, hs⟩ := h.st
  rcases Nat.eq_zero_or_pos L.length with h0 | h0
  · obtain rfl : L = [] := List.eq_nil_of_length_eq_zero h0
    obtain rfl : D = [] := List.eq_nil_of_length_eq_zero (by have := hs.len; simpa using this.symm)
    obtain ⟨ao, cap, rfl, -⟩ := hk.shape
    refine (tick_none (running_any hk)).mono ?_
    rintro e w' ⟨rfl, rfl⟩
    exact ⟨none, 0, rfl, ownR_nil, _, h, Foot.same (Below.refl _ _)⟩
  · have h1 : 1 ≤ (L[0]).2 := by
      have hl : 0 < (ung 0 L).length := by rw [ung_len]; exact h0
      have := hs.ok.one _ (hs.perm.mem_iff.1 (List.getElem_mem hl))
      rw [ung_get 0 L 0 h0 hl] at this
      simp only [sumG_next h0] at this
      simpa [sumG] using this
    refine (tick_some hk h.bel.size h0 h1).mono ?_
    rintro e w' ⟨ao, cap, rfl, hO, v', hst⟩
    obtain ⟨o1, o2⟩ := h.step hst hs.tick
    rw [hs.over] at hO
    exact ⟨ao, cap, by rw [hs.over], hO, v', o1, o2⟩
theorem ol_dues (h : OL w0 w m v D) : Calls Try.prog 17 #[.pointer (some ⟨m, 0, none⟩)] w fun e w' => ∃ bo bc, e = .returned (.slice bo D.length bc) ∧ OwnD w' w.heap.size (.slice bo D.length bc) (srt D) ∧ Below w.heap.size w w' := by
  obtain ⟨L, hk, hs⟩ := h.st
  have := dues_any hk hs.okL
  rw [hs.eq, hs.len] at this
  exact this
theorem ol_left (h : OL w0 w m v D) (id : Int) : Calls Try.prog 19 #[.pointer (some ⟨m, 0, none⟩), .int .i64 id] w fun e w' => e = .returned (.int .i64 (leftS D id : Int)) ∧ Below w.heap.size w w' := by
  obtain ⟨L, hk, hs⟩ := h.st
  have := left_any hk hs.okL id
  rw [hs.left id] at this
  exact this
theorem ol_from (h : OL w0 w m v D) (id : Int) : Calls Try.prog 21 #[.pointer (some ⟨m, 0, none⟩), .int .i64 id] w fun e w' => e = .returned (.int .i64 (fromS D id : Int)) ∧ Below w.heap.size w w' := by
  obtain ⟨L, hk, hs⟩ := h.st
  have := from_any hk id
  rw [hs.from_ id] at this
  exact this

/-! ### The document's calls -/
theorem dl_put (h : DL w0 w n u D) (id t : Int) : Calls Try.prog 10 #[.pointer (some ⟨n, 0, none⟩), .int .i64 id, .int .i64 t] w fun e w' => e = .returned (.bool (putK D id t)) ∧ ∃ u', DL w0 w' n u' (putD D id t) ∧ Foot n u u' w w' := by
  by_cases hp : putK D id t = true
  · have hp' := hp
    unfold putK at hp'
    simp only [decide_eq_true_eq] at hp'
    obtain ⟨h1, h2, h3, h4, h5⟩ := hp'
    have e1 : ((id.toNat : Nat) : Int) = id := by omega
    have e2 : ((t.toNat : Nat) : Int) = t := by omega
    have hne : ∀ c ∈ D, c.1 ≠ id.toNat := fun c hc e => h5 c hc (by omega)
    have hok := h.ok.put id.toNat t.toNat (by omega) (by omega) (by omega) hne
    have hlen := hok.len
    rw [List.length_append, List.length_singleton] at hlen
    have := rput_good h.st h.bel.size (by omega) id.toNat t.toNat (by omega) (by omega) (by omega) (by rw [e1]; exact leftS_none h5)
    rw [e1, e2] at this
    refine this.mono ?_
    rintro e w' ⟨rfl, u', hst⟩
    obtain ⟨o1, o2⟩ := h.step hst hok
    exact ⟨by rw [hp], u', by unfold putD; rw [if_pos hp]; exact o1, o2⟩
  · refine (rput_bad h.st id t (fun hb => hp ?_)).mono ?_
    · obtain ⟨h1, h2, h3, h4, h5⟩ := hb
      unfold putK
      rw [decide_eq_true_eq]
      exact ⟨h1, by omega, h3, h4, fun c hc e => h5 ((left_pos h.ok id).2 ⟨c, hc, e⟩)⟩
    · rintro e w' ⟨rfl, rfl⟩
      exact ⟨by rw [Bool.eq_false_iff.2 hp], u, by unfold putD; rw [if_neg hp]; exact h, Foot.same (Below.refl _ _)⟩
theorem dl_cancel (h : DL w0 w n u D) (id : Int) : Calls Try.prog 12 #[.pointer (some ⟨n, 0, none⟩), .int .i64 id] w fun e w' => e = .returned (.bool (runsK D id)) ∧ ∃ u', DL w0 w' n u' (offD D id) ∧ Foot n u u' w w' := by
  refine (rcancel_any h.st h.bel.size id).mono ?_
  rintro e w' ⟨rfl, u', hst⟩
  obtain ⟨o1, o2⟩ := h.step hst (h.ok.off id)
  exact ⟨by rw [runsK_off], u', o1, o2⟩
theorem dl_tick (h : DL w0 w n u D) : Calls Try.prog 15 #[.pointer (some ⟨n, 0, none⟩)] w fun e w' => ∃ ao cap, e = .returned (.slice ao (overD D).length cap) ∧ OwnI w' w.heap.size (.slice ao (overD D).length cap) (overD D) ∧ ∃ u', DL w0 w' n u' (tickD D) ∧ Foot n u u' w w' := by
  refine (rtick_any h.st h.bel.size h.ok.one).mono ?_
  rintro e w' ⟨ao, cap, rfl, hO, u', hst⟩
  obtain ⟨o1, o2⟩ := h.step hst h.ok.tick
  exact ⟨ao, cap, rfl, hO, u', o1, o2⟩
end

/-! ### awake -/
theorem lit_row {w : World} {n : Nat} (l : List Ck) (cs : Array Value) (hn : n = w.heap.size) (hc : cs = (l.flatMap cc).toArray) (hl : l.length ≤ 1000) (h0 : 0 < l.length) : OwnD (w.alloc (.cells cs 48)) w.heap.size (.slice (some ⟨n, 0, none⟩) l.length l.length) l := by
  subst hn hc
  exact ownR_of (rest := []) cc_len (by rw [List.append_nil]; exact heap_alloc_new w _) (Nat.le_refl _) (Nat.le_refl _) (by unfold maxLen; omega) (by simp)
theorem lit_nums {w : World} {n : Nat} (l : List Nat) (cs : Array Value) (hn : n = w.heap.size) (hc : cs = (l.flatMap w1i).toArray) (hl : l.length ≤ 1000) : OwnI (w.alloc (.cells cs 3)) w.heap.size (.slice (some ⟨n, 0, none⟩) l.length l.length) l := by
  subst hn hc
  exact ownR_of (rest := []) w1i_len (by rw [List.append_nil]; exact heap_alloc_new w _) (Nat.le_refl _) (Nat.le_refl _) (by unfold maxLen; omega) (by simp)
/-- Two rows of one's own are compared. -/
theorem same_own {w : World} {B C : Nat} {ao bo : Option Addr} {cap bc n k : Nat} {l l' : List Ck} (h : OwnD w B (.slice ao n cap) l) (g : OwnD w C (.slice bo k bc) l') (hl : n ≤ 1000000) :
    Calls Try.prog 16 #[.slice ao n cap, .slice bo k bc] w fun e w' => e = .returned (.bool (decide (l = l'))) ∧ ∃ q, w' = w.drewN q := by
  obtain rfl := h.len
  obtain rfl := g.len
  obtain ⟨a1, c1, e1, s1, -⟩ := OwnR.seen cc_len h
  obtain ⟨a2, c2, e2, s2, -⟩ := OwnR.seen cc_len g
  cases e1
  cases e2
  exact rsame_any ao cap l s1 bo bc l' s2 hl
theorem ints_own {w : World} {B C : Nat} {ao bo : Option Addr} {cap bc n k : Nat} {l l' : List Nat} (h : OwnI w B (.slice ao n cap) l) (g : OwnI w C (.slice bo k bc) l') (hl : n ≤ 1000000) :
    Calls Try.prog 13 #[.slice ao n cap, .slice bo k bc] w fun e w' => e = .returned (.bool (decide (l = l'))) ∧ ∃ q, w' = w.drewN q := by
  obtain rfl := h.len
  obtain rfl := g.len
  obtain ⟨a1, c1, e1, s1, -⟩ := OwnR.seen w1i_len h
  obtain ⟨a2, c2, e2, s2, -⟩ := OwnR.seen w1i_len g
  cases e1
  cases e2
  exact ints_any ao cap l s1 bo bc l' s2 hl

end Go.Proofs.Ytmgcdfndmokgnaa
