/-
  Two lists of the code's side by side, of the call's own; what calls do to clocks of which one is left out; what a tick does to sorted clocks. No condition.
-/
import Derived.Test.YtmgcdfndmokgnaaDe13
namespace Go.Proofs.Ytmgcdfndmokgnaa
open Go Go.RowKit
set_option linter.unusedVariables false
set_option linter.unusedSimpArgs false

/-! ### One left out -/
theorem offD_off (Q : List Ck) (id o : Int) : offD (offD Q o) id = offD (offD Q id) o := by
  unfold offD
  rw [List.filter_filter, List.filter_filter]
  congr 1
  funext c
  exact Bool.and_comm _ _
theorem offD_same (Q : List Ck) (id : Int) : offD (offD Q id) id = offD Q id := by
  unfold offD
  rw [List.filter_filter]
  congr 1
  funext c
  exact Bool.and_self _
theorem offD_tick (Q : List Ck) (id : Int) : offD (tickD Q) id = tickD (offD Q id) := by
  unfold offD tickD
  rw [List.filter_filter, List.filter_map, List.filter_map, List.filter_filter]
  congr 1
  apply List.filter_congr
  intro c _
  simp only [Function.comp, dec]
  exact Bool.and_comm _ _
theorem putK_off (Q : List Ck) (id o t : Int) (h : o ≠ id) : putK (offD Q id) o t = putK Q o t := by
  unfold putK
  apply bool_eq
  simp only [decide_eq_true_eq]
  constructor
  · rintro ⟨h1, h2, h3, h4, h5⟩
    refine ⟨h1, h2, h3, h4, fun c hc e => h5 c (List.mem_filter.2 ⟨hc, ?_⟩) e⟩
    simp only [decide_eq_true_eq]
    intro e2
    exact h (e.symm.trans e2)
  · rintro ⟨h1, h2, h3, h4, h5⟩
    exact ⟨h1, h2, h3, h4, fun c hc => h5 c (offD_mem hc)⟩
theorem offD_put (Q : List Ck) (id o t : Int) (h : o ≠ id) : offD (putD Q o t) id = putD (offD Q id) o t := by
  unfold putD
  rw [putK_off Q id o t h]
  split
  · rename_i hk
    unfold putK at hk
    simp only [decide_eq_true_eq] at hk
    unfold offD
    rw [List.filter_append, List.filter_cons_of_pos (by simp only [decide_eq_true_eq]; omega)]
    rfl
  · rfl
theorem offD_put_same (Q : List Ck) (id t : Int) : offD (putD Q id t) id = offD Q id := by
  unfold putD
  split
  · rename_i hk
    unfold putK at hk
    simp only [decide_eq_true_eq] at hk
    unfold offD
    rw [List.filter_append, List.filter_cons_of_neg (by simp only [decide_eq_true_eq]; omega)]
    simp
  · rfl

/-! ### Two of the code's -/
section
variable {w0 w w' : World} {m n : Nat} {v v' u u' : Value} {P Q P' Q' : List Ck}
def TwoP (w0 w : World) (m n : Nat) (P Q : List Ck) : Prop := m ≠ n ∧ ∃ v u, OL w0 w m v P ∧ OL w0 w n u Q ∧ ∀ k, v.ownBlock = some k → u.ownBlock ≠ some k
theorem OL.not_row (h : OL w0 w m v P) (g : OL w0 w n u Q) : v.ownBlock ≠ some n := by
  obtain ⟨L, hk, _⟩ := h.st
  obtain ⟨L2, gk, _⟩ := g.st
  intro e
  obtain ⟨c1, g1⟩ := hk.row.kind e
  rw [gk.blk] at g1
  injection g1 with g1
  injection g1 with _ g1 _
  exact absurd g1 (by decide)
theorem TwoP.kept (h : TwoP w0 w m n P Q) (hb : Below w.heap.size w w') : TwoP w0 w' m n P Q := by
  obtain ⟨hm, v, u, h1, h2, h3⟩ := h
  exact ⟨hm, v, u, h1.kept hb, h2.kept hb, h3⟩
theorem TwoP.bel (h : TwoP w0 w m n P Q) : Below w0.heap.size w0 w := by obtain ⟨-, v, u, h1, h2, -⟩ := h; exact h1.bel
theorem TwoP.lt (h : TwoP w0 w m n P Q) : m < w.heap.size ∧ n < w.heap.size := by obtain ⟨-, v, u, h1, h2, -⟩ := h; exact ⟨h1.lt, h2.lt⟩
theorem TwoP.swap (h : TwoP w0 w m n P Q) : TwoP w0 w n m Q P := by
  obtain ⟨hm, v, u, h1, h2, h3⟩ := h
  exact ⟨hm.symm, u, v, h2, h1, fun k hk e => h3 k e hk⟩
theorem p_step (hm : m ≠ n) (h : OL w0 w m v P) (g : OL w0 w n u Q) (ha : ∀ k, v.ownBlock = some k → u.ownBlock ≠ some k) (h' : OL w0 w' m v' P') (f : Foot m v v' w w') : TwoP w0 w' m n P' Q ∧ Kp w w' := by
  refine ⟨⟨hm, v', u, h', g.only f.only h'.bel ?_ ?_, fun k hk e => ?_⟩, h.kp f⟩
  · rintro (e | e)
    · exact hm e.symm
    · exact h.not_row g e
  · rintro k hk (e | e)
    · exact g.not_row h (by rw [← e]; exact hk)
    · exact ha k e hk
  · rcases f.new k hk with h1 | h1
    · exact ha k h1 e
    · have := (g.own k e).2
      omega
theorem tp_put (h : TwoP w0 w m n P Q) (id t : Int) : Calls Try.prog 9 #[.pointer (some ⟨m, 0, none⟩), .int .i64 id, .int .i64 t] w fun e w' => e = .returned (.int .i64 (if putK P id t then 0 else 1)) ∧ TwoP w0 w' m n (putD P id t) Q ∧ Kp w w' := by
  obtain ⟨hm, v, u, h1, h2, h3⟩ := h
  exact (ol_put h1 id t).mono fun e w' ⟨he, v', h4, f⟩ => ⟨he, p_step hm h1 h2 h3 h4 f⟩
theorem tp_put2 (h : TwoP w0 w m n P Q) (id t : Int) : Calls Try.prog 9 #[.pointer (some ⟨n, 0, none⟩), .int .i64 id, .int .i64 t] w fun e w' => e = .returned (.int .i64 (if putK Q id t then 0 else 1)) ∧ TwoP w0 w' m n P (putD Q id t) ∧ Kp w w' :=
  (tp_put h.swap id t).mono fun e w' ⟨he, h4, f⟩ => ⟨he, h4.swap, f⟩
theorem tp_cancel (h : TwoP w0 w m n P Q) (id : Int) : Calls Try.prog 11 #[.pointer (some ⟨m, 0, none⟩), .int .i64 id] w fun e w' => e = .returned (.bool (runsK P id)) ∧ TwoP w0 w' m n (offD P id) Q ∧ Kp w w' := by
  obtain ⟨hm, v, u, h1, h2, h3⟩ := h
  exact (ol_cancel h1 id).mono fun e w' ⟨he, v', h4, f⟩ => ⟨he, p_step hm h1 h2 h3 h4 f⟩
theorem tp_cancel2 (h : TwoP w0 w m n P Q) (id : Int) : Calls Try.prog 11 #[.pointer (some ⟨n, 0, none⟩), .int .i64 id] w fun e w' => e = .returned (.bool (runsK Q id)) ∧ TwoP w0 w' m n P (offD Q id) ∧ Kp w w' :=
  (tp_cancel h.swap id).mono fun e w' ⟨he, h4, f⟩ => ⟨he, h4.swap, f⟩
theorem tp_tick (h : TwoP w0 w m n P Q) : Calls Try.prog 14 #[.pointer (some ⟨m, 0, none⟩)] w fun e w' => ∃ ao k cap, e = .returned (.slice ao k cap) ∧ TwoP w0 w' m n (tickD P) Q ∧ Kp w w' := by
  obtain ⟨hm, v, u, h1, h2, h3⟩ := h
  exact (ol_tick h1).mono fun e w' ⟨ao, cap, he, _, v', h4, f⟩ => ⟨ao, _, cap, he, p_step hm h1 h2 h3 h4 f⟩
theorem tp_tick2 (h : TwoP w0 w m n P Q) : Calls Try.prog 14 #[.pointer (some ⟨n, 0, none⟩)] w fun e w' => ∃ ao k cap, e = .returned (.slice ao k cap) ∧ TwoP w0 w' m n P (tickD Q) ∧ Kp w w' :=
  (tp_tick h.swap).mono fun e w' ⟨ao, k, cap, he, h4, f⟩ => ⟨ao, k, cap, he, h4.swap, f⟩
theorem tp_dues (h : TwoP w0 w m n P Q) : Calls Try.prog 17 #[.pointer (some ⟨m, 0, none⟩)] w fun e w' => ∃ bo bc, e = .returned (.slice bo P.length bc) ∧ OwnD w' w.heap.size (.slice bo P.length bc) (srt P) ∧ Below w.heap.size w w' := by
  obtain ⟨hm, v, u, h1, h2, h3⟩ := h
  exact ol_dues h1
end
theorem twop_new {w w1 w2 : World} (e1 : w1 = w.alloc (.cells #[.slice none 0 0] 26)) (e2 : w2 = w1.alloc (.cells #[.slice none 0 0] 26)) : TwoP w w2 w.heap.size (w.heap.size + 1) [] [] := by
  obtain ⟨s1, n1, b1⟩ := new_size e1
  obtain ⟨s2, n2, b2⟩ := new_size e2
  refine ⟨by omega, .slice none 0 0, .slice none 0 0, (ol_new e1).kept b2, ?_, fun k hk => by cases hk⟩
  rw [← s1]
  exact ⟨⟨[], ⟨n2, ownR_nil, by simp, by simp, by simp⟩, Sim.nil⟩, below_on b1 b2, by omega⟩

/-! ### A tick of sorted clocks -/
theorem tick_split {D : List Ck} (h : OkD D) : ∃ A B, (srt D).map dec = A ++ B ∧ overD D = A.map (·.1) ∧ srt (tickD D) = B ∧ ∀ c ∈ A, c.2 = 0 := by
  have e := srt_dec D h.one
  refine ⟨((srt D).map dec).takeWhile nilG, ((srt D).map dec).dropWhile nilG, (List.takeWhile_append_dropWhile).symm, ?_, ?_, ?_⟩
  · rw [← e, up_take _ (srt_up _), ← srt_filter, srt_same 0]
    · rfl
    · intro z hz
      simpa [nilG] using (List.mem_filter.1 hz).2
  · unfold tickD
    rw [srt_filter, ← e, up_drop _ (srt_up _)]
  · intro c hc
    have h2 : nilG c = true := by
      rw [← e, up_take _ (srt_up _)] at hc
      exact (List.mem_filter.1 hc).2
    simpa [nilG] using h2
theorem tick_len {D : List Ck} (h : OkD D) : (overD D).length + (srt (tickD D)).length = (srt D).length := by
  obtain ⟨A, B, h1, h2, h3, -⟩ := tick_split h
  rw [h2, h3, List.length_map, ← List.length_append, ← h1, List.length_map]
theorem tick_front {D : List Ck} (h : OkD D) (i : Nat) (hi : i < (overD D).length) (hs : i < (srt D).length) : ((srt D)[i]).2 = 1 ∧ (overD D)[i] = ((srt D)[i]).1 := by
  obtain ⟨A, B, h1, h2, h3, h4⟩ := tick_split h
  have hA : i < A.length := by rw [h2, List.length_map] at hi; exact hi
  have e : A[i] = dec ((srt D)[i]) := by
    have : (A ++ B)[i]'(by rw [List.length_append]; omega) = A[i] := List.getElem_append_left hA
    rw [← this]
    simp only [← h1, List.getElem_map]
  have h5 := h4 _ (List.getElem_mem hA)
  rw [e] at h5
  have h6 := h.one _ (srt_mem.1 (List.getElem_mem hs))
  simp only [dec] at h5
  refine ⟨by omega, ?_⟩
  simp only [h2, List.getElem_map, e, dec]
theorem tick_back {D : List Ck} (h : OkD D) (i : Nat) (hi : (overD D).length ≤ i) (hs : i < (srt D).length) (hn : i - (overD D).length < (srt (tickD D)).length) : (srt (tickD D))[i - (overD D).length] = (((srt D)[i]).1, ((srt D)[i]).2 - 1) := by
  obtain ⟨A, B, h1, h2, h3, h4⟩ := tick_split h
  have hk : (overD D).length = A.length := by rw [h2, List.length_map]
  have e : dec ((srt D)[i]) = (A ++ B)[i]'(by rw [← h1, List.length_map]; exact hs) := by
    simp only [← h1, List.getElem_map]
  have e2 : (A ++ B)[i]'(by rw [← h1, List.length_map]; exact hs) = B[i - A.length]'(by rw [← h3, ← hk]; exact hn) := List.getElem_append_right (by omega)
  have e3 : (srt (tickD D))[i - (overD D).length] = B[i - A.length]'(by rw [← h3, ← hk]; exact hn) := by
    simp only [h3, hk]
  rw [e3, ← e2, ← e]
  rfl
theorem OkD.srt_one {D : List Ck} (h : OkD D) (i : Nat) (hi : i < (srt D).length) : 1 ≤ ((srt D)[i]).2 ∧ ((srt D)[i]).2 < 4294967296 ∧ leftS D (((srt D)[i]).1 : Int) = ((srt D)[i]).2 := by
  have hm := srt_mem.1 (List.getElem_mem hi)
  exact ⟨h.one _ hm, h.top _ hm, leftS_of h.nd hm⟩
theorem srt_step {D : List Ck} (i : Nat) (h0 : 0 < i) (hi : i < (srt D).length) : ((srt D)[i - 1]).2 ≤ ((srt D)[i]).2 :=
  List.pairwise_iff_getElem.1 (srt_up D) (i - 1) i (by omega) hi (by omega)

end Go.Proofs.Ytmgcdfndmokgnaa
