/-
  The mathematics of the clocks: a row of gaps and the row of ticks left that it stands for; put, taken out, a tick; the document's clocks in the order in which they were put, sorted; that the one follows the other. No condition but those that are written.
-/
import Derived.Test.YtmgcdfndmokgnaaBase
namespace Go.Proofs.Ytmgcdfndmokgnaa
set_option linter.unusedVariables false
set_option linter.unusedSimpArgs false

/-- A clock: its number, and its gap or the ticks that it has left. -/
abbrev Ck := Nat × Nat

/-- The ticks left that the gaps stand for, from so many on. -/
def ung : Nat → List Ck → List Ck
  | _, [] => []
  | a, c :: r => (c.1, a + c.2) :: ung (a + c.2) r
theorem ung_cons (a : Nat) (c : Ck) (r : List Ck) : ung a (c :: r) = (c.1, a + c.2) :: ung (a + c.2) r := rfl
theorem ung_len : ∀ (a : Nat) (l : List Ck), (ung a l).length = l.length
  | _, [] => rfl
  | a, c :: r => by simp [ung, ung_len (a + c.2) r]
theorem ung_ge : ∀ (a : Nat) (l : List Ck), ∀ x ∈ ung a l, a ≤ x.2
  | _, [], x, h => by cases h
  | a, c :: r, x, h => by
    rcases List.mem_cons.1 h with rfl | h
    · exact Nat.le_add_right _ _
    · have := ung_ge (a + c.2) r x h; omega
theorem ung_fst : ∀ (a : Nat) (l : List Ck), (ung a l).map (·.1) = l.map (·.1)
  | _, [] => rfl
  | a, c :: r => by simp [ung, ung_fst (a + c.2) r]
theorem ung_sorted : ∀ (a : Nat) (l : List Ck), (ung a l).Pairwise (fun x y => x.2 ≤ y.2)
  | _, [] => .nil
  | a, c :: r => .cons (fun y hy => ung_ge _ r y hy) (ung_sorted _ r)
theorem ung_app : ∀ (a : Nat) (l m : List Ck), ung a (l ++ m) = ung a l ++ ung (a + (l.map (·.2)).sum) m
  | a, [], m => by simp [ung]
  | a, c :: r, m => by simp [ung, ung_app (a + c.2) r m, Nat.add_assoc]
/-- Each gap is at most what is left. -/
theorem gap_le : ∀ (a : Nat) (l : List Ck) (c : Ck), c ∈ l → ∃ x ∈ ung a l, x.1 = c.1 ∧ c.2 ≤ x.2
  | _, [], c, h => by cases h
  | a, d :: r, c, h => by
    rcases List.mem_cons.1 h with rfl | h
    · exact ⟨_, List.mem_cons_self, rfl, Nat.le_add_left _ _⟩
    · obtain ⟨x, h1, h2⟩ := gap_le (a + d.2) r c h
      exact ⟨x, List.mem_cons_of_mem _ h1, h2⟩

/-! ### A row that is sorted -/
def insS : List Ck → Ck → List Ck
  | [], x => [x]
  | y :: r, x => if y.2 ≤ x.2 then y :: insS r x else x :: y :: r
theorem insS_cons (y : Ck) (r : List Ck) (x : Ck) : insS (y :: r) x = if y.2 ≤ x.2 then y :: insS r x else x :: y :: r := rfl
def srt (D : List Ck) : List Ck := D.foldl insS []
abbrev Up (l : List Ck) : Prop := l.Pairwise (fun x y => x.2 ≤ y.2)

theorem insS_perm : ∀ (l : List Ck) (x : Ck), (insS l x).Perm (x :: l)
  | [], x => .refl _
  | y :: r, x => by
    unfold insS; split
    · exact (List.Perm.cons y (insS_perm r x)).trans (List.Perm.swap x y r)
    · exact .refl _
theorem insS_mem {l : List Ck} {x z : Ck} : z ∈ insS l x ↔ z = x ∨ z ∈ l := by rw [(insS_perm l x).mem_iff]; simp
theorem insS_up : ∀ (l : List Ck) (x : Ck), Up l → Up (insS l x)
  | [], x, _ => List.pairwise_singleton _ _
  | y :: r, x, h => by
    unfold insS
    obtain ⟨h1, h2⟩ := List.pairwise_cons.1 h
    split
    · rename_i hle
      refine List.pairwise_cons.2 ⟨fun z hz => ?_, insS_up r x h2⟩
      rcases insS_mem.1 hz with rfl | hz
      · exact hle
      · exact h1 z hz
    · rename_i hle
      refine List.pairwise_cons.2 ⟨fun z hz => ?_, h⟩
      rcases List.mem_cons.1 hz with rfl | hz
      · omega
      · have := h1 z hz; omega
theorem insS_front (l : List Ck) (x : Ck) (h : ∀ z ∈ l, x.2 < z.2) : insS l x = x :: l := by
  cases l with
  | nil => rfl
  | cons y r => unfold insS; rw [if_neg (by have := h y (by simp); omega)]
theorem insS_back : ∀ (l : List Ck) (x : Ck), (∀ z ∈ l, z.2 ≤ x.2) → insS l x = l ++ [x]
  | [], x, _ => rfl
  | y :: r, x, h => by
    unfold insS
    rw [if_pos (h y (by simp)), insS_back r x (fun z hz => h z (by simp [hz]))]
    rfl
/-- The place at which the document puts one: behind the last that isn't greater. -/
theorem insS_at : ∀ (l : List Ck) (x : Ck) (k : Nat), k ≤ l.length → (∀ z ∈ l.take k, z.2 ≤ x.2) → (∀ z ∈ l.drop k, x.2 < z.2) → insS l x = l.take k ++ x :: l.drop k
  | l, x, 0, _, _, h => by simpa using insS_front l x (by simpa using h)
  | [], x, k + 1, h, _, _ => by simp at h
  | y :: r, x, k + 1, hk, h1, h2 => by
    unfold insS
    rw [if_pos (h1 y (by simp)), insS_at r x k (by simpa using hk) (fun z hz => h1 z (by simp [hz])) (fun z hz => h2 z (by simpa using hz))]
    rfl

theorem fold_up : ∀ (D s : List Ck), Up s → Up (D.foldl insS s)
  | [], _, h => h
  | x :: D, s, h => fold_up D _ (insS_up s x h)
theorem srt_up (D : List Ck) : Up (srt D) := fold_up D [] .nil
theorem fold_perm : ∀ (D s : List Ck), (D.foldl insS s).Perm (s ++ D)
  | [], s => by simp
  | x :: D, s => by
    refine (fold_perm D _).trans ?_
    refine (List.Perm.append_right D (insS_perm s x)).trans ?_
    exact (List.perm_middle (a := x) (l₁ := s) (l₂ := D)).symm
theorem srt_perm (D : List Ck) : (srt D).Perm D := fold_perm D []
theorem srt_snoc (D : List Ck) (x : Ck) : srt (D ++ [x]) = insS (srt D) x := by unfold srt; rw [List.foldl_append]; rfl
theorem srt_mem {D : List Ck} {x : Ck} : x ∈ srt D ↔ x ∈ D := (srt_perm D).mem_iff

/-- What is left out is left out of the sorted one. -/
theorem insS_filter (p : Ck → Bool) : ∀ (l : List Ck) (x : Ck), Up l → (insS l x).filter p = if p x then insS (l.filter p) x else l.filter p
  | [], x, _ => by cases h : p x <;> simp [insS, h]
  | y :: r, x, hu => by
    obtain ⟨h1, h2⟩ := List.pairwise_cons.1 hu
    by_cases hle : y.2 ≤ x.2
    · have ih := insS_filter p r x h2
      rw [insS_cons, if_pos hle]
      by_cases hy : p y = true
      · rw [List.filter_cons_of_pos hy, ih, List.filter_cons_of_pos hy]
        split
        · rw [insS_cons, if_pos hle]
        · rfl
      · rw [List.filter_cons_of_neg hy, ih, List.filter_cons_of_neg hy]
    · rw [insS_cons, if_neg hle]
      by_cases hx : p x = true
      · rw [if_pos hx, List.filter_cons_of_pos hx]
        refine (insS_front _ _ fun z hz => ?_).symm
        have hz := (List.mem_filter.1 hz).1
        rcases List.mem_cons.1 hz with rfl | hz
        · omega
        · have := h1 z hz; omega
      · rw [if_neg hx, List.filter_cons_of_neg hx]
theorem fold_filter (p : Ck → Bool) : ∀ (D s : List Ck), Up s → (D.foldl insS s).filter p = (D.filter p).foldl insS (s.filter p)
  | [], _, _ => rfl
  | x :: D, s, h => by
    have ih := fold_filter p D _ (insS_up s x h)
    rw [List.foldl_cons, ih, insS_filter p s x h]
    by_cases hx : p x = true
    · rw [if_pos hx, List.filter_cons_of_pos hx]; rfl
    · rw [if_neg hx, List.filter_cons_of_neg hx]
theorem srt_filter (p : Ck → Bool) (D : List Ck) : srt (D.filter p) = (srt D).filter p := (fold_filter p D [] .nil).symm

/-- One tick less. -/
def dec (c : Ck) : Ck := (c.1, c.2 - 1)
theorem insS_dec : ∀ (l : List Ck) (x : Ck), (∀ z ∈ l, 1 ≤ z.2) → 1 ≤ x.2 → insS (l.map dec) (dec x) = (insS l x).map dec
  | [], x, _, _ => rfl
  | y :: r, x, h, hx => by
    have hy := h y (by simp)
    have ih := insS_dec r x (fun z hz => h z (by simp [hz])) hx
    rw [List.map_cons]
    unfold insS
    by_cases hle : y.2 ≤ x.2
    · rw [if_pos hle, if_pos (by unfold dec; simp; omega), List.map_cons, ih]
    · rw [if_neg hle, if_neg (by unfold dec; simp; omega)]; rfl
theorem fold_dec : ∀ (D s : List Ck), (∀ z ∈ s, 1 ≤ z.2) → (∀ z ∈ D, 1 ≤ z.2) → (D.map dec).foldl insS (s.map dec) = (D.foldl insS s).map dec
  | [], _, _, _ => rfl
  | x :: D, s, h, hD => by
    rw [List.map_cons, List.foldl_cons, insS_dec s x h (hD x (by simp)), List.foldl_cons]
    refine fold_dec D _ (fun z hz => ?_) (fun z hz => hD z (by simp [hz]))
    rcases insS_mem.1 hz with rfl | hz
    · exact hD _ (by simp)
    · exact h z hz
theorem srt_dec (D : List Ck) (h : ∀ z ∈ D, 1 ≤ z.2) : srt (D.map dec) = (srt D).map dec := fold_dec D [] (by simp) h
theorem fold_same (k : Nat) : ∀ (D s : List Ck), (∀ z ∈ s, z.2 = k) → (∀ z ∈ D, z.2 = k) → D.foldl insS s = s ++ D
  | [], s, _, _ => by simp
  | x :: D, s, h, hD => by
    have hx := hD x (by simp)
    rw [List.foldl_cons, insS_back s x (fun z hz => by rw [h z hz, hx]; exact Nat.le_refl k), fold_same k D (s ++ [x]) (fun z hz => ?_) (fun z hz => hD z (by simp [hz]))]
    · simp
    · rcases List.mem_append.1 hz with hz | hz
      · exact h z hz
      · rw [List.mem_singleton.1 hz]; exact hx
theorem srt_same (k : Nat) (D : List Ck) (h : ∀ z ∈ D, z.2 = k) : srt D = D := by simpa [srt] using fold_same k D [] (by simp) h

/-! ### The code's row -/
/-- How many stand ahead of one that is put, and its gap. -/
def behC : List Ck → Nat → Nat × Nat
  | [], t => (0, t)
  | c :: r, t => if c.2 ≤ t then ((behC r (t - c.2)).1 + 1, (behC r (t - c.2)).2) else (0, t)
def insC : List Ck → Nat → Nat → List Ck
  | [], id, t => [(id, t)]
  | c :: r, id, t => if c.2 ≤ t then c :: insC r id (t - c.2) else (id, t) :: (c.1, c.2 - t) :: r
theorem behC_le : ∀ (l : List Ck) (t : Nat), (behC l t).1 ≤ l.length ∧ (behC l t).2 ≤ t
  | [], t => ⟨Nat.le_refl _, Nat.le_refl _⟩
  | c :: r, t => by
    unfold behC
    have := behC_le r (t - c.2)
    split
    · simp only [List.length_cons]; omega
    · simp
theorem behC_gap : ∀ (l : List Ck) (t : Nat) (h : (behC l t).1 < l.length), (behC l t).2 < (l[(behC l t).1]).2
  | [], t, h => by simp at h
  | c :: r, t, h => by
    by_cases hc : c.2 ≤ t
    · have e : behC (c :: r) t = ((behC r (t - c.2)).1 + 1, (behC r (t - c.2)).2) := by rw [behC, if_pos hc]
      have h' : (behC r (t - c.2)).1 < r.length := by rw [e] at h; simpa using h
      have := behC_gap r (t - c.2) h'
      simp only [e, List.getElem_cons_succ]
      exact this
    · have e : behC (c :: r) t = (0, t) := by rw [behC, if_neg hc]
      simp only [e, List.getElem_cons_zero]
      omega
/-- The row, where the one behind the place had its gap cut, and the new one was set in. -/
def cutG (l : List Ck) (at_ g : Nat) : List Ck := if h : at_ < l.length then l.set at_ ((l[at_]).1, (l[at_]).2 - g) else l
theorem insC_is : ∀ (l : List Ck) (id t : Nat), insC l id t = (cutG l (behC l t).1 (behC l t).2).take (behC l t).1 ++ (id, (behC l t).2) :: (cutG l (behC l t).1 (behC l t).2).drop (behC l t).1
  | [], id, t => by simp [insC, behC, cutG]
  | c :: r, id, t => by
    by_cases hc : c.2 ≤ t
    · have e : behC (c :: r) t = ((behC r (t - c.2)).1 + 1, (behC r (t - c.2)).2) := by rw [behC, if_pos hc]
      have ih := insC_is r id (t - c.2)
      have e2 : cutG (c :: r) ((behC r (t - c.2)).1 + 1) (behC r (t - c.2)).2 = c :: cutG r (behC r (t - c.2)).1 (behC r (t - c.2)).2 := by
        unfold cutG
        by_cases hl : (behC r (t - c.2)).1 < r.length
        · rw [dif_pos (by simpa using hl), dif_pos hl]; simp
        · rw [dif_neg (by simpa using hl), dif_neg hl]
      rw [e]
      simp only [e2]
      rw [insC, if_pos hc, ih]
      simp
    · have e : behC (c :: r) t = (0, t) := by rw [behC, if_neg hc]
      rw [e, insC, if_neg hc]
      simp [cutG]
theorem insC_len (l : List Ck) (id t : Nat) : (insC l id t).length = l.length + 1 := by
  induction l generalizing t with
  | nil => rfl
  | cons c r ih => unfold insC; split <;> simp [ih]
theorem ung_ins : ∀ (l : List Ck) (a id t : Nat), ung a (insC l id t) = insS (ung a l) (id, a + t)
  | [], a, id, t => rfl
  | c :: r, a, id, t => by
    rw [ung_cons, insS_cons]
    unfold insC
    by_cases hc : c.2 ≤ t
    · rw [if_pos hc, if_pos (by show a + c.2 ≤ a + t; omega)]
      rw [ung_cons, ung_ins r (a + c.2) id (t - c.2), show a + c.2 + (t - c.2) = a + t by omega]
    · rw [if_neg hc, if_neg (by show ¬ a + c.2 ≤ a + t; omega)]
      simp only [ung]
      rw [show a + t + (c.2 - t) = a + c.2 by omega]

/-- One taken out: the one behind it has its gap. -/
def addG (g : Nat) : List Ck → List Ck
  | [] => []
  | c :: r => (c.1, c.2 + g) :: r
theorem ung_addG (a g : Nat) (l : List Ck) : ung a (addG g l) = ung (a + g) l := by
  cases l with
  | nil => rfl
  | cons c r => simp only [addG, ung]; rw [show a + (c.2 + g) = a + g + c.2 by omega]
def canC : List Ck → Int → List Ck
  | [], _ => []
  | c :: r, id => if (c.1 : Int) = id then addG c.2 r else c :: canC r id
def rem1 : List Ck → Int → List Ck
  | [], _ => []
  | c :: r, id => if (c.1 : Int) = id then r else c :: rem1 r id
theorem ung_can : ∀ (l : List Ck) (a : Nat) (id : Int), ung a (canC l id) = rem1 (ung a l) id
  | [], _, _ => rfl
  | c :: r, a, id => by
    rw [ung_cons]
    unfold canC rem1
    by_cases h : (c.1 : Int) = id
    · rw [if_pos h, if_pos (by exact h), ung_addG]
    · rw [if_neg h, if_neg (by exact h), ung_cons, ung_can r]
/-- Where one stands; the length: nowhere. -/
def atC : List Ck → Int → Nat
  | [], _ => 0
  | c :: r, id => if (c.1 : Int) = id then 0 else atC r id + 1
theorem atC_le : ∀ (l : List Ck) (id : Int), atC l id ≤ l.length
  | [], _ => Nat.le_refl _
  | c :: r, id => by unfold atC; have := atC_le r id; split <;> simp <;> omega
theorem atC_is : ∀ (l : List Ck) (id : Int) (h : atC l id < l.length), ((l[atC l id]).1 : Int) = id
  | [], _, h => by simp at h
  | c :: r, id, h => by
    by_cases hc : (c.1 : Int) = id
    · have e : atC (c :: r) id = 0 := by rw [atC, if_pos hc]
      simp only [e, List.getElem_cons_zero]; exact hc
    · have e : atC (c :: r) id = atC r id + 1 := by rw [atC, if_neg hc]
      have h' : atC r id < r.length := by rw [e] at h; simpa using h
      simp only [e, List.getElem_cons_succ]
      exact atC_is r id h'
theorem atC_not : ∀ (l : List Ck) (id : Int) (i : Nat) (h : i < l.length), i < atC l id → ((l[i]).1 : Int) ≠ id
  | [], _, i, h, _ => by simp at h
  | c :: r, id, i, h, hi => by
    by_cases hc : (c.1 : Int) = id
    · rw [atC, if_pos hc] at hi; omega
    · rw [atC, if_neg hc] at hi
      cases i with
      | zero => exact hc
      | succ i => exact atC_not r id i (by simpa using h) (by omega)
theorem atC_of {l : List Ck} {id : Int} {i : Nat} (h : i < l.length) (h1 : ∀ j (hj : j < l.length), j < i → ((l[j]).1 : Int) ≠ id) (h2 : ((l[i]).1 : Int) = id) : atC l id = i := by
  rcases Nat.lt_trichotomy (atC l id) i with h' | h' | h'
  · exact absurd (atC_is l id (by omega)) (h1 _ (by omega) h')
  · exact h'
  · exact absurd h2 (atC_not l id i h h')
theorem atC_none {l : List Ck} {id : Int} (h : ∀ j (hj : j < l.length), ((l[j]).1 : Int) ≠ id) : atC l id = l.length := by
  have := atC_le l id
  rcases Nat.lt_or_ge (atC l id) l.length with h' | h'
  · exact absurd (atC_is l id h') (h _ h')
  · omega
theorem canC_is : ∀ (l : List Ck) (id : Int) (h : atC l id < l.length), canC l id = l.take (atC l id) ++ addG (l[atC l id]).2 (l.drop (atC l id + 1))
  | [], _, h => by simp at h
  | c :: r, id, h => by
    by_cases hc : (c.1 : Int) = id
    · have e : atC (c :: r) id = 0 := by rw [atC, if_pos hc]
      simp only [e]
      rw [canC, if_pos hc]; simp
    · have e : atC (c :: r) id = atC r id + 1 := by rw [atC, if_neg hc]
      have h' : atC r id < r.length := by rw [e] at h; simpa using h
      simp only [e]
      rw [canC, if_neg hc, canC_is r id h']; simp
theorem canC_none : ∀ (l : List Ck) (id : Int), (∀ c ∈ l, (c.1 : Int) ≠ id) → canC l id = l
  | [], _, _ => rfl
  | c :: r, id, h => by rw [canC, if_neg (h c (by simp)), canC_none r id (fun x hx => h x (by simp [hx]))]
theorem rem1_filter : ∀ (l : List Ck) (id : Int), (l.map (·.1)).Nodup → rem1 l id = l.filter (fun c => decide ((c.1 : Int) ≠ id))
  | [], _, _ => rfl
  | c :: r, id, h => by
    obtain ⟨h1, h2⟩ := List.nodup_cons.1 h
    unfold rem1
    by_cases hc : (c.1 : Int) = id
    · rw [if_pos hc, List.filter_cons_of_neg (by simpa using hc), List.filter_eq_self.2]
      intro x hx
      simp only [decide_eq_true_eq]
      intro e
      exact h1 (List.mem_map.2 ⟨x, hx, by have : (x.1 : Int) = c.1 := e.trans hc.symm; exact_mod_cast this⟩)
    · rw [if_neg hc, List.filter_cons_of_pos (by simpa using hc), rem1_filter r id h2]

/-- A tick. -/
def decG : List Ck → List Ck
  | [] => []
  | c :: r => (c.1, c.2 - 1) :: r
def nilG (c : Ck) : Bool := c.2 == 0
def overC (l : List Ck) : List Nat := ((decG l).takeWhile nilG).map (·.1)
def tickC (l : List Ck) : List Ck := (decG l).dropWhile nilG
theorem ung_dec1 : ∀ (l : List Ck) (a : Nat), 1 ≤ a → ung (a - 1) l = (ung a l).map dec
  | [], _, _ => rfl
  | c :: r, a, h => by
    simp only [ung, List.map_cons, dec]
    rw [show a - 1 + c.2 = a + c.2 - 1 by omega, ung_dec1 r (a + c.2) (by omega)]
theorem ung_decG (l : List Ck) (h : ∀ c ∈ ung 0 l, 1 ≤ c.2) : ung 0 (decG l) = (ung 0 l).map dec := by
  cases l with
  | nil => rfl
  | cons c r =>
    have hc : 1 ≤ c.2 := by have := h _ (List.mem_cons_self); simpa using this
    simp only [decG, ung, List.map_cons, dec, Nat.zero_add]
    rw [ung_dec1 r c.2 hc]
theorem ung_drop : ∀ l : List Ck, ung 0 (l.dropWhile nilG) = (ung 0 l).dropWhile nilG
  | [] => rfl
  | c :: r => by
    by_cases h : c.2 = 0
    · have e : nilG c = true := by simp [nilG, h]
      have e' : nilG (c.1, 0 + c.2) = true := by simp [nilG, h]
      rw [List.dropWhile_cons_of_pos e, ung, List.dropWhile_cons_of_pos e', ung_drop r, h]
    · have e : ¬ nilG c = true := by simp [nilG, h]
      have e' : ¬ nilG (c.1, 0 + c.2) = true := by simp [nilG, h]
      rw [List.dropWhile_cons_of_neg e, ung, List.dropWhile_cons_of_neg e']
theorem ung_take : ∀ l : List Ck, (l.takeWhile nilG).map (·.1) = ((ung 0 l).takeWhile nilG).map (·.1)
  | [] => rfl
  | c :: r => by
    by_cases h : c.2 = 0
    · have e : nilG c = true := by simp [nilG, h]
      have e' : nilG (c.1, 0 + c.2) = true := by simp [nilG, h]
      rw [List.takeWhile_cons_of_pos e, ung, List.takeWhile_cons_of_pos e', List.map_cons, List.map_cons, ung_take r, h]
    · have e : ¬ nilG c = true := by simp [nilG, h]
      have e' : ¬ nilG (c.1, 0 + c.2) = true := by simp [nilG, h]
      rw [List.takeWhile_cons_of_neg e, ung, List.takeWhile_cons_of_neg e']
theorem up_drop : ∀ l : List Ck, Up l → l.dropWhile nilG = l.filter (fun c => !nilG c)
  | [], _ => rfl
  | c :: r, h => by
    obtain ⟨h1, h2⟩ := List.pairwise_cons.1 h
    by_cases e : nilG c = true
    · rw [List.dropWhile_cons_of_pos e, List.filter_cons_of_neg (by simpa using e), up_drop r h2]
    · rw [List.dropWhile_cons_of_neg e, List.filter_cons_of_pos (by simpa using e), List.filter_eq_self.2]
      intro x hx
      have := h1 x hx
      simp only [nilG, beq_iff_eq] at e
      simp [nilG]; omega
theorem up_take : ∀ l : List Ck, Up l → l.takeWhile nilG = l.filter nilG
  | [], _ => rfl
  | c :: r, h => by
    obtain ⟨h1, h2⟩ := List.pairwise_cons.1 h
    by_cases e : nilG c = true
    · rw [List.takeWhile_cons_of_pos e, List.filter_cons_of_pos (by simpa using e), up_take r h2]
    · rw [List.takeWhile_cons_of_neg e, List.filter_cons_of_neg e]
      symm
      rw [List.filter_eq_nil_iff]
      intro x hx
      have := h1 x hx
      simp only [nilG, beq_iff_eq] at e
      simp [nilG]; omega

/-! ### What is asked -/
def leftS (l : List Ck) (id : Int) : Nat := ((l.find? fun c => decide ((c.1 : Int) = id)).map (·.2)).getD 0
def fromS (l : List Ck) (id : Int) : Nat := (l.filter fun c => decide (id ≤ (c.1 : Int))).length
theorem leftS_at (l : List Ck) (id : Int) : leftS l id = (l[atC l id]?.map (·.2)).getD 0 := by
  induction l with
  | nil => rfl
  | cons c r ih =>
    unfold leftS atC
    by_cases h : (c.1 : Int) = id
    · simp [h]
    · simp only [h, if_false, List.getElem?_cons_succ]
      rw [List.find?_cons_of_neg (by simpa using h)]
      exact ih
theorem leftS_of {l : List Ck} (nd : (l.map (·.1)).Nodup) {c : Ck} (h : c ∈ l) : leftS l (c.1 : Int) = c.2 := by
  induction l with
  | nil => cases h
  | cons d r ih =>
    obtain ⟨h1, h2⟩ := List.nodup_cons.1 nd
    unfold leftS
    rcases List.mem_cons.1 h with rfl | h
    · simp
    · have hne : ¬ ((d.1 : Int) = c.1) := fun e => h1 (List.mem_map.2 ⟨c, h, by have : d.1 = c.1 := by exact_mod_cast e
                                                                                exact this.symm⟩)
      rw [List.find?_cons_of_neg (by simpa using hne)]
      exact ih h2 h
theorem leftS_none {l : List Ck} {id : Int} (h : ∀ c ∈ l, (c.1 : Int) ≠ id) : leftS l id = 0 := by
  unfold leftS
  rw [List.find?_eq_none.2 (fun c hc => by simpa using h c hc)]; rfl
theorem leftS_perm {l m : List Ck} (hp : l.Perm m) (nd : (m.map (·.1)).Nodup) (id : Int) : leftS l id = leftS m id := by
  have nd' : (l.map (·.1)).Nodup := (hp.map _).nodup_iff.2 nd
  by_cases h : ∃ c ∈ m, (c.1 : Int) = id
  · obtain ⟨c, hc, rfl⟩ := h
    rw [leftS_of nd hc, leftS_of nd' (hp.mem_iff.2 hc)]
  · rw [leftS_none (fun c hc e => h ⟨c, hc, e⟩), leftS_none (fun c hc e => h ⟨c, hp.mem_iff.1 hc, e⟩)]
theorem fromS_perm {l m : List Ck} (hp : l.Perm m) (id : Int) : fromS l id = fromS m id := (hp.filter _).length_eq
theorem fromS_le (l : List Ck) (id : Int) : fromS l id ≤ l.length := List.length_filter_le _ _
theorem fromS_ung (a : Nat) (l : List Ck) (id : Int) : fromS (ung a l) id = fromS l id := by
  induction l generalizing a with
  | nil => rfl
  | cons c r ih =>
    have := ih (a + c.2)
    unfold fromS at *
    by_cases h : id ≤ (c.1 : Int)
    · rw [ung, List.filter_cons_of_pos (by simpa using h), List.filter_cons_of_pos (by simpa using h), List.length_cons, List.length_cons, this]
    · rw [ung, List.filter_cons_of_neg (by simpa using h), List.filter_cons_of_neg (by simpa using h), this]
theorem atC_ung (a : Nat) (l : List Ck) (id : Int) : atC (ung a l) id = atC l id := by
  induction l generalizing a with
  | nil => rfl
  | cons c r ih => simp only [ung, atC, ih]

/-! ### The code's row follows the document's -/
/-- The document's clocks. -/
structure OkD (D : List Ck) : Prop where
  nd : (D.map (·.1)).Nodup
  ids : ∀ c ∈ D, c.1 < 256
  one : ∀ c ∈ D, 1 ≤ c.2
  top : ∀ c ∈ D, c.2 < 4294967296
theorem nodup_lt : ∀ (n : Nat) (l : List Nat), l.Nodup → (∀ x ∈ l, x < n) → l.length ≤ n
  | 0, l, _, h => by
    cases l with
    | nil => exact Nat.le_refl _
    | cons x r => exact absurd (h x (by simp)) (by omega)
  | n + 1, l, nd, h => by
    by_cases hm : n ∈ l
    · have := nodup_lt n (l.erase n) (nd.erase n) (fun x hx => by
        have h1 := nd.mem_erase_iff.1 hx
        have h2 := h x h1.2
        have : x ≠ n := h1.1
        omega)
      rw [List.length_erase_of_mem hm] at this
      omega
    · have := nodup_lt n l nd (fun x hx => by
        have h2 := h x hx
        have : x ≠ n := fun e => hm (e ▸ hx)
        omega)
      omega
theorem OkD.len {D : List Ck} (h : OkD D) : D.length ≤ 256 := by
  have := nodup_lt 256 _ h.nd (fun x hx => by obtain ⟨c, hc, rfl⟩ := List.mem_map.1 hx; exact h.ids c hc)
  simpa using this
theorem OkD.filter {D : List Ck} (h : OkD D) (p : Ck → Bool) : OkD (D.filter p) :=
  ⟨h.nd.sublist ((List.filter_sublist).map _), fun c hc => h.ids c (List.mem_filter.1 hc).1, fun c hc => h.one c (List.mem_filter.1 hc).1, fun c hc => h.top c (List.mem_filter.1 hc).1⟩
/-- Gaps whose numbers and sums are in bounds. -/
structure OkL (L : List Ck) : Prop where
  ids : ∀ c ∈ L, c.1 < 256
  top : ∀ c ∈ ung 0 L, c.2 < 4294967296
  len : L.length ≤ 256
theorem OkL.gap {L : List Ck} (h : OkL L) : ∀ c ∈ L, c.2 < 4294967296 := fun c hc => by
  obtain ⟨x, h1, _, h3⟩ := gap_le 0 L c hc
  have := h.top x h1
  omega
structure Sim (L D : List Ck) : Prop where
  ok : OkD D
  eq : ung 0 L = srt D
theorem Sim.nil : Sim [] [] := ⟨⟨by simp, by simp, by simp, by simp⟩, rfl⟩
section
variable {L D : List Ck}
theorem Sim.perm (h : Sim L D) : (ung 0 L).Perm D := h.eq ▸ srt_perm D
theorem Sim.len (h : Sim L D) : L.length = D.length := by have := h.perm.length_eq; rwa [ung_len] at this
theorem Sim.nd (h : Sim L D) : ((ung 0 L).map (·.1)).Nodup := (h.perm.map _).nodup_iff.2 h.ok.nd
theorem Sim.okL (h : Sim L D) : OkL L := by
  refine ⟨fun c hc => ?_, fun c hc => h.ok.top c (h.perm.mem_iff.1 hc), by rw [h.len]; exact h.ok.len⟩
  obtain ⟨x, h1, h2, -⟩ := gap_le 0 L c hc
  have := h.ok.ids x (h.perm.mem_iff.1 h1)
  omega
theorem Sim.left (h : Sim L D) (id : Int) : leftS (ung 0 L) id = leftS D id := leftS_perm h.perm h.ok.nd id
theorem Sim.from_ (h : Sim L D) (id : Int) : fromS L id = fromS D id := by rw [← fromS_ung 0 L id]; exact fromS_perm h.perm id
theorem Sim.runs (h : Sim L D) (id : Int) : atC L id < L.length ↔ ∃ c ∈ D, (c.1 : Int) = id := by
  constructor
  · intro hlt
    have e := atC_is L id hlt
    obtain ⟨x, h1, h2, -⟩ := gap_le 0 L _ (List.getElem_mem hlt)
    exact ⟨x, h.perm.mem_iff.1 h1, by rw [h2]; exact e⟩
  · rintro ⟨c, hc, e⟩
    have hc := h.perm.mem_iff.2 hc
    obtain ⟨i, hi, hi2⟩ := List.getElem_of_mem hc
    rcases Nat.lt_or_ge (atC L id) L.length with h' | h'
    · exact h'
    · exfalso
      rw [ung_len] at hi
      refine atC_not (ung 0 L) id i (by rw [ung_len]; exact hi) (by rw [atC_ung]; omega) ?_
      rw [hi2]; exact e
theorem left_pos (hD : OkD D) (id : Int) : 0 < leftS D id ↔ ∃ c ∈ D, (c.1 : Int) = id := by
  constructor
  · intro h
    rcases Classical.em (∃ c ∈ D, (c.1 : Int) = id) with h' | h'
    · exact h'
    · rw [leftS_none (fun c hc e => h' ⟨c, hc, e⟩)] at h; omega
  · rintro ⟨c, hc, rfl⟩
    rw [leftS_of hD.nd hc]
    exact hD.one c hc
theorem OkD.put (h : OkD D) (id t : Nat) (hid : id < 256) (ht : 1 ≤ t) (ht2 : t < 4294967296) (hn : ∀ c ∈ D, c.1 ≠ id) : OkD (D ++ [(id, t)]) := by
  refine ⟨?_, ?_, ?_, ?_⟩
  · rw [List.map_append, List.map_singleton, List.nodup_append]
    refine ⟨h.nd, by simp, ?_⟩
    intro a ha b hb
    rw [List.mem_singleton] at hb
    subst hb
    obtain ⟨c, hc, rfl⟩ := List.mem_map.1 ha
    exact hn c hc
  all_goals
    intro c hc
    rcases List.mem_append.1 hc with hc | hc
    · first | exact h.ids c hc | exact h.one c hc | exact h.top c hc
    · rw [List.mem_singleton.1 hc]; assumption
theorem Sim.put (h : Sim L D) (id t : Nat) (hid : id < 256) (ht : 1 ≤ t) (ht2 : t < 4294967296) (hn : ∀ c ∈ D, c.1 ≠ id) : Sim (insC L id t) (D ++ [(id, t)]) :=
  ⟨h.ok.put id t hid ht ht2 hn, by rw [ung_ins, srt_snoc, h.eq, Nat.zero_add]⟩
def offD (D : List Ck) (id : Int) : List Ck := D.filter (fun c => decide ((c.1 : Int) ≠ id))
theorem Sim.can (h : Sim L D) (id : Int) : Sim (canC L id) (offD D id) :=
  ⟨h.ok.filter _, by rw [ung_can, rem1_filter _ _ h.nd, offD, srt_filter, h.eq]⟩
def tickD (D : List Ck) : List Ck := (D.map dec).filter (fun c => !nilG c)
def overD (D : List Ck) : List Nat := ((D.map dec).filter nilG).map (·.1)
theorem OkD.tick (h : OkD D) : OkD (tickD D) := by
  refine ⟨?_, ?_, ?_, ?_⟩
  · have e : (D.map dec).map (·.1) = D.map (·.1) := by rw [List.map_map]; rfl
    exact (e ▸ h.nd : ((D.map dec).map (·.1)).Nodup).sublist ((List.filter_sublist).map _)
  all_goals
    intro c hc
    obtain ⟨h1, h2⟩ := List.mem_filter.1 hc
    obtain ⟨d, hd, rfl⟩ := List.mem_map.1 h1
    simp only [nilG, dec, Bool.not_eq_true', beq_eq_false_iff_ne] at h2
    have := h.ids d hd
    have := h.top d hd
    simp only [dec]
    omega
theorem Sim.tick (h : Sim L D) : Sim (tickC L) (tickD D) := by
  have hp : ∀ c ∈ ung 0 L, 1 ≤ c.2 := fun c hc => h.ok.one c (h.perm.mem_iff.1 hc)
  refine ⟨h.ok.tick, ?_⟩
  unfold tickC tickD
  rw [ung_drop, ung_decG L hp, h.eq, ← srt_dec D h.ok.one, up_drop _ (srt_up _), srt_filter]
theorem Sim.over (h : Sim L D) : overC L = overD D := by
  have hp : ∀ c ∈ ung 0 L, 1 ≤ c.2 := fun c hc => h.ok.one c (h.perm.mem_iff.1 hc)
  unfold overC overD
  rw [ung_take, ung_decG L hp, h.eq, ← srt_dec D h.ok.one, up_take _ (srt_up _), ← srt_filter, srt_same 0]
  intro z hz
  simpa [nilG] using (List.mem_filter.1 hz).2
theorem tickC_len (L : List Ck) : (overC L).length + (tickC L).length = L.length := by
  unfold overC tickC
  rw [List.length_map, ← List.length_append, List.takeWhile_append_dropWhile]
  cases L <;> rfl
end

end Go.Proofs.Ytmgcdfndmokgnaa
