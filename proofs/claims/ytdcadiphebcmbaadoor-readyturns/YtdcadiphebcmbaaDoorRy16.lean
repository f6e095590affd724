/-
  What the statements' own scripts do to rows: one level turned round; a task left out; tasks taken from the front. No condition.
-/
import Derived.Test.YtdcadiphebcmbaaDoorRy9
import Derived.Test.YtdcadiphebcmbaaDoorRy8
namespace Go.Proofs.YtdcadiphebcmbaaDoor
set_option linter.unusedVariables false

/-! ### One level -/
def oneR (l : Nat) (X : List Nat) : Rws := setR (fun _ => []) l X
theorem oneR_same (l : Nat) (X : List Nat) : oneR l X l = X := setR_same _ _ _
theorem oneR_other {l k : Nat} (X : List Nat) (h : k ≠ l) : oneR l X k = [] := setR_other _ _ h
theorem oneR_nil (l : Nat) : oneR l [] = fun _ => [] := by
  funext k
  by_cases h : k = l
  · subst h; rw [oneR_same]
  · rw [oneR_other _ h]
theorem oneR_push (l : Nat) (X : List Nat) (t : Nat) : pushR (oneR l X) l t = oneR l (X ++ [t]) := by
  funext k
  by_cases h : k = l
  · subst h; rw [pushR, setR_same, oneR_same, oneR_same]
  · rw [pushR, setR_other _ _ h, oneR_other _ h, oneR_other _ h]
theorem oneR_drop (l : Nat) (X : List Nat) (t : Nat) : dropR (oneR l X) l t = oneR l (X.filter (· != t)) := by
  funext k
  by_cases h : k = l
  · subst h; rw [dropR, setR_same, oneR_same, oneR_same]
  · rw [dropR, setR_other _ _ h, oneR_other _ h, oneR_other _ h]
/-- Where a level's number may be any: its row, and where it is. -/
def lev (l : Int) : Nat := if 0 ≤ l ∧ l < 32 then l.toNat else 0
theorem oneR_put (l : Int) (X : List Nat) (hX : ¬ (0 ≤ l ∧ l < 32) → X = []) (t : Int) : ∃ Y, (rput (oneR (lev l) X) t l).getD (oneR (lev l) X) = oneR (lev l) Y ∧ (¬ (0 ≤ l ∧ l < 32) → Y = []) := by
  by_cases h : 0 ≤ l ∧ l < 32
  · have hl : lev l = l.toNat := if_pos h
    unfold rput
    split
    · exact ⟨X ++ [t.toNat], by rw [hl]; exact oneR_push _ _ _, fun hn => absurd h hn⟩
    · exact ⟨X, rfl, hX⟩
  · refine ⟨X, ?_, hX⟩
    unfold rput
    rw [if_neg (by omega)]
    rfl
theorem rowAt_one (l : Int) (X : List Nat) (hX : ¬ (0 ≤ l ∧ l < 32) → X = []) : rowAt (oneR (lev l) X) l = X := by
  unfold rowAt
  by_cases h : 0 ≤ l ∧ l < 32
  · rw [if_pos h, show lev l = l.toNat from if_pos h, oneR_same]
  · rw [if_neg h, hX h]
theorem oneR_len (l : Nat) (hl : l < 32) (X : List Nat) : rlen (oneR l X) = X.length := by
  unfold rlen
  have key : ∀ n, ((List.range n).map fun k => (oneR l X k).length).sum = if l < n then X.length else 0 := by
    intro n
    induction n with
    | zero => rfl
    | succ n ih =>
      rw [List.range_succ, List.map_append, List.sum_append, ih]
      by_cases h1 : l < n
      · rw [if_pos h1, if_pos (by omega)]
        simp [oneR_other X (show n ≠ l by omega)]
      · by_cases h2 : l = n
        · subst h2; rw [if_neg h1, if_pos (by omega)]; simp [oneR_same]
        · rw [if_neg h1, if_neg (by omega)]
          simp [oneR_other X (show n ≠ l by omega)]
  rw [key 32, if_pos hl]
theorem oneR_first (l : Nat) (hl : l < 32) (x : Nat) (rest : List Nat) : rfirst (oneR l (x :: rest)) = some x :=
  rfirst_of (low?_of hl (by rw [oneR_same]; simp) fun k hk => oneR_other _ (by omega)) (oneR_same l _)
theorem oneR_turn (l : Nat) (hl : l < 32) (x : Nat) (rest : List Nat) (ok : ROk (oneR l (x :: rest))) : rturn (oneR l (x :: rest)) (x : Int) = some (oneR l (rest ++ [x])) := by
  have hx : x ∈ oneR l (x :: rest) l := by rw [oneR_same]; simp
  have nd := ok.nd l
  rw [oneR_same] at nd
  unfold rturn
  rw [at?_mem ok hx]
  show some (pushR (dropR (oneR l (x :: rest)) l x) l x) = _
  rw [oneR_drop, oneR_push]
  have : (x :: rest).filter (· != x) = rest := filter_out (A := []) nd
  rw [this]
theorem turn_round {X : List Nat} {i : Nat} (h : i < X.length) : X.drop i ++ X.take i = X[i] :: (X.drop (i + 1) ++ X.take i) ∧ X.drop (i + 1) ++ X.take i ++ [X[i]] = X.drop (i + 1) ++ X.take (i + 1) := by
  refine ⟨by rw [List.drop_eq_getElem_cons h]; rfl, ?_⟩
  rw [List.append_assoc, List.take_add_one, List.getElem?_eq_getElem h]; rfl

/-! ### A task left out -/
def strip (r : Rws) (t : Int) : Rws := fun l => withoutL (r l) t
theorem strip_mem {r : Rws} {t : Int} {l x : Nat} : x ∈ strip r t l ↔ x ∈ r l ∧ (x : Int) ≠ t := by
  unfold strip withoutL; simp
theorem strip_at {r : Rws} {t u : Int} (h : u ≠ t) : at? (strip r t) u = at? r u := by
  unfold at?
  congr 1
  funext l
  refine Bool.eq_iff_iff.2 ?_
  simp only [List.any_eq_true, beq_iff_eq]
  constructor
  · rintro ⟨x, hx, e⟩; exact ⟨x, (strip_mem.1 hx).1, e⟩
  · rintro ⟨x, hx, e⟩; exact ⟨x, strip_mem.2 ⟨hx, by rw [e]; exact h⟩, e⟩
theorem strip_push {r : Rws} {t : Int} {l x : Nat} (h : (x : Int) ≠ t) : strip (pushR r l x) t = pushR (strip r t) l x := by
  funext k
  by_cases e : k = l
  · subst e
    unfold strip
    rw [pushR, pushR, setR_same, setR_same]
    unfold withoutL
    rw [List.filter_append]
    simp [h]
  · unfold strip
    rw [pushR, pushR, setR_other _ _ e, setR_other _ _ e]
theorem strip_drop {r : Rws} {t : Int} {l x : Nat} : strip (dropR r l x) t = dropR (strip r t) l x := by
  funext k
  by_cases e : k = l
  · subst e
    unfold strip
    rw [dropR, dropR, setR_same, setR_same]
    unfold withoutL
    rw [List.filter_filter, List.filter_filter]
    congr 1
    funext a
    rw [Bool.and_comm]
  · unfold strip
    rw [dropR, dropR, setR_other _ _ e, setR_other _ _ e]
theorem strip_push_self {r : Rws} {l x : Nat} : strip (pushR r l x) (x : Int) = strip r x := by
  funext k
  by_cases e : k = l
  · subst e
    unfold strip
    rw [pushR, setR_same]
    unfold withoutL
    rw [List.filter_append]
    simp
  · unfold strip
    rw [pushR, setR_other _ _ e]
theorem strip_drop_self {r : Rws} {l x : Nat} : strip (dropR r l x) (x : Int) = strip r x := by
  funext k
  by_cases e : k = l
  · subst e
    unfold strip
    rw [dropR, setR_same]
    unfold withoutL
    rw [List.filter_filter]
    congr 1
    funext a
    by_cases ha : a = x
    · subst ha; simp
    · simp [ha]
  · unfold strip
    rw [dropR, setR_other _ _ e]

theorem strip_put {r : Rws} {t u l : Int} : strip ((rput r u l).getD r) t = if u = t then strip r t else (rput (strip r t) u l).getD (strip r t) := by
  by_cases e : u = t
  · rw [if_pos e]
    unfold rput
    split
    · rename_i hc
      obtain ⟨n, rfl⟩ := Int.eq_ofNat_of_zero_le hc.1
      subst e
      rw [Int.toNat_natCast]
      exact strip_push_self
    · rfl
  · rw [if_neg e]
    unfold rput
    rw [strip_at e]
    split
    · rename_i hc
      refine strip_push ?_
      rw [show ((u.toNat : Nat) : Int) = u by omega]; exact e
    · rfl
theorem strip_rem {r : Rws} {t u : Int} : strip ((rrem r u).getD r) t = if u = t then strip r t else (rrem (strip r t) u).getD (strip r t) := by
  by_cases e : u = t
  · rw [if_pos e]
    unfold rrem
    cases h : at? r u with
    | none => rfl
    | some k =>
      obtain ⟨_, x, rfl, _⟩ := at?_some h
      subst e
      exact strip_drop_self
  · rw [if_neg e]
    unfold rrem
    rw [strip_at e]
    cases h : at? r u with
    | none => rfl
    | some k => exact strip_drop
theorem strip_turn {r : Rws} {t u : Int} : strip ((rturn r u).getD r) t = if u = t then strip r t else (rturn (strip r t) u).getD (strip r t) := by
  by_cases e : u = t
  · rw [if_pos e]
    unfold rturn
    cases h : at? r u with
    | none => rfl
    | some k =>
      obtain ⟨_, x, rfl, _⟩ := at?_some h
      subst e
      exact strip_push_self.trans strip_drop_self
  · rw [if_neg e]
    unfold rturn
    rw [strip_at e]
    cases h : at? r u with
    | none => rfl
    | some k =>
      obtain ⟨_, x, rfl, _⟩ := at?_some h
      show strip (pushR (dropR r k x) k x) t = pushR (dropR (strip r t) k x) k x
      rw [strip_push e, strip_drop]
theorem strip_move {r : Rws} {t u l : Int} : strip ((rmove r u l).getD r) t = if u = t then strip r t else (rmove (strip r t) u l).getD (strip r t) := by
  by_cases e : u = t
  · rw [if_pos e]
    unfold rmove
    cases h : at? r u with
    | none => rfl
    | some k =>
      obtain ⟨_, x, rfl, _⟩ := at?_some h
      subst e
      show strip ((if _ then none else some _).getD r) _ = _
      split
      · rfl
      · exact strip_push_self.trans strip_drop_self
  · rw [if_neg e]
    unfold rmove
    rw [strip_at e]
    cases h : at? r u with
    | none => rfl
    | some k =>
      obtain ⟨_, x, rfl, _⟩ := at?_some h
      show strip ((if l < 0 ∨ 31 < l ∨ (k : Int) = l then none else some (pushR (dropR r k x) l.toNat x)).getD r) t = (if l < 0 ∨ 31 < l ∨ (k : Int) = l then none else some (pushR (dropR (strip r t) k x) l.toNat x)).getD (strip r t)
      split
      · rfl
      · show strip (pushR (dropR r k x) l.toNat x) t = _
        rw [strip_push e, strip_drop]; rfl
/-- The task removed at last. -/
theorem strip_last {r : Rws} (ok : ROk r) (t : Int) : (rrem r t).getD r = strip r t := by
  unfold rrem
  cases h : at? r t with
  | none =>
    funext l
    show r l = _
    unfold strip withoutL
    refine (List.filter_eq_self.2 fun x hx => ?_).symm
    have hl := ok.lt hx
    simpa using at?_none.1 h l hl x hx
  | some k =>
    obtain ⟨_, x, rfl, hx⟩ := at?_some h
    funext l
    show dropR r k x l = _
    unfold strip
    by_cases e : l = k
    · subst e
      rw [dropR, setR_same, withoutL_nat]
    · rw [dropR, setR_other _ _ e]
      unfold withoutL
      refine (List.filter_eq_self.2 fun y hy => ?_).symm
      have : y ≠ x := fun e2 => e (ok.dj l k y hy (by rw [e2]; exact hx))
      simp; omega

/-! ### Tasks taken from the front -/
theorem setR_len (r : Rws) (l : Nat) (hl : l < 32) (x : List Nat) : rlen (setR r l x) + (r l).length = rlen r + x.length := by
  unfold rlen
  have key : ∀ n, ((List.range n).map fun k => (setR r l x k).length).sum + (if l < n then (r l).length else 0) = ((List.range n).map fun k => (r k).length).sum + (if l < n then x.length else 0) := by
    intro n
    induction n with
    | zero => rfl
    | succ n ih =>
      rw [List.range_succ, List.map_append, List.sum_append, List.map_append, List.sum_append]
      by_cases h1 : l < n
      · rw [if_pos h1, if_pos h1] at ih
        rw [if_pos (by omega), if_pos (by omega)]
        simp only [List.map_cons, List.map_nil, List.sum_cons, List.sum_nil, setR_other r x (show n ≠ l by omega)]
        omega
      · rw [if_neg h1, if_neg h1] at ih
        by_cases h2 : l = n
        · subst h2
          rw [if_pos (by omega), if_pos (by omega)]
          simp only [List.map_cons, List.map_nil, List.sum_cons, List.sum_nil, setR_same]
          omega
        · rw [if_neg (by omega), if_neg (by omega)]
          simp only [List.map_cons, List.map_nil, List.sum_cons, List.sum_nil, setR_other r x (show n ≠ l by omega)]
          omega
  have := key 32
  rw [if_pos hl, if_pos hl] at this
  exact this
/-- What the numbers of the statement say of the rows: when each task came, and where it is. -/
structure Came (inn att : Nat → Int) (n : Int) (r : Rws) : Prop where
  no : ∀ x, x < 64 → (∀ l, x ∉ r l) → inn x = 0
  up : ∀ l x, x ∈ r l → 0 < inn x ∧ inn x ≤ n ∧ att x = l
  so : ∀ l, (r l).Pairwise fun x y => inn x < inn y
theorem came_new : Came (fun _ => 0) (fun _ => 0) 0 (fun _ => []) := ⟨fun _ _ _ => rfl, fun l x h => (by cases h), fun l => List.Pairwise.nil⟩
def upI (f : Nat → Int) (i : Nat) (v : Int) : Nat → Int := fun k => if k = i then v else f k
theorem upI_same (f : Nat → Int) (i : Nat) (v : Int) : upI f i v i = v := if_pos rfl
theorem upI_other (f : Nat → Int) {i k : Nat} (v : Int) (h : k ≠ i) : upI f i v k = f k := if_neg h
theorem Came.put {inn att : Nat → Int} {n : Int} {r : Rws} (h : Came inn att n r) (hn : 0 ≤ n) {t l : Nat} (hno : ∀ k, t ∉ r k) : Came (upI inn t (n + 1)) (upI att t l) (n + 1) (pushR r l t) := by
  have hne : ∀ k x, x ∈ r k → x ≠ t := fun k x hx e => hno k (e ▸ hx)
  refine ⟨fun x hx hnx => ?_, fun k x hx => ?_, fun k => ?_⟩
  · have hxt : x ≠ t := fun e => hnx l (by subst e; rw [pushR, setR_same]; simp)
    rw [upI_other _ _ hxt]
    refine h.no x hx fun k hk => hnx k ?_
    by_cases e : k = l
    · subst e; rw [pushR, setR_same]; exact List.mem_append_left _ hk
    · rw [pushR, setR_other _ _ e]; exact hk
  · by_cases hk : x ∈ r k
    · rw [upI_other _ _ (hne k x hk), upI_other _ _ (hne k x hk)]
      obtain ⟨h1, h2, h3⟩ := h.up k x hk
      exact ⟨h1, by omega, h3⟩
    · by_cases e : k = l
      · subst e
        rw [pushR, setR_same] at hx
        rcases List.mem_append.1 hx with hx | hx
        · exact absurd hx hk
        · obtain rfl : x = t := by simpa using hx
          rw [upI_same, upI_same]
          exact ⟨by omega, by omega, rfl⟩
      · rw [pushR, setR_other _ _ e] at hx; exact absurd hx hk
  · have hold : (r k).Pairwise fun x y => upI inn t (n + 1) x < upI inn t (n + 1) y := by
      refine List.Pairwise.imp_of_mem ?_ (h.so k)
      intro a b ha hb hab
      rw [upI_other _ _ (hne k a ha), upI_other _ _ (hne k b hb)]; exact hab
    by_cases e : k = l
    · subst e
      rw [pushR, setR_same, List.pairwise_append]
      refine ⟨hold, by simp, fun a ha b hb => ?_⟩
      obtain rfl : b = t := by simpa using hb
      rw [upI_same, upI_other _ _ (hne k a ha)]
      have := (h.up k a ha).2.1
      omega
    · rw [pushR, setR_other _ _ e]; exact hold
theorem Came.next {inn att : Nat → Int} {n : Int} {r : Rws} (h : Came inn att n r) : Came inn att (n + 1) r := ⟨h.no, fun l x hx => ⟨(h.up l x hx).1, by have := (h.up l x hx).2.1; omega, (h.up l x hx).2.2⟩, h.so⟩

/-- The same, of the tasks that are left. -/
structure Cam2 (inn att : Nat → Int) (r : Rws) : Prop where
  up : ∀ l x, x ∈ r l → 0 < inn x ∧ att x = l
  so : ∀ l, (r l).Pairwise fun x y => inn x < inn y
theorem Came.two {inn att : Nat → Int} {n : Int} {r : Rws} (h : Came inn att n r) : Cam2 inn att r := ⟨fun l x hx => ⟨(h.up l x hx).1, (h.up l x hx).2.2⟩, h.so⟩
/-- What is left behind the task that was taken last. -/
def Behind (inn att : Nat → Int) (last : Int) (r : Rws) : Prop := ∀ y : Nat, last = y → ∀ l x, x ∈ r l → att y < l ∨ (att y = l ∧ inn y < inn x)
/-- Taking the front one of the least level. -/
theorem take_front {inn att : Nat → Int} {r : Rws} (ok : ROk r) (h : Cam2 inn att r) {l x : Nat} {rest : List Nat} (hl : low? r = some l) (e : r l = x :: rest) :
    rrem r x = some (setR r l rest) ∧ rlen (setR r l rest) + 1 = rlen r ∧ Cam2 inn att (setR r l rest) ∧ Behind inn att x (setR r l rest) ∧ att x = l ∧ 0 < inn x ∧ x < 64 := by
  obtain ⟨h32, _, hb⟩ := low?_some hl
  have hx : x ∈ r l := by rw [e]; simp
  have nd := ok.nd l
  rw [e] at nd
  have hd : dropR r l x = setR r l rest := by
    unfold dropR
    rw [e]
    have : (x :: rest).filter (· != x) = rest := filter_out (A := []) nd
    rw [this]
  obtain ⟨u1, u3⟩ := h.up l x hx
  have hsub : ∀ k y, y ∈ setR r l rest k → y ∈ r k ∧ (k = l → y ∈ rest) := by
    intro k y hy
    by_cases ek : k = l
    · subst ek; rw [setR_same] at hy; exact ⟨by rw [e]; exact List.mem_cons_of_mem _ hy, fun _ => hy⟩
    · rw [setR_other _ _ ek] at hy; exact ⟨hy, fun e2 => absurd e2 ek⟩
  refine ⟨?_, ?_, ⟨fun k y hy => ?_, fun k => ?_⟩, ?_, u3, u1, ok.tk l x hx⟩
  · unfold rrem; rw [at?_mem ok hx]; show some (dropR r l x) = _; rw [hd]
  · have := setR_len r l h32 rest
    rw [e] at this
    simp only [List.length_cons] at this
    omega
  · exact h.up k y (hsub k y hy).1
  · by_cases ek : k = l
    · subst ek; rw [setR_same]; have := h.so k; rw [e] at this; exact (List.pairwise_cons.1 this).2
    · rw [setR_other _ _ ek]; exact h.so k
  · intro y hy k z hz
    obtain rfl : y = x := by omega
    obtain ⟨hz1, hz2⟩ := hsub k z hz
    by_cases ek : k = l
    · subst ek
      refine .inr ⟨u3, ?_⟩
      have := h.so k
      rw [e] at this
      exact (List.pairwise_cons.1 this).1 z (hz2 rfl)
    · left
      rw [u3]
      rcases Nat.lt_or_ge k l with hk | hk
      · rw [hb k hk] at hz1; cases hz1
      · omega

end Go.Proofs.YtdcadiphebcmbaaDoor
