/-
  A region that draws its order, by relations: each operation by itself, out of what its own operands are known to be, whatever else has been done; no order is walked. Nothing of the translation is named here.
-/
import Derived.Deep.RegionWith
import Derived.WalkKit
import Derived.Below
namespace Go.Proofs.Yteglnlhdgfpglaa
open Go Go.RowKit
set_option linter.unusedVariables false

variable {P : Program} {ops : Array Oper} {Q : Exit → Act → World → Prop} {md : Region.Mode}

/-- Which operations, not done at the beginning, an operation waits for, with the slots that they leave. -/
def depsOf (md : Region.Mode) (ops : Array Oper) (done : Array Bool) (o : Oper) : List (Nat × Nat) :=
  (List.range ops.size).filterMap fun j =>
    if (o.after.any fun e => Region.binds md e && e.on == j) && !done.getD j true then
      match (ops[j]?).bind (·.dst) with
      | some d => if (o.looksAt ops).contains d then some (j, d) else none
      | none => none
    else none

/-- All operations that are still to be done, with the slots that they leave. -/
def restOf (ops : Array Oper) (done : Array Bool) : List (Nat × Nat) :=
  (List.range ops.size).filterMap fun j => if done.getD j true then none else ((ops[j]?).bind (·.dst)).map fun d => (j, d)

def putAll (a : Act) (l : List (Nat × Nat)) (x : Nat → Value) : Act := l.foldl (fun a p => a.put (some p.2) (x p.2)) a

/-- What the law asks of a region's shape. -/
def relB (md : Region.Mode) (ops : Array Oper) (done : Array Bool) (n fuel : Nat) : Bool :=
  done.size == ops.size &&
  ((List.range ops.size).countP fun j => !done.getD j true) ≤ fuel &&
  (List.range ops.size).all fun i =>
    match ops[i]? with
    | none => true
    | some o =>
      (o.after.all fun e => !Region.binds md e || e.on < i) &&
      (done.getD i true ||
        ((match o.op with | .select .. => false | _ => true) &&
         (match o.dst with | some d => decide (d < n) && ((List.range ops.size).all fun j => done.getD j true || j == i || (ops[j]?).bind (·.dst) != some d) | none => true) &&
         (o.looksAt ops).all fun s =>
            (depsOf md ops done o).any (fun p => p.2 == s) ||
            ((List.range ops.size).all fun j =>
              done.getD j true || j == i || (ops[j]?).bind (·.dst) != some s ||
                ((ops[j]?).map (fun oj => oj.after.any fun e => Region.binds md e && e.on == i)).getD false)))

/-- What is known at any time. -/
structure RelInv (md : Region.Mode) (ops : Array Oper) (done : Array Bool) (a0 : Act) (C : World → Prop) (R : Nat → Value → World → Prop) (F : Nat → World → Prop) (listed : Array Bool) (a : Act) (w : World) : Prop where
  cls : C w
  dfs : a.defers = a0.defers
  siz : a.tmps.size = a0.tmps.size
  lsz : listed.size = ops.size
  sub : ∀ j, done.getD j true = true → listed.getD j true = true
  down : ∀ j o, ops[j]? = some o → listed.getD j true = true → done.getD j true = true ∨ ∀ e ∈ o.after, Region.binds md e = true → listed.getD e.on false = true
  old : ∀ s, (∀ j, (ops[j]?).bind (·.dst) = some s → listed.getD j true = true → done.getD j true = true) → a.tmps[s]? = a0.tmps[s]?
  new : ∀ j d, (ops[j]?).bind (·.dst) = some d → listed.getD j true = true → done.getD j true = false → R j (a.tmps.getD d undef) w
  eff : ∀ j, j < ops.size → listed.getD j true = true → done.getD j true = false → F j w

/-- One operation, in a frame that is written out; what follows behind a letter. -/
def RelStep (P : Program) (ops : Array Oper) (o : Oper) (b : Act) (w : World) (X : Value → World → Prop) : Prop :=
  ∀ K : Act → World → Prop, (∀ a' w', a' = b.put o.dst ((o.dst.map fun d => a'.tmps.getD d undef).getD undef) → X ((o.dst.map fun d => a'.tmps.getD d undef).getD undef) w' → K a' w') →
    if Region.wanted o (yielded ops b.tmps) = true then Oper.wp P o b w K (fun _ _ _ => False) else K (b.put o.dst undef) w

theorem put_size (a : Act) (d : Option Nat) (v : Value) : (a.put d v).tmps.size = a.tmps.size := by
  cases d <;> simp [Act.put]
theorem put_defers (a : Act) (d : Option Nat) (v : Value) : (a.put d v).defers = a.defers := by
  cases d <;> rfl
theorem put_at (a : Act) (d : Nat) (v : Value) (h : d < a.tmps.size) : (a.put (some d) v).tmps[d]? = some v := by
  simp [Act.put, h]
theorem put_ne (a : Act) (d s : Nat) (v : Value) (h : d ≠ s) : (a.put (some d) v).tmps[s]? = a.tmps[s]? := by
  simp [Act.put, Array.getElem?_setIfInBounds_ne h]

theorem putAll_size (a : Act) (l : List (Nat × Nat)) (x : Nat → Value) : (putAll a l x).tmps.size = a.tmps.size := by
  induction l generalizing a with
  | nil => rfl
  | cons p l ih => show (putAll (a.put (some p.2) (x p.2)) l x).tmps.size = _; rw [ih, put_size]
theorem putAll_defers (a : Act) (l : List (Nat × Nat)) (x : Nat → Value) : (putAll a l x).defers = a.defers := by
  induction l generalizing a with
  | nil => rfl
  | cons p l ih => show (putAll (a.put (some p.2) (x p.2)) l x).defers = _; rw [ih, put_defers]
theorem putAll_ne (a : Act) (l : List (Nat × Nat)) (x : Nat → Value) (s : Nat) (h : ∀ p ∈ l, p.2 ≠ s) : (putAll a l x).tmps[s]? = a.tmps[s]? := by
  induction l generalizing a with
  | nil => rfl
  | cons p l ih =>
    show (putAll (a.put (some p.2) (x p.2)) l x).tmps[s]? = _
    rw [ih _ (fun q hq => h q (List.mem_cons_of_mem _ hq)), put_ne _ _ _ _ (h p List.mem_cons_self)]
theorem putAll_at (a : Act) (l : List (Nat × Nat)) (x : Nat → Value) (s : Nat) (hs : s < a.tmps.size) (h : ∃ p ∈ l, p.2 = s) : (putAll a l x).tmps[s]? = some (x s) := by
  induction l generalizing a with
  | nil => obtain ⟨p, hp, _⟩ := h; cases hp
  | cons p l ih =>
    show (putAll (a.put (some p.2) (x p.2)) l x).tmps[s]? = _
    by_cases h' : ∃ q ∈ l, q.2 = s
    · exact ih _ (by rw [put_size]; exact hs) h'
    · have hne : ∀ q ∈ l, q.2 ≠ s := fun q hq e => h' ⟨q, hq, e⟩
      rw [putAll_ne _ _ _ _ hne]
      obtain ⟨q, hq, e⟩ := h
      rcases List.mem_cons.1 hq with rfl | hq
      · subst e; exact put_at _ _ _ hs
      · exact absurd e (hne q hq)

theorem getD_of_get? {a : Array Value} {s : Nat} {v : Value} (h : a[s]? = some v) : a.getD s undef = v := by
  rw [Array.getD_eq_getD_getElem?, h]; rfl

theorem looks_eval {o : Oper} {a b : Act} (h : ∀ s ∈ o.looksAt ops, a.tmps[s]? = b.tmps[s]?) : ∀ x ∈ o.op.operands, a.eval x = b.eval x := by
  intro x hx
  cases x with
  | tmp t =>
    have := h t (List.mem_append_left _ (List.mem_filterMap.2 ⟨.tmp t, by simpa using hx, rfl⟩))
    simp only [Act.eval, Array.getD_eq_getD_getElem?, this]
  | _ => rfl

theorem looks_wanted {o : Oper} {a b : Act} (h : ∀ s ∈ o.looksAt ops, a.tmps[s]? = b.tmps[s]?) : Region.wanted o (yielded ops a.tmps) = Region.wanted o (yielded ops b.tmps) := by
  unfold Region.wanted
  cases hg : o.guard with
  | none => rfl
  | some gw =>
    obtain ⟨g, want⟩ := gw
    have hy : yielded ops a.tmps g = yielded ops b.tmps g := by
      unfold yielded
      cases ht : (ops[g]?).bind (·.dst) with
      | none => rfl
      | some t =>
        have := h t (List.mem_append_right _ (by simp [hg, ht]))
        simp [this]
    simp only [hy]

/-- A step in the frame that is written out serves in every frame that agrees with it where the operation looks. -/
theorem wpOp_of_step {i : Nat} {o : Oper} {a b : Act} {w : World} {X : Value → World → Prop} {K : Act → World → Prop} (ho : ops[i]? = some o) (hsel : ∀ cs c, o.op ≠ .select cs c)
    (hd : b.defers = a.defers) (hsz : b.tmps.size = a.tmps.size) (hdst : ∀ d, o.dst = some d → d < b.tmps.size)
    (hl : ∀ s ∈ o.looksAt ops, a.tmps[s]? = b.tmps[s]?) (h : RelStep P ops o b w X) (hK : ∀ v w' u, X u w' → (o.dst.isSome → u = v) → K (a.put o.dst v) w') : wpOp P ops Q i K a w := by
  have h := h (fun a' w' => a' = b.put o.dst ((o.dst.map fun d => a'.tmps.getD d undef).getD undef) ∧ X ((o.dst.map fun d => a'.tmps.getD d undef).getD undef) w') (fun a' w' h1 h2 => ⟨h1, h2⟩)
  have hv : ∀ v, o.dst.isSome → (o.dst.map fun d => (b.put o.dst v).tmps.getD d undef).getD undef = v := by
    intro v hs
    cases hq : o.dst with
    | none => rw [hq] at hs; cases hs
    | some d => exact getD_of_get? (put_at b d v (hdst d hq))
  have fin : ∀ v w', (b.put o.dst v = b.put o.dst ((o.dst.map fun d => (b.put o.dst v).tmps.getD d undef).getD undef) ∧ X ((o.dst.map fun d => (b.put o.dst v).tmps.getD d undef).getD undef) w') → K (a.put o.dst v) w' := by
    intro v w' hx
    exact hK v w' _ hx.2 (fun hs => hv v hs)
  unfold wpOp
  simp only [ho]
  rw [looks_wanted hl]
  split
  · rename_i hw
    rw [if_pos hw] at h
    refine .inl ?_
    unfold Oper.wp at h ⊢
    rw [execOp_congr o hsel (looks_eval hl)]
    generalize (execOp b.eval o).run P w = r at h ⊢
    cases r with
    | ok nx w' =>
      cases nx <;> simp only [Oper.upon] at h ⊢
      case value v => exact fin v w' h
      case skip => exact fin undef w' h
      case defer d =>
        exfalso
        have := congrArg Act.defers h.1
        rw [put_defers, put_defers] at this
        have := congrArg List.length this
        simp at this
      case enter f args =>
        refine h.mono ?_
        intro e w'' he
        cases e with
        | returned v => exact fin v w'' he
        | panicked c => exact he.elim
        | outgrown => obtain ⟨_, _, hf⟩ := he; exact hf.elim
      case row r args => exact h.mono fun v w'' he => fin v w'' he
    | halt x w' => cases x <;> simp only [Oper.upon] at h ⊢ <;> exact h.elim
  · rename_i hw
    rw [if_neg hw] at h
    exact fin undef w h

theorem relB_spec {done : Array Bool} {n fuel : Nat} (h : relB md ops done n fuel = true) :
    done.size = ops.size ∧ ((List.range ops.size).countP fun j => !done.getD j true) ≤ fuel ∧
    ∀ i o, ops[i]? = some o → (∀ e ∈ o.after, Region.binds md e = true → e.on < i) ∧
      (done.getD i true = false → (∀ cs c, o.op ≠ .select cs c) ∧
        (∀ d, o.dst = some d → d < n ∧ ∀ j, done.getD j true = false → (ops[j]?).bind (·.dst) = some d → j = i) ∧
        ∀ s ∈ o.looksAt ops, (∃ p ∈ depsOf md ops done o, p.2 = s) ∨
          ∀ j, done.getD j true = false → (ops[j]?).bind (·.dst) = some s → j = i ∨ ∃ oj, ops[j]? = some oj ∧ ∃ e ∈ oj.after, Region.binds md e = true ∧ e.on = i) := by
  unfold relB at h
  simp only [Bool.and_eq_true, beq_iff_eq, decide_eq_true_eq] at h
  obtain ⟨⟨h1, h2⟩, h3⟩ := h
  refine ⟨h1, h2, fun i o ho => ?_⟩
  have hi : i < ops.size := by
    rcases Nat.lt_or_ge i ops.size with h | h
    · exact h
    · rw [Array.getElem?_eq_none h] at ho; cases ho
  have h4 := List.all_eq_true.1 h3 i (List.mem_range.2 hi)
  rw [ho] at h4
  simp only [Bool.and_eq_true] at h4
  obtain ⟨ha, hb⟩ := h4
  have rng : ∀ j, done.getD j true = false → j < ops.size := by
    intro j hj
    rcases Nat.lt_or_ge j ops.size with h | h
    · exact h
    · rw [Array.getD_eq_getD_getElem?, Array.getElem?_eq_none (by omega)] at hj; cases hj
  refine ⟨fun e he hbd => ?_, fun hd => ?_⟩
  · have := Array.all_eq_true'.1 ha e he
    simpa [hbd] using this
  · rw [hd, Bool.false_or] at hb
    simp only [Bool.and_eq_true] at hb
    obtain ⟨⟨hs, hdst⟩, hlook⟩ := hb
    refine ⟨fun cs c e => (by rw [e] at hs; cases hs), fun d hd' => ?_, fun s hs' => ?_⟩
    · rw [hd'] at hdst
      simp only [Bool.and_eq_true, decide_eq_true_eq] at hdst
      refine ⟨hdst.1, fun j hj hjd => ?_⟩
      have := List.all_eq_true.1 hdst.2 j (List.mem_range.2 (rng j hj))
      simpa [hj, hjd] using this
    · have := List.all_eq_true.1 hlook s hs'
      rw [Bool.or_eq_true] at this
      rcases this with h5 | h5
      · left
        obtain ⟨p, hp, he⟩ := List.any_eq_true.1 h5
        exact ⟨p, hp, by simpa using he⟩
      · right
        intro j hj hjd
        have h6 := List.all_eq_true.1 h5 j (List.mem_range.2 (rng j hj))
        have hjo : ∃ oj, ops[j]? = some oj := ⟨ops[j]'(rng j hj), Array.getElem?_eq_getElem _⟩
        obtain ⟨oj, hoj⟩ := hjo
        rw [hj, hjd, hoj] at h6
        simp only [Bool.false_or, Option.map_some, Option.getD_some, bne_self_eq_false, Bool.or_false, Bool.or_eq_true, beq_iff_eq] at h6
        rcases h6 with h6 | h6
        · exact .inl h6
        · right
          refine ⟨oj, hoj, ?_⟩
          obtain ⟨e, he, hq⟩ := Array.any_eq_true'.1 h6
          simp only [Bool.and_eq_true, beq_iff_eq] at hq
          exact ⟨e, he, hq.1, hq.2⟩

theorem listed_set (l : Array Bool) (i j : Nat) (hi : i < l.size) : (l.setIfInBounds i true).getD j true = (l.getD j true || decide (j = i)) := by
  rw [Array.getD_eq_getD_getElem?, Array.getD_eq_getD_getElem?, Array.getElem?_setIfInBounds]
  by_cases h : i = j
  · subst h; simp [hi]
  · rw [if_neg h]
    have : decide (j = i) = false := by simp; omega
    rw [this, Bool.or_false]

theorem getD_bool (l : Array Bool) (j : Nat) (hj : j < l.size) (a b : Bool) : l.getD j a = l.getD j b := by
  rw [Array.getD_eq_getD_getElem?, Array.getD_eq_getD_getElem?, Array.getElem?_eq_getElem hj]; rfl

theorem countP_set (l : Array Bool) (i n : Nat) (hn : l.size = n) (hi : i < n) (h0 : l.getD i true = false) :
    ((List.range n).countP fun j => !(l.setIfInBounds i true).getD j true) + 1 = (List.range n).countP fun j => !l.getD j true := by
  have key : ∀ m, m ≤ n → ((List.range m).countP fun j => !(l.setIfInBounds i true).getD j true) + (if i < m then 1 else 0) = (List.range m).countP fun j => !l.getD j true := by
    intro m
    induction m with
    | zero => intro _; simp
    | succ m ih =>
      intro hm
      have := ih (by omega)
      rw [List.range_succ, List.countP_append, List.countP_append, ← this]
      rw [List.countP_singleton, List.countP_singleton, listed_set l i m (by omega)]
      by_cases hmi : m = i
      · subst hmi
        simp [h0]
      · have : decide (m = i) = false := by simp [hmi]
        rw [this, Bool.or_false]
        by_cases hlt : i < m
        · have h1 : i < m + 1 := by omega
          simp only [hlt, h1, if_true]; omega
        · have h1 : ¬ i < m + 1 := by omega
          simp only [hlt, h1, if_false]; omega
  have := key n (Nat.le_refl _)
  rw [if_pos hi] at this
  exact this

theorem mem_ready {listed : Array Bool} {i : Nat} (h : i ∈ Region.ready md ops listed) : ∃ o, ops[i]? = some o ∧ listed.getD i true = false ∧ ∀ e ∈ o.after, Region.binds md e = true → listed.getD e.on false = true := by
  unfold Region.ready at h
  obtain ⟨hr, h⟩ := List.mem_filter.1 h
  have hi := List.mem_range.1 hr
  simp only [Bool.and_eq_true, Bool.not_eq_true', Array.getElem?_eq_getElem hi, Option.map_some, Option.getD_some] at h
  refine ⟨ops[i], Array.getElem?_eq_getElem hi, h.1, fun e he hb => ?_⟩
  have := Array.all_eq_true'.1 h.2 e he
  simpa [hb] using this

theorem ready_nil {listed : Array Bool} (hs : listed.size = ops.size) (hac : ∀ i o, ops[i]? = some o → ∀ e ∈ o.after, Region.binds md e = true → e.on < i) (h : Region.ready md ops listed = []) : ∀ j, listed.getD j true = true := by
  intro j
  induction j using Nat.strongRecOn with
  | _ j ih =>
    rcases Nat.lt_or_ge j ops.size with hj | hj
    · cases hq : listed.getD j true with
      | true => rfl
      | false =>
        exfalso
        have : j ∈ Region.ready md ops listed := by
          unfold Region.ready
          refine List.mem_filter.2 ⟨List.mem_range.2 hj, ?_⟩
          simp only [hq, Bool.not_false, Bool.true_and, Array.getElem?_eq_getElem hj, Option.map_some, Option.getD_some]
          refine Array.all_eq_true'.2 fun e he => ?_
          cases hb : Region.binds md e with
          | false => rfl
          | true =>
            have hlt := hac j _ (Array.getElem?_eq_getElem hj) e he hb
            rw [getD_bool listed e.on (by omega) false true, ih e.on hlt]
            rfl
        rw [h] at this
        cases this
    · rw [Array.getD_eq_getD_getElem?, Array.getElem?_eq_none (by omega)]; rfl

variable {done : Array Bool} {a0 : Act} {C : World → Prop} {G : World → World → Prop} {R : Nat → Value → World → Prop} {F : Nat → World → Prop}

theorem wpAny_rel_go (n0 : Nat) (chk : relB md ops done a0.tmps.size n0 = true)
    (hR : ∀ i v w w', C w → G w w' → R i v w → R i v w') (hF : ∀ i w w', C w → G w w' → F i w → F i w')
    (hs : ∀ i o, ops[i]? = some o → done.getD i true = false → ∀ w, C w → ∀ x : Nat → Value, (∀ p ∈ depsOf md ops done o, R p.1 (x p.2) w) →
      RelStep P ops o (putAll a0 (depsOf md ops done o) x) w (fun v w' => R i v w' ∧ C w' ∧ G w w' ∧ F i w'))
    (hf : ∀ w, C w → ∀ x : Nat → Value, (∀ p ∈ restOf ops done, R p.1 (x p.2) w) → (∀ j, j < ops.size → done.getD j true = false → F j w) → Q .normal (putAll a0 (restOf ops done) x) w) :
    ∀ (fuel : Nat) (listed : Array Bool) (a : Act) (w : World), RelInv md ops done a0 C R F listed a w → ((List.range ops.size).countP fun j => !listed.getD j true) ≤ fuel → wpAny P md ops Q fuel listed a w := by
  obtain ⟨hds, _, hall⟩ := relB_spec chk
  have hac : ∀ i o, ops[i]? = some o → ∀ e ∈ o.after, Region.binds md e = true → e.on < i := fun i o ho => (hall i o ho).1
  -- the end
  have fin : ∀ listed a w, RelInv md ops done a0 C R F listed a w → Region.ready md ops listed = [] → Q .normal a w := by
    intro listed a w hI hr
    have hl := ready_nil hI.lsz hac hr
    have hrest : ∀ p ∈ restOf ops done, done.getD p.1 true = false ∧ (ops[p.1]?).bind (·.dst) = some p.2 := by
      intro p hp
      obtain ⟨j, hj, hq⟩ := List.mem_filterMap.1 hp
      cases hd : done.getD j true with
      | true => simp [hd] at hq
      | false =>
        simp only [hd, Bool.false_eq_true, if_false, Option.map_eq_some_iff] at hq
        obtain ⟨d, hd', rfl⟩ := hq
        exact ⟨hd, hd'⟩
    have := hf w hI.cls (fun s => a.tmps.getD s undef) (fun p hp => hI.new p.1 p.2 (hrest p hp).2 (hl _) (hrest p hp).1) (fun j hj hd => hI.eff j hj (hl j) hd)
    have ea : putAll a0 (restOf ops done) (fun s => a.tmps.getD s undef) = a := by
      have e1 := putAll_defers a0 (restOf ops done) (fun s => a.tmps.getD s undef)
      have e2 := putAll_size a0 (restOf ops done) (fun s => a.tmps.getD s undef)
      have e3 : (putAll a0 (restOf ops done) (fun s => a.tmps.getD s undef)).tmps = a.tmps := by
        apply Array.ext_getElem?
        intro s
        by_cases hin : ∃ p ∈ restOf ops done, p.2 = s
        · obtain ⟨p, hp, rfl⟩ := hin
          obtain ⟨h1, h2⟩ := hrest p hp
          obtain ⟨o, ho, hd⟩ := Option.bind_eq_some_iff.1 h2
          have hlt := (((hall p.1 o ho).2 h1).2.1 p.2 hd).1
          rw [putAll_at _ _ _ _ hlt ⟨p, hp, rfl⟩, Array.getD_eq_getD_getElem?, Array.getElem?_eq_getElem (by rw [hI.siz]; exact hlt)]
          rfl
        · rw [putAll_ne _ _ _ _ (fun p hp e => hin ⟨p, hp, e⟩)]
          symm
          apply hI.old
          intro j hj _
          cases hd : done.getD j true with
          | true => rfl
          | false =>
            exfalso
            apply hin
            obtain ⟨o, ho, hd'⟩ := Option.bind_eq_some_iff.1 hj
            have hjlt : j < ops.size := by
              rcases Nat.lt_or_ge j ops.size with h | h
              · exact h
              · rw [Array.getElem?_eq_none h] at ho; cases ho
            exact ⟨(j, s), List.mem_filterMap.2 ⟨j, List.mem_range.2 hjlt, by simp [hd, hj]⟩, rfl⟩
      generalize putAll a0 (restOf ops done) (fun s => a.tmps.getD s undef) = q at *
      cases q; cases a
      simp only at e1 e3
      subst e3
      rw [e1, ← hI.dfs]
    rw [ea] at this
    exact this
  intro fuel
  induction fuel with
  | zero =>
    intro listed a w hI hc
    have hr : Region.ready md ops listed = [] := by
      cases hq : Region.ready md ops listed with
      | nil => rfl
      | cons i rs =>
        exfalso
        obtain ⟨o, ho, hl, _⟩ := mem_ready (md := md) (ops := ops) (listed := listed) (i := i) (by rw [hq]; exact List.mem_cons_self)
        have hi : i < ops.size := by
          rcases Nat.lt_or_ge i ops.size with h | h
          · exact h
          · rw [Array.getElem?_eq_none h] at ho; cases ho
        have := countP_set listed i ops.size hI.lsz hi hl
        omega
    exact ⟨hr, fin listed a w hI hr⟩
  | succ fuel ih =>
    intro listed a w hI hc
    refine ⟨fin listed a w hI, fun i hi => ?_⟩
    obtain ⟨o, ho, hl, hdeps⟩ := mem_ready hi
    have hilt : i < ops.size := by
      rcases Nat.lt_or_ge i ops.size with h | h
      · exact h
      · rw [Array.getElem?_eq_none h] at ho; cases ho
    have hdn : done.getD i true = false := by
      cases hd : done.getD i true with
      | false => rfl
      | true => rw [hI.sub i hd] at hl; cases hl
    obtain ⟨hsel, hdst, hlook⟩ := (hall i o ho).2 hdn
    have hdep : ∀ p ∈ depsOf md ops done o, done.getD p.1 true = false ∧ listed.getD p.1 true = true ∧ (ops[p.1]?).bind (·.dst) = some p.2 := by
      intro p hp
      obtain ⟨k, hk, hq⟩ := List.mem_filterMap.1 hp
      split at hq
      · rename_i hc
        simp only [Bool.and_eq_true, Bool.not_eq_true'] at hc
        obtain ⟨hany, hd⟩ := hc
        obtain ⟨e, he, hb⟩ := Array.any_eq_true'.1 hany
        simp only [Bool.and_eq_true, beq_iff_eq] at hb
        obtain ⟨hb, rfl⟩ := hb
        cases hz : (ops[e.on]?).bind (·.dst) with
        | none => simp [hz] at hq
        | some d =>
          simp only [hz] at hq
          split at hq
          · obtain rfl := Option.some.inj hq
            refine ⟨hd, ?_, hz⟩
            have hlt : e.on < listed.size := by rw [hI.lsz]; have := (hall i o ho).1 e he hb; omega
            rw [getD_bool listed e.on hlt true false]
            exact hdeps e he hb
          · cases hq
      · cases hq
    have hstep := hs i o ho hdn w hI.cls (fun s => a.tmps.getD s undef) (fun p hp => hI.new p.1 p.2 (hdep p hp).2.2 (hdep p hp).2.1 (hdep p hp).1)
    refine wpOp_of_step ho hsel (by rw [putAll_defers, hI.dfs]) (by rw [putAll_size, hI.siz]) (fun d hd => by rw [putAll_size]; exact (hdst d hd).1) ?_ hstep ?_
    · intro s hs'
      by_cases hin : ∃ p ∈ depsOf md ops done o, p.2 = s
      · obtain ⟨p, hp, rfl⟩ := hin
        obtain ⟨h1, h2, h3⟩ := hdep p hp
        obtain ⟨oj, hoj, hdj⟩ := Option.bind_eq_some_iff.1 h3
        have hlt := (((hall p.1 oj hoj).2 h1).2.1 p.2 hdj).1
        rw [putAll_at _ _ _ _ hlt ⟨p, hp, rfl⟩, Array.getD_eq_getD_getElem?, Array.getElem?_eq_getElem (by rw [hI.siz]; exact hlt)]
        rfl
      · rw [putAll_ne _ _ _ _ (fun p hp e => hin ⟨p, hp, e⟩)]
        apply hI.old
        intro j hj hjl
        cases hd : done.getD j true with
        | true => rfl
        | false =>
          exfalso
          rcases hlook s hs' with h | h
          · exact hin h
          · rcases h j hd hj with rfl | ⟨oj, hoj, e, he, hb, rfl⟩
            · rw [hl] at hjl; cases hjl
            · rcases hI.down j oj hoj hjl with h' | h'
              · rw [hd] at h'; cases h'
              · have := h' e he hb
                rw [getD_bool listed e.on (by rw [hI.lsz]; exact hilt) false true, hl] at this
                cases this
    · rintro v w' u ⟨hru, hcw, hg, hfi⟩ huv
      refine ih _ _ _ ⟨hcw, by rw [put_defers, hI.dfs], by rw [put_size, hI.siz], by simp [hI.lsz], ?_, ?_, ?_, ?_, ?_⟩ ?_
      · intro j hj
        rw [listed_set listed i j (by rw [hI.lsz]; exact hilt), hI.sub j hj]; rfl
      · intro j oj hoj hjl
        rw [listed_set listed i j (by rw [hI.lsz]; exact hilt)] at hjl
        have mono : ∀ k, listed.getD k false = true → (listed.setIfInBounds i true).getD k false = true := by
          intro k hk
          rw [Array.getD_eq_getD_getElem?, Array.getElem?_setIfInBounds]
          by_cases hik : i = k
          · subst hik; rw [if_pos rfl, if_pos (by rw [hI.lsz]; exact hilt)]; rfl
          · rw [if_neg hik, ← Array.getD_eq_getD_getElem?]; exact hk
        cases hjl' : listed.getD j true with
        | true =>
          rcases hI.down j oj hoj hjl' with h | h
          · exact .inl h
          · exact .inr fun e he hb => mono _ (h e he hb)
        | false =>
          rw [hjl', Bool.false_or, decide_eq_true_eq] at hjl
          subst hjl
          rw [ho] at hoj
          obtain rfl := Option.some.inj hoj
          exact .inr fun e he hb => mono _ (hdeps e he hb)
      · intro s hsj
        have hne : o.dst ≠ some s := by
          intro e
          have := hsj i (by rw [ho]; exact e) (by rw [listed_set listed i i (by rw [hI.lsz]; exact hilt)]; simp)
          rw [hdn] at this; cases this
        have e1 : (a.put o.dst v).tmps[s]? = a.tmps[s]? := by
          cases hq : o.dst with
          | none => rfl
          | some d => exact put_ne a d s v (fun e => hne (by rw [hq, e]))
        rw [e1]
        apply hI.old
        intro j hj hjl
        exact hsj j hj (by rw [listed_set listed i j (by rw [hI.lsz]; exact hilt), hjl]; rfl)
      · intro j d hjd hjl hjn
        rw [listed_set listed i j (by rw [hI.lsz]; exact hilt)] at hjl
        by_cases hji : j = i
        · subst hji
          rw [ho] at hjd
          have hjd : o.dst = some d := hjd
          have : (a.put o.dst v).tmps.getD d undef = v := by
            rw [hjd]
            exact getD_of_get? (put_at a d v (by rw [hI.siz]; exact (hdst d hjd).1))
          rw [this, ← huv (by rw [hjd]; rfl)]
          exact hru
        · have hjl' : listed.getD j true = true := by simpa [hji] using hjl
          have hne : o.dst ≠ some d := fun e => hji ((hdst d e).2 j hjn hjd)
          have e1 : (a.put o.dst v).tmps.getD d undef = a.tmps.getD d undef := by
            cases hq : o.dst with
            | none => rfl
            | some d' => rw [Array.getD_eq_getD_getElem?, Array.getD_eq_getD_getElem?, put_ne a d' d v (fun e => hne (by rw [hq, e]))]
          rw [e1]
          exact hR _ _ _ _ hI.cls hg (hI.new j d hjd hjl' hjn)
      · intro j hj hjl hjn
        rw [listed_set listed i j (by rw [hI.lsz]; exact hilt)] at hjl
        by_cases hji : j = i
        · subst hji; exact hfi
        · exact hF _ _ _ hI.cls hg (hI.eff j hj (by simpa [hji] using hjl) hjn)
      · have := countP_set listed i ops.size hI.lsz hilt hl
        omega

/-- The law. -/
theorem wpAny_rel (C : World → Prop) (G : World → World → Prop) (R : Nat → Value → World → Prop) {fuel : Nat} {w : World} (chk : relB md ops done a0.tmps.size fuel = true)
    (hC : C w) (hR : ∀ i v w w', C w → G w w' → R i v w → R i v w')
    (hs : ∀ i o, ops[i]? = some o → done.getD i true = false → ∀ w, C w → ∀ x : Nat → Value, (∀ p ∈ depsOf md ops done o, R p.1 (x p.2) w) →
      RelStep P ops o (putAll a0 (depsOf md ops done o) x) w (fun v w' => R i v w' ∧ C w' ∧ G w w'))
    (hf : ∀ w, C w → ∀ x : Nat → Value, (∀ p ∈ restOf ops done, R p.1 (x p.2) w) → Q .normal (putAll a0 (restOf ops done) x) w) :
    wpAny P md ops Q fuel done a0 w := by
  obtain ⟨h1, h2, _⟩ := relB_spec chk
  refine wpAny_rel_go (F := fun _ _ => True) fuel chk hR (fun _ _ _ _ _ _ => trivial) (fun i o ho hd w hC x hx K hK => hs i o ho hd w hC x hx K (fun a' w' h1 h2 => hK a' w' h1 ⟨h2.1, h2.2.1, h2.2.2, trivial⟩)) (fun w hC x hx _ => hf w hC x hx) fuel done a0 w ⟨hC, rfl, rfl, h1, fun _ h => h, fun j o ho hj => .inl hj, fun _ _ => rfl, fun j d hj hl hd => ?_, fun j _ hl hd => ?_⟩ h2
  · rw [hl] at hd; cases hd
  · rw [hl] at hd; cases hd

/-- The law, with what each operation does to the world. -/
theorem wpAny_rel_eff (C : World → Prop) (G : World → World → Prop) (R : Nat → Value → World → Prop) (F : Nat → World → Prop) {fuel : Nat} {w : World} (chk : relB md ops done a0.tmps.size fuel = true)
    (hC : C w) (hR : ∀ i v w w', C w → G w w' → R i v w → R i v w') (hF : ∀ i w w', C w → G w w' → F i w → F i w')
    (hs : ∀ i o, ops[i]? = some o → done.getD i true = false → ∀ w, C w → ∀ x : Nat → Value, (∀ p ∈ depsOf md ops done o, R p.1 (x p.2) w) →
      RelStep P ops o (putAll a0 (depsOf md ops done o) x) w (fun v w' => R i v w' ∧ C w' ∧ G w w' ∧ F i w'))
    (hf : ∀ w, C w → ∀ x : Nat → Value, (∀ p ∈ restOf ops done, R p.1 (x p.2) w) → (∀ j, j < ops.size → done.getD j true = false → F j w) → Q .normal (putAll a0 (restOf ops done) x) w) :
    wpAny P md ops Q fuel done a0 w := by
  obtain ⟨h1, h2, _⟩ := relB_spec chk
  refine wpAny_rel_go fuel chk hR hF hs hf fuel done a0 w ⟨hC, rfl, rfl, h1, fun _ h => h, fun j o ho hj => .inl hj, fun _ _ => rfl, fun j d hj hl hd => ?_, fun j _ hl hd => ?_⟩ h2
  · rw [hl] at hd; cases hd
  · rw [hl] at hd; cases hd
/-- What is known of a value: it is this one; it is a slice over a whole row of its own, which holds this; or whatever else stays known where nothing that is there is turned. -/
inductive Spec where
  | is (u : Value)
  | row (c : Array Value) (t : TypeId) (n : Nat)
  | has (p : Value → World → Prop) (h : ∀ v w w', Below w.heap.size w w' → p v w → p v w')
  | any

def Spec.sat : Spec → Value → World → Prop
  | .is u, v, _ => v = u
  | .row c t n, v, w => ∃ g, v = .slice (some ⟨g, 0, none⟩) n n ∧ w.heap[g]? = some (.cells c t (0, 0))
  | .has p _, v, w => p v w
  | .any, _, _ => True

theorem Spec.stays (s : Spec) (v : Value) (w w' : World) (hb : Below w.heap.size w w') (h : s.sat v w) : s.sat v w' := by
  cases s with
  | is u => exact h
  | row c t n =>
    obtain ⟨g, hv, hg⟩ := h
    refine ⟨g, hv, ?_⟩
    have hlt : g < w.heap.size := by
      rcases Nat.lt_or_ge g w.heap.size with h | h
      · exact h
      · rw [Array.getElem?_eq_none h] at hg; cases hg
    exact (hb.block g hlt).trans hg
  | has p hp => exact hp v w w' hb h
  | any => trivial

/-- What one operation owes. -/
def StepOk (P : Program) (ops : Array Oper) (a0 : Act) (C : World → Prop) (specs : List Spec) (i : Nat) : Prop :=
  ∀ o, ops[i]? = some o → ∀ w, C w → ∀ x : Nat → Value, (∀ p ∈ depsOf .any ops (Array.replicate ops.size false) o, (specs.getD p.1 .any).sat (x p.2) w) →
    RelStep P ops o (putAll a0 (depsOf .any ops (Array.replicate ops.size false) o) x) w (fun v w' => (specs.getD i .any).sat v w' ∧ C w' ∧ Below w.heap.size w w')

theorem stepOk0 {P : Program} {ops : Array Oper} {a0 : Act} {C : World → Prop} {specs : List Spec} {i : Nat} {o : Oper} (ho : ops[i]? = some o) (hd : depsOf .any ops (Array.replicate ops.size false) o = [])
    (h : ∀ w, C w → RelStep P ops o a0 w (fun v w' => (specs.getD i .any).sat v w' ∧ C w' ∧ Below w.heap.size w w')) : StepOk P ops a0 C specs i := by
  intro o' ho' w hC x hx
  obtain rfl := Option.some.inj (ho.symm.trans ho')
  rw [hd] at hx ⊢
  exact h w hC
theorem stepOk1 {P : Program} {ops : Array Oper} {a0 : Act} {C : World → Prop} {specs : List Spec} {i : Nat} {o : Oper} (j d : Nat) (ho : ops[i]? = some o) (hd : depsOf .any ops (Array.replicate ops.size false) o = [(j, d)])
    (h : ∀ w, C w → ∀ v1, (specs.getD j .any).sat v1 w → RelStep P ops o (a0.put (some d) v1) w (fun v w' => (specs.getD i .any).sat v w' ∧ C w' ∧ Below w.heap.size w w')) : StepOk P ops a0 C specs i := by
  intro o' ho' w hC x hx
  obtain rfl := Option.some.inj (ho.symm.trans ho')
  rw [hd] at hx ⊢
  exact h w hC (x d) (hx _ List.mem_cons_self)
theorem stepOk2 {P : Program} {ops : Array Oper} {a0 : Act} {C : World → Prop} {specs : List Spec} {i : Nat} {o : Oper} (j d j' d' : Nat) (ho : ops[i]? = some o) (hd : depsOf .any ops (Array.replicate ops.size false) o = [(j, d), (j', d')])
    (h : ∀ w, C w → ∀ v1 v2, (specs.getD j .any).sat v1 w → (specs.getD j' .any).sat v2 w → RelStep P ops o ((a0.put (some d) v1).put (some d') v2) w (fun v w' => (specs.getD i .any).sat v w' ∧ C w' ∧ Below w.heap.size w w')) : StepOk P ops a0 C specs i := by
  intro o' ho' w hC x hx
  obtain rfl := Option.some.inj (ho.symm.trans ho')
  rw [hd] at hx ⊢
  exact h w hC (x d) (x d') (hx _ List.mem_cons_self) (hx _ (List.mem_cons_of_mem _ List.mem_cons_self))
theorem stepOk3 {P : Program} {ops : Array Oper} {a0 : Act} {C : World → Prop} {specs : List Spec} {i : Nat} {o : Oper} (j d j' d' k e : Nat) (ho : ops[i]? = some o) (hd : depsOf .any ops (Array.replicate ops.size false) o = [(j, d), (j', d'), (k, e)])
    (h : ∀ w, C w → ∀ v1 v2 v3, (specs.getD j .any).sat v1 w → (specs.getD j' .any).sat v2 w → (specs.getD k .any).sat v3 w → RelStep P ops o (((a0.put (some d) v1).put (some d') v2).put (some e) v3) w (fun v w' => (specs.getD i .any).sat v w' ∧ C w' ∧ Below w.heap.size w w')) : StepOk P ops a0 C specs i := by
  intro o' ho' w hC x hx
  obtain rfl := Option.some.inj (ho.symm.trans ho')
  rw [hd] at hx ⊢
  exact h w hC (x d) (x d') (x e) (hx _ List.mem_cons_self) (hx _ (List.mem_cons_of_mem _ List.mem_cons_self)) (hx _ (List.mem_cons_of_mem _ (List.mem_cons_of_mem _ List.mem_cons_self)))

theorem stepOk4 {P : Program} {ops : Array Oper} {a0 : Act} {C : World → Prop} {specs : List Spec} {i : Nat} {o : Oper} (j d j' d' k e m g : Nat) (ho : ops[i]? = some o) (hd : depsOf .any ops (Array.replicate ops.size false) o = [(j, d), (j', d'), (k, e), (m, g)])
    (h : ∀ w, C w → ∀ v1 v2 v3 v4, (specs.getD j .any).sat v1 w → (specs.getD j' .any).sat v2 w → (specs.getD k .any).sat v3 w → (specs.getD m .any).sat v4 w → RelStep P ops o ((((a0.put (some d) v1).put (some d') v2).put (some e) v3).put (some g) v4) w (fun v w' => (specs.getD i .any).sat v w' ∧ C w' ∧ Below w.heap.size w w')) : StepOk P ops a0 C specs i := by
  intro o' ho' w hC x hx
  obtain rfl := Option.some.inj (ho.symm.trans ho')
  rw [hd] at hx ⊢
  exact h w hC (x d) (x d') (x e) (x g) (hx _ List.mem_cons_self) (hx _ (List.mem_cons_of_mem _ List.mem_cons_self)) (hx _ (List.mem_cons_of_mem _ (List.mem_cons_of_mem _ List.mem_cons_self))) (hx _ (List.mem_cons_of_mem _ (List.mem_cons_of_mem _ (List.mem_cons_of_mem _ List.mem_cons_self))))

/-- The steps from number n down. -/
def StepsOk (P : Program) (ops : Array Oper) (a0 : Act) (C : World → Prop) (specs : List Spec) (n : Nat) : Prop := ∀ i, i < n → StepOk P ops a0 C specs i
theorem stepsOk_zero {P : Program} {ops : Array Oper} {a0 : Act} {C : World → Prop} {specs : List Spec} : StepsOk P ops a0 C specs 0 := fun i hi => by omega
theorem stepsOk_succ {P : Program} {ops : Array Oper} {a0 : Act} {C : World → Prop} {specs : List Spec} {n : Nat} (h : StepOk P ops a0 C specs n) (t : StepsOk P ops a0 C specs n) : StepsOk P ops a0 C specs (n + 1) := fun i hi => by
  by_cases e : i = n
  · subst e; exact h
  · exact t i (by omega)

theorem wp_region_rel {P : Program} {ops : Array Oper} {Q : Exit → Act → World → Prop} {a0 : Act} {id : Nat} {w : World} (specs : List Spec) (C : World → Prop) (rest : List (Nat × Nat)) (n : Nat) (hm : P.follows .mixedOrders = true) (hn : ops.size = n)
    (chk : relB .any ops (Array.replicate ops.size false) a0.tmps.size ops.size = true) (hr : restOf ops (Array.replicate ops.size false) = rest) (hC : C w.drew)
    (hs : StepsOk P ops a0 C specs n)
    (hf : ∀ w', C w' → ∀ x : Nat → Value, (∀ p ∈ rest, (specs.getD p.1 .any).sat (x p.2) w') → Q .normal (putAll a0 rest x) w') : (Code.region id ops true).wp P Q a0 w := by
  refine wp_region_any hm ?_
  refine wpAny_rel (md := .any) C (fun w w' => Below w.heap.size w w') (fun i v w => (specs.getD i .any).sat v w) chk hC (fun i v w w' _ hg h => Spec.stays _ v w w' hg h) ?_ ?_
  · intro i o ho _ w hC x hx
    refine hs i ?_ o ho w hC x hx
    rw [← hn]
    rcases Nat.lt_or_ge i ops.size with h | h
    · exact h
    · rw [Array.getElem?_eq_none h] at ho; cases ho
  · intro w' hC x hx
    rw [hr] at hx ⊢
    exact hf w' hC x hx

/-- The same, where behind the region only what its operations left is asked. -/
theorem wp_region_rel_end {P : Program} {ops : Array Oper} {Q : Exit → Act → World → Prop} {a0 : Act} {id : Nat} {w : World} (specs : List Spec) (C : World → Prop) (rest : List (Nat × Nat)) (n : Nat) (hm : P.follows .mixedOrders = true) (hn : ops.size = n)
    (chk : relB .any ops (Array.replicate ops.size false) a0.tmps.size ops.size = true) (hr : restOf ops (Array.replicate ops.size false) = rest) (hC : C w.drew)
    (hs : StepsOk P ops a0 C specs n)
    (hf : ∀ w', C w' → ∀ t : Array Value, (∀ p ∈ rest, (specs.getD p.1 .any).sat (t.getD p.2 undef) w') → Q .normal ⟨t, a0.defers⟩ w') : (Code.region id ops true).wp P Q a0 w := by
  refine wp_region_rel specs C rest n hm hn chk hr hC hs ?_
  intro w' hC x hx
  have := hf w' hC (putAll a0 rest x).tmps (fun p hp => ?_)
  · rw [← putAll_defers a0 rest x] at this
    exact this
  · obtain ⟨_, _, hall⟩ := relB_spec chk
    have hp' := hp
    rw [← hr] at hp'
    obtain ⟨j, hj, hq⟩ := List.mem_filterMap.1 hp'
    cases hd : (Array.replicate ops.size false).getD j true with
    | true => simp [hd] at hq
    | false =>
      simp only [hd, Bool.false_eq_true, if_false, Option.map_eq_some_iff] at hq
      obtain ⟨d, hd', rfl⟩ := hq
      obtain ⟨o, ho, hdo⟩ := Option.bind_eq_some_iff.1 hd'
      have hlt := (((hall j o ho).2 hd).2.1 d hdo).1
      rw [getD_of_get? (putAll_at a0 rest x d hlt ⟨(j, d), hp, rfl⟩)]
      exact hx (j, d) hp

end Go.Proofs.Yteglnlhdgfpglaa
