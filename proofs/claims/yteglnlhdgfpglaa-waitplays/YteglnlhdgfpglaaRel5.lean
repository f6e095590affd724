/-
  A region that draws its order and writes, by relations and one whole invariant over what is done, the slots and the world. Nothing of the translation is named here.
-/
import Derived.Test.YteglnlhdgfpglaaRel4
namespace Go.Proofs.Yteglnlhdgfpglaa
open Go Go.RowKit
set_option linter.unusedVariables false

variable {P : Program} {ops : Array Oper} {Q : Exit → Act → World → Prop} {md : Region.Mode}

/-- The slots, one of them turned. -/
def upd (x : Nat → Value) : Option Nat → Value → Nat → Value
  | none, _ => x
  | some d, v => fun s => if s = d then v else x s
theorem upd_put (a : Act) (d : Option Nat) (v u : Value) (hd : ∀ e, d = some e → e < a.tmps.size) (hu : d.isSome → u = v) : (fun s => (a.put d v).tmps.getD s undef) = upd (fun s => a.tmps.getD s undef) d u := by
  cases d with
  | none => rfl
  | some e =>
    funext s
    show _ = if s = e then u else a.tmps.getD s undef
    by_cases h : s = e
    · subst h
      rw [if_pos rfl, getD_of_get? (put_at a s v (hd s rfl)), hu rfl]
    · rw [if_neg h, Array.getD_eq_getD_getElem?, Array.getD_eq_getD_getElem?, put_ne a e s v (fun e' => h e'.symm)]

/-- What is known at any time. -/
structure RelInvI (md : Region.Mode) (ops : Array Oper) (done : Array Bool) (a0 : Act) (C : World → Prop) (R : Nat → Value → World → Prop) (F : Nat → (Nat → Value) → World → Prop) (I : Array Bool → (Nat → Value) → World → Prop) (listed : Array Bool) (a : Act) (w : World) : Prop where
  inv : I listed (fun s => a.tmps.getD s undef) w
  cls : C w
  dfs : a.defers = a0.defers
  siz : a.tmps.size = a0.tmps.size
  lsz : listed.size = ops.size
  sub : ∀ j, done.getD j true = true → listed.getD j true = true
  down : ∀ j o, ops[j]? = some o → listed.getD j true = true → done.getD j true = true ∨ ∀ e ∈ o.after, Region.binds md e = true → listed.getD e.on false = true
  old : ∀ s, (∀ j, (ops[j]?).bind (·.dst) = some s → listed.getD j true = true → done.getD j true = true) → a.tmps[s]? = a0.tmps[s]?
  new : ∀ j d, (ops[j]?).bind (·.dst) = some d → listed.getD j true = true → done.getD j true = false → R j (a.tmps.getD d undef) w
  eff : ∀ j, j < ops.size → listed.getD j true = true → done.getD j true = false → F j (fun s => a.tmps.getD s undef) w

variable {done : Array Bool} {a0 : Act} {C : World → Prop} {G : World → World → Prop} {R : Nat → Value → World → Prop} {F : Nat → (Nat → Value) → World → Prop} {I : Array Bool → (Nat → Value) → World → Prop}

theorem wpAny_relI_go (n0 : Nat) (chk : relB md ops done a0.tmps.size n0 = true)
    (hR : ∀ i v w w', C w → G w w' → R i v w → R i v w') (hF : ∀ i x w w', C w → G w w' → F i x w → F i x w')
    (hloc : ∀ j o x y w, ops[j]? = some o → done.getD j true = false → (∀ p ∈ depsOf md ops done o, x p.2 = y p.2) → F j x w → F j y w)
    (hs : ∀ i o, ops[i]? = some o → done.getD i true = false → ∀ w, C w → ∀ x : Nat → Value, (∀ p ∈ depsOf md ops done o, R p.1 (x p.2) w) →
      RelStep P ops o (putAll a0 (depsOf md ops done o) x) w (fun v w' => R i v w' ∧ C w' ∧ G w w' ∧ F i x w' ∧ ∀ l, I l x w → l.size = ops.size → (∀ j o', ops[j]? = some o' → l.getD j true = true → done.getD j true = true ∨ ∀ e ∈ o'.after, Region.binds md e = true → l.getD e.on false = true) → (∀ e ∈ o.after, Region.binds md e = true → l.getD e.on false = true) → l.getD i true = false → I (l.setIfInBounds i true) (upd x o.dst v) w'))
    (hf : ∀ w, C w → ∀ x : Nat → Value, (∀ p ∈ restOf ops done, R p.1 (x p.2) w) → (∀ j, j < ops.size → done.getD j true = false → F j x w) → (∃ l, (∀ j, l.getD j true = true) ∧ l.size = ops.size ∧ I l x w) → Q .normal (putAll a0 (restOf ops done) x) w) :
    ∀ (fuel : Nat) (listed : Array Bool) (a : Act) (w : World), RelInvI md ops done a0 C R F I listed a w → ((List.range ops.size).countP fun j => !listed.getD j true) ≤ fuel → wpAny P md ops Q fuel listed a w := by
  obtain ⟨hds, _, hall⟩ := relB_spec chk
  have hac : ∀ i o, ops[i]? = some o → ∀ e ∈ o.after, Region.binds md e = true → e.on < i := fun i o ho => (hall i o ho).1
  -- the end
  have fin : ∀ listed a w, RelInvI md ops done a0 C R F I listed a w → Region.ready md ops listed = [] → Q .normal a w := by
    intro listed a w hI hr
    have hl := ready_nil hI.lsz hac hr
    have hrest : ∀ p ∈ restOf ops done, done.getD p.1 true = false ∧ (ops[p.1]?).bind (·.dst) = some p.2 := by
      intro p hp
      obtain ⟨j, hj, hq⟩ := List.mem_filterMap.1 hp
      cases hd : done.getD j true with
      | true => simp [hd] at hq
      | false =>
        simp only [hd, Bool.false_eq_true, if_false, Option.map_eq_some_iff] at hq
        obtain ⟨d, hd', rfl⟩ := hq
        exact ⟨hd, hd'⟩
    have := hf w hI.cls (fun s => a.tmps.getD s undef) (fun p hp => hI.new p.1 p.2 (hrest p hp).2 (hl _) (hrest p hp).1) (fun j hj hd => hI.eff j hj (hl j) hd) ⟨listed, hl, hI.lsz, hI.inv⟩
    have ea : putAll a0 (restOf ops done) (fun s => a.tmps.getD s undef) = a := by
      have e1 := putAll_defers a0 (restOf ops done) (fun s => a.tmps.getD s undef)
      have e2 := putAll_size a0 (restOf ops done) (fun s => a.tmps.getD s undef)
      have e3 : (putAll a0 (restOf ops done) (fun s => a.tmps.getD s undef)).tmps = a.tmps := by
        apply Array.ext_getElem?
        intro s
        by_cases hin : ∃ p ∈ restOf ops done, p.2 = s
        · obtain ⟨p, hp, rfl⟩ := hin
          obtain ⟨h1, h2⟩ := hrest p hp
          obtain ⟨o, ho, hd⟩ := Option.bind_eq_some_iff.1 h2
          have hlt := (((hall p.1 o ho).2 h1).2.1 p.2 hd).1
          rw [putAll_at _ _ _ _ hlt ⟨p, hp, rfl⟩, Array.getD_eq_getD_getElem?, Array.getElem?_eq_getElem (by rw [hI.siz]; exact hlt)]
          rfl
        · rw [putAll_ne _ _ _ _ (fun p hp e => hin ⟨p, hp, e⟩)]
          symm
          apply hI.old
          intro j hj _
          cases hd : done.getD j true with
          | true => rfl
          | false =>
            exfalso
            apply hin
            obtain ⟨o, ho, hd'⟩ := Option.bind_eq_some_iff.1 hj
            have hjlt : j < ops.size := by
              rcases Nat.lt_or_ge j ops.size with h | h
              · exact h
              · rw [Array.getElem?_eq_none h] at ho; cases ho
            exact ⟨(j, s), List.mem_filterMap.2 ⟨j, List.mem_range.2 hjlt, by simp [hd, hj]⟩, rfl⟩
      generalize putAll a0 (restOf ops done) (fun s => a.tmps.getD s undef) = q at *
      cases q; cases a
      simp only at e1 e3
      subst e3
      rw [e1, ← hI.dfs]
    rw [ea] at this
    exact this
  intro fuel
  induction fuel with
  | zero =>
    intro listed a w hI hc
    have hr : Region.ready md ops listed = [] := by
      cases hq : Region.ready md ops listed with
      | nil => rfl
      | cons i rs =>
        exfalso
        obtain ⟨o, ho, hl, _⟩ := mem_ready (md := md) (ops := ops) (listed := listed) (i := i) (by rw [hq]; exact List.mem_cons_self)
        have hi : i < ops.size := by
          rcases Nat.lt_or_ge i ops.size with h | h
          · exact h
          · rw [Array.getElem?_eq_none h] at ho; cases ho
        have := countP_set listed i ops.size hI.lsz hi hl
        omega
    exact ⟨hr, fin listed a w hI hr⟩
  | succ fuel ih =>
    intro listed a w hI hc
    refine ⟨fin listed a w hI, fun i hi => ?_⟩
    obtain ⟨o, ho, hl, hdeps⟩ := mem_ready hi
    have hilt : i < ops.size := by
      rcases Nat.lt_or_ge i ops.size with h | h
      · exact h
      · rw [Array.getElem?_eq_none h] at ho; cases ho
    have hdn : done.getD i true = false := by
      cases hd : done.getD i true with
      | false => rfl
      | true => rw [hI.sub i hd] at hl; cases hl
    obtain ⟨hsel, hdst, hlook⟩ := (hall i o ho).2 hdn
    have hdep : ∀ p ∈ depsOf md ops done o, done.getD p.1 true = false ∧ listed.getD p.1 true = true ∧ (ops[p.1]?).bind (·.dst) = some p.2 := by
      intro p hp
      obtain ⟨k, hk, hq⟩ := List.mem_filterMap.1 hp
      split at hq
      · rename_i hc
        simp only [Bool.and_eq_true, Bool.not_eq_true'] at hc
        obtain ⟨hany, hd⟩ := hc
        obtain ⟨e, he, hb⟩ := Array.any_eq_true'.1 hany
        simp only [Bool.and_eq_true, beq_iff_eq] at hb
        obtain ⟨hb, rfl⟩ := hb
        cases hz : (ops[e.on]?).bind (·.dst) with
        | none => simp [hz] at hq
        | some d =>
          simp only [hz] at hq
          split at hq
          · obtain rfl := Option.some.inj hq
            refine ⟨hd, ?_, hz⟩
            have hlt : e.on < listed.size := by rw [hI.lsz]; have := (hall i o ho).1 e he hb; omega
            rw [getD_bool listed e.on hlt true false]
            exact hdeps e he hb
          · cases hq
      · cases hq
    have hstep := hs i o ho hdn w hI.cls (fun s => a.tmps.getD s undef) (fun p hp => hI.new p.1 p.2 (hdep p hp).2.2 (hdep p hp).2.1 (hdep p hp).1)
    refine wpOp_of_step ho hsel (by rw [putAll_defers, hI.dfs]) (by rw [putAll_size, hI.siz]) (fun d hd => by rw [putAll_size]; exact (hdst d hd).1) ?_ hstep ?_
    · intro s hs'
      by_cases hin : ∃ p ∈ depsOf md ops done o, p.2 = s
      · obtain ⟨p, hp, rfl⟩ := hin
        obtain ⟨h1, h2, h3⟩ := hdep p hp
        obtain ⟨oj, hoj, hdj⟩ := Option.bind_eq_some_iff.1 h3
        have hlt := (((hall p.1 oj hoj).2 h1).2.1 p.2 hdj).1
        rw [putAll_at _ _ _ _ hlt ⟨p, hp, rfl⟩, Array.getD_eq_getD_getElem?, Array.getElem?_eq_getElem (by rw [hI.siz]; exact hlt)]
        rfl
      · rw [putAll_ne _ _ _ _ (fun p hp e => hin ⟨p, hp, e⟩)]
        apply hI.old
        intro j hj hjl
        cases hd : done.getD j true with
        | true => rfl
        | false =>
          exfalso
          rcases hlook s hs' with h | h
          · exact hin h
          · rcases h j hd hj with rfl | ⟨oj, hoj, e, he, hb, rfl⟩
            · rw [hl] at hjl; cases hjl
            · rcases hI.down j oj hoj hjl with h' | h'
              · rw [hd] at h'; cases h'
              · have := h' e he hb
                rw [getD_bool listed e.on (by rw [hI.lsz]; exact hilt) false true, hl] at this
                cases this
    · rintro v w' u ⟨hru, hcw, hg, hfi, hin⟩ huv
      refine ih _ _ _ ⟨by rw [upd_put a o.dst v u (fun e he => by rw [hI.siz]; exact (hdst e he).1) huv]; exact hin _ hI.inv hI.lsz hI.down hdeps hl, hcw, by rw [put_defers, hI.dfs], by rw [put_size, hI.siz], by simp [hI.lsz], ?_, ?_, ?_, ?_, ?_⟩ ?_
      · intro j hj
        rw [listed_set listed i j (by rw [hI.lsz]; exact hilt), hI.sub j hj]; rfl
      · intro j oj hoj hjl
        rw [listed_set listed i j (by rw [hI.lsz]; exact hilt)] at hjl
        have mono : ∀ k, listed.getD k false = true → (listed.setIfInBounds i true).getD k false = true := by
          intro k hk
          rw [Array.getD_eq_getD_getElem?, Array.getElem?_setIfInBounds]
          by_cases hik : i = k
          · subst hik; rw [if_pos rfl, if_pos (by rw [hI.lsz]; exact hilt)]; rfl
          · rw [if_neg hik, ← Array.getD_eq_getD_getElem?]; exact hk
        cases hjl' : listed.getD j true with
        | true =>
          rcases hI.down j oj hoj hjl' with h | h
          · exact .inl h
          · exact .inr fun e he hb => mono _ (h e he hb)
        | false =>
          rw [hjl', Bool.false_or, decide_eq_true_eq] at hjl
          subst hjl
          rw [ho] at hoj
          obtain rfl := Option.some.inj hoj
          exact .inr fun e he hb => mono _ (hdeps e he hb)
      · intro s hsj
        have hne : o.dst ≠ some s := by
          intro e
          have := hsj i (by rw [ho]; exact e) (by rw [listed_set listed i i (by rw [hI.lsz]; exact hilt)]; simp)
          rw [hdn] at this; cases this
        have e1 : (a.put o.dst v).tmps[s]? = a.tmps[s]? := by
          cases hq : o.dst with
          | none => rfl
          | some d => exact put_ne a d s v (fun e => hne (by rw [hq, e]))
        rw [e1]
        apply hI.old
        intro j hj hjl
        exact hsj j hj (by rw [listed_set listed i j (by rw [hI.lsz]; exact hilt), hjl]; rfl)
      · intro j d hjd hjl hjn
        rw [listed_set listed i j (by rw [hI.lsz]; exact hilt)] at hjl
        by_cases hji : j = i
        · subst hji
          rw [ho] at hjd
          have hjd : o.dst = some d := hjd
          have : (a.put o.dst v).tmps.getD d undef = v := by
            rw [hjd]
            exact getD_of_get? (put_at a d v (by rw [hI.siz]; exact (hdst d hjd).1))
          rw [this, ← huv (by rw [hjd]; rfl)]
          exact hru
        · have hjl' : listed.getD j true = true := by simpa [hji] using hjl
          have hne : o.dst ≠ some d := fun e => hji ((hdst d e).2 j hjn hjd)
          have e1 : (a.put o.dst v).tmps.getD d undef = a.tmps.getD d undef := by
            cases hq : o.dst with
            | none => rfl
            | some d' => rw [Array.getD_eq_getD_getElem?, Array.getD_eq_getD_getElem?, put_ne a d' d v (fun e => hne (by rw [hq, e]))]
          rw [e1]
          exact hR _ _ _ _ hI.cls hg (hI.new j d hjd hjl' hjn)
      · intro j hj hjl hjn
        rw [listed_set listed i j (by rw [hI.lsz]; exact hilt)] at hjl
        have hput : ∀ q d, listed.getD q true = true → done.getD q true = false → (ops[q]?).bind (·.dst) = some d → a.tmps.getD d undef = (a.put o.dst v).tmps.getD d undef := by
          intro q d hq hqd hqo
          cases hz : o.dst with
          | none => rfl
          | some d' =>
            have hne : d' ≠ d := by
              intro e
              subst e
              have := (hdst d' hz).2 q hqd hqo
              subst this
              rw [hl] at hq; cases hq
            rw [Array.getD_eq_getD_getElem?, Array.getD_eq_getD_getElem?, put_ne a d' d v hne]
        by_cases hji : j = i
        · subst hji
          refine hloc j o _ _ _ ho hdn (fun p hp => ?_) hfi
          obtain ⟨h1, h2, h3⟩ := hdep p hp
          exact hput p.1 p.2 h2 h1 h3
        · have hjl' : listed.getD j true = true := by simpa [hji] using hjl
          obtain ⟨oj, hoj⟩ : ∃ oj, ops[j]? = some oj := ⟨ops[j]'hj, Array.getElem?_eq_getElem _⟩
          refine hloc j oj _ _ _ hoj hjn (fun p hp => ?_) (hF _ _ _ _ hI.cls hg (hI.eff j hj hjl' hjn))
          obtain ⟨k, hk, hq⟩ := List.mem_filterMap.1 hp
          split at hq
          · rename_i hc
            simp only [Bool.and_eq_true, Bool.not_eq_true'] at hc
            obtain ⟨hany, hd⟩ := hc
            obtain ⟨e, he, hb⟩ := Array.any_eq_true'.1 hany
            simp only [Bool.and_eq_true, beq_iff_eq] at hb
            obtain ⟨hb, rfl⟩ := hb
            cases hz : (ops[e.on]?).bind (·.dst) with
            | none => simp [hz] at hq
            | some d =>
              simp only [hz] at hq
              split at hq
              · obtain rfl := Option.some.inj hq
                refine hput e.on d ?_ hd hz
                have hlt : e.on < listed.size := by
                  rw [hI.lsz]
                  have := (hall j oj hoj).1 e he hb
                  omega
                rcases hI.down j oj hoj hjl' with h' | h'
                · rw [h'] at hjn; cases hjn
                · rw [getD_bool listed e.on hlt true false]
                  exact h' e he hb
              · cases hq
          · cases hq
      · have := countP_set listed i ops.size hI.lsz hilt hl
        omega


/-- What one operation owes. -/
def StepI (P : Program) (ops : Array Oper) (a0 : Act) (C : World → Prop) (G : World → World → Prop) (F : Nat → (Nat → Value) → World → Prop) (I : Array Bool → (Nat → Value) → World → Prop) (R : List (Value → World → Prop)) (i : Nat) : Prop :=
  ∀ o, ops[i]? = some o → ∀ w, C w → ∀ x : Nat → Value, (∀ p ∈ depsOf .any ops (Array.replicate ops.size false) o, (R.getD p.1 (fun _ _ => True)) (x p.2) w) →
    RelStep P ops o (putAll a0 (depsOf .any ops (Array.replicate ops.size false) o) x) w (fun v w' => (R.getD i (fun _ _ => True)) v w' ∧ C w' ∧ G w w' ∧ F i x w' ∧ ∀ l, I l x w → l.size = ops.size → (∀ j o', ops[j]? = some o' → l.getD j true = true → (Array.replicate ops.size false).getD j true = true ∨ ∀ e ∈ o'.after, Region.binds .any e = true → l.getD e.on false = true) → (∀ e ∈ o.after, Region.binds .any e = true → l.getD e.on false = true) → l.getD i true = false → I (l.setIfInBounds i true) (upd x o.dst v) w')

section
variable {R : List (Value → World → Prop)} {i : Nat} {o : Oper}
theorem stepI0 (ho : ops[i]? = some o) (hd : depsOf .any ops (Array.replicate ops.size false) o = [])
    (h : ∀ w, C w → ∀ x, RelStep P ops o a0 w (fun v w' => (R.getD i (fun _ _ => True)) v w' ∧ C w' ∧ G w w' ∧ F i x w' ∧ ∀ l, I l x w → l.size = ops.size → (∀ j o', ops[j]? = some o' → l.getD j true = true → (Array.replicate ops.size false).getD j true = true ∨ ∀ e ∈ o'.after, Region.binds .any e = true → l.getD e.on false = true) → (∀ e ∈ o.after, Region.binds .any e = true → l.getD e.on false = true) → l.getD i true = false → I (l.setIfInBounds i true) (upd x o.dst v) w')) : StepI P ops a0 C G F I R i := by
  intro o' ho' w hC x hx
  obtain rfl := Option.some.inj (ho.symm.trans ho')
  rw [hd] at hx ⊢
  exact h w hC x
theorem stepI1 (j d : Nat) (ho : ops[i]? = some o) (hd : depsOf .any ops (Array.replicate ops.size false) o = [(j, d)])
    (h : ∀ w, C w → ∀ x v1, v1 = x d → (R.getD j (fun _ _ => True)) v1 w → RelStep P ops o (a0.put (some d) v1) w (fun v w' => (R.getD i (fun _ _ => True)) v w' ∧ C w' ∧ G w w' ∧ F i x w' ∧ ∀ l, I l x w → l.size = ops.size → (∀ j o', ops[j]? = some o' → l.getD j true = true → (Array.replicate ops.size false).getD j true = true ∨ ∀ e ∈ o'.after, Region.binds .any e = true → l.getD e.on false = true) → (∀ e ∈ o.after, Region.binds .any e = true → l.getD e.on false = true) → l.getD i true = false → I (l.setIfInBounds i true) (upd x o.dst v) w')) : StepI P ops a0 C G F I R i := by
  intro o' ho' w hC x hx
  obtain rfl := Option.some.inj (ho.symm.trans ho')
  rw [hd] at hx ⊢
  exact h w hC x (x d) rfl (hx _ List.mem_cons_self)
theorem stepI2 (j d j' d' : Nat) (ho : ops[i]? = some o) (hd : depsOf .any ops (Array.replicate ops.size false) o = [(j, d), (j', d')])
    (h : ∀ w, C w → ∀ x v1 v2, v1 = x d → v2 = x d' → (R.getD j (fun _ _ => True)) v1 w → (R.getD j' (fun _ _ => True)) v2 w → RelStep P ops o ((a0.put (some d) v1).put (some d') v2) w (fun v w' => (R.getD i (fun _ _ => True)) v w' ∧ C w' ∧ G w w' ∧ F i x w' ∧ ∀ l, I l x w → l.size = ops.size → (∀ j o', ops[j]? = some o' → l.getD j true = true → (Array.replicate ops.size false).getD j true = true ∨ ∀ e ∈ o'.after, Region.binds .any e = true → l.getD e.on false = true) → (∀ e ∈ o.after, Region.binds .any e = true → l.getD e.on false = true) → l.getD i true = false → I (l.setIfInBounds i true) (upd x o.dst v) w')) : StepI P ops a0 C G F I R i := by
  intro o' ho' w hC x hx
  obtain rfl := Option.some.inj (ho.symm.trans ho')
  rw [hd] at hx ⊢
  exact h w hC x (x d) (x d') rfl rfl (hx _ List.mem_cons_self) (hx _ (List.mem_cons_of_mem _ List.mem_cons_self))

def StepsI (P : Program) (ops : Array Oper) (a0 : Act) (C : World → Prop) (G : World → World → Prop) (F : Nat → (Nat → Value) → World → Prop) (I : Array Bool → (Nat → Value) → World → Prop) (R : List (Value → World → Prop)) (n : Nat) : Prop := ∀ i, i < n → StepI P ops a0 C G F I R i
theorem stepsI_zero : StepsI P ops a0 C G F I R 0 := fun i hi => by omega
theorem stepsI_succ {n : Nat} (h : StepI P ops a0 C G F I R n) (t : StepsI P ops a0 C G F I R n) : StepsI P ops a0 C G F I R (n + 1) := fun i hi => by
  by_cases e : i = n
  · subst e; exact h
  · exact t i (by omega)
end

/-- The law. -/
theorem wp_region_inv {P : Program} {ops : Array Oper} {Q : Exit → Act → World → Prop} {a0 : Act} {id : Nat} {w : World} (R : List (Value → World → Prop)) (C : World → Prop) (G : World → World → Prop) (F : Nat → (Nat → Value) → World → Prop) (I : Array Bool → (Nat → Value) → World → Prop) (rest : List (Nat × Nat)) (n : Nat) (hm : P.follows .mixedOrders = true) (hn : ops.size = n)
    (chk : relB .any ops (Array.replicate ops.size false) a0.tmps.size ops.size = true) (hr : restOf ops (Array.replicate ops.size false) = rest) (hC : C w.drew) (hI : I (Array.replicate ops.size false) (fun s => a0.tmps.getD s undef) w.drew)
    (hR : ∀ i v w w', C w → G w w' → (R.getD i (fun _ _ => True)) v w → (R.getD i (fun _ _ => True)) v w') (hF : ∀ i x w w', C w → G w w' → F i x w → F i x w')
    (hloc : ∀ j o x y w, ops[j]? = some o → (∀ p ∈ depsOf .any ops (Array.replicate ops.size false) o, x p.2 = y p.2) → F j x w → F j y w)
    (hs : StepsI P ops a0 C G F I R n)
    (hf : ∀ w', C w' → ∀ x : Nat → Value, (∀ p ∈ rest, (R.getD p.1 (fun _ _ => True)) (x p.2) w') → (∀ j, j < n → F j x w') → (∃ l, (∀ j, l.getD j true = true) ∧ l.size = n ∧ I l x w') → Q .normal (putAll a0 rest x) w') : (Code.region id ops true).wp P Q a0 w := by
  refine wp_region_any hm ?_
  obtain ⟨h1, h2, _⟩ := relB_spec chk
  refine wpAny_relI_go (md := .any) (C := C) (G := G) (R := fun i v w => (R.getD i (fun _ _ => True)) v w) (F := F) (I := I) ops.size chk hR hF (fun j o x y w ho _ => hloc j o x y w ho) ?_ ?_ ops.size _ a0 _ ⟨hI, hC, rfl, rfl, h1, fun _ h => h, fun j o ho hj => .inl hj, fun _ _ => rfl, fun j d hj hl hd => ?_, fun j _ hl hd => ?_⟩ h2
  · intro i o ho _ w hC x hx
    refine hs i ?_ o ho w hC x hx
    rw [← hn]
    rcases Nat.lt_or_ge i ops.size with h | h
    · exact h
    · rw [Array.getElem?_eq_none h] at ho; cases ho
  · intro w' hC x hx hf' hl
    rw [hr] at hx ⊢
    rw [hn] at hl
    refine hf w' hC x hx (fun j hj => hf' j (by omega) ?_) hl
    rw [Array.getD_eq_getD_getElem?, Array.getElem?_eq_getElem (by simp; omega)]
    simp
  · rw [hl] at hd; cases hd
  · rw [hl] at hd; cases hd

/-- What is done ahead of what. -/
theorem down_of {ops : Array Oper} {l : Array Bool} (hd : ∀ j o', ops[j]? = some o' → l.getD j true = true → (Array.replicate ops.size false).getD j true = true ∨ ∀ e ∈ o'.after, Region.binds .any e = true → l.getD e.on false = true) (i j : Nat)
    (hij : ((ops[i]?).map fun o => o.after.any fun e => Region.binds .any e && e.on == j) = some true) (h : l.getD i true = true) : l.getD j false = true := by
  cases ho : ops[i]? with
  | none => rw [ho] at hij; cases hij
  | some o =>
    rw [ho] at hij
    simp only [Option.map_some, Option.some.injEq] at hij
    have hi : i < ops.size := (Array.getElem?_eq_some_iff.1 ho).1
    obtain ⟨e, he, hb⟩ := Array.any_eq_true'.1 hij
    simp only [Bool.and_eq_true, beq_iff_eq] at hb
    rcases hd i o ho h with h' | h'
    · rw [Array.getD_eq_getD_getElem?, Array.getElem?_eq_getElem (by simpa using hi)] at h'
      simp at h'
    · rw [← hb.2]
      exact h' e he hb.1
theorem deps_of {o : Oper} {l : Array Bool} (hd : ∀ e ∈ o.after, Region.binds .any e = true → l.getD e.on false = true) (j : Nat) (hij : (o.after.any fun e => Region.binds .any e && e.on == j) = true) : l.getD j false = true := by
  obtain ⟨e, he, hb⟩ := Array.any_eq_true'.1 hij
  simp only [Bool.and_eq_true, beq_iff_eq] at hb
  rw [← hb.2]
  exact hd e he hb.1
theorem set_at (l : Array Bool) (i j : Nat) (hi : i < l.size) : (l.setIfInBounds i true).getD j false = (if j = i then true else l.getD j false) := by
  rw [Array.getD_eq_getD_getElem?, Array.getD_eq_getD_getElem?, Array.getElem?_setIfInBounds]
  by_cases h : j = i
  · subst h
    rw [if_pos rfl, if_pos rfl, if_pos hi]; rfl
  · rw [if_neg (fun e => h e.symm), if_neg h]

end Go.Proofs.Yteglnlhdgfpglaa
