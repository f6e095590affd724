/-
  A copy whose numbers are turned: it lies where it lay, and holds some system; what else is there stays. No condition.
-/
import Derived.Test.YtbhnehacgkhpbaaDoorCfW
import Derived.Test.YtbhnehacgkhpbaaDoorCfAv
namespace Go.Proofs.YtbhnehacgkhpbaaDoor
open Go Go.RowKit
set_option linter.unusedVariables false
set_option linter.unusedSimpArgs false

theorem cells_inj {y z : CfgV} (h : cfCells y = cfCells z) : y.tao = z.tao ∧ y.tasks.length = z.tasks.length ∧ y.lao = z.lao ∧ y.lines.length = z.lines.length ∧ y.sao = z.sao ∧ y.sems.length = z.sems.length := by
  unfold cfCells at h
  simp only [Array.mk.injEq, List.cons.injEq, Value.slice.injEq] at h
  obtain ⟨⟨a, b, -⟩, ⟨c, d, -⟩, -, ⟨e, f, -⟩, -⟩ := h
  exact ⟨a, b, c, d, e, f⟩
/-- The same place: the same cells, and rows nowhere else. -/
def Same2 (y z : CfgV) : Prop := cfCells y = cfCells z ∧ ∀ a, HasAddr y a → HasAddr z a
theorem Same2.refl (y : CfgV) : Same2 y y := ⟨rfl, fun _ h => h⟩
theorem Same2.trans {x y z : CfgV} (h : Same2 x y) (g : Same2 y z) : Same2 x z := ⟨h.1.trans g.1, fun a ha => g.2 a (h.2 a ha)⟩

theorem flat_congr {α β : Type} {l : List α} {f g : α → List β} (h : ∀ a ∈ l, f a = g a) : l.flatMap f = l.flatMap g := by
  induction l with
  | nil => rfl
  | cons a l ih => rw [List.flatMap_cons, List.flatMap_cons, h a List.mem_cons_self, ih (fun b hb => h b (List.mem_cons_of_mem _ hb))]
theorem set_mem {α : Type} {l : List α} {i : Nat} {x y : α} (h : y ∈ l.set i x) : y = x ∨ y ∈ l := by
  rcases List.mem_or_eq_of_mem_set h with h | h
  · exact .inr h
  · exact .inl h

/-- A task's level is turned. -/
theorem turn_level {w : World} {D : Nat} {y : CfgV} (h : OwnC w D y) {gT : Nat} (hg : y.tao = some ⟨gT, 0, none⟩) (i : Nat) (hi : i < y.tasks.length) (z : Int) :
    ∃ y', Same2 y' y ∧ OwnC (w.setCell ⟨gT, i * 6, none⟩ (.int .i64 z)) D y' := by
  have on : Only w (w.setCell ⟨gT, i * 6, none⟩ (.int .i64 z)) (fun k => k = gT) := Only.setCell w gT _ _ _ rfl
  have ht := h.ts
  rw [hg] at ht
  have kd : ∀ k, k = gT → Kind w k 39 := fun k e => by rw [e]; exact OwnR.kind ht (k := gT) rfl
  have hts := OwnR.set tsk6_len ht i hi 0 (by decide) (.int .i64 z) ⟨{ y.tasks[i].t with lv := z }, y.tasks[i].ao, y.tasks[i].cap⟩ rfl
  rw [Nat.add_zero] at hts
  refine ⟨{ y with tasks := y.tasks.set i ⟨{ y.tasks[i].t with lv := z }, y.tasks[i].ao, y.tasks[i].cap⟩ }, ⟨?_, fun a ha => ?_⟩, ⟨?_, fun e he => ?_, OwnR.keep h.ls on kd (by decide), fun e he => OwnR.keep (h.lc e he) on kd (by decide), OwnR.keep h.ss on kd (by decide), OwnR.keep h.qs on kd (by decide), OwnR.keep h.ms on kd (by decide)⟩⟩
  · simp only [cfCells, List.length_set]
  · rcases ha with h1 | h1 | h1 | h1 | h1 | ⟨e, he, h1⟩ | ⟨e, he, h1⟩
    · exact .inl h1
    · exact .inr (.inl h1)
    · exact .inr (.inr (.inl h1))
    · exact .inr (.inr (.inr (.inl h1)))
    · exact .inr (.inr (.inr (.inr (.inl h1))))
    · rcases set_mem he with rfl | he
      · exact .inr (.inr (.inr (.inr (.inr (.inl ⟨y.tasks[i], List.getElem_mem hi, h1⟩)))))
      · exact .inr (.inr (.inr (.inr (.inr (.inl ⟨e, he, h1⟩)))))
    · exact .inr (.inr (.inr (.inr (.inr (.inr ⟨e, he, h1⟩)))))
  · show OwnTR _ D (.slice y.tao (y.tasks.set i _).length y.tcap) _
    rw [List.length_set, hg]
    exact hts
  · rcases set_mem he with rfl | he
    · exact OwnR.keep (h.tc y.tasks[i] (List.getElem_mem hi)) on kd (by decide)
    · exact OwnR.keep (h.tc e he) on kd (by decide)

/-- A number of an instruction is turned, whoever's it is. -/
theorem turn_code {w : World} {D : Nat} {y : CfgV} (h : OwnC w D y) {b : Nat} (hb : Kind w b 41) (k d : Nat) (hd : d < 6) (u : Value) (hrep : ∀ x : Ins, ∃ z : Ins, in6 z = (in6 x).set d u) :
    ∃ y', Same2 y' y ∧ OwnC (w.setCell ⟨b, k * 6 + d, none⟩ u) D y' := by
  have on : Only w (w.setCell ⟨b, k * 6 + d, none⟩ u) (fun k => k = b) := Only.setCell w b _ _ _ rfl
  have kd : ∀ k, k = b → Kind w k 41 := fun k e => by rw [e]; exact hb
  have kt : ∀ e : TskV, ∃ c : List Ins, CodeT w D e → c.length = e.t.code.length ∧ OwnIR (w.setCell ⟨b, k * 6 + d, none⟩ u) D (.slice e.ao e.t.code.length e.cap) c := fun e => by
    by_cases hc : CodeT w D e
    · obtain ⟨c, h1, h2⟩ := OwnR.stored_any in6_len hc b k d u hd hrep
      exact ⟨c, fun _ => ⟨h1, h2⟩⟩
    · exact ⟨[], fun h => absurd h hc⟩
  have kl : ∀ e : LinV, ∃ c : List Ins, CodeL w D e → c.length = e.t.code.length ∧ OwnIR (w.setCell ⟨b, k * 6 + d, none⟩ u) D (.slice e.ao e.t.code.length e.cap) c := fun e => by
    by_cases hc : CodeL w D e
    · obtain ⟨c, h1, h2⟩ := OwnR.stored_any in6_len hc b k d u hd hrep
      exact ⟨c, fun _ => ⟨h1, h2⟩⟩
    · exact ⟨[], fun h => absurd h hc⟩
  obtain ⟨ft, hft⟩ := Classical.axiomOfChoice kt
  obtain ⟨fl, hfl⟩ := Classical.axiomOfChoice kl
  have et : y.tasks.flatMap tsk6 = (y.tasks.map (fun e => (⟨{ e.t with code := ft e }, e.ao, e.cap⟩ : TskV))).flatMap tsk6 := by
    rw [List.flatMap_map]
    apply flat_congr
    intro e he
    have := (hft e (h.tc e he)).1
    simp only [tsk6, this]
  have el : y.lines.flatMap lin2 = (y.lines.map (fun e => (⟨{ e.t with code := fl e }, e.ao, e.cap⟩ : LinV))).flatMap lin2 := by
    rw [List.flatMap_map]
    apply flat_congr
    intro e he
    have := (hfl e (h.lc e he)).1
    simp only [lin2, this]
  have hts := OwnR.keep h.ts on kd (by decide)
  have hls := OwnR.keep h.ls on kd (by decide)
  refine ⟨{ y with tasks := y.tasks.map (fun e => (⟨{ e.t with code := ft e }, e.ao, e.cap⟩ : TskV)), lines := y.lines.map (fun e => (⟨{ e.t with code := fl e }, e.ao, e.cap⟩ : LinV)) }, ⟨?_, fun a ha => ?_⟩, ⟨?_, fun e he => ?_, ?_, fun e he => ?_, OwnR.keep h.ss on kd (by decide), OwnR.keep h.qs on kd (by decide), OwnR.keep h.ms on kd (by decide)⟩⟩
  · simp only [cfCells, List.length_map]
  · rcases ha with h1 | h1 | h1 | h1 | h1 | ⟨e, he, h1⟩ | ⟨e, he, h1⟩
    · exact .inl h1
    · exact .inr (.inl h1)
    · exact .inr (.inr (.inl h1))
    · exact .inr (.inr (.inr (.inl h1)))
    · exact .inr (.inr (.inr (.inr (.inl h1))))
    · obtain ⟨e', he', rfl⟩ := List.mem_map.1 he
      exact .inr (.inr (.inr (.inr (.inr (.inl ⟨e', he', h1⟩)))))
    · obtain ⟨e', he', rfl⟩ := List.mem_map.1 he
      exact .inr (.inr (.inr (.inr (.inr (.inr ⟨e', he', h1⟩)))))
  · have : World.ownsRow _ D _ 6 _ _ (y.tasks.flatMap tsk6) := hts
    rw [et] at this
    unfold OwnTR OwnR
    simp only [List.length_map]
    exact this
  · obtain ⟨e', he', rfl⟩ := List.mem_map.1 he
    obtain ⟨q1, q2⟩ := hft e' (h.tc e' he')
    unfold CodeT
    simp only [q1]
    exact q2
  · have : World.ownsRow _ D _ 2 _ _ (y.lines.flatMap lin2) := hls
    rw [el] at this
    unfold OwnLR OwnR
    simp only [List.length_map]
    exact this
  · obtain ⟨e', he', rfl⟩ := List.mem_map.1 he
    obtain ⟨q1, q2⟩ := hfl e' (h.lc e' he')
    unfold CodeL
    simp only [q1]
    exact q2

/-- A semaphore's number is turned. -/
theorem turn_sem {w : World} {D : Nat} {y : CfgV} (h : OwnC w D y) {gS : Nat} (hg : y.sao = some ⟨gS, 0, none⟩) (j : Nat) (hj : j < y.sems.length) (z : Int) :
    ∃ y', Same2 y' y ∧ OwnC (w.setCell ⟨gS, j, none⟩ (.int .i64 z)) D y' := by
  have on : Only w (w.setCell ⟨gS, j, none⟩ (.int .i64 z)) (fun k => k = gS) := Only.setCell w gS _ _ _ rfl
  have hs := h.ss
  rw [hg] at hs
  have hss := OwnR.set num1_len hs j hj 0 (by decide) (.int .i64 z) z rfl
  rw [Nat.mul_one, Nat.add_zero] at hss
  -- the other rows of numbers: a store into the same block leaves as many
  have other : ∀ {ao : Option Addr} {m c : Nat} {l : List Int}, OwnZR w D (.slice ao m c) l → ∃ l', l'.length = l.length ∧ OwnZR (w.setCell ⟨gS, j, none⟩ (.int .i64 z)) D (.slice ao m c) l' := fun {ao m c l} ho => by
    have := OwnR.stored_any num1_len ho gS j 0 (.int .i64 z) (by decide) (fun _ => ⟨z, rfl⟩)
    rw [Nat.mul_one, Nat.add_zero] at this
    exact this
  obtain ⟨lq, q1, q2⟩ := other h.qs
  obtain ⟨lm, m1, m2⟩ := other h.ms
  have kd : ∀ k, k = gS → Kind w k 3 := fun k e => by rw [e]; exact OwnR.kind hs (k := gS) rfl
  refine ⟨{ y with sems := y.sems.set j z, queues := lq, timers := lm }, ⟨?_, fun a ha => ha⟩, ⟨OwnR.keep h.ts on kd (by decide), fun e he => OwnR.keep (h.tc e he) on kd (by decide), OwnR.keep h.ls on kd (by decide), fun e he => OwnR.keep (h.lc e he) on kd (by decide), ?_, ?_, ?_⟩⟩
  · simp only [cfCells, List.length_set, q1, m1]
  · show OwnZR _ D (.slice y.sao (y.sems.set j z).length y.scap) _
    rw [List.length_set, hg]
    exact hss
  · show OwnZR _ D (.slice y.qao lq.length y.qcap) _
    rw [q1]; exact q2
  · show OwnZR _ D (.slice y.mao lm.length y.mcap) _
    rw [m1]; exact m2

/-- What stands while a copy is being turned. -/
structure MutS (w0 : World) (D g h : Nat) (y1 y2 : CfgV) (w : World) : Prop where
  cur : ∃ y, Same2 y y1 ∧ OwnC w D y
  oth : OwnC w D y2
  b1 : w.heap[g]? = some (cfO y1)
  b2 : w.heap[h]? = some (cfO y2)
  bel : Below w0.heap.size w0 w
theorem MutS.turn {w0 w : World} {D g h b off : Nat} {y1 y2 : CfgV} {u : Value} {ty : TypeId} (hm : MutS w0 D g h y1 y2 w) (hD : w0.heap.size ≤ D) (hap : Apart y1 y2) {a : Addr} (ha : HasAddr y1 a) (hab : a.block = b) (hDb : D ≤ b) (kb : Kind w b ty) (hty : ty ≠ 28)
    (ht : ∀ y, Same2 y y1 → OwnC w D y → ∃ y', Same2 y' y ∧ OwnC (w.setCell ⟨b, off, none⟩ u) D y') : MutS w0 D g h y1 y2 (w.setCell ⟨b, off, none⟩ u) := by
  have on : Only w (w.setCell ⟨b, off, none⟩ u) (fun k => k = b) := Only.setCell w b _ _ _ rfl
  obtain ⟨y, hy, ho⟩ := hm.cur
  obtain ⟨y', h1, h2⟩ := ht y hy ho
  have kg : g ≠ b := fun e => by rw [← e] at kb; exact hty (Kind.one kb (kind_of hm.b1))
  have kh : h ≠ b := fun e => by rw [← e] at kb; exact hty (Kind.one kb (kind_of hm.b2))
  refine ⟨⟨y', h1.trans hy, h2⟩, hm.oth.onlyA on (fun c hc e => hap a c ha hc (by rw [hab, e])), (heap_set_ne kg).trans hm.b1, (heap_set_ne kh).trans hm.b2, ?_⟩
  have hb := hm.bel
  exact ⟨hb.os, hb.tape, hb.output, by have := hb.size; simp; omega, fun k hk => (heap_set_ne (by omega)).trans (hb.block k hk)⟩

theorem MutS.level {w0 w : World} {D g h : Nat} {y1 y2 : CfgV} (hm : MutS w0 D g h y1 y2 w) (hD : w0.heap.size ≤ D) (hap : Apart y1 y2) (i : Nat) (hi : i < y1.tasks.length) :
    ∃ gT lv, y1.tao = some ⟨gT, 0, none⟩ ∧ w.cell? ⟨gT, i * 6, none⟩ = some (.int .i64 lv) ∧ w.frozen? ⟨gT, i * 6, none⟩ = false ∧ ∀ z, MutS w0 D g h y1 y2 (w.setCell ⟨gT, i * 6, none⟩ (.int .i64 z)) := by
  obtain ⟨y, hy, ho⟩ := hm.cur
  obtain ⟨e1, e2, -⟩ := cells_inj hy.1
  have hil : i < y.tasks.length := by omega
  obtain ⟨gT, hg⟩ := own_some ho.ts (by omega)
  have hg1 : y1.tao = some ⟨gT, 0, none⟩ := e1.symm.trans hg
  have ht := ho.ts
  rw [hg] at ht
  have kd := OwnR.kind ht (k := gT) rfl
  obtain ⟨cs, hcs⟩ := kd
  have hb := (ho.addr (a := ⟨gT, 0, none⟩) (.inl hg)).1
  obtain ⟨b, o, h1, h2, h3⟩ := (OwnR.seen' tsk6_len ht).at i hil
  cases h1
  have c0 := h3 0 (by decide)
  rw [Nat.zero_add, Nat.add_zero] at c0
  refine ⟨gT, y.tasks[i].t.lv, hg1, c0, frozen_row hcs _, fun z => hm.turn hD hap (a := ⟨gT, 0, none⟩) (.inl hg1) rfl hb ⟨cs, hcs⟩ (by decide) (fun v hv hov => ?_)⟩
  obtain ⟨f1, f2, -⟩ := cells_inj hv.1
  exact turn_level hov (f1.trans hg1) i (by omega) z
theorem MutS.tcode {w0 w : World} {D g h : Nat} {y1 y2 : CfgV} (hm : MutS w0 D g h y1 y2 w) (hD : w0.heap.size ≤ D) (hap : Apart y1 y2) (i : Nat) (hi : i < y1.tasks.length) :
    ∃ gT ao len cap, y1.tao = some ⟨gT, 0, none⟩ ∧ w.cell? ⟨gT, i * 6 + 5, none⟩ = some (.slice ao len cap) ∧ len ≤ 9223372036854775807 ∧ ∀ k, k < len → ∃ gC op, ao = some ⟨gC, 0, none⟩ ∧ w.cell? ⟨gC, k * 6, none⟩ = some (.int .i64 op) ∧ w.frozen? ⟨gC, k * 6, none⟩ = false ∧ ∀ z, MutS w0 D g h y1 y2 (w.setCell ⟨gC, k * 6, none⟩ (.int .i64 z)) := by
  obtain ⟨y, hy, ho⟩ := hm.cur
  obtain ⟨e1, e2, -⟩ := cells_inj hy.1
  have hil : i < y.tasks.length := by omega
  obtain ⟨gT, hg⟩ := own_some ho.ts (by omega)
  have hg1 : y1.tao = some ⟨gT, 0, none⟩ := e1.symm.trans hg
  have ht := ho.ts
  rw [hg] at ht
  obtain ⟨b, o, h1, h2, h3⟩ := (OwnR.seen' tsk6_len ht).at i hil
  cases h1
  have c5 := h3 5 (by decide)
  rw [Nat.zero_add] at c5
  have hmem := List.getElem_mem hil
  have hc := ho.tc y.tasks[i] hmem
  have hmx := (OwnR.seenI hc).1.mx
  unfold maxLen at hmx
  refine ⟨gT, y.tasks[i].ao, y.tasks[i].t.code.length, y.tasks[i].cap, hg1, c5, by omega, fun k hk => ?_⟩
  have hc' : OwnIR w D (.slice y.tasks[i].ao y.tasks[i].t.code.length y.tasks[i].cap) y.tasks[i].t.code := hc
  obtain ⟨gC, hgC⟩ := own_some hc' (by omega)
  rw [hgC] at hc'
  obtain ⟨b, o, h1, h2, h3⟩ := (OwnR.seen' in6_len hc').at k hk
  cases h1
  have c0 := h3 0 (by decide)
  rw [Nat.zero_add, Nat.add_zero] at c0
  obtain ⟨cs, hcs⟩ := OwnR.kind hc' (k := gC) rfl
  have hya : HasAddr y ⟨gC, 0, none⟩ := .inr (.inr (.inr (.inr (.inr (.inl ⟨_, hmem, hgC⟩)))))
  have hb := (ho.addr hya).1
  refine ⟨gC, y.tasks[i].t.code[k].op, hgC, c0, frozen_row hcs _, fun z => hm.turn hD hap (hy.2 _ hya) rfl hb ⟨cs, hcs⟩ (by decide) (fun v hv hov => ?_)⟩
  have := turn_code hov (b := gC) ⟨cs, hcs⟩ k 0 (by decide) (.int .i64 z) (fun x => ⟨{ x with op := z }, rfl⟩)
  rw [Nat.add_zero] at this
  exact this
theorem MutS.lcode {w0 w : World} {D g h : Nat} {y1 y2 : CfgV} (hm : MutS w0 D g h y1 y2 w) (hD : w0.heap.size ≤ D) (hap : Apart y1 y2) (i : Nat) (hi : i < y1.lines.length) :
    ∃ gT ao len cap, y1.lao = some ⟨gT, 0, none⟩ ∧ w.cell? ⟨gT, i * 2 + 1, none⟩ = some (.slice ao len cap) ∧ len ≤ 9223372036854775807 ∧ ∀ k, k < len → ∃ gC op, ao = some ⟨gC, 0, none⟩ ∧ w.cell? ⟨gC, k * 6 + 1, none⟩ = some (.int .i64 op) ∧ w.frozen? ⟨gC, k * 6 + 1, none⟩ = false ∧ ∀ z, MutS w0 D g h y1 y2 (w.setCell ⟨gC, k * 6 + 1, none⟩ (.int .i64 z)) := by
  obtain ⟨y, hy, ho⟩ := hm.cur
  obtain ⟨-, -, e1, e2, -⟩ := cells_inj hy.1
  have hil : i < y.lines.length := by omega
  obtain ⟨gT, hg⟩ := own_some ho.ls (by omega)
  have hg1 : y1.lao = some ⟨gT, 0, none⟩ := e1.symm.trans hg
  have ht := ho.ls
  rw [hg] at ht
  obtain ⟨b, o, h1, h2, h3⟩ := (OwnR.seen' lin2_len ht).at i hil
  cases h1
  have c5 := h3 1 (by decide)
  rw [Nat.zero_add] at c5
  have hmem := List.getElem_mem hil
  have hc := ho.lc y.lines[i] hmem
  have hmx := (OwnR.seenI hc).1.mx
  unfold maxLen at hmx
  refine ⟨gT, y.lines[i].ao, y.lines[i].t.code.length, y.lines[i].cap, hg1, c5, by omega, fun k hk => ?_⟩
  have hc' : OwnIR w D (.slice y.lines[i].ao y.lines[i].t.code.length y.lines[i].cap) y.lines[i].t.code := hc
  obtain ⟨gC, hgC⟩ := own_some hc' (by omega)
  rw [hgC] at hc'
  obtain ⟨b, o, h1, h2, h3⟩ := (OwnR.seen' in6_len hc').at k hk
  cases h1
  have c0 := h3 1 (by decide)
  rw [Nat.zero_add] at c0
  obtain ⟨cs, hcs⟩ := OwnR.kind hc' (k := gC) rfl
  have hya : HasAddr y ⟨gC, 0, none⟩ := .inr (.inr (.inr (.inr (.inr (.inr ⟨_, hmem, hgC⟩)))))
  have hb := (ho.addr hya).1
  exact ⟨gC, y.lines[i].t.code[k].a, hgC, c0, frozen_row hcs _, fun z => hm.turn hD hap (hy.2 _ hya) rfl hb ⟨cs, hcs⟩ (by decide) (fun v hv hov => turn_code hov (b := gC) ⟨cs, hcs⟩ k 1 (by decide) (.int .i64 z) (fun x => ⟨{ x with a := z }, rfl⟩))⟩
theorem MutS.sem {w0 w : World} {D g h : Nat} {y1 y2 : CfgV} (hm : MutS w0 D g h y1 y2 w) (hD : w0.heap.size ≤ D) (hap : Apart y1 y2) (j : Nat) (hj : j < y1.sems.length) :
    ∃ gS n, y1.sao = some ⟨gS, 0, none⟩ ∧ w.cell? ⟨gS, j, none⟩ = some (.int .i64 n) ∧ w.frozen? ⟨gS, j, none⟩ = false ∧ ∀ z, MutS w0 D g h y1 y2 (w.setCell ⟨gS, j, none⟩ (.int .i64 z)) := by
  obtain ⟨y, hy, ho⟩ := hm.cur
  obtain ⟨-, -, -, -, e1, e2⟩ := cells_inj hy.1
  have hil : j < y.sems.length := by omega
  obtain ⟨gS, hg⟩ := own_some ho.ss (by omega)
  have hg1 : y1.sao = some ⟨gS, 0, none⟩ := e1.symm.trans hg
  have ht := ho.ss
  rw [hg] at ht
  obtain ⟨cs, hcs⟩ := OwnR.kind ht (k := gS) rfl
  have hb := (ho.addr (a := ⟨gS, 0, none⟩) (.inr (.inr (.inl hg)))).1
  obtain ⟨b, o, h1, h2, c0⟩ := seenZ_at (OwnR.seen' num1_len ht) j hil
  cases h1
  rw [Nat.zero_add] at c0
  refine ⟨gS, y.sems[j], hg1, c0, frozen_row hcs _, fun z => hm.turn hD hap (a := ⟨gS, 0, none⟩) (.inr (.inr (.inl hg1))) rfl hb ⟨cs, hcs⟩ (by decide) (fun v hv hov => ?_)⟩
  obtain ⟨-, -, -, -, f1, f2⟩ := cells_inj hv.1
  exact turn_sem hov (f1.trans hg1) j (by omega) z

theorem MutS.below {w0 w w' : World} {D g h : Nat} {y1 y2 : CfgV} (hm : MutS w0 D g h y1 y2 w) (hb : Below w.heap.size w w') : MutS w0 D g h y1 y2 w' := by
  obtain ⟨y, hy, ho⟩ := hm.cur
  exact ⟨⟨y, hy, ho.below hb⟩, hm.oth.below hb, blk_on hb hm.b1, blk_on hb hm.b2, below_on hm.bel hb⟩

/-- What is known of a line's instruction where the condition holds. -/
def LnS (w0 : World) (D g h : Nat) (y1 y2 : CfgV) (w : World) (i k : Int) (b : Bool) : Prop :=
  b = true → ∃ (i' k' gT gC len cap : Nat) (a : Int), i = i' ∧ k = k' ∧ i' < y1.lines.length ∧ y1.lao = some ⟨gT, 0, none⟩ ∧ w.cell? ⟨gT, i' * 2 + 1, none⟩ = some (.slice (some ⟨gC, 0, none⟩) len cap) ∧ len ≤ 9223372036854775807 ∧ k' < len ∧
    w.cell? ⟨gC, k' * 6 + 1, none⟩ = some (.int .i64 a) ∧ w.frozen? ⟨gC, k' * 6 + 1, none⟩ = false ∧ ∀ z, MutS w0 D g h y1 y2 (w.setCell ⟨gC, k' * 6 + 1, none⟩ (.int .i64 z))
theorem LnS.no {w0 w : World} {D g h : Nat} {y1 y2 : CfgV} {i k : Int} : LnS w0 D g h y1 y2 w i k false := fun e => by cases e
theorem LnS.yes {w0 w : World} {D g h : Nat} {y1 y2 : CfgV} {i k : Int} {gT len cap : Nat} {ao : Option Addr} (i' k' : Nat) (hi : i = i') (hk : k = k') (h1 : i' < y1.lines.length) (hg : y1.lao = some ⟨gT, 0, none⟩) (hc : w.cell? ⟨gT, i' * 2 + 1, none⟩ = some (.slice ao len cap)) (hl : len ≤ 9223372036854775807) (hk1 : k' < len)
    (hx : ∃ gC op, ao = some ⟨gC, 0, none⟩ ∧ w.cell? ⟨gC, k' * 6 + 1, none⟩ = some (.int .i64 op) ∧ w.frozen? ⟨gC, k' * 6 + 1, none⟩ = false ∧ ∀ z, MutS w0 D g h y1 y2 (w.setCell ⟨gC, k' * 6 + 1, none⟩ (.int .i64 z))) : LnS w0 D g h y1 y2 w i k true := by
  obtain ⟨gC, op, rfl, h2, h3, h4⟩ := hx
  exact fun _ => ⟨i', k', gT, gC, len, cap, op, hi, hk, h1, hg, hc, hl, hk1, h2, h3, h4⟩

end Go.Proofs.YtbhnehacgkhpbaaDoor
