/-
  Systems whose fields are turned, as they lie: parts made right, a task or a line less. No condition.
-/
import Derived.Test.YtbhnehacgkhpbaaDoorCfE
import Derived.Test.YtbhnehacgkhpbaaDoorCf3
namespace Go.Proofs.YtbhnehacgkhpbaaDoor
open Go Go.RowKit
set_option linter.unusedVariables false
set_option linter.unusedSimpArgs false

def td9 (p : Int) (y : CfgV) : CfgV := if p < 9 then { y with charge := 0 } else y
def td8 (p : Int) (y : CfgV) : CfgV := if p < 8 then { td9 p y with mask := 0 } else td9 p y
def td7 (p : Int) (y : CfgV) : CfgV := if p < 7 then { td8 p y with table := 0 } else td8 p y
def td6 (p : Int) (y : CfgV) : CfgV := if p < 6 then { td7 p y with mao := none, mcap := 0, timers := [] } else td7 p y
def td5 (p : Int) (y : CfgV) : CfgV := if p < 5 then { td6 p y with qao := none, qcap := 0, queues := [] } else td6 p y
def td4 (p : Int) (y : CfgV) : CfgV := if p < 4 then { td5 p y with sao := none, scap := 0, sems := [] } else td5 p y
def td3 (p : Int) (y : CfgV) : CfgV := if p < 3 then { td4 p y with mtx := 0 } else td4 p y
def td2 (p : Int) (y : CfgV) : CfgV := if p < 2 then { td3 p y with lao := none, lcap := 0, lines := [] } else td3 p y

theorem seen_fields {w : World} {y z : CfgV} (h : SeenC w y) (h1 : z.tao = y.tao ∧ z.tcap = y.tcap ∧ z.tasks = y.tasks) (h2 : (z.lao = y.lao ∧ z.lcap = y.lcap ∧ z.lines = y.lines) ∨ (z.lao = none ∧ z.lcap = 0 ∧ z.lines = []))
    (h3 : (z.sao = y.sao ∧ z.scap = y.scap ∧ z.sems = y.sems) ∨ (z.sao = none ∧ z.scap = 0 ∧ z.sems = [])) (h4 : (z.qao = y.qao ∧ z.qcap = y.qcap ∧ z.queues = y.queues) ∨ (z.qao = none ∧ z.qcap = 0 ∧ z.queues = []))
    (h5 : (z.mao = y.mao ∧ z.mcap = y.mcap ∧ z.timers = y.timers) ∨ (z.mao = none ∧ z.mcap = 0 ∧ z.timers = [])) : SeenC w z := by
  refine ⟨?_, ?_, ?_, ?_, ?_⟩
  · rw [h1.1, h1.2.1, h1.2.2]; exact h.ts
  · rcases h2 with h2 | h2 <;> rw [h2.1, h2.2.1, h2.2.2]
    · exact h.ls
    · exact ⟨seenR_nil, fun x hx => by cases hx⟩
  · rcases h3 with h2 | h2 <;> rw [h2.1, h2.2.1, h2.2.2]
    · exact h.ss
    · exact seenR_nil
  · rcases h4 with h2 | h2 <;> rw [h2.1, h2.2.1, h2.2.2]
    · exact h.qs
    · exact seenR_nil
  · rcases h5 with h2 | h2 <;> rw [h2.1, h2.2.1, h2.2.2]
    · exact h.ms
    · exact seenR_nil
theorem td9_seen {w : World} {y : CfgV} (p : Int) (h : SeenC w y) : SeenC w (td9 p y) := by
  unfold td9; split
  · exact seen_fields h ⟨rfl, rfl, rfl⟩ (.inl ⟨rfl, rfl, rfl⟩) (.inl ⟨rfl, rfl, rfl⟩) (.inl ⟨rfl, rfl, rfl⟩) (.inl ⟨rfl, rfl, rfl⟩)
  · exact h
theorem td8_seen {w : World} {y : CfgV} (p : Int) (h : SeenC w y) : SeenC w (td8 p y) := by
  unfold td8; split
  · exact seen_fields (td9_seen p h) ⟨rfl, rfl, rfl⟩ (.inl ⟨rfl, rfl, rfl⟩) (.inl ⟨rfl, rfl, rfl⟩) (.inl ⟨rfl, rfl, rfl⟩) (.inl ⟨rfl, rfl, rfl⟩)
  · exact td9_seen p h
theorem td7_seen {w : World} {y : CfgV} (p : Int) (h : SeenC w y) : SeenC w (td7 p y) := by
  unfold td7; split
  · exact seen_fields (td8_seen p h) ⟨rfl, rfl, rfl⟩ (.inl ⟨rfl, rfl, rfl⟩) (.inl ⟨rfl, rfl, rfl⟩) (.inl ⟨rfl, rfl, rfl⟩) (.inl ⟨rfl, rfl, rfl⟩)
  · exact td8_seen p h
theorem td6_seen {w : World} {y : CfgV} (p : Int) (h : SeenC w y) : SeenC w (td6 p y) := by
  unfold td6; split
  · exact seen_fields (td7_seen p h) ⟨rfl, rfl, rfl⟩ (.inl ⟨rfl, rfl, rfl⟩) (.inl ⟨rfl, rfl, rfl⟩) (.inl ⟨rfl, rfl, rfl⟩) (.inr ⟨rfl, rfl, rfl⟩)
  · exact td7_seen p h
theorem td5_seen {w : World} {y : CfgV} (p : Int) (h : SeenC w y) : SeenC w (td5 p y) := by
  unfold td5; split
  · exact seen_fields (td6_seen p h) ⟨rfl, rfl, rfl⟩ (.inl ⟨rfl, rfl, rfl⟩) (.inl ⟨rfl, rfl, rfl⟩) (.inr ⟨rfl, rfl, rfl⟩) (.inl ⟨rfl, rfl, rfl⟩)
  · exact td6_seen p h
theorem td4_seen {w : World} {y : CfgV} (p : Int) (h : SeenC w y) : SeenC w (td4 p y) := by
  unfold td4; split
  · exact seen_fields (td5_seen p h) ⟨rfl, rfl, rfl⟩ (.inl ⟨rfl, rfl, rfl⟩) (.inr ⟨rfl, rfl, rfl⟩) (.inl ⟨rfl, rfl, rfl⟩) (.inl ⟨rfl, rfl, rfl⟩)
  · exact td5_seen p h
theorem td3_seen {w : World} {y : CfgV} (p : Int) (h : SeenC w y) : SeenC w (td3 p y) := by
  unfold td3; split
  · exact seen_fields (td4_seen p h) ⟨rfl, rfl, rfl⟩ (.inl ⟨rfl, rfl, rfl⟩) (.inl ⟨rfl, rfl, rfl⟩) (.inl ⟨rfl, rfl, rfl⟩) (.inl ⟨rfl, rfl, rfl⟩)
  · exact td4_seen p h
theorem td2_seen {w : World} {y : CfgV} (p : Int) (h : SeenC w y) : SeenC w (td2 p y) := by
  unfold td2; split
  · exact seen_fields (td3_seen p h) ⟨rfl, rfl, rfl⟩ (.inr ⟨rfl, rfl, rfl⟩) (.inl ⟨rfl, rfl, rfl⟩) (.inl ⟨rfl, rfl, rfl⟩) (.inl ⟨rfl, rfl, rfl⟩)
  · exact td3_seen p h
theorem td_case {p : Int} (h0 : 0 ≤ p) (h9 : p ≤ 9) : p < 2 ∨ (2 ≤ p ∧ p < 3) ∨ (3 ≤ p ∧ p < 4) ∨ (4 ≤ p ∧ p < 5) ∨ (5 ≤ p ∧ p < 6) ∨ (6 ≤ p ∧ p < 7) ∨ (7 ≤ p ∧ p < 8) ∨ (8 ≤ p ∧ p < 9) ∨ 9 ≤ p := by omega
theorem td_c (p : Int) (h0 : 0 ≤ p) (h9 : p ≤ 9) (y : CfgV) : (td2 p y).c = tidyC y.c p := by
  rcases td_case h0 h9 with h | ⟨h, h'⟩ | ⟨h, h'⟩ | ⟨h, h'⟩ | ⟨h, h'⟩ | ⟨h, h'⟩ | ⟨h, h'⟩ | ⟨h, h'⟩ | h
  · have q2 : (p < 2) = True := by simp; omega
    have q3 : (p < 3) = True := by simp; omega
    have q4 : (p < 4) = True := by simp; omega
    have q5 : (p < 5) = True := by simp; omega
    have q6 : (p < 6) = True := by simp; omega
    have q7 : (p < 7) = True := by simp; omega
    have q8 : (p < 8) = True := by simp; omega
    have q9 : (p < 9) = True := by simp; omega
    simp only [td2, td3, td4, td5, td6, td7, td8, td9, tidyC, CfgV.c, q2, q3, q4, q5, q6, q7, q8, q9, if_true, if_false, List.map_nil]
  · have q2 : (p < 2) = False := by simp; omega
    have q3 : (p < 3) = True := by simp; omega
    have q4 : (p < 4) = True := by simp; omega
    have q5 : (p < 5) = True := by simp; omega
    have q6 : (p < 6) = True := by simp; omega
    have q7 : (p < 7) = True := by simp; omega
    have q8 : (p < 8) = True := by simp; omega
    have q9 : (p < 9) = True := by simp; omega
    simp only [td2, td3, td4, td5, td6, td7, td8, td9, tidyC, CfgV.c, q2, q3, q4, q5, q6, q7, q8, q9, if_true, if_false, List.map_nil]
  · have q2 : (p < 2) = False := by simp; omega
    have q3 : (p < 3) = False := by simp; omega
    have q4 : (p < 4) = True := by simp; omega
    have q5 : (p < 5) = True := by simp; omega
    have q6 : (p < 6) = True := by simp; omega
    have q7 : (p < 7) = True := by simp; omega
    have q8 : (p < 8) = True := by simp; omega
    have q9 : (p < 9) = True := by simp; omega
    simp only [td2, td3, td4, td5, td6, td7, td8, td9, tidyC, CfgV.c, q2, q3, q4, q5, q6, q7, q8, q9, if_true, if_false, List.map_nil]
  · have q2 : (p < 2) = False := by simp; omega
    have q3 : (p < 3) = False := by simp; omega
    have q4 : (p < 4) = False := by simp; omega
    have q5 : (p < 5) = True := by simp; omega
    have q6 : (p < 6) = True := by simp; omega
    have q7 : (p < 7) = True := by simp; omega
    have q8 : (p < 8) = True := by simp; omega
    have q9 : (p < 9) = True := by simp; omega
    simp only [td2, td3, td4, td5, td6, td7, td8, td9, tidyC, CfgV.c, q2, q3, q4, q5, q6, q7, q8, q9, if_true, if_false, List.map_nil]
  · have q2 : (p < 2) = False := by simp; omega
    have q3 : (p < 3) = False := by simp; omega
    have q4 : (p < 4) = False := by simp; omega
    have q5 : (p < 5) = False := by simp; omega
    have q6 : (p < 6) = True := by simp; omega
    have q7 : (p < 7) = True := by simp; omega
    have q8 : (p < 8) = True := by simp; omega
    have q9 : (p < 9) = True := by simp; omega
    simp only [td2, td3, td4, td5, td6, td7, td8, td9, tidyC, CfgV.c, q2, q3, q4, q5, q6, q7, q8, q9, if_true, if_false, List.map_nil]
  · have q2 : (p < 2) = False := by simp; omega
    have q3 : (p < 3) = False := by simp; omega
    have q4 : (p < 4) = False := by simp; omega
    have q5 : (p < 5) = False := by simp; omega
    have q6 : (p < 6) = False := by simp; omega
    have q7 : (p < 7) = True := by simp; omega
    have q8 : (p < 8) = True := by simp; omega
    have q9 : (p < 9) = True := by simp; omega
    simp only [td2, td3, td4, td5, td6, td7, td8, td9, tidyC, CfgV.c, q2, q3, q4, q5, q6, q7, q8, q9, if_true, if_false, List.map_nil]
  · have q2 : (p < 2) = False := by simp; omega
    have q3 : (p < 3) = False := by simp; omega
    have q4 : (p < 4) = False := by simp; omega
    have q5 : (p < 5) = False := by simp; omega
    have q6 : (p < 6) = False := by simp; omega
    have q7 : (p < 7) = False := by simp; omega
    have q8 : (p < 8) = True := by simp; omega
    have q9 : (p < 9) = True := by simp; omega
    simp only [td2, td3, td4, td5, td6, td7, td8, td9, tidyC, CfgV.c, q2, q3, q4, q5, q6, q7, q8, q9, if_true, if_false, List.map_nil]
  · have q2 : (p < 2) = False := by simp; omega
    have q3 : (p < 3) = False := by simp; omega
    have q4 : (p < 4) = False := by simp; omega
    have q5 : (p < 5) = False := by simp; omega
    have q6 : (p < 6) = False := by simp; omega
    have q7 : (p < 7) = False := by simp; omega
    have q8 : (p < 8) = False := by simp; omega
    have q9 : (p < 9) = True := by simp; omega
    simp only [td2, td3, td4, td5, td6, td7, td8, td9, tidyC, CfgV.c, q2, q3, q4, q5, q6, q7, q8, q9, if_true, if_false, List.map_nil]
  · have q2 : (p < 2) = False := by simp; omega
    have q3 : (p < 3) = False := by simp; omega
    have q4 : (p < 4) = False := by simp; omega
    have q5 : (p < 5) = False := by simp; omega
    have q6 : (p < 6) = False := by simp; omega
    have q7 : (p < 7) = False := by simp; omega
    have q8 : (p < 8) = False := by simp; omega
    have q9 : (p < 9) = False := by simp; omega
    simp only [td2, td3, td4, td5, td6, td7, td8, td9, tidyC, CfgV.c, q2, q3, q4, q5, q6, q7, q8, q9, if_true, if_false, List.map_nil]
theorem td_k {p : Int} {y : CfgV} (h : CfK y) : CfK (td2 p y) := by
  have key : ∀ {u v : CfgV} (b : Prop) [Decidable b], CfK u → (∀ t ∈ v.tasks, t ∈ u.tasks) → (∀ t ∈ v.lines, t ∈ u.lines) → v.mask ≤ u.mask → CfK (if b then v else u) := fun b _ hu h1 h2 h3 => by
    split
    · exact ⟨fun t ht => hu.tk t (h1 t ht), fun t ht => hu.lk t (h2 t ht), Nat.lt_of_le_of_lt h3 hu.ma⟩
    · exact hu
  have h9 : CfK (td9 p y) := key _ h (fun _ h => h) (fun _ h => h) (Nat.le_refl _)
  have h8 : CfK (td8 p y) := key _ h9 (fun _ h => h) (fun _ h => h) (Nat.zero_le _)
  have h7 : CfK (td7 p y) := key _ h8 (fun _ h => h) (fun _ h => h) (Nat.le_refl _)
  have h6 : CfK (td6 p y) := key _ h7 (fun _ h => h) (fun _ h => h) (Nat.le_refl _)
  have h5 : CfK (td5 p y) := key _ h6 (fun _ h => h) (fun _ h => h) (Nat.le_refl _)
  have h4 : CfK (td4 p y) := key _ h5 (fun _ h => h) (fun _ h => h) (Nat.le_refl _)
  have h3 : CfK (td3 p y) := key _ h4 (fun _ h => h) (fun _ h => h) (Nat.le_refl _)
  exact key _ h3 (fun _ h => h) (fun _ h => by cases h) (Nat.le_refl _)
/-- A copy's programs' numbers fit as the system's do. -/
theorem CfK.of_c {x y : CfgV} (h : CfK x) (hc : y.c = x.c) : CfK y := by
  obtain ⟨h1, h2, h3⟩ := h
  unfold CfgV.c at hc
  simp only [Cfg.mk.injEq] at hc
  obtain ⟨e1, e2, -, -, -, -, -, e3, -⟩ := hc
  refine ⟨fun t ht => ?_, fun t ht => ?_, by rw [e3]; exact h3⟩
  · have : t.t ∈ x.tasks.map (·.t) := by rw [← e1]; exact List.mem_map_of_mem ht
    obtain ⟨u, hu, hut⟩ := List.mem_map.1 this
    rw [← hut]; exact h1 u hu
  · have : t.t ∈ x.lines.map (·.t) := by rw [← e2]; exact List.mem_map_of_mem ht
    obtain ⟨u, hu, hut⟩ := List.mem_map.1 this
    rw [← hut]; exact h2 u hu

/-- The programs' numbers of a system fit, by its plain numbers. -/
def KC (c : Cfg) : Prop := (∀ t ∈ c.tasks, ∀ e ∈ t.code, e.k < 4294967296) ∧ (∀ t ∈ c.lines, ∀ e ∈ t.code, e.k < 4294967296) ∧ c.mask < 4294967296
theorem CfK.kc {x : CfgV} (h : CfK x) : KC x.c := ⟨fun t ht => by obtain ⟨u, hu, rfl⟩ := List.mem_map.1 ht; exact h.tk u hu, fun t ht => by obtain ⟨u, hu, rfl⟩ := List.mem_map.1 ht; exact h.lk u hu, h.ma⟩
theorem KC.k {x : CfgV} (h : KC x.c) : CfK x := ⟨fun t ht => h.1 t.t (List.mem_map_of_mem ht), fun t ht => h.2.1 t.t (List.mem_map_of_mem ht), h.2.2⟩
theorem CfK.of_td {x y : CfgV} {p : Int} (h : CfK x) (hc : y.c = tidyC x.c p) : CfK y := by
  obtain ⟨h1, h2, h3⟩ := h.kc
  apply KC.k
  rw [hc]
  refine ⟨h1, fun t ht => ?_, ?_⟩
  · unfold tidyC at ht
    simp only at ht
    split at ht
    · cases ht
    · exact h2 t ht
  · unfold tidyC
    simp only
    split
    · decide
    · exact h3
theorem CfK.of_fw {x y : CfgV} (h : CfK x) (hc : y.c = fewerC x.c) : CfK y := by
  obtain ⟨h1, h2, h3⟩ := h.kc
  apply KC.k
  rw [hc]
  unfold fewerC
  refine ⟨fun t ht => h1 t (List.mem_of_mem_take ht), fun t ht => ?_, h3⟩
  simp only at ht
  split at ht
  · exact h2 t (List.mem_of_mem_take ht)
  · exact h2 t ht

/-! ### A task less, a line less -/

def fw1 (y : CfgV) : CfgV := { y with tasks := y.tasks.take (y.tasks.length - 1) }
def fw2 (y : CfgV) : CfgV := if y.mask = 0 then { fw1 y with lines := y.lines.take (y.lines.length - 1) } else fw1 y
theorem fw1_seen {w : World} {y : CfgV} (h : SeenC w y) : SeenC w (fw1 y) := ⟨h.ts.take _, h.ls, h.ss, h.qs, h.ms⟩
theorem fw2_seen {w : World} {y : CfgV} (h : SeenC w y) : SeenC w (fw2 y) := by
  unfold fw2; split
  · exact ⟨h.ts.take _, h.ls.take _, h.ss, h.qs, h.ms⟩
  · exact fw1_seen h
theorem fw_c (y : CfgV) : (fw2 y).c = fewerC y.c := by
  by_cases hm : y.mask = 0
  · have e : fw2 y = { fw1 y with lines := y.lines.take (y.lines.length - 1) } := by unfold fw2; rw [if_pos hm]
    have e2 : y.c.mask = 0 := hm
    rw [e]
    unfold fewerC
    rw [if_pos e2]
    simp only [CfgV.c, fw1, List.map_take, List.length_map]
  · have e : fw2 y = fw1 y := by unfold fw2; rw [if_neg hm]
    have e2 : ¬ y.c.mask = 0 := hm
    rw [e]
    unfold fewerC
    rw [if_neg e2]
    simp only [CfgV.c, fw1, List.map_take, List.length_map]
theorem fw_k {y : CfgV} (h : CfK y) : CfK (fw2 y) := by
  obtain ⟨h1, h2, h3⟩ := h
  unfold fw2; split
  · exact ⟨fun t ht => h1 t (List.mem_of_mem_take ht), fun t ht => h2 t (List.mem_of_mem_take ht), h3⟩
  · exact ⟨fun t ht => h1 t (List.mem_of_mem_take ht), h2, h3⟩

/-! ### What is stored into the system's block -/

structure BoxS (w0 w : World) (G : Nat) (y : CfgV) : Prop where
  on : Only w0 w (fun k => k = G)
  box : w.heap[G]? = some (cfO y)
theorem BoxS.store {w0 w : World} {G f : Nat} {y z : CfgV} {v : Value} (h : BoxS w0 w G y) (e : (cfCells y).setIfInBounds f v = cfCells z) : BoxS w0 (w.setCell ⟨G, f, none⟩ v) G z := by
  refine ⟨h.on.trans (Only.setCell w G f v (fun k => k = G) rfl) (fun _ _ h => h), ?_⟩
  have := heap_setCell_same w G f _ _ v h.box
  rw [this]
  unfold cfO
  rw [e]
theorem BoxS.as {w0 w : World} {G : Nat} {y z : CfgV} (h : BoxS w0 w G y) (e : z = y) : BoxS w0 w G z := by rw [e]; exact h
theorem BoxS.below {w00 w0 w : World} {G : Nat} {y : CfgV} (h : BoxS w0 w G y) (hb : Below w00.heap.size w00 w0) (hG : w00.heap.size ≤ G) : Below w00.heap.size w00 w :=
  ⟨h.on.os.trans hb.os, h.on.tape.trans hb.tape, h.on.output.trans hb.output, Nat.le_trans hb.size h.on.size, fun k hk => (h.on.block k (by have := hb.size; omega) (by omega)).trans (hb.block k hk)⟩
theorem BoxS.own {w0 w : World} {G B : Nat} {y z : CfgV} (h : BoxS w0 w G y) (ho : OwnC w0 B z) (hk : Kind w0 G 28) : OwnC w B z := ho.keep h.on (fun k e => by rw [e]; exact hk)
theorem td9_at {p : Int} (y : CfgV) (h : p < 9) : (cfCells (y)).setIfInBounds 9 (.int .i64 0) = cfCells (td9 p y) := by
  unfold td9
  rw [if_pos h]
  simp only [cfCells, List.setIfInBounds_toArray, List.set_cons_succ, List.set_cons_zero, List.length_nil, Int.ofNat_zero, Int.natCast_zero]
theorem td9_not {p : Int} (y : CfgV) (h : ¬ p < 9) : td9 p y = y := by unfold td9; rw [if_neg h]
theorem td8_at {p : Int} (y : CfgV) (h : p < 8) : (cfCells (td9 p y)).setIfInBounds 7 (.int .u32 0) = cfCells (td8 p y) := by
  unfold td8
  rw [if_pos h]
  simp only [cfCells, List.setIfInBounds_toArray, List.set_cons_succ, List.set_cons_zero, List.length_nil, Int.ofNat_zero, Int.natCast_zero]
theorem td8_not {p : Int} (y : CfgV) (h : ¬ p < 8) : td8 p y = td9 p y := by unfold td8; rw [if_neg h]
theorem td7_at {p : Int} (y : CfgV) (h : p < 7) : (cfCells (td8 p y)).setIfInBounds 6 (.int .i64 0) = cfCells (td7 p y) := by
  unfold td7
  rw [if_pos h]
  simp only [cfCells, List.setIfInBounds_toArray, List.set_cons_succ, List.set_cons_zero, List.length_nil, Int.ofNat_zero, Int.natCast_zero]
theorem td7_not {p : Int} (y : CfgV) (h : ¬ p < 7) : td7 p y = td8 p y := by unfold td7; rw [if_neg h]
theorem td6_at {p : Int} (y : CfgV) (h : p < 6) : (cfCells (td7 p y)).setIfInBounds 5 (.slice none 0 0) = cfCells (td6 p y) := by
  unfold td6
  rw [if_pos h]
  simp only [cfCells, List.setIfInBounds_toArray, List.set_cons_succ, List.set_cons_zero, List.length_nil, Int.ofNat_zero, Int.natCast_zero]
theorem td6_not {p : Int} (y : CfgV) (h : ¬ p < 6) : td6 p y = td7 p y := by unfold td6; rw [if_neg h]
theorem td5_at {p : Int} (y : CfgV) (h : p < 5) : (cfCells (td6 p y)).setIfInBounds 4 (.slice none 0 0) = cfCells (td5 p y) := by
  unfold td5
  rw [if_pos h]
  simp only [cfCells, List.setIfInBounds_toArray, List.set_cons_succ, List.set_cons_zero, List.length_nil, Int.ofNat_zero, Int.natCast_zero]
theorem td5_not {p : Int} (y : CfgV) (h : ¬ p < 5) : td5 p y = td6 p y := by unfold td5; rw [if_neg h]
theorem td4_at {p : Int} (y : CfgV) (h : p < 4) : (cfCells (td5 p y)).setIfInBounds 3 (.slice none 0 0) = cfCells (td4 p y) := by
  unfold td4
  rw [if_pos h]
  simp only [cfCells, List.setIfInBounds_toArray, List.set_cons_succ, List.set_cons_zero, List.length_nil, Int.ofNat_zero, Int.natCast_zero]
theorem td4_not {p : Int} (y : CfgV) (h : ¬ p < 4) : td4 p y = td5 p y := by unfold td4; rw [if_neg h]
theorem td3_at {p : Int} (y : CfgV) (h : p < 3) : (cfCells (td4 p y)).setIfInBounds 2 (.int .i64 0) = cfCells (td3 p y) := by
  unfold td3
  rw [if_pos h]
  simp only [cfCells, List.setIfInBounds_toArray, List.set_cons_succ, List.set_cons_zero, List.length_nil, Int.ofNat_zero, Int.natCast_zero]
theorem td3_not {p : Int} (y : CfgV) (h : ¬ p < 3) : td3 p y = td4 p y := by unfold td3; rw [if_neg h]
theorem td2_at {p : Int} (y : CfgV) (h : p < 2) : (cfCells (td3 p y)).setIfInBounds 1 (.slice none 0 0) = cfCells (td2 p y) := by
  unfold td2
  rw [if_pos h]
  simp only [cfCells, List.setIfInBounds_toArray, List.set_cons_succ, List.set_cons_zero, List.length_nil, Int.ofNat_zero, Int.natCast_zero]
theorem td2_not {p : Int} (y : CfgV) (h : ¬ p < 2) : td2 p y = td3 p y := by unfold td2; rw [if_neg h]
theorem fw1_at (y : CfgV) (n : Nat) (h : n = y.tasks.length - 1) : (cfCells y).setIfInBounds 0 (.slice y.tao n y.tcap) = cfCells (fw1 y) := by
  have e : (y.tasks.take (y.tasks.length - 1)).length = n := by rw [List.length_take, h]; omega
  unfold fw1
  simp only [cfCells, List.setIfInBounds_toArray, List.set_cons_succ, List.set_cons_zero, e]
theorem fw1_not (y : CfgV) (h : y.tasks.length = 0) : fw1 y = y := by
  have e : y.tasks.take (y.tasks.length - 1) = y.tasks := by rw [List.eq_nil_of_length_eq_zero h]; rfl
  unfold fw1
  rw [e]
theorem fw2_at (y : CfgV) (n : Nat) (h : n = y.lines.length - 1) (hm : y.mask = 0) : (cfCells (fw1 y)).setIfInBounds 1 (.slice y.lao n y.lcap) = cfCells (fw2 y) := by
  have e : (y.lines.take (y.lines.length - 1)).length = n := by rw [List.length_take, h]; omega
  unfold fw2
  rw [if_pos hm]
  simp only [cfCells, fw1, List.setIfInBounds_toArray, List.set_cons_succ, List.set_cons_zero, e]
theorem fw2_not (y : CfgV) (h : y.mask = 0 → y.lines.length = 0) : fw2 y = fw1 y := by
  unfold fw2
  split
  · rename_i hm
    have e : y.lines.take (y.lines.length - 1) = y.lines := by rw [List.eq_nil_of_length_eq_zero (h hm)]; rfl
    rw [e]
    rfl
  · rfl

end Go.Proofs.YtbhnehacgkhpbaaDoor
