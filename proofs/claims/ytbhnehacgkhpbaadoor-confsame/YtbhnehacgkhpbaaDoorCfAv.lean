/-
  The statements' own test of answers that the document fixes (awake), over this seat's translation. Conditions: the table's cells (IsL).
-/
import Derived.Test.YtbhnehacgkhpbaaDoorCfW
import Derived.Test.YtbhnehacgkhpbaaDoorCf3
import Derived.Test.YtbhnehacgkhpbaaDoorCfT
namespace Go.Proofs.YtbhnehacgkhpbaaDoor
open Go Go.RowKit
set_option linter.unusedVariables false
set_option linter.unusedSimpArgs false

/-- The system that is tried: its task's offset, and where its one instruction leads. -/
def awC (off : Int) (k : Nat) : Cfg := ⟨[⟨1, off, 0, 0, 0, [⟨17, 0, 0, 0, 0, k⟩]⟩], [], 0, [0], [], [0], 0, 0, 0, 0, 0, 0⟩
theorem awC_one : checkC (awC 1 0) = (0, 0, 0, 0) := by decide +kernel
theorem awC_off : checkC (awC 0 0) = (5, 1, 0, 2) := by decide +kernel
theorem awC_k : checkC (awC 1 1) = (5, 1, 0, 7) := by decide +kernel
theorem awC_none : checkC ⟨[], [], 0, [], [], [], 0, 0, 0, 0, 0, 0⟩ = (0, 0, 0, 0) := by decide +kernel
theorem awC_ne1 : eqB (awC 1 0) (awC 0 0) = false := eqB_ne (by intro h; simp [awC] at h)
theorem awC_ne2 : eqB (awC 1 0) (awC 1 1) = false := eqB_ne (by intro h; simp [awC] at h)
/-- Such a system as it lies. -/
def awV (off : Int) (k : Nat) (tao : Option Addr) (tcap : Nat) (ao : Option Addr) (cap : Nat) (lao : Option Addr) (lcap : Nat) (sao : Option Addr) (scap : Nat) (qao : Option Addr) (qcap : Nat) (mao : Option Addr) (mcap : Nat) : CfgV :=
  ⟨tao, tcap, [⟨⟨1, off, 0, 0, 0, [⟨17, 0, 0, 0, 0, k⟩]⟩, ao, cap⟩], lao, lcap, [], 0, sao, scap, [0], qao, qcap, [], mao, mcap, [0], 0, 0, 0, 0, 0, 0⟩
theorem awV_of {y : CfgV} {off : Int} {k : Nat} (h : y.c = awC off k) : ∃ tao tcap ao cap lao lcap sao scap qao qcap mao mcap, y = awV off k tao tcap ao cap lao lcap sao scap qao qcap mao mcap := by
  obtain ⟨tao, tcap, tasks, lao, lcap, lines, mtx, sao, scap, sems, qao, qcap, queues, mao, mcap, timers, table, mask, filter, charge, cycle, count⟩ := y
  unfold CfgV.c awC at h
  simp only [Cfg.mk.injEq] at h
  obtain ⟨h1, h2, rfl, rfl, rfl, rfl, rfl, rfl, rfl, rfl, rfl, rfl⟩ := h
  have hl : lines = [] := by simpa using h2
  subst hl
  match tasks, h1 with
  | [⟨t, ao, cap⟩], h1 =>
    simp only [List.map_cons, List.map_nil, List.cons.injEq, and_true] at h1
    subst h1
    exact ⟨tao, tcap, ao, cap, lao, lcap, sao, scap, qao, qcap, mao, mcap, rfl⟩
theorem awV_c (off : Int) (k : Nat) (tao : Option Addr) (tcap : Nat) (ao : Option Addr) (cap : Nat) (lao : Option Addr) (lcap : Nat) (sao : Option Addr) (scap : Nat) (qao : Option Addr) (qcap : Nat) (mao : Option Addr) (mcap : Nat) : (awV off k tao tcap ao cap lao lcap sao scap qao qcap mao mcap).c = awC off k := rfl
theorem awV_k {off : Int} {k : Nat} {tao : Option Addr} {tcap : Nat} {ao : Option Addr} {cap : Nat} {lao : Option Addr} {lcap : Nat} {sao : Option Addr} {scap : Nat} {qao : Option Addr} {qcap : Nat} {mao : Option Addr} {mcap : Nat} (hk : k < 4294967296) : CfK (awV off k tao tcap ao cap lao lcap sao scap qao qcap mao mcap) := by
  refine ⟨fun t ht e he => ?_, fun t ht => ?_, by simp [awV]⟩
  · simp only [awV, List.mem_cons, List.not_mem_nil, or_false] at ht
    subst ht
    simp only [List.mem_cons, List.not_mem_nil, or_false] at he
    subst he
    exact hk
  · simp only [awV, List.not_mem_nil] at ht

/-- The task's offset is stored. -/
theorem aw_off {w : World} {B g : Nat} {off off' : Int} {k : Nat} {tcap : Nat} {ao : Option Addr} {cap : Nat} {lao : Option Addr} {lcap : Nat} {sao : Option Addr} {scap : Nat} {qao : Option Addr} {qcap : Nat} {mao : Option Addr} {mcap : Nat}
    (h : OwnC w B (awV off k (some ⟨g, 0, none⟩) tcap ao cap lao lcap sao scap qao qcap mao mcap)) : OwnC (w.setCell ⟨g, 1, none⟩ (.int .i64 off')) B (awV off' k (some ⟨g, 0, none⟩) tcap ao cap lao lcap sao scap qao qcap mao mcap) := by
  have on : Only w (w.setCell ⟨g, 1, none⟩ (.int .i64 off')) (fun k => k = g) := Only.setCell w g 1 _ _ rfl
  have kd : ∀ k, k = g → Kind w k 39 := fun k e => by rw [e]; exact (OwnR.kind h.ts (k := g) rfl)
  have hts := OwnR.set tsk6_len h.ts 0 (by simp [awV]) 1 (by decide) (.int .i64 off') ⟨⟨1, off', 0, 0, 0, [⟨17, 0, 0, 0, 0, k⟩]⟩, ao, cap⟩ rfl
  refine ⟨hts, fun e he => ?_, OwnR.keep h.ls on kd (by decide), fun e he => by simp [awV] at he, OwnR.keep h.ss on kd (by decide), OwnR.keep h.qs on kd (by decide), OwnR.keep h.ms on kd (by decide)⟩
  simp only [awV, List.mem_cons, List.not_mem_nil, or_false] at he
  subst he
  have := h.tc ⟨⟨1, off, 0, 0, 0, [⟨17, 0, 0, 0, 0, k⟩]⟩, ao, cap⟩ (by simp [awV])
  exact OwnR.keep this on kd (by decide)
/-- The instruction's number is stored. -/
theorem aw_k {w : World} {B g : Nat} {off : Int} {k k' : Nat} {tao : Option Addr} {tcap : Nat} {cap : Nat} {lao : Option Addr} {lcap : Nat} {sao : Option Addr} {scap : Nat} {qao : Option Addr} {qcap : Nat} {mao : Option Addr} {mcap : Nat}
    (h : OwnC w B (awV off k tao tcap (some ⟨g, 0, none⟩) cap lao lcap sao scap qao qcap mao mcap)) : OwnC (w.setCell ⟨g, 5, none⟩ (.int .u32 (k' : Int))) B (awV off k' tao tcap (some ⟨g, 0, none⟩) cap lao lcap sao scap qao qcap mao mcap) := by
  have on : Only w (w.setCell ⟨g, 5, none⟩ (.int .u32 (k' : Int))) (fun k => k = g) := Only.setCell w g 5 _ _ rfl
  have hc := h.tc ⟨⟨1, off, 0, 0, 0, [⟨17, 0, 0, 0, 0, k⟩]⟩, some ⟨g, 0, none⟩, cap⟩ (by simp [awV])
  have kd : ∀ k, k = g → Kind w k 41 := fun k e => by rw [e]; exact (OwnR.kind hc (k := g) rfl)
  have hcs := OwnR.set in6_len hc 0 (by simp) 5 (by decide) (.int .u32 (k' : Int)) ⟨17, 0, 0, 0, 0, k'⟩ rfl
  refine ⟨?_, fun e he => ?_, OwnR.keep h.ls on kd (by decide), fun e he => by simp [awV] at he, OwnR.keep h.ss on kd (by decide), OwnR.keep h.qs on kd (by decide), OwnR.keep h.ms on kd (by decide)⟩
  · exact OwnR.keep h.ts on kd (by decide)
  · simp only [awV, List.mem_cons, List.not_mem_nil, or_false] at he
    subst he
    exact hcs

theorem own_some {α : Type} {ty : TypeId} {n : Nat} {f : α → List Value} {w : World} {B : Nat} {ao : Option Addr} {cap m : Nat} {l : List α} (h : OwnR ty n f w B (.slice ao m cap) l) (hl : 0 < l.length) : ∃ g, ao = some ⟨g, 0, none⟩ := by
  have hown : w.ownsRow B ty n (.slice ao m cap) l.length (l.flatMap f) := h
  rcases hown.2 with ⟨e, hn⟩ | ⟨g, cap', cur, e, -⟩
  · omega
  · simp only [Value.slice.injEq] at e
    exact ⟨g, e.1⟩
theorem aw_cells {w : World} {E : Nat} {off : Int} {k : Nat} {tao : Option Addr} {tcap : Nat} {ao : Option Addr} {cap : Nat} {lao : Option Addr} {lcap : Nat} {sao : Option Addr} {scap : Nat} {qao : Option Addr} {qcap : Nat} {mao : Option Addr} {mcap : Nat}
    (h : w.heap[E]? = some (cfO (awV off k tao tcap ao cap lao lcap sao scap qao qcap mao mcap))) :
    w.cell? ⟨E, 0, none⟩ = some (.slice tao 1 tcap) ∧ w.cell? ⟨E, 1, none⟩ = some (.slice lao 0 lcap) ∧ w.cell? ⟨E, 2, none⟩ = some (.int .i64 0) ∧ w.cell? ⟨E, 3, none⟩ = some (.slice sao 1 scap) ∧ w.cell? ⟨E, 4, none⟩ = some (.slice qao 0 qcap) ∧ w.cell? ⟨E, 5, none⟩ = some (.slice mao 1 mcap) ∧
    w.cell? ⟨E, 6, none⟩ = some (.int .i64 0) ∧ w.cell? ⟨E, 7, none⟩ = some (.int .u32 0) ∧ w.cell? ⟨E, 8, none⟩ = some (.int .u32 0) ∧ w.cell? ⟨E, 9, none⟩ = some (.int .i64 0) ∧ w.cell? ⟨E, 10, none⟩ = some (.int .u64 0) ∧ w.cell? ⟨E, 11, none⟩ = some (.int .u64 0) := by
  obtain ⟨c0, c1, c2, c3, c4, c5, c6, c7, c8, c9, c10, c11⟩ := cfcells h
  exact ⟨c0, c1, c2, c3, c4, c5, c6, c7, c8, c9, c10, c11⟩
/-- The task's cells, the instruction's. -/
theorem aw_task {w : World} {B g off : Nat} {o : Int} {k : Nat} {tcap : Nat} {ao : Option Addr} {cap : Nat} {lao : Option Addr} {lcap : Nat} {sao : Option Addr} {scap : Nat} {qao : Option Addr} {qcap : Nat} {mao : Option Addr} {mcap : Nat}
    (h : OwnC w B (awV o k (some ⟨g, 0, none⟩) tcap ao cap lao lcap sao scap qao qcap mao mcap)) : w.cell? ⟨g, 1, none⟩ = some (.int .i64 o) ∧ w.cell? ⟨g, 5, none⟩ = some (.slice ao 1 cap) ∧ w.frozen? ⟨g, 1, none⟩ = false ∧ Kind w g 39 := by
  obtain ⟨b, o', h1, h2, h3⟩ := (OwnR.seen' tsk6_len h.ts).at 0 (by simp [awV])
  cases h1
  have kd := OwnR.kind h.ts (k := g) rfl
  obtain ⟨cs, hcs⟩ := kd
  exact ⟨h3 1 (by decide), h3 5 (by decide), frozen_row hcs 1, ⟨cs, hcs⟩⟩
theorem aw_ins {w : World} {B g : Nat} {o : Int} {k : Nat} {tao : Option Addr} {tcap : Nat} {cap : Nat} {lao : Option Addr} {lcap : Nat} {sao : Option Addr} {scap : Nat} {qao : Option Addr} {qcap : Nat} {mao : Option Addr} {mcap : Nat}
    (h : OwnC w B (awV o k tao tcap (some ⟨g, 0, none⟩) cap lao lcap sao scap qao qcap mao mcap)) : w.cell? ⟨g, 5, none⟩ = some (.int .u32 (k : Int)) ∧ w.frozen? ⟨g, 5, none⟩ = false ∧ Kind w g 41 := by
  have hc := h.tc ⟨⟨1, o, 0, 0, 0, [⟨17, 0, 0, 0, 0, k⟩]⟩, some ⟨g, 0, none⟩, cap⟩ (by simp [awV])
  obtain ⟨b, o', h1, h2, h3⟩ := (OwnR.seen' in6_len hc).at 0 (by simp)
  cases h1
  have kd := OwnR.kind hc (k := g) rfl
  obtain ⟨cs, hcs⟩ := kd
  exact ⟨h3 5 (by decide), frozen_row hcs 5, ⟨cs, hcs⟩⟩
def zeroV : CfgV := ⟨none, 0, [], none, 0, [], 0, none, 0, [], none, 0, [], none, 0, [], 0, 0, 0, 0, 0, 0⟩
theorem zero_seen (w : World) : SeenC w zeroV := ⟨⟨seenR_nil, fun x hx => by simp [zeroV] at hx⟩, ⟨seenR_nil, fun x hx => by simp [zeroV] at hx⟩, seenR_nil, seenR_nil, seenR_nil⟩
theorem zero_k : CfK zeroV := ⟨fun x hx => by simp [zeroV] at hx, fun x hx => by simp [zeroV] at hx, by simp [zeroV]⟩

/-- The system that is laid first. -/
theorem aw_laid (w : World) (A0 A1 A2 A3 A4 : Nat) (h0 : w.heap.size = A0) (h1 : A0 + 1 = A1) (h2 : A1 + 1 = A2) (h3 : A2 + 1 = A3) (h4 : A3 + 1 = A4) (w5 : World)
    (e : w5 = ((((w.alloc (.cells #[.int .i64 17, .int .i64 0, .int .i64 0, .int .i64 0, .int .i64 0, .int .u32 0] 41)).alloc (.cells #[.int .i64 1, .int .i64 1, .int .i64 0, .int .i64 0, .int .i64 0, .slice (some ⟨A0, 0, none⟩) 1 1] 39)).alloc (.cells #[.int .i64 0] 3)).alloc (.cells #[.int .i64 0] 3)).alloc
      (.cells #[.slice (some ⟨A1, 0, none⟩) 1 1, .slice none 0 0, .int .i64 0, .slice (some ⟨A2, 0, none⟩) 1 1, .slice none 0 0, .slice (some ⟨A3, 0, none⟩) 1 1, .int .i64 0, .int .u32 0, .int .u32 0, .int .i64 0, .int .u64 0, .int .u64 0] 28)) :
    ∃ x : CfgV, x.c = awC 1 0 ∧ OwnC w5 A0 x ∧ w5.heap[A4]? = some (cfO x) ∧ Below w.heap.size w w5 ∧ Small x ∧ CfK x := by
  obtain ⟨w1, e1⟩ : ∃ w1, w1 = w.alloc (.cells #[.int .i64 17, .int .i64 0, .int .i64 0, .int .i64 0, .int .i64 0, .int .u32 0] 41) := ⟨_, rfl⟩
  rw [← e1] at e
  obtain ⟨w2, e2⟩ : ∃ w2, w2 = w1.alloc (.cells #[.int .i64 1, .int .i64 1, .int .i64 0, .int .i64 0, .int .i64 0, .slice (some ⟨A0, 0, none⟩) 1 1] 39) := ⟨_, rfl⟩
  rw [← e2] at e
  obtain ⟨w3, e3⟩ : ∃ w3, w3 = w2.alloc (.cells #[.int .i64 0] 3) := ⟨_, rfl⟩
  rw [← e3] at e
  obtain ⟨w4, e4⟩ : ∃ w4, w4 = w3.alloc (.cells #[.int .i64 0] 3) := ⟨_, rfl⟩
  rw [← e4] at e
  obtain ⟨s1, n1, b1⟩ := new_size e1
  obtain ⟨s2, n2, b2⟩ := new_size e2
  obtain ⟨s3, n3, b3⟩ := new_size e3
  obtain ⟨s4, n4, b4⟩ := new_size e4
  obtain ⟨s5, n5, b5⟩ := new_size e
  have z1 : w1.heap.size = A1 := by omega
  have z2 : w2.heap.size = A2 := by omega
  have z3 : w3.heap.size = A3 := by omega
  have z4 : w4.heap.size = A4 := by omega
  have o1 : OwnIR w1 A0 (.slice (some ⟨A0, 0, none⟩) 1 1) [⟨17, 0, 0, 0, 0, 0⟩] := by
    rw [e1]
    have := World.ownsRow_lit (base := A0) (e := 41) (size := 6) w #[.int .i64 17, .int .i64 0, .int .i64 0, .int .i64 0, .int .i64 0, .int .u32 0] 1 (by omega) (by decide) rfl
    rw [h0] at this
    exact this
  have o2 : OwnTR w2 A0 (.slice (some ⟨A1, 0, none⟩) 1 1) [⟨⟨1, 1, 0, 0, 0, [⟨17, 0, 0, 0, 0, 0⟩]⟩, some ⟨A0, 0, none⟩, 1⟩] := by
    rw [e2]
    have := World.ownsRow_lit (base := A0) (e := 39) (size := 6) w1 #[.int .i64 1, .int .i64 1, .int .i64 0, .int .i64 0, .int .i64 0, .slice (some ⟨A0, 0, none⟩) 1 1] 1 (by omega) (by decide) rfl
    rw [z1] at this
    exact this
  have o3 : OwnZR w3 A0 (.slice (some ⟨A2, 0, none⟩) 1 1) [0] := by
    rw [e3]
    have := World.ownsRow_lit (base := A0) (e := 3) (size := 1) w2 #[.int .i64 0] 1 (by omega) (by decide) rfl
    rw [z2] at this
    exact this
  have o4 : OwnZR w4 A0 (.slice (some ⟨A3, 0, none⟩) 1 1) [0] := by
    rw [e4]
    have := World.ownsRow_lit (base := A0) (e := 3) (size := 1) w3 #[.int .i64 0] 1 (by omega) (by decide) rfl
    rw [z3] at this
    exact this
  refine ⟨awV 1 0 (some ⟨A1, 0, none⟩) 1 (some ⟨A0, 0, none⟩) 1 none 0 (some ⟨A2, 0, none⟩) 1 none 0 (some ⟨A3, 0, none⟩) 1, rfl, ⟨(((o2.below b3).below b4).below b5), fun e he => ?_, ownR_nil, fun e he => by simp [awV] at he, (o3.below b4).below b5, ownR_nil, o4.below b5⟩, ?_, below_on (below_on (below_on (below_on b1 b2) b3) b4) b5, ⟨by simp [awV], by simp [awV], by simp [awV], by simp [awV], by simp [awV], fun e he => ?_, fun e he => by simp [awV] at he⟩, awV_k (by decide)⟩
  · simp only [awV, List.mem_cons, List.not_mem_nil, or_false] at he
    subst he
    exact (((o1.below b2).below b3).below b4).below b5
  · rw [z4] at n5
    exact n5
  · simp only [awV, List.mem_cons, List.not_mem_nil, or_false] at he
    subst he
    simp

end Go.Proofs.YtbhnehacgkhpbaaDoor
