/-
  What a walk is told of an event that came in. No condition but the form's own.
-/
import Derived.Test.YtonmkmbllaahgaaDoorEvAwake
import Derived.Deep.Slices
namespace Go.Proofs.YtonmkmbllaahgaaDoor
open Go.ChangeShapes Go.WideShapes Go.ChangeAt Go.RowKit
set_option linter.unusedVariables false

/-- The numbers of an event fit their kinds. -/
structure EvFits (e : Ev) : Prop where
  k1 : -9223372036854775808 ≤ e.kind
  k2 : e.kind ≤ 9223372036854775807
  cyc : e.cyc < 18446744073709551616
  cnt : e.cnt < 18446744073709551616
  a : e.a < 4294967296
  b : e.b < 4294967296
  v : e.v < 4294967296

theorem wf_i64 {n : Int} (h : (Lit.int .i64 n).wf = true) : -9223372036854775808 ≤ n ∧ n ≤ 9223372036854775807 := by
  simp [Lit.wf, IntKind.min, IntKind.max, IntKind.signed, IntKind.bits] at h
  omega
theorem wf_u64 {n : Int} (h : (Lit.int .u64 n).wf = true) : ∃ m : Nat, n = m ∧ m < 18446744073709551616 := by
  simp [Lit.wf, IntKind.min, IntKind.max, IntKind.signed, IntKind.bits] at h
  exact ⟨n.toNat, by omega, by omega⟩
theorem wf_u32 {n : Int} (h : (Lit.int .u32 n).wf = true) : ∃ m : Nat, n = m ∧ m < 4294967296 := by
  simp [Lit.wf, IntKind.min, IntKind.max, IntKind.signed, IntKind.bits] at h
  exact ⟨n.toNat, by omega, by omega⟩

set_option maxRecDepth 100000 in
theorem open_ev {H : Type} {enc : TypeId × Value → H} {W : World} {r : Reach} {b0 : Nat} {v : Value} {d : DataW H} {ps : List MemPlace}
    (hv : Value.okWide Tryd.prog W r b0 25 v) (h : DataW.Trod enc Tryd.prog W 0 (fun _ => true) true 25 v d ps) : ∃ e : Ev, v = evV e ∧ EvFits e := by
  obtain ⟨cs, rfl, hsz⟩ := okWide_struct Tryd.underlying25 hv
  rw [show Tryd.prog.cellsOf 25 = 6 from by kernel_rfl] at hsz
  obtain ⟨fuel, hf⟩ := h
  obtain ⟨l⟩ := cs
  have hl : l.length = 6 := hsz
  match l, hl with
  | [c0, c1, c2, c3, c4, c5], _ =>
    obtain ⟨xs, n, _, _, _, hxl, hg⟩ := DataW.trod_struct Tryd.underlying25 hf
    have hx : xs.length = 6 := hxl
    match xs, hx with
    | [y0, y1, y2, y3, y4, y5], _ =>
      have f0 : DataW.trod enc Tryd.prog W 0 (fun _ => true) true n 3 (([c0, c1, c2, c3, c4, c5].drop 0).take (Tryd.prog.cellsOf 3)) = some y0 := hg 0 _ rfl
      have f1 : DataW.trod enc Tryd.prog W 0 (fun _ => true) true n 22 (([c0, c1, c2, c3, c4, c5].drop 1).take (Tryd.prog.cellsOf 22)) = some y1 := hg 1 _ rfl
      have f2 : DataW.trod enc Tryd.prog W 0 (fun _ => true) true n 22 (([c0, c1, c2, c3, c4, c5].drop 2).take (Tryd.prog.cellsOf 22)) = some y2 := hg 2 _ rfl
      have f3 : DataW.trod enc Tryd.prog W 0 (fun _ => true) true n 23 (([c0, c1, c2, c3, c4, c5].drop 3).take (Tryd.prog.cellsOf 23)) = some y3 := hg 3 _ rfl
      have f4 : DataW.trod enc Tryd.prog W 0 (fun _ => true) true n 23 (([c0, c1, c2, c3, c4, c5].drop 4).take (Tryd.prog.cellsOf 23)) = some y4 := hg 4 _ rfl
      have f5 : DataW.trod enc Tryd.prog W 0 (fun _ => true) true n 23 (([c0, c1, c2, c3, c4, c5].drop 5).take (Tryd.prog.cellsOf 23)) = some y5 := hg 5 _ rfl
      rw [show Tryd.prog.cellsOf 3 = 1 from by kernel_rfl] at f0
      rw [show Tryd.prog.cellsOf 22 = 1 from by kernel_rfl] at f1 f2
      rw [show Tryd.prog.cellsOf 23 = 1 from by kernel_rfl] at f3 f4 f5
      obtain ⟨k, e0, _, g0⟩ := DataW.trod_int Tryd.underlying3 f0
      obtain ⟨z1, e1, _, g1⟩ := DataW.trod_int Tryd.underlying22 f1
      obtain ⟨z2, e2, _, g2⟩ := DataW.trod_int Tryd.underlying22 f2
      obtain ⟨z3, e3, _, g3⟩ := DataW.trod_int Tryd.underlying23 f3
      obtain ⟨z4, e4, _, g4⟩ := DataW.trod_int Tryd.underlying23 f4
      obtain ⟨z5, e5, _, g5⟩ := DataW.trod_int Tryd.underlying23 f5
      simp at e0 e1 e2 e3 e4 e5
      obtain ⟨k1, k2⟩ := wf_i64 g0
      obtain ⟨m1, rfl, h1⟩ := wf_u64 g1
      obtain ⟨m2, rfl, h2⟩ := wf_u64 g2
      obtain ⟨m3, rfl, h3⟩ := wf_u32 g3
      obtain ⟨m4, rfl, h4⟩ := wf_u32 g4
      obtain ⟨m5, rfl, h5⟩ := wf_u32 g5
      exact ⟨⟨k, m1, m2, m3, m4, m5⟩, by rw [e0, e1, e2, e3, e4, e5]; rfl, ⟨k1, k2, h1, h2, h3, h4, h5⟩⟩

end Go.Proofs.YtonmkmbllaahgaaDoor
