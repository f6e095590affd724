/-
  A context and a pair of numbers out of the reading that the row gives. No condition.
-/
import Derived.Test.YtoalgajbahlpjaaDoorCpL
import Derived.Test.YtoalgajbahlpjaaDoorCp7
import Derived.OpenShut
import Derived.HandedShaped
namespace Go.Proofs.YtoalgajbahlpjaaDoor
open Go Go.ChangeShapes Go.WideShapes Go.ChangeAt Go.RowKit
set_option linter.unusedVariables false
set_option linter.unusedSimpArgs false

theorem slice_shapeW {H : Type} {enc : TypeId × Value → H} {W : World} {sl ty : TypeId} {n : Nat} {c1 : Value} {y : DataW H × List MemPlace} (hu : Tryd.prog.underlying sl = some (.slice ty)) (f1' : DataW.trod enc Tryd.prog W 0 (fun _ => true) true n sl [c1] = some y) : ∃ ao len cap, c1 = .slice ao len cap := by
  rcases Deep.open_slice hu f1' with ⟨hcs, _⟩ | ⟨x, ll, c, m, n, D, Pl, hcs, _⟩
  · simp at hcs; exact ⟨_, _, _, hcs⟩
  · simp at hcs; exact ⟨_, _, _, hcs⟩
theorem open_word {H : Type} {enc : TypeId × Value → H} {W : World} (fuel : Nat) (cs : List Value) (x : DataW H × List MemPlace)
    (h : DataW.trod enc Tryd.prog W 0 (fun _ => true) true fuel 22 cs = some x) : ∃ n : Nat, cs = w1c n ∧ n < 4294967296 := by
  obtain ⟨z0, e0, _, g0⟩ := DataW.trod_int Tryd.underlying22 h
  obtain ⟨m, rfl, hm⟩ := wf_u32 g0
  exact ⟨m, e0, hm⟩

set_option maxRecDepth 100000 in
set_option maxHeartbeats 1000000 in
theorem open_ctx {H : Type} {enc : TypeId × Value → H} {W : World} {r : Reach} {b0 : Nat} {v : Value} {d : DataW H} {ps : List MemPlace}
    (hv : Value.okWide Tryd.prog W r b0 26 v) (h : DataW.Trod enc Tryd.prog W 0 (fun _ => true) true 26 v d ps) : ∃ (x : Ctx) (ao : Option Addr) (cap : Nat), v = cxV x (.slice ao x.mem.length cap) ∧ SeenW W ao cap x.mem ∧ CtxFits x := by
  obtain ⟨cs, rfl, hsz⟩ := okWide_struct Tryd.underlying26 hv
  rw [show Tryd.prog.cellsOf 26 = 10 from by kernel_rfl] at hsz
  obtain ⟨fuel, hf⟩ := h
  obtain ⟨l⟩ := cs
  have hl : l.length = 10 := hsz
  match l, hl with
  | [c0, c1, c2, c3, c4, c5, c6, c7, c8, c9], _ =>
    obtain ⟨xs, n, _, _, _, hxl, hg⟩ := DataW.trod_struct Tryd.underlying26 hf
    have hx : xs.length = 3 := hxl
    match xs, hx with
    | [y0, y1, y2], _ =>
      have f0 : DataW.trod enc Tryd.prog W 0 (fun _ => true) true n 3 (([c0, c1, c2, c3, c4, c5, c6, c7, c8, c9].drop 0).take (Tryd.prog.cellsOf 3)) = some y0 := hg 0 _ rfl
      have f1 : DataW.trod enc Tryd.prog W 0 (fun _ => true) true n 23 (([c0, c1, c2, c3, c4, c5, c6, c7, c8, c9].drop 1).take (Tryd.prog.cellsOf 23)) = some y1 := hg 1 _ rfl
      have f2 : DataW.trod enc Tryd.prog W 0 (fun _ => true) true n 24 (([c0, c1, c2, c3, c4, c5, c6, c7, c8, c9].drop 9).take (Tryd.prog.cellsOf 24)) = some y2 := hg 2 _ rfl
      rw [show Tryd.prog.cellsOf 3 = 1 from by kernel_rfl] at f0
      rw [show Tryd.prog.cellsOf 23 = 8 from by kernel_rfl] at f1
      rw [show Tryd.prog.cellsOf 24 = 1 from by kernel_rfl] at f2
      have f1' : DataW.trod enc Tryd.prog W 0 (fun _ => true) true n 23 [c1, c2, c3, c4, c5, c6, c7, c8] = some y1 := f1
      have f2' : DataW.trod enc Tryd.prog W 0 (fun _ => true) true n 24 [c9] = some y2 := f2
      obtain ⟨z0, e0, _, g0⟩ := DataW.trod_int Tryd.underlying3 f0
      simp at e0
      obtain ⟨p0, q0⟩ := wf_i64 g0
      obtain ⟨us, m, _, _, _, hul, hel⟩ := DataW.trod_array Tryd.underlying23 f1'
      rw [show Tryd.prog.cellsOf 22 = 1 from by kernel_rfl] at hel
      have key : ∀ (i : Nat) (u : Value), i < 8 → (([c1, c2, c3, c4, c5, c6, c7, c8].drop (i * 1)).take 1) = [u] → ∃ k : Nat, u = .int .u32 (k : Int) ∧ k < 4294967296 := by
        intro i u hi hu
        have h1 := hel i hi
        rw [hu, List.getElem?_eq_getElem (by omega)] at h1
        obtain ⟨k, hk, hlt⟩ := open_word (H := H) (enc := enc) m [u] _ h1
        exact ⟨k, by simpa [w1c] using hk, hlt⟩
      obtain ⟨k1, rfl, hk1⟩ := key 0 c1 (by decide) rfl
      obtain ⟨k2, rfl, hk2⟩ := key 1 c2 (by decide) rfl
      obtain ⟨k3, rfl, hk3⟩ := key 2 c3 (by decide) rfl
      obtain ⟨k4, rfl, hk4⟩ := key 3 c4 (by decide) rfl
      obtain ⟨k5, rfl, hk5⟩ := key 4 c5 (by decide) rfl
      obtain ⟨k6, rfl, hk6⟩ := key 5 c6 (by decide) rfl
      obtain ⟨k7, rfl, hk7⟩ := key 6 c7 (by decide) rfl
      obtain ⟨k8, rfl, hk8⟩ := key 7 c8 (by decide) rfl
      obtain ⟨ao, len, cap, rfl⟩ := slice_shapeW Tryd.underlying24 f2'
      obtain ⟨lm, rfl, sm, qm⟩ := open_rows Tryd.underlying24 (show Tryd.prog.cellsOf 22 = 1 from by kernel_rfl) (by decide) w1c_len (fun n => n < 4294967296) 0 (by decide) (open_word (H := H) (enc := enc) (W := W)) (d := y2.1) (ps := y2.2) ⟨n, f2'⟩
      refine ⟨⟨z0, [k1, k2, k3, k4, k5, k6, k7, k8], lm⟩, ao, cap, by rw [e0]; rfl, sm, ⟨p0, q0, rfl, ?_, qm⟩⟩
      intro n hn
      simp only [List.mem_cons, List.not_mem_nil, or_false] at hn
      rcases hn with rfl | rfl | rfl | rfl | rfl | rfl | rfl | rfl <;> assumption

theorem okWide_array2 {w : World} {r : Reach} {base : Nat} {t e : TypeId} {n : Nat} {v : Value} (ht : Tryd.prog.underlying t = some (.array n e)) (h : Value.okWide Tryd.prog w r base t v) : ∃ cs, v = .agg cs ∧ cs.size = Tryd.prog.cellsOf t := by
  simp only [Value.okWide, ht] at h
  obtain ⟨cs, h1, h2, _⟩ := h
  exact ⟨cs, h1, h2⟩
set_option maxRecDepth 100000 in
theorem open_two {H : Type} {enc : TypeId × Value → H} {W : World} {r : Reach} {b0 : Nat} {v : Value} {d : DataW H} {ps : List MemPlace}
    (hv : Value.okWide Tryd.prog W r b0 43 v) (h : DataW.Trod enc Tryd.prog W 0 (fun _ => true) true 43 v d ps) : ∃ a b : Int, v = .agg #[.int .i64 a, .int .i64 b] := by
  obtain ⟨cs, rfl, hsz⟩ := okWide_array2 Tryd.underlying43 hv
  rw [show Tryd.prog.cellsOf 43 = 2 from by kernel_rfl] at hsz
  obtain ⟨fuel, hf⟩ := h
  obtain ⟨l⟩ := cs
  have hl : l.length = 2 := hsz
  match l, hl with
  | [c0, c1], _ =>
    obtain ⟨us, m, _, _, _, hul, hel⟩ := DataW.trod_array Tryd.underlying43 hf
    rw [show Tryd.prog.cellsOf 3 = 1 from by kernel_rfl] at hel
    have h0 := hel 0 (by decide)
    have h1 := hel 1 (by decide)
    rw [List.getElem?_eq_getElem (by omega)] at h0 h1
    obtain ⟨z0, e0, _, _⟩ := DataW.trod_int Tryd.underlying3 h0
    obtain ⟨z1, e1, _, _⟩ := DataW.trod_int Tryd.underlying3 h1
    simp [Value.cells] at e0 e1
    exact ⟨z0, z1, by rw [e0, e1]⟩

end Go.Proofs.YtoalgajbahlpjaaDoor
