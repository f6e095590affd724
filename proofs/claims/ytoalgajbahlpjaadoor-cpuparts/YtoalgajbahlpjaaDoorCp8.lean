/-
  The document's Same of two contexts that are alike. Conditions: contexts in memory.
-/
import Derived.Test.YtoalgajbahlpjaaDoorCp7
namespace Go.Proofs.YtoalgajbahlpjaaDoor
open Go Go.RowKit
set_option linter.unusedVariables false
set_option linter.unusedSimpArgs false

set_option maxRecDepth 100000 in
set_option maxHeartbeats 4000000 in
theorem eq8 (r0 r1 r2 r3 r4 r5 r6 r7 : Nat) (w : World) : (Op.equalIn 10000 23 (.agg #[.int .u32 (r0 : Int), .int .u32 (r1 : Int), .int .u32 (r2 : Int), .int .u32 (r3 : Int), .int .u32 (r4 : Int), .int .u32 (r5 : Int), .int .u32 (r6 : Int), .int .u32 (r7 : Int)]) (.agg #[.int .u32 (r0 : Int), .int .u32 (r1 : Int), .int .u32 (r2 : Int), .int .u32 (r3 : Int), .int .u32 (r4 : Int), .int .u32 (r5 : Int), .int .u32 (r6 : Int), .int .u32 (r7 : Int)])).run Tryd.prog w = .ok true w := by
  have u3 := Tryd.underlying22
  have a3 := Tryd.isAgg22
  have z3 := Tryd.sizeOf22
  rw [show (10000 : Nat) = 9999 + 1 from rfl, Op.equalIn]
  simp only [Sem.run_bind, run_underlying Tryd.underlying23, Result.andThen_ok]
  simp only [Std.Legacy.Range.forIn_eq_forIn_range', Std.Legacy.Range.size, Nat.sub_zero, Nat.add_sub_cancel, Nat.div_one, List.range'_succ, List.range'_zero, List.forIn_cons, List.forIn_nil]
  go_simp

set_option maxRecDepth 100000 in
set_option maxHeartbeats 4000000 in
theorem rsame_walk (p : Int) (r0 r1 r2 r3 r4 r5 r6 r7 : Nat) (ao bo : Option Addr) (cap cbp : Nat) (l : List Nat) (w : World) (h1 : SeenW w ao cap l) (h2 : SeenW w bo cbp l) :
    Calls Tryd.prog 13 #[.agg (cx10 p r0 r1 r2 r3 r4 r5 r6 r7 (.slice ao l.length cap)), .agg (cx10 p r0 r1 r2 r3 r4 r5 r6 r7 (.slice bo l.length cbp))] w fun r w' => r = .returned (.bool true) ∧ Below w.heap.size w w' := by
  obtain ⟨w1, e1⟩ : ∃ w1, w1 = w.alloc (.cells (cx10 p r0 r1 r2 r3 r4 r5 r6 r7 (.slice ao l.length cap)) 26) := ⟨_, rfl⟩
  obtain ⟨s1, n1, b1⟩ := new_size e1
  obtain ⟨w2, e2⟩ : ∃ w2, w2 = w1.alloc (.cells (cx10 p r0 r1 r2 r3 r4 r5 r6 r7 (.slice bo l.length cbp)) 26) := ⟨_, rfl⟩
  obtain ⟨s2, n2, b2⟩ := new_size e2
  have n1' := blk_on b2 n1
  obtain ⟨D, hD⟩ : ∃ D, w.heap.size = D := ⟨_, rfl⟩
  obtain ⟨E, hE⟩ : ∃ E, D + 1 = E := ⟨_, rfl⟩
  rw [hD] at n1'
  rw [s1, hD, hE] at n2
  have B2 := Lib.hid (below_on b1 b2)
  have H1 := Lib.hid (h1.below B2.out)
  have H2 := Lib.hid (h2.below B2.out)
  have HD := Lib.hid hD
  have HE := Lib.hid hE
  have hmx := h1.mx
  unfold maxLen at hmx
  obtain ⟨c0, c1, c2, c3, c4, c5, c6, c7, c8, c9⟩ := cells10 n1'
  obtain ⟨d0, d1, d2, d3, d4, d5, d6, d7, d8, d9⟩ := cells10 n2
  clear s1 n1 b1 s2 n2 b2 n1' hD hE h1 h2
  unfold cx10 at *
  have he := eq8 r0 r1 r2 r3 r4 r5 r6 r7
  go_enter Tryd.func13, Tryd.ntmps13
  go_upto_region 1 with fail
  rw [← e1, HD.out, ← e2, HE.out]
  clear e1 e2
  go_wp2_with fail
  clear he c0 c1 c2 c3 c4 c5 c6 c7 c8 d0 d1 d2 d3 d4 d5 d6 d7 d8
  have C9 := Lib.hid c9
  have D9 := Lib.hid d9
  clear c9 d9
  go_loopw [5] (fun x wr => ∃ (k n : Nat), x = .int .i64 k ∧ k ≤ l.length ∧ Hid (wr = w2.drewN n)) (fun x _ => l.length - (intOf x).toNat)
  case atStart => exact ⟨0, 0, rfl, Nat.zero_le _, Lib.hid rfl⟩
  case round =>
    obtain ⟨k, n, rfl, hk, hw⟩ := hrel
    have c9 : wr.cell? ⟨D, 9, none⟩ = some (.slice ao l.length cap) := by rw [hw.out]; exact C9.out
    have d9 : wr.cell? ⟨E, 9, none⟩ = some (.slice bo l.length cbp) := by rw [hw.out]; exact D9.out
    by_cases hlt : k < l.length
    · obtain ⟨b, off, rfl, -, a6⟩ := seenW_at (H1.out.drewN n) k hlt
      obtain ⟨b', off', rfl, -, b6⟩ := seenW_at (H2.out.drewN n) k hlt
      rw [← hw.out] at a6 b6
      have hk0I : (0 : Int) ≤ (k : Int) := Int.natCast_nonneg _
      have hk1I : (k : Int) < (l.length : Int) := by omega
      generalize l.getD k 0 = q at *
      go_wp2_with fail
      go_quiet (fail)
      go_wp2_with fail
      go_roundw
      case rel => exact ⟨k + 1, _, by go_num, hlt, Lib.hid (by rw [hw.out]; exact drewN_drewN _ _ _)⟩
      case measure => simp [intOf]; omega
    · have hd : decide ((k : Int) < (l.length : Int)) = false := by simp; omega
      go_wp2_with fail
      go_ret
      exact ⟨rfl, by rw [hw.out]; exact below_drewN B2.out n⟩

theorem rsame_any (x : Ctx) (hr : x.regs.length = 8) (ao bo : Option Addr) (cap cbp : Nat) (w : World) (h1 : SeenW w ao cap x.mem) (h2 : SeenW w bo cbp x.mem) :
    Calls Tryd.prog 13 #[cxV x (.slice ao x.mem.length cap), cxV x (.slice bo x.mem.length cbp)] w fun r w' => r = .returned (.bool true) ∧ Below w.heap.size w w' := by
  obtain ⟨p, regs, m⟩ := x
  obtain ⟨r0, r1, r2, r3, r4, r5, r6, r7, rfl⟩ := eight hr
  exact rsame_walk p r0 r1 r2 r3 r4 r5 r6 r7 ao bo cap cbp m w h1 h2

end Go.Proofs.YtoalgajbahlpjaaDoor
