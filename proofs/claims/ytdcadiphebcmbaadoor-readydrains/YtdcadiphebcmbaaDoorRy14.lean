/-
  The statements' own comparison of queues with the document's (alike): where both hold the same rows it answers true. Conditions: the library's table of bits stands as it was laid.
-/
import Derived.Test.YtdcadiphebcmbaaDoorRy13
import Derived.Test.YtdcadiphebcmbaaDoorRy12
namespace Go.Proofs.YtdcadiphebcmbaaDoor
open Go Go.RowKit
set_option linter.unusedVariables false
set_option linter.unusedSimpArgs false

theorem rowAt_nat (r : Rws) (j : Nat) (hj : j < 32) : rowAt r (j : Int) = r j := by
  unfold rowAt; rw [if_pos (by omega), Int.toNat_natCast]

set_option maxRecDepth 100000 in
set_option maxHeartbeats 8000000 in
theorem alike_any {w : World} {b m B : Nat} {r : Rws} (hq : RQ w b r) (hT : TabL w) (hd : DQ w m B r) (t : Int) :
    Calls Tryd.prog 17 #[.pointer (some ⟨b, 0, none⟩), .pointer (some ⟨m, 0, none⟩), .int .i64 t] w fun e w' => e = .returned (.bool true) ∧ Below w.heap.size w w' := by
  have HQ := Lib.hid hq
  have HD := Lib.hid hd
  have HTb := Lib.hid hT
  have K1 := Lib.hid (first_any hq hT)
  have K2 := Lib.hid (fun w' h => rfirst_any (hd.below h) (w := w'))
  have K3 := Lib.hid (fun w' h => len_any (hq.below h) (w := w'))
  have K4 := Lib.hid (fun w' h => rlen_any (hd.below h) (w := w'))
  have K5 := Lib.hid (fun w' h => level_any (hq.below h) t (w := w'))
  have K6 := Lib.hid (fun w' h => rlevel_any (hd.below h) t (w := w'))
  have K7 := Lib.hid (fun w' h => at_none (hq.below h) (-1) rfl (w := w'))
  have K8 := Lib.hid (fun w' h => at_none (hq.below h) 32 rfl (w := w'))
  have HROW := Lib.hid hq.ok.row_le
  clear hq hd hT
  generalize lvl r t = lv at *
  generalize rlen r = ln at *
  obtain ⟨f, ok, want, hf1, hf2, hf3⟩ : ∃ (f : Int) (ok : Bool) (want : Int), firstV r = .tuple #[.int .i64 f, .bool ok] ∧ firstI r = want ∧ ((ok = true ∧ decide (0 ≤ want) = true ∧ (f != want) = false) ∨ (ok = false ∧ decide (0 ≤ want) = false ∧ (f != 0) = false)) := by
    cases hr : rfirst r with
    | none => exact ⟨0, false, -1, by unfold firstV; rw [hr], by unfold firstI; rw [hr], .inr ⟨rfl, rfl, rfl⟩⟩
    | some x => exact ⟨x, true, x, by unfold firstV; rw [hr], by unfold firstI; rw [hr], .inl ⟨rfl, by simp, by simp⟩⟩
  rw [hf1] at K1
  rw [hf2] at K2
  have HF := Lib.hid hf3
  clear hf1 hf2 hf3
  go_enter Tryd.func17, Tryd.ntmps17
  go_wp2_with fail
  refine K1.out.mono ?_
  rintro e w1 ⟨rfl, q, hw1⟩
  have B1 := Lib.hid (show Below w.heap.size w w1 by rw [hw1]; exact below_drewN (Below.refl _ _) q)
  clear hw1
  go_wp2_with fail
  refine (K2.out w1 B1.out).mono ?_
  rintro e w1' ⟨rfl, rfl⟩
  go_upto_region 3 with fail
  go_cut [53] (fun c wx => c = .bool false ∧ Below w.heap.size w wx)
  case first =>
    rcases HF.out with ⟨h1, h2, h3⟩ | ⟨h1, h2, h3⟩
    all_goals
      subst h1
      go_wp2_with fail
      refine (K3.out w1 B1.out).mono ?_
      rintro e w2 ⟨rfl, rfl⟩
      go_wp2_with fail
      refine (K4.out w1 B1.out).mono ?_
      rintro e w2 ⟨rfl, rfl⟩
      go_wp2_with fail
      refine (K5.out w1 B1.out).mono ?_
      rintro e w2 ⟨rfl, rfl⟩
      go_wp2_with fail
      refine (K6.out w1 B1.out).mono ?_
      rintro e w2 ⟨rfl, h⟩
      have B2 := Lib.hid (below_on B1.out h)
      clear h
      go_wp2_with fail
      go_meet
      exact ⟨rfl, B2.out⟩
  case rest =>
  obtain ⟨rfl, h⟩ := hcut
  have B2 := Lib.hid h
  clear h K1 K2 K3 K4 K5 K6 HF
  go_wp2_with fail
  go_loopw [54] (fun i wr => ∃ j : Nat, j ≤ 32 ∧ i = .int .i64 j ∧ Below w.heap.size w wr) (fun i _ => 32 - (intOf i).toNat)
  case atStart => exact ⟨0, Nat.zero_le _, rfl, B2.out⟩
  case round =>
    clear B2
    obtain ⟨j, hj, rfl, hB⟩ := hrel
    have HB := Lib.hid hB
    clear hB
    by_cases hlt : j < 32
    · have hd : decide ((j : Int) < 32) = true := by simp; omega
      have hlen := HROW.out j
      have hD1 := HD.out.below (below_drewN HB.out 1)
      obtain ⟨ao, cap, c0', hs⟩ := hD1.row j hlt
      have c0 : wr.cell? ⟨m, j, none⟩ = some (.slice ao (r j).length cap) := c0'
      have HA := Lib.hid (at_any (HQ.out.below (below_drewN HB.out 1)) (j : Int))
      rw [rowAt_nat r j hlt] at HA
      have HI : ∀ w5 ao5 cap5 B5, OwnI w5 B5 (.slice ao5 (r j).length cap5) (r j) → Below (wr.drewN 1).heap.size (wr.drewN 1) w5 → w5.cell? ⟨m, j, none⟩ = some (.slice ao (r j).length cap) ∧ Calls Tryd.prog 21 #[.slice ao5 (r j).length cap5, .slice ao (r j).length cap] w5 fun e w' => e = .returned (.bool true) ∧ Below w.heap.size w w' := by
        intro w5 ao5 cap5 B5 h5 b5
        obtain ⟨ao6, cap6, e6, hs6, -⟩ := h5.seen w1i_len
        cases e6
        refine ⟨cell_kept b5 c0', (ints_any ao5 cap5 (r j) hs6 ao cap (r j) (hs.below b5) (by omega)).mono ?_⟩
        rintro e w' ⟨rfl, q, rfl⟩
        exact ⟨by simp, below_drewN (below_on (below_drewN HB.out 1) b5) q⟩
      have HI := Lib.hid HI
      obtain ⟨M, hM⟩ : ∃ M, (r j).length = M := ⟨_, rfl⟩
      rw [hM] at c0 HA HI
      clear hs hD1 c0' hM hlen
      go_upto_region 8 with fail
      go_cut [67] (fun c wx => c = .bool false ∧ Below w.heap.size w wx)
      case first =>
        go_region_with (first
          | (go_at_call 20; refine HA.out.mono ?_; rintro e w5 ⟨ao5, cap5, rfl, h5, b5⟩; obtain ⟨c5, k5⟩ := HI.out w5 ao5 cap5 _ h5 b5; have K5 := Lib.hid k5; clear h5 b5 k5)
          | (go_at_call 21; refine K5.out.mono ?_; rintro e w6 ⟨rfl, b6⟩; have B6 := Lib.hid b6; clear b6))
        all_goals
          go_wp2_with fail
          go_meet
          exact ⟨rfl, B6.out⟩
      case rest =>
      obtain ⟨rfl, h⟩ := hcut
      have B3 := Lib.hid h
      clear h c0
      go_wp2_with fail
      go_roundw
      case rel => exact ⟨j + 1, hlt, by go_num, B3.out⟩
      case measure => simp [intOf]; omega
    · obtain rfl : j = 32 := by omega
      go_wp2_with fail
      refine (K7.out wr HB.out).mono ?_
      rintro e w2 ⟨rfl, rfl⟩
      go_wp2_with fail
      refine (K8.out wr HB.out).mono ?_
      rintro e w2 ⟨rfl, rfl⟩
      go_wp2_with fail
      go_ret
      exact ⟨rfl, HB.out⟩

end Go.Proofs.YtdcadiphebcmbaaDoor
