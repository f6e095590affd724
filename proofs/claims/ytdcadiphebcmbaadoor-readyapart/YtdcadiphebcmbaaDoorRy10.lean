/-
  The document's queues: Level, Put, Remove, Turn, Move. No condition.
-/
import Derived.Test.YtdcadiphebcmbaaDoorRy9
import Derived.Deep.RegionLaw
namespace Go.Proofs.YtdcadiphebcmbaaDoor
open Go Go.RowKit
set_option linter.unusedVariables false
set_option linter.unusedSimpArgs false

set_option maxRecDepth 100000 in
set_option maxHeartbeats 8000000 in
theorem rlevel_any {w : World} {m B : Nat} {r : Rws} (h : DQ w m B r) (t : Int) : Calls Tryd.prog 27 #[.pointer (some ⟨m, 0, none⟩), .int .i64 t] w fun e w' => e = .returned (.int .i64 (lvl r t)) ∧ Below w.heap.size w w' := by
  have H := Lib.hid h
  have hok := h.ok
  have HROW := Lib.hid hok.row_le
  clear h hok
  go_enter Tryd.func27, Tryd.ntmps27
  go_wp2_with fail
  go_loopw [5] (fun i wr => ∃ j : Nat, j ≤ 32 ∧ i = .int .i64 j ∧ (∀ k, k < j → ∀ x ∈ r k, (x : Int) ≠ t) ∧ Below w.heap.size w wr) (fun i _ => 32 - (intOf i).toNat)
  case atStart => exact ⟨0, Nat.zero_le _, rfl, fun k hk => absurd hk (by omega), Below.refl _ _⟩
  case round =>
    obtain ⟨j, hj, rfl, hb, hB⟩ := hrel
    have Hb := Lib.hid hb
    have HB := Lib.hid hB
    clear hb hB
    by_cases hlt : j < 32
    · have hd : decide ((j : Int) < 32) = true := by simp; omega
      obtain ⟨ao, cap, c0, hs⟩ := (H.out.below HB.out).row j hlt
      have hlen := HROW.out j
      have HS := Lib.hid hs
      have HWO := Lib.hid (fun q => without_any ao cap (r j) (HS.out.drewN q) (by omega) t)
      have hmw := blk_lt (World.block_lt_of_cell? wr _ c0 |> fun h => (Array.getElem?_eq_getElem h))
      clear hs
      obtain ⟨M, hM⟩ : ∃ M, (r j).length = M := ⟨_, rfl⟩
      obtain ⟨K, hK⟩ : ∃ K, (withoutL (r j) t).length = K := ⟨_, rfl⟩
      rw [hM] at c0 HWO
      simp only [hK] at HWO
      have HM := Lib.hid hM
      have HK := Lib.hid hK
      clear hM hK hlen
      have HW1 := Lib.hid (HWO.out 1)
      have HBD := Lib.hid (show Below wr.heap.size wr (wr.drewN 1) from ⟨rfl, rfl, rfl, Nat.le_refl _, fun _ _ => rfl⟩)
      obtain ⟨bb, hbb⟩ : ∃ bb, ((K : Int) != (M : Int)) = bb := ⟨_, rfl⟩
      have HBB := Lib.hid hbb
      go_upto_region 4 with fail
      go_cut [26] (fun c wx => c = .bool bb ∧ Below w.heap.size w wx)
      case first =>
        go_region_with (go_at_call 29; refine HW1.out.mono ?_; rintro e w5 ⟨bo, bc, rfl, -, hB5⟩; have c5 := cell_kept (below_on HBD.out hB5) c0; have B5 := Lib.hid (below_on HB.out (below_on HBD.out hB5)); clear hB5)
        all_goals
          go_wp2_with fail
          go_meet
          exact ⟨rfl, B5.out⟩
      case rest =>
      obtain ⟨rfl, hB5⟩ := hcut
      have B5 := Lib.hid hB5
      clear hB5 c0 hbb
      cases bb with
      | false =>
        have HB2 := Lib.hid (show ∀ k, k < j + 1 → ∀ x ∈ r k, (x : Int) ≠ t from fun k hk => by
          rcases Nat.lt_or_ge k j with h | h
          · exact Hb.out k h
          · rw [show k = j by omega]
            refine withoutL_len.1 ?_
            rw [HK.out, HM.out]
            have := HBB.out
            simp at this
            omega)
        go_wp2_with fail
        go_roundw
        case rel => exact ⟨j + 1, hlt, by go_num, HB2.out, B5.out⟩
        case measure => simp [intOf]; omega
      | true =>
        have HE := Lib.hid (show lvl r t = j by
          have hx : ∃ x ∈ r j, (x : Int) = t := by
            have h1 : ¬ (∀ x ∈ r j, (x : Int) ≠ t) := by
              rw [← withoutL_len, HK.out, HM.out]
              have := HBB.out
              simp at this
              omega
            simpa using h1
          unfold lvl; rw [at?_of hlt hx Hb.out])
        go_wp2_with fail
        go_ret
        exact ⟨by rw [HE.out]; rfl, B5.out⟩
    · obtain rfl : j = 32 := by omega
      have HE := Lib.hid (show lvl r t = -1 by unfold lvl; rw [at?_none.2 Hb.out])
      go_wp2_with fail
      go_ret
      exact ⟨by rw [HE.out]; rfl, HB.out⟩

end Go.Proofs.YtdcadiphebcmbaaDoor
