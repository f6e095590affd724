/-
  Put of the document's ring, where the frame is held. Over this seat's translation.
-/
import Derived.Test.YtjdnjkniiippkaaRi8
namespace Go.Proofs.Ytjdnjkniiippkaa
open Go.RowKit
set_option linter.unusedVariables false

set_option maxRecDepth 100000 in
set_option maxHeartbeats 8000000 in
theorem mt_put_held {w : World} {m : Nat} {vl vg : Value} {s : RSt} (h : Mt w m vl vg s) (ok : s.Ok) (t : ByteArray) (h1 : 1 ≤ t.size) (h2 : t.size ≤ 179) (hf : ¬ (s.cap < t.size + s.used ∧ (s.pol = 0 ∨ s.cap < t.size + s.rest))) (hl : s.lost + s.fs.length < 18446744073709551615) (hg : s.gone.length ≤ 1000000) :
    Calls Try.prog 12 #[.pointer (some ⟨m, 0, none⟩), .string t] w fun e w' => e = .returned (.int .i64 0) ∧ ∃ vl' vg', Mt w' m vl' vg' ((s.losing (s.shed t.size)).holding t) ∧ TurnedM w w' m vl vg vl' vg' := by
  have hd : decide ((t.size : Int) < 1) = false := by simp; omega
  have hd2 : decide ((179 : Int) < t.size) = false := by simp; omega
  have hlen := len_le_sz s.fs ok.e
  have hlu : sz s.fs = s.used := rfl
  have hk1 := ok.u
  have hk2 := ok.c2
  have hk3 := ok.c1
  have hru : s.rest ≤ s.used := by have := s.used_parts; omega
  have hrc : t.size + s.rest ≤ s.cap := by omega
  have hsl := s.shed_le t.size
  have htl : s.tail.length ≤ s.fs.length := by rw [← s.fs_parts]; simp
  obtain ⟨c0, c1, c2, c3, c4, c5⟩ := h.c
  have hB : (s.begun = false ∧ s.rest = 0) ∨ (s.begun = true ∧ ∃ f r, s.fs = f :: r ∧ s.rest = f.size) := by
    cases hb : s.begun with
    | false => exact .inl ⟨rfl, by show sz (s.fs.take s.first) = 0; unfold RSt.first; rw [hb]; rfl⟩
    | true =>
      cases hfs : s.fs with
      | nil => exact absurd hfs (ok.b hb)
      | cons f r => exact .inr ⟨rfl, f, r, rfl, by show sz (s.fs.take s.first) = _; unfold RSt.first; rw [hb, hfs]; simp [sz]⟩
  have hd0 : ∀ f r, s.fs = f :: r → ∃ g off cap, vl = .slice (some ⟨g, off, none⟩) s.fs.length cap ∧ w.cell? ⟨g, off, none⟩ = some (.string f) := by
    intro f r hfs
    obtain ⟨g, off, cap, hv, -, -, hcell, -⟩ := h.rl.at 0 (by rw [hfs]; simp)
    exact ⟨g, off, cap, hv, hcell 0 f (by rw [hfs]; rfl)⟩
  have hln : ∀ f r, s.fs = f :: r → (0 : Int) < (s.fs.length : Int) := by intro f r hfs; rw [hfs]; simp only [List.length_cons]; omega
  have HOK := Lib.hid ok
  have HF := Lib.hid hf
  have H := Lib.hid h
  have HB := Lib.hid hB
  have HD0 := Lib.hid hd0
  have HLn := Lib.hid hln
  have hfi : s.first ≤ 1 := by unfold RSt.first; split <;> omega
  clear hB hd0 hln hf ok h
  generalize hbg : s.begun = bg at c3 HB
  have Hbg := Lib.hid hbg
  clear hbg
  go_enter Try.func12, Try.ntmps12
  go_upto_if 19 with fail
  go_cut [5, 6] (fun rs fi wx => rs = .int .i64 s.rest ∧ fi = .int .i64 s.first ∧ wx = w)
  case first =>
    rcases HB.out with ⟨hb, hr⟩ | ⟨hb, f, r, hfs, hr⟩
    · subst hb
      go_wp2_with fail
      go_meet
      exact ⟨by rw [hr]; rfl, by unfold RSt.first; rw [Hbg.out]; rfl, rfl⟩
    · subst hb
      obtain ⟨g, off, cap, rfl, d0⟩ := HD0.out f r hfs
      have hn0 := HLn.out f r hfs
      clear hfs
      go_wp2_with fail
      go_meet
      exact ⟨by rw [hr], by unfold RSt.first; rw [Hbg.out]; rfl, rfl⟩
  case rest =>
  obtain ⟨rfl, rfl, hwc⟩ := hcut
  have hwc' := hwc.symm
  subst hwc'
  clear HB HD0 HLn c0 c1 c2 c3 c4 c5
  go_wp2_with fail
  go_loopw [] (fun wr => ∃ k vl' vg', k ≤ s.shed t.size ∧ Mt wr m vl' vg' (s.losing k) ∧ TurnedM w wr m vl vg vl' vg') (fun wr => heldOf wr m)
  case atStart => exact ⟨0, vl, vg, Nat.zero_le _, by rw [s.losing_zero]; exact H.out, TurnedM.refl _ _ _ _⟩
  case round =>
    obtain ⟨k, vl1, vg1, hk, hM, hT⟩ := hrel
    obtain ⟨c0, c1, c2, c3, c4, c5⟩ := hM.c
    have f2 := hM.free 2
    have f4 := hM.free 4
    have f5 := hM.free 5
    have okk := RSt.ok_losing HOK.out k
    have hku := okk.u
    have hkc : (s.losing k).cap = s.cap := rfl
    have hlk := s.losing_used k
    have hklen := len_le_sz _ okk.e
    have hklu : sz (s.losing k).fs = (s.losing k).used := rfl
    have hus := fun q => (mt_used (hM.drewN q) (by omega) (by omega)).mono (R' := fun e w' => e = .returned (.int .i64 (s.losing k).used) ∧ w' = wr.drewN q) fun e w' h => ⟨h.1, h.2.symm⟩
    have HUS := Lib.hid hus
    have hke : (s.losing k).pol = s.pol := rfl
    have hklo : (s.losing k).lost = s.lost + k := rfl
    have hkg : (s.losing k).gone.length = s.gone.length + k := by show (s.gone ++ s.tail.take k).length = _; simp; omega
    rw [hkc] at c0
    rw [hke] at c1
    rw [hklo] at c4
    obtain ⟨al, cl, rfl, hcl⟩ := hM.rl.shape
    obtain ⟨ag, cg, rfl, hcg⟩ := hM.rg.shape
    have HM := Lib.hid hM
    have HT := Lib.hid hT
    have hGk : (s.losing k).gone.length ≤ 2500000 := by omega
    have hLk : (s.losing k).fs.length ≤ 1048576 := by omega
    have hUk : (s.losing k).used ≤ 1048576 := by omega
    have hlo2 : s.lost + k < 18446744073709551615 := by omega
    clear H hus hM hT okk hkg hkc hke hklo
    by_cases hks : k = s.shed t.size
    · have hdn := s.shed_done t.size hrc
      rw [← hks] at hdn
      have hd3 : decide ((s.cap : Int) - ((s.losing k).used : Int) < (t.size : Int)) = false := by simp; omega
      have HS := Lib.hid hks
      clear hks hdn hk hlk hklu
      go_wp2_with fail
      go_quiet (first | (go_at_call 24; exact Calls.quiet_of_same (HUS.out _)))
      go_wp2_with (at_builtin; refine wpList_append_txts rfl (.tmp 117) (.tmp 119) rfl (.slice al (s.losing k).fs.length cl) rfl (s.losing k).fs ?h _ 1 1 rfl [t] rfl ?hc ?hb ?_)
      case h => exact ((HM.out.drewN _).alloc _).rl
      case hc => exact lit_cells _ t _ (by simp)
      case hb => omega
      intro ao4 cap4 w4 hA
      obtain ⟨m5, t5, e5⟩ := ((HM.out.drewN nq).alloc (.cells #[.string t] 9)).put_row hA.row hA.only hA.new
      have e6 := e5.trans ((HM.out.drewN nq).alloc (.cells #[.string t] 9)).blk
      have z5 := (cell_of_row w4 m 2 _ _ (0, 0) e6).trans rfl
      have g5 := frozen_of_row w4 m 2 _ _ e6
      have M5 := Lib.hid m5
      have T5 := Lib.hid (((HT.out.trans (TurnedM.drewN _ _ nq _ _)).trans (TurnedM.alloc _ m (.cells #[.string t] 9) _ _)).trans t5)
      clear hA m5 t5 e5 e6
      go_wp2_with fail
      go_ret
      refine ⟨rfl, _, _, ?_, T5.out⟩
      rw [← HS.out]
      exact M5.out
    · have hklt : k < s.shed t.size := by omega
      have hmo := s.shed_more t.size k hklt
      have hd3 : decide ((s.cap : Int) - ((s.losing k).used : Int) < (t.size : Int)) = true := by simp; omega
      have hfull : s.cap < t.size + s.used := by omega
      have hp : ((s.pol : Int) == 0) = false := by
        have := HF.out
        simp
        omega
      have hp2 : decide ((s.cap : Int) < (t.size : Int) + (s.rest : Int)) = false := by simp; omega
      obtain ⟨f, hget, hfl, hnext⟩ := RSt.losing_next HOK.out (k := k) (by omega)
      obtain ⟨g, off, cap', hv, -, -, hcell, -⟩ := HM.out.rl.at s.first hfl
      simp only [Value.slice.injEq] at hv
      obtain ⟨rfl, -, rfl⟩ := hv
      have d0 := hcell _ f hget
      have hfli : (s.first : Int) < ((s.losing k).fs.length : Int) := by omega
      have hX : ∀ q, Mt ((wr.drewN q).alloc (.cells #[.string f] 9)) m (.slice (some ⟨g, off, none⟩) (s.losing k).fs.length cl) (.slice ag (s.losing k).gone.length cg) (s.losing k) := fun q => (HM.out.drewN q).alloc _
      have HX := Lib.hid hX
      have HN := Lib.hid hnext
      have hmlt : m < wr.heap.size := HM.out.lt
      clear hget hnext hcell hfull hmo hks hX hlk hklu
      go_wp2_with fail
      go_quiet (first | (go_at_call 24; exact Calls.quiet_of_same (HUS.out _)))
      go_upto_region 13 with fail
      have y5 := (HX.out (nq + 1)).c.2.2.2.2.2
      go_cut [] (fun wx => ∃ ag5 cg5, Mt wx m (.slice (some ⟨g, off, none⟩) (s.losing k).fs.length cl) (.slice ag5 ((s.losing k).gone.length + 1) cg5) { s.losing k with gone := (s.losing k).gone ++ [f] } ∧ TurnedM w wx m vl vg (.slice (some ⟨g, off, none⟩) (s.losing k).fs.length cl) (.slice ag5 ((s.losing k).gone.length + 1) cg5))
      case first =>
        go_region_law ((refine step_append_txts rfl (.tmp 74) (.tmp 82) rfl (.slice ag (s.losing k).gone.length cg) rfl (s.losing k).gone ?_ _ 1 1 rfl [f] rfl ?_ ?_ ?_); (exact (HX.out _).rg); (exact lit_cells _ f _ (by simp)); omega; (intro ao4 cap4 w4 hA); (obtain ⟨m5, t5, e5⟩ := (HX.out _).put_gone hA); (have e6 := e5.trans (HX.out _).blk); (have z5 := (cell_of_row w4 m 5 _ _ (0, 0) e6).trans rfl); (have g5 := frozen_of_row w4 m 5 _ _ e6); (have M5 := Lib.hid m5); (have T5 := Lib.hid (((HT.out.trans (TurnedM.drewN _ _ _ _ _)).trans (TurnedM.alloc _ m (.cells #[.string f] 9) _ _)).trans t5)); (clear hA m5 t5 e5 e6))
        all_goals
          go_wp2_with fail
          go_meet
          exact ⟨_, _, M5.out, T5.out⟩
      case rest =>
      obtain ⟨ag5, cg5, m5, t5⟩ := hcut
      have M5 := Lib.hid m5
      have T5 := Lib.hid t5
      clear m5 t5 y5 c0 c1 c2 c3 c4 c5 f2 f4 f5 d0 HX HUS
      have y2 := (M5.out.alloc (.cells #[] 9)).c.2.2.1
      have hF : s.first ≤ (s.losing k).fs.length := by omega
      have htk := ((M5.out.alloc (.cells #[] 9)).rl).take s.first hF
      have HTK := Lib.hid htk
      clear htk
      go_wp2_with (at_builtin; refine wpList_append_at rfl (.tmp 86) (.tmp 92) rfl _ rfl [] ?h _ s.first cl rfl ((s.losing k).fs.take s.first) ?hn s.first (Nat.zero_add _) (by omega) ?_)
      case h => exact Txts.lit0 wc
      case hn => exact HTK.out
      intro ao6 cap6 w6 hA
      have hn6 : ∀ q, (Value.slice ao6 s.first cap6).ownBlock = some q → wc.heap.size ≤ q := by
        intro q hq
        rcases hA.new q hq with e | e
        · simp only [Value.ownBlock, Option.some.injEq] at e; omega
        · simp at e; omega
      have o6 : Only wc w6 (fun _ => False) := Only.fresh (Only.alloc wc _ _) hA.only (fun q e => by simp only [Value.ownBlock, Option.some.injEq] at e; omega)
      have m6 := M5.out.only o6 (by simp) (by simp) (by simp)
      obtain ⟨-, -, c2, -, -, -⟩ := m6.c
      have r6 : Txts w6 (.slice ao6 s.first cap6) ((s.losing k).fs.take s.first) := by simpa using hA.row
      have R6 := Lib.hid r6
      have O6 := Lib.hid o6
      have N6 := Lib.hid hn6
      have M6 := Lib.hid m6
      clear hA hn6 o6 m6 r6 HTK y2
      have hlenN : s.first + ((s.losing k).fs.length - (s.first + 1)) = (s.losing k).fs.length - 1 := by omega
      have HLN := Lib.hid hlenN
      clear hlenN
      obtain ⟨hd1, hd2⟩ := M6.out.rl.drop (s.first + 1) (show s.first + 1 ≤ (s.losing k).fs.length by omega)
      have hlo3 : (s.losing k).lost < 18446744073709551615 := hlo2
      by_cases hcF : cl = s.first + 1
      · rw [sliced_stay _ _ _ _ _ hcF] at hd1
        subst hcF
        rw [show (s.losing k).fs.length - (s.first + 1) = 0 by omega, Nat.sub_self] at hd1
        have HD1 := Lib.hid hd1
        clear hd1 hd2
        go_wp2_with (at_builtin; refine wpList_append_at rfl (.tmp 95) (.tmp 102) rfl _ rfl ((s.losing k).fs.take s.first) ?h _ _ _ rfl ((s.losing k).fs.drop (s.first + 1)) ?hn ((s.losing k).fs.length - 1) (by rw [List.length_take, Nat.min_eq_left hF]; omega) (by omega) ?_)
        case h => exact R6.out
        case hn => exact HD1.out
        intro ao7 cap7 w7 hA
        have hn7 : ∀ q, (Value.slice ao7 ((s.losing k).fs.length - 1) cap7).ownBlock = some q → wc.heap.size ≤ q := by
          intro q hq
          rcases hA.new q hq with e | e
          · exact N6.out q e
          · have := O6.out.size; omega
        have o7 : Only wc w7 (fun _ => False) := Only.fresh O6.out hA.only N6.out
        obtain ⟨m8, t8, e8⟩ := M5.out.put_new hA.row o7 hn7
        have e9 := e8.trans M5.out.blk
        have z2 := (cell_of_row w7 m 2 _ _ (0, 0) e9).trans rfl
        have g2 := frozen_of_row w7 m 2 _ _ e9
        have z4 : w7.cell? ⟨m, 4, none⟩ = some (.int .u64 ((s.losing k).lost : Int)) := (cell_of_row w7 m 4 _ _ (0, 0) e9).trans rfl
        have g4 := frozen_of_row w7 m 4 _ _ e9
        have m9 := m8.set_lost ((s.losing k).lost + 1)
        have M9 := Lib.hid m9
        have T9 := Lib.hid ((T5.out.trans t8).trans (TurnedM.cell _ m 4 _ _ (.int .u64 (((s.losing k).lost + 1 : Nat) : Int))))
        have h9 := heldOf_mt m9
        have Hme := Lib.hid (show heldOf ((w7.setCell ⟨m, 2, none⟩ (.slice ao7 ((s.losing k).fs.length - 1) cap7)).setCell ⟨m, 4, none⟩ (.int .u64 (((s.losing k).lost + 1 : Nat) : Int))) m < heldOf wr m by
          rw [h9, heldOf_mt HM.out]
          show ((s.losing k).fs.take s.first ++ (s.losing k).fs.drop (s.first + 1)).length < _
          rw [List.length_append, List.length_take, List.length_drop]
          omega)
        clear hA hn7 o7 m8 t8 e8 e9 m9 h9 c2
        go_wp2_with fail
        go_roundw
        case rel =>
          first
            | exact ⟨k + 1, _, _, hklt, by rw [HN.out]; exact M9.out, T9.out⟩
            | ((repeat apply Exists.intro); exact ⟨⟨hklt, by rw [HN.out]; exact M9.out, T9.out⟩, rfl⟩)
        case measure => exact Hme.out
      · rw [sliced_move _ _ _ _ _ hcF] at hd1
        have HD1 := Lib.hid hd1
        clear hd1 hd2
        go_wp2_with (at_builtin; refine wpList_append_at rfl (.tmp 95) (.tmp 102) rfl _ rfl ((s.losing k).fs.take s.first) ?h _ _ _ rfl ((s.losing k).fs.drop (s.first + 1)) ?hn ((s.losing k).fs.length - 1) (by rw [List.length_take, Nat.min_eq_left hF]; exact HLN.out) (by omega) ?_)
        case h => exact R6.out
        case hn => exact HD1.out
        intro ao7 cap7 w7 hA
        have hn7 : ∀ q, (Value.slice ao7 ((s.losing k).fs.length - 1) cap7).ownBlock = some q → wc.heap.size ≤ q := by
          intro q hq
          rcases hA.new q hq with e | e
          · exact N6.out q e
          · have := O6.out.size; omega
        have o7 : Only wc w7 (fun _ => False) := Only.fresh O6.out hA.only N6.out
        obtain ⟨m8, t8, e8⟩ := M5.out.put_new hA.row o7 hn7
        have e9 := e8.trans M5.out.blk
        have z2 := (cell_of_row w7 m 2 _ _ (0, 0) e9).trans rfl
        have g2 := frozen_of_row w7 m 2 _ _ e9
        have z4 : w7.cell? ⟨m, 4, none⟩ = some (.int .u64 ((s.losing k).lost : Int)) := (cell_of_row w7 m 4 _ _ (0, 0) e9).trans rfl
        have g4 := frozen_of_row w7 m 4 _ _ e9
        have m9 := m8.set_lost ((s.losing k).lost + 1)
        have M9 := Lib.hid m9
        have T9 := Lib.hid ((T5.out.trans t8).trans (TurnedM.cell _ m 4 _ _ (.int .u64 (((s.losing k).lost + 1 : Nat) : Int))))
        have h9 := heldOf_mt m9
        have Hme := Lib.hid (show heldOf ((w7.setCell ⟨m, 2, none⟩ (.slice ao7 ((s.losing k).fs.length - 1) cap7)).setCell ⟨m, 4, none⟩ (.int .u64 (((s.losing k).lost + 1 : Nat) : Int))) m < heldOf wr m by
          rw [h9, heldOf_mt HM.out]
          show ((s.losing k).fs.take s.first ++ (s.losing k).fs.drop (s.first + 1)).length < _
          rw [List.length_append, List.length_take, List.length_drop]
          omega)
        clear hA hn7 o7 m8 t8 e8 e9 m9 h9 c2
        go_wp2_with fail
        go_roundw
        case rel =>
          first
            | exact ⟨k + 1, _, _, hklt, by rw [HN.out]; exact M9.out, T9.out⟩
            | ((repeat apply Exists.intro); exact ⟨⟨hklt, by rw [HN.out]; exact M9.out, T9.out⟩, rfl⟩)
        case measure => exact Hme.out

end Go.Proofs.Ytjdnjkniiippkaa
