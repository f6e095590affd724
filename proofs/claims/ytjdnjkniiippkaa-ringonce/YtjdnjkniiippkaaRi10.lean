/-
  Put of the document's ring in one, and its Drain. Over this seat's translation.
-/
import Derived.Test.YtjdnjkniiippkaaRi9
import Derived.Test.YtjdnjkniiippkaaRi6
namespace Go.Proofs.Ytjdnjkniiippkaa
open Go.RowKit
set_option linter.unusedVariables false

theorem mt_put {w : World} {m : Nat} {vl vg : Value} {s : RSt} (h : Mt w m vl vg s) (ok : s.Ok) (t : ByteArray) (ht : t.size ≤ maxLen) (hl : s.lost + s.fs.length + 1 < 18446744073709551615) (hg : s.gone.length ≤ 1000000) :
    Calls Try.prog 12 #[.pointer (some ⟨m, 0, none⟩), .string t] w fun e w' => e = .returned (.int .i64 (s.put t).1) ∧ ∃ vl' vg', Mt w' m vl' vg' (s.put t).2 ∧ TurnedM w w' m vl vg vl' vg' := by
  by_cases h1 : t.size < 1 ∨ 179 < t.size
  · have hp : s.put t = (1, s) := by unfold RSt.put; rw [if_pos h1]
    rw [hp]
    refine (mt_put_bad h t ht h1).mono ?_
    rintro e w' ⟨rfl, rfl⟩
    exact ⟨rfl, vl, vg, h, TurnedM.refl _ _ _ _⟩
  · by_cases h2 : s.cap < t.size + s.used ∧ (s.pol = 0 ∨ s.cap < t.size + s.rest)
    · have hp : s.put t = (7, s.losing1 t) := by unfold RSt.put; rw [if_neg h1, if_pos h2]
      rw [hp]
      exact mt_put_full h ok t (by omega) (by omega) h2 (by omega) hg
    · have hp : s.put t = (0, (s.losing (s.shed t.size)).holding t) := by unfold RSt.put; rw [if_neg h1, if_neg h2]
      rw [hp]
      exact mt_put_held h ok t (by omega) (by omega) h2 (by omega) hg

/-- append as a step of a region that draws, with the length's name given. -/
theorem step_append_at {ops : Array Oper} {o : Oper} {a : Act} {w : World} {K : Act → World → Prop} {Q : Exit → Act → World → Prop} {E : Prop} (hgd : o.guard = none) (s x : Operand)
    (ho : o.op = .call { callee := .builtin .append, args := #[s, x], argTypes := #[30, 30] }) (v : Value) (hs : a.eval s = v) (l : List ByteArray) (h : Txts w v l)
    (ad : Addr) (m c : Nat) (hx : a.eval x = .slice (some ad) m c) (news : List ByteArray) (hn : Txts w (.slice (some ad) m c) news) (r : Nat) (hr : l.length + m = r) (hb : r ≤ 4000000)
    (hK : ∀ ao cap w', Appd w w' v (.slice ao r cap) (l ++ news) → K (a.put o.dst (.slice ao r cap)) w') : if Region.wanted o (yielded ops a.tmps) = true then Oper.wp Try.prog o a w K Q else E := by
  subst hr
  exact step_append_txts hgd s x ho v hs l h ad m c hx news (hn.some rfl).1.symm (hn.some rfl).2 hb hK

theorem list_append (a b : ByteArray) : (a ++ b).data.toList = a.data.toList ++ b.data.toList := by
  rw [ByteArray.data_append, Array.toList_append]
theorem list_take (f : ByteArray) (k : Nat) : (f.extract 0 k).data.toList = f.data.toList.take k := by
  rw [ByteArray.data_extract, Array.toList_extract, List.extract_eq_take_drop]
  simp
theorem bytes_eq {o : ByteArray} {l : List UInt8} (h : o.data.toList = l) : o = ⟨l.toArray⟩ := by
  apply ByteArray.ext
  rw [← h]

/-- What stands at a round of the document's Drain. -/
structure Mdr (w : World) (m : Nat) (vl vg : Value) (s : RSt) (M : Nat) (k : Nat) (o : ByteArray) (v1 : Value) (s1 : RSt) (wr : World) : Prop where
  mt : Mt wr m v1 vg s1
  ok : s1.Ok
  tu : TurnedM w wr m vl vg v1 vg
  eb : o.data.toList ++ s1.drained k = s.drained M
  es : s1.drain k = s.drain M
  su : o.size + s1.used = s.used

theorem Mdr.done {w : World} {m : Nat} {vl vg : Value} {s : RSt} {M k : Nat} {o : ByteArray} {v1 : Value} {s1 : RSt} {wr : World} (h : Mdr w m vl vg s M k o v1 s1 wr) (hd : s1.fs = [] ∨ k = 0) :
    Value.string o = .string ⟨(s.drained M).toArray⟩ ∧ s1 = s.drain M := by
  have h1 := h.eb
  have h2 := h.es
  have e : s1.drained k = [] ∧ s1.drain k = s1 := by
    rcases hd with hd | hd
    · exact drained_none s1 hd k
    · rw [hd]; exact drained_zero s1
  rw [e.1, List.append_nil] at h1
  rw [e.2] at h2
  exact ⟨by rw [bytes_eq h1], h2⟩

theorem Mdr.next {w : World} {m : Nat} {vl vg : Value} {s : RSt} {M k : Nat} {o : ByteArray} {v1 v2 : Value} {s1 : RSt} {wr w2 : World} (h : Mdr w m vl vg s M k o v1 s1 wr) {f : ByteArray} {r : List ByteArray} (hfs : s1.fs = f :: r) (hk : k ≠ 0)
    (hm : Mt w2 m v2 vg (s1.taken f r k)) (ht : TurnedM wr w2 m v1 vg v2 vg) : Mdr w m vl vg s M (k - min k f.size) (o ++ f.extract 0 (min k f.size)) v2 (s1.taken f r k) w2 := by
  obtain ⟨okt, hut⟩ := RSt.taken_ok h.ok hfs (m := k)
  obtain ⟨hte, hts⟩ := RSt.taken_eq hfs hk
  have hs : (f.extract 0 (min k f.size)).size = min k f.size := by simp
  refine ⟨hm, okt, h.tu.trans ht, ?_, ?_, ?_⟩
  · rw [list_append, List.append_assoc, ← hte]; exact h.eb
  · rw [← hts]; exact h.es
  · have := h.su
    rw [ByteArray.size_append, hs]
    omega

set_option maxRecDepth 100000 in
set_option maxHeartbeats 8000000 in
theorem mt_drain {w : World} {m : Nat} {vl vg : Value} {s : RSt} (h : Mt w m vl vg s) (ok : s.Ok) (most : Int) (M : Nat) (hM : M = most.toNat) (hm : most ≤ 9223372036854775807) :
    Calls Try.prog 14 #[.pointer (some ⟨m, 0, none⟩), .int .i64 most] w fun e w' => e = .returned (.string ⟨(s.drained M).toArray⟩) ∧ ∃ vl', Mt w' m vl' vg (s.drain M) ∧ TurnedM w w' m vl vg vl' vg := by
  have hk1 := ok.u
  have hk2 := ok.c2
  have h0 : Mdr w m vl vg s M most.toNat ⟨#[]⟩ vl s w := ⟨h, ok, TurnedM.refl _ _ _ _, by rw [← hM]; rfl, by rw [← hM], by show 0 + _ = _; omega⟩
  have H0 := Lib.hid h0
  clear h0 h ok hM
  go_enter Try.func14, Try.ntmps14
  go_wp2_with fail
  go_loopw [1, 5] (fun mo out wr => ∃ (M1 : Int) (o : ByteArray) (v1 : Value) (s1 : RSt), mo = .int .i64 M1 ∧ out = .string o ∧ M1 ≤ 9223372036854775807 ∧ Mdr w m vl vg s M M1.toNat o v1 s1 wr) (fun mo _ _ => (intOf mo).toNat)
  case atStart => exact ⟨most, ⟨#[]⟩, vl, s, rfl, rfl, hm, H0.out⟩
  case round =>
    obtain ⟨M1, o, v1, s1, rfl, rfl, hM1, hD⟩ := hrel
    obtain ⟨c0, c1, c2, c3, c4, c5⟩ := hD.mt.c
    have f2 := hD.mt.free 2
    have f3 := hD.mt.free 3
    obtain ⟨al, cl, rfl, hcl⟩ := hD.mt.rl.shape
    have hsu := hD.su
    have HD := Lib.hid hD
    clear hD H0
    by_cases hpos : 0 < M1
    · obtain ⟨k, rfl⟩ := Int.eq_ofNat_of_zero_le (show 0 ≤ M1 by omega)
      rw [Int.toNat_natCast] at HD
      have hd : decide ((0 : Int) < (k : Int)) = true := by simp; omega
      cases hfs : s1.fs with
      | nil =>
        have hl0 : s1.fs.length = 0 := by rw [hfs]; rfl
        rw [hl0] at c2
        have E := Lib.hid (HD.out.done (.inl hfs))
        clear hfs hl0
        go_wp2_with fail
        go_ret
        refine ⟨?_, _, ?_, HD.out.tu⟩
        · rw [← E.out.1]; rfl
        · rw [← E.out.2]; exact HD.out.mt
      | cons f r =>
        have hl1 : s1.fs.length = r.length + 1 := by rw [hfs]; rfl
        have hl0 : (0 : Int) < (s1.fs.length : Int) := by omega
        have hli : (1 : Int) ≤ (s1.fs.length : Int) := by omega
        obtain ⟨g, off, cap', hv, -, -, hcell, -⟩ := HD.out.mt.rl.at 0 (by omega)
        simp only [Value.slice.injEq] at hv
        obtain ⟨rfl, -, rfl⟩ := hv
        have d0 := hcell 0 f (by rw [hfs]; rfl)
        simp only [Nat.add_zero] at d0
        have hu1 : s1.used = f.size + sz r := by unfold RSt.used; rw [hfs]; rfl
        have hfz : f.size ≤ 1048576 := by omega
        have hfp : 1 ≤ f.size := HD.out.ok.e f (by rw [hfs]; exact List.mem_cons_self)
        have hoz : o.size ≤ 1048576 := by omega
        have hNz : s1.fs.length ≤ 1048576 := by
          have h3 := len_le_sz _ HD.out.ok.e
          have h4 : sz s1.fs = s1.used := rfl
          omega
        have Hfs := Lib.hid hfs
        by_cases hfk : f.size ≤ k
        · have hd2 : decide ((f.size : Int) ≤ (k : Int)) = true := by simp; omega
          have hmn : min k f.size = f.size := Nat.min_eq_right hfk
          have htk : s1.taken f r k = { s1 with fs := s1.fs.drop 1, begun := false } := by
            unfold RSt.taken
            rw [hfs, if_pos hfk, show decide (k < f.size) = false by simp; omega]
            rfl
          have hxf : f.extract 0 f.size = f := by apply ByteArray.ext; simp
          have Hmn := Lib.hid hmn
          have Htk := Lib.hid htk
          have Hxf := Lib.hid hxf
          have hki : (k : Int) - (f.size : Int) = ((k - f.size : Nat) : Int) := by omega
          have Hki := Lib.hid hki
          obtain ⟨hdr1, hdr2⟩ := ((HD.out.mt.alloc (.cells #[] 9)).rl).drop 1 (by omega)
          have y2 := (HD.out.mt.alloc (.cells #[] 9)).c.2.2.1
          clear hfs hmn htk hxf hki hcell hu1 hl1
          by_cases hcF : cl = 1
          · rw [sliced_stay _ _ _ _ _ hcF] at hdr1
            subst hcF
            rw [show s1.fs.length - 1 = 0 by omega, Nat.sub_self] at hdr1
            have HD1 := Lib.hid hdr1
            clear hdr1 hdr2
            go_wp2_with (at_builtin; refine wpList_append_at rfl (.tmp 44) (.tmp 49) rfl _ rfl [] ?h _ _ _ rfl (s1.fs.drop 1) ?hn 0 (by rfl) (by omega) ?_)
            case h => exact Txts.lit0 wr
            case hn => exact HD1.out
            intro ao7 cap7 w7 hA
            have hn7 : ∀ q, (Value.slice ao7 0 cap7).ownBlock = some q → wr.heap.size ≤ q := by
              intro q hq
              rcases hA.new q hq with e | e
              · simp only [Value.ownBlock, Option.some.injEq] at e; omega
              · simp at e; omega
            have o7 : Only wr w7 (fun _ => False) := Only.fresh (Only.alloc wr _ _) hA.only (fun q e => by simp only [Value.ownBlock, Option.some.injEq] at e; omega)
            have r7 : Txts w7 (.slice ao7 0 cap7) (s1.fs.drop 1) := by simpa using hA.row
            obtain ⟨m8, t8, e8⟩ := HD.out.mt.put_new r7 o7 hn7
            have e9 := e8.trans HD.out.mt.blk
            have z2 := (cell_of_row w7 m 2 _ _ (0, 0) e9).trans rfl
            have g2 := frozen_of_row w7 m 2 _ _ e9
            have z3 := (cell_of_row w7 m 3 _ _ (0, 0) e9).trans rfl
            have g3 := frozen_of_row w7 m 3 _ _ e9
            have m9 := m8.set_begun false
            have hN := HD.out.next Hfs.out (by omega) (by rw [Htk.out]; exact m9) (t8.trans (TurnedM.cell _ m 3 _ _ (.bool false)))
            rw [Hmn.out, Hxf.out] at hN
            have HN := Lib.hid hN
            clear hA hn7 o7 r7 m8 t8 e8 e9 m9 hN c2 f2 f3 c3
            go_wp2_with fail
            go_roundw
            case rel => exact ⟨(k : Int) - (f.size : Int), _, _, _, rfl, rfl, by omega, by rw [Hki.out, Int.toNat_natCast]; exact HN.out⟩
            case measure => simp [intOf]; omega
          · rw [sliced_move _ _ _ _ _ hcF] at hdr1
            have HD1 := Lib.hid hdr1
            clear hdr1 hdr2
            go_wp2_with (at_builtin; refine wpList_append_at rfl (.tmp 44) (.tmp 49) rfl _ rfl [] ?h _ _ _ rfl (s1.fs.drop 1) ?hn (s1.fs.length - 1) (Nat.zero_add _) (by omega) ?_)
            case h => exact Txts.lit0 wr
            case hn => exact HD1.out
            intro ao7 cap7 w7 hA
            have hn7 : ∀ q, (Value.slice ao7 (s1.fs.length - 1) cap7).ownBlock = some q → wr.heap.size ≤ q := by
              intro q hq
              rcases hA.new q hq with e | e
              · simp only [Value.ownBlock, Option.some.injEq] at e; omega
              · simp at e; omega
            have o7 : Only wr w7 (fun _ => False) := Only.fresh (Only.alloc wr _ _) hA.only (fun q e => by simp only [Value.ownBlock, Option.some.injEq] at e; omega)
            have r7 : Txts w7 (.slice ao7 (s1.fs.length - 1) cap7) (s1.fs.drop 1) := by simpa using hA.row
            obtain ⟨m8, t8, e8⟩ := HD.out.mt.put_new r7 o7 hn7
            have e9 := e8.trans HD.out.mt.blk
            have z2 := (cell_of_row w7 m 2 _ _ (0, 0) e9).trans rfl
            have g2 := frozen_of_row w7 m 2 _ _ e9
            have z3 := (cell_of_row w7 m 3 _ _ (0, 0) e9).trans rfl
            have g3 := frozen_of_row w7 m 3 _ _ e9
            have m9 := m8.set_begun false
            have hN := HD.out.next Hfs.out (by omega) (by rw [Htk.out]; exact m9) (t8.trans (TurnedM.cell _ m 3 _ _ (.bool false)))
            rw [Hmn.out, Hxf.out] at hN
            have HN := Lib.hid hN
            clear hA hn7 o7 r7 m8 t8 e8 e9 m9 hN c2 f2 f3 c3
            go_wp2_with fail
            go_roundw
            case rel => exact ⟨(k : Int) - (f.size : Int), _, _, _, rfl, rfl, by omega, by rw [Hki.out, Int.toNat_natCast]; exact HN.out⟩
            case measure => simp [intOf]; omega
        · have hd2 : decide ((f.size : Int) ≤ (k : Int)) = false := by simp; omega
          have hmn : min k f.size = k := Nat.min_eq_left (by omega)
          have hkf : (k : Int) ≤ (f.size : Int) := by omega
          have htk : s1.taken f r k = { s1 with fs := [f.extract k f.size] ++ s1.fs.drop 1, begun := true } := by
            unfold RSt.taken
            rw [hfs, if_neg hfk, show decide (k < f.size) = true by simp; omega]
            rfl
          have Hmn := Lib.hid hmn
          have Htk := Lib.hid htk
          have hX := (HD.out.mt.alloc (.cells #[.string (f.extract k f.size)] 9)).drewN 1
          have hL1 : Txts (wr.alloc (.cells #[.string (f.extract k f.size)] 9)).drew (.slice (some ⟨wr.heap.size, 0, none⟩) 1 1) [f.extract k f.size] := (Txts.lit1 wr _).only (Only.drewN _ 1 (fun _ => False)) (by simp)
          have HL1 := Lib.hid hL1
          have y2 := (HD.out.mt.alloc (.cells #[.string (f.extract k f.size)] 9)).c.2.2.1
          have hS9 : ∀ ao7 cap7 w7, Appd (wr.alloc (.cells #[.string (f.extract k f.size)] 9)).drew w7 (.slice (some ⟨wr.heap.size, 0, none⟩) 1 1) (.slice ao7 s1.fs.length cap7) ([f.extract k f.size] ++ s1.fs.drop 1) →
              w7.heap[m]? = some (.cells #[.int .i64 s1.cap, .int .i64 s1.pol, .slice (some ⟨g, off, none⟩) s1.fs.length cl, .bool s1.begun, .int .u64 s1.lost, vg] 33 (0, 0)) ∧
              Mdr w m vl vg s M (k - k) (o ++ f.extract 0 k) (.slice ao7 s1.fs.length cap7) (s1.taken f r k) ((w7.setCell ⟨m, 2, none⟩ (.slice ao7 s1.fs.length cap7)).setCell ⟨m, 3, none⟩ (.bool true)) := by
            intro ao7 cap7 w7 hA
            have hn7 : ∀ q, (Value.slice ao7 s1.fs.length cap7).ownBlock = some q → wr.heap.size ≤ q := by
              intro q hq
              rcases hA.new q hq with e | e
              · simp only [Value.ownBlock, Option.some.injEq] at e; omega
              · have e' : (wr.alloc (.cells #[.string (f.extract k f.size)] 9)).heap.size ≤ q := e
                simp at e'; omega
            have o7 : Only wr w7 (fun _ => False) := Only.fresh ((Only.alloc wr (.cells #[.string (f.extract k f.size)] 9) (fun _ => False)).trans (Only.drewN _ 1 (fun _ => False)) (fun _ _ h => h)) hA.only (fun q e => by simp only [Value.ownBlock, Option.some.injEq] at e; omega)
            obtain ⟨m8, t8, e8⟩ := HD.out.mt.put_new hA.row o7 hn7
            have m9 := m8.set_begun true
            have hN := HD.out.next hfs (by omega) (by rw [htk]; exact m9) (t8.trans (TurnedM.cell _ m 3 _ _ (.bool true)))
            rw [hmn] at hN
            exact ⟨e8.trans HD.out.mt.blk, hN⟩
          have HS9 := Lib.hid hS9
          have HL2 := Lib.hid (show 1 + (s1.fs.length - 1) = s1.fs.length by omega)
          obtain ⟨hdr1, hdr2⟩ := hX.rl.drop 1 (by omega)
          clear hfs hmn htk hcell hu1 hX hL1 hS9
          by_cases hcF : cl = 1
          · rw [sliced_stay _ _ _ _ _ hcF] at hdr1
            subst hcF
            rw [show s1.fs.length - 1 = 0 by omega, Nat.sub_self] at hdr1
            have HL2 := Lib.hid (show 1 + 0 = s1.fs.length by omega)
            have HD1 := Lib.hid hdr1
            clear hdr1 hdr2 hl1
            go_wp2_with fail
            go_region_law ((refine step_append_at rfl (.tmp 74) (.tmp 79) rfl (.slice (some ⟨wr.heap.size, 0, none⟩) 1 1) rfl [f.extract k f.size] ?_ ⟨g, off, none⟩ 0 0 rfl (s1.fs.drop 1) ?_ s1.fs.length ?_ ?_ ?_); (exact HL1.out); (exact HD1.out); (exact HL2.out); omega; (intro ao7 cap7 w7 hA); (have hN := HS9.out ao7 cap7 w7 hA); (obtain ⟨e9, hN⟩ := hN); (have z2 := (cell_of_row w7 m 2 _ _ (0, 0) e9).trans rfl); (have g2 := frozen_of_row w7 m 2 _ _ e9); (have z3 := (cell_of_row w7 m 3 _ _ (0, 0) e9).trans rfl); (have g3 := frozen_of_row w7 m 3 _ _ e9); (have HN := Lib.hid hN); (clear hA e9 hN))
            all_goals
              go_wp2_with fail
              go_roundw
              case rel => exact ⟨0, _, _, _, rfl, rfl, by omega, by rw [show (0 : Int).toNat = k - k by simp]; exact HN.out⟩
              case measure => simp [intOf]; omega
          · rw [sliced_move _ _ _ _ _ hcF] at hdr1
            have HD1 := Lib.hid hdr1
            clear hdr1 hdr2 hl1
            go_wp2_with fail
            go_region_law ((refine step_append_at rfl (.tmp 74) (.tmp 79) rfl (.slice (some ⟨wr.heap.size, 0, none⟩) 1 1) rfl [f.extract k f.size] ?_ ⟨g, off + 1, none⟩ (s1.fs.length - 1) (cl - 1) rfl (s1.fs.drop 1) ?_ s1.fs.length ?_ ?_ ?_); (exact HL1.out); (exact HD1.out); (exact HL2.out); omega; (intro ao7 cap7 w7 hA); (have hN := HS9.out ao7 cap7 w7 hA); (obtain ⟨e9, hN⟩ := hN); (have z2 := (cell_of_row w7 m 2 _ _ (0, 0) e9).trans rfl); (have g2 := frozen_of_row w7 m 2 _ _ e9); (have z3 := (cell_of_row w7 m 3 _ _ (0, 0) e9).trans rfl); (have g3 := frozen_of_row w7 m 3 _ _ e9); (have HN := Lib.hid hN); (clear hA e9 hN))
            all_goals
              go_wp2_with fail
              go_roundw
              case rel => exact ⟨0, _, _, _, rfl, rfl, by omega, by rw [show (0 : Int).toNat = k - k by simp]; exact HN.out⟩
              case measure => simp [intOf]; omega
    · have hd : decide ((0 : Int) < M1) = false := by simp; omega
      have E := Lib.hid (HD.out.done (.inr (by omega)))
      go_wp2_with fail
      go_ret
      refine ⟨?_, _, ?_, HD.out.tu⟩
      · rw [← E.out.1]; rfl
      · rw [← E.out.2]; exact HD.out.mt

end Go.Proofs.Ytjdnjkniiippkaa
