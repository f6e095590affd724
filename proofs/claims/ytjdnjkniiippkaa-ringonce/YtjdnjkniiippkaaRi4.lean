/-
  append on rows of texts, from any place of a row on, as a step of a walk and of a region that draws; and Put of package ring. Over this seat's translation.
-/
import Derived.Test.YtjdnjkniiippkaaRi3
import Derived.Deep.RegionLaw
namespace Go.Proofs.Ytjdnjkniiippkaa
open Go.RowKit
set_option linter.unusedVariables false

theorem Try.infoStr : (Try.prog.info? 9).map (fun i => (i.zero, i.size, i.bytes)) = some (some (.string ⟨#[]⟩), 1, 16) := by kernel_rfl

/-- What append leaves. -/
structure Appd (w w' : World) (v v' : Value) (l : List ByteArray) : Prop where
  row : Txts w' v' l
  only : Only w w' (fun k => v.ownBlock = some k)
  new : ∀ k, v'.ownBlock = some k → v.ownBlock = some k ∨ w.heap.size ≤ k

theorem run_append_txts {w : World} {v : Value} {l : List ByteArray} (h : Txts w v l) (ty : TypeId) (ad : Addr) (m c : Nat) (news : List ByteArray) (hm : news.length = m) (hc : ∀ j t, news[j]? = some t → w.cell? (ad.add j) = some (.string t))
    (hb : l.length + m ≤ 4000000) :
    ∃ ao cap w', (Builtin.append_ #[30, 30] ty #[v, .slice (some ad) m c]).run Try.prog w = .ok (.slice ao (l.length + m) cap) w' ∧ Appd w w' v (.slice ao (l.length + m) cap) (l ++ news) := by
  obtain ⟨i0, hi, hz0, hz1, hz2⟩ := info_parts Try.infoStr
  have hn : (news.map Value.string).length = m * 1 := by simpa using hm
  have hc' : ∀ j u, (news.map Value.string)[j]? = some u → w.cell? (ad.add j) = some u := by
    intro j u hj
    rw [List.getElem?_map] at hj
    obtain ⟨t, ht, rfl⟩ := Option.map_eq_some_iff.1 hj
    exact hc j t ht
  have h1 : ∀ u ∈ news.map Value.string, u.oneCell' = true := by
    intro u hu
    obtain ⟨t, _, rfl⟩ := List.mem_map.1 hu
    rfl
  have fin : ∀ (B : Nat) (v' : Value) (w' : World) (row : Option Nat), w'.ownsRow B 9 1 v' (l.length + m) (l.map Value.string ++ news.map Value.string) → ∃ ao cap, v' = .slice ao (l.length + m) cap ∧ Txts w' (.slice ao (l.length + m) cap) (l ++ news) := by
    intro B v' w' row hown
    rw [← List.map_append] at hown
    have hown' : w'.ownsRow B 9 1 v' (l ++ news).length ((l ++ news).map Value.string) := by rw [List.length_append, hm]; exact hown
    obtain ⟨ao, cap, rfl⟩ := own_slice' hown
    exact ⟨ao, cap, rfl, Txts.of_own hown'⟩
  rcases h with ⟨rfl, rfl⟩ | ⟨g, off, cap, cur, rfl, hlc, hcm, hg, hfit, hcell⟩
  · obtain ⟨v', w', hrun, hown, hgr, _⟩ := run_append_own (P := Try.prog) w w.heap.size 30 ty 9 i0 (.string ⟨#[]⟩) 1 16 Try.underlying30 hi hz0 hz1 hz2 rfl (by decide) (.slice none 0 0) 0 [] (World.ownsRow_nil _ _ _ _) ad m c (news.map Value.string) hn hc' h1 (by unfold maxLen; simp at hb; omega) (by simp at hb; omega) (Nat.le_refl _)
    obtain ⟨ao, cap, rfl, hx⟩ := fin w.heap.size v' w' none (by simpa using hown)
    exact ⟨ao, cap, w', hrun, hx, Only.of_grown hgr (fun k e => e), fun k hk => .inr (hown.lt k hk).1⟩
  · have hold : ∀ j u, (l.map Value.string)[j]? = some u → w.cell? ⟨g, off + j, none⟩ = some u := by
      intro j u hj
      rw [List.getElem?_map] at hj
      obtain ⟨t, ht, rfl⟩ := Option.map_eq_some_iff.1 hj
      exact (cell_of_row w g _ cur _ (0, 0) hg).trans (hcell j t ht)
    have htx : Txts w (.slice (some ⟨g, off, none⟩) l.length cap) l := .inr ⟨g, off, cap, cur, rfl, hlc, hcm, hg, hfit, hcell⟩
    by_cases hr : l.length + m ≤ cap
    · have hrun := run_append_room_cells (P := Try.prog) w 30 ty 9 i0 Try.underlying30 hi g off l.length cap ad m c (news.map Value.string) (by rw [hz1]; exact hn) hc' h1 hr
        (fun j hj => by
          rw [hz1, cell_of_row w g _ cur _ (0, 0) hg]
          rw [List.length_map] at hj
          rw [Array.getElem?_eq_getElem (by omega)]; rfl)
        (fun j hj => frozen_of_row w g _ cur _ hg)
      rw [hz1] at hrun
      refine ⟨_, _, _, hrun, ?_, ?_, fun k hk => .inl hk⟩
      · have := htx.more news (by rw [hm]; exact hr)
        rw [hm] at this
        exact this
      · exact (only_setCells g _ _ w).mono fun k _ e => by rw [e]; rfl
    · obtain ⟨v', w', hrun, hown, hgr⟩ := run_append_arg_grows (P := Try.prog) w 30 ty 9 i0 (.string ⟨#[]⟩) 1 16 Try.underlying30 hi hz0 hz1 hz2 rfl (by decide) ⟨g, off, none⟩ l.length cap (l.map Value.string) (by simp) (fun j u hj => by rw [Addr.add_lit]; exact hold j u hj) ad m c (news.map Value.string) hn hc' (by omega) (by unfold maxLen; omega) (by omega)
      obtain ⟨ao, cap', rfl, hx⟩ := fin _ v' w' none hown
      exact ⟨ao, cap', w', hrun, hx, Only.of_grown hgr (fun k e => by cases e), fun k hk => .inr (hown.lt k hk).1⟩

theorem step_append_txts {ops : Array Oper} {o : Oper} {a : Act} {w : World} {K : Act → World → Prop} {Q : Exit → Act → World → Prop} {E : Prop} (hgd : o.guard = none) (s x : Operand)
    (ho : o.op = .call { callee := .builtin .append, args := #[s, x], argTypes := #[30, 30] }) (v : Value) (hs : a.eval s = v) (l : List ByteArray) (h : Txts w v l)
    (ad : Addr) (m c : Nat) (hx : a.eval x = .slice (some ad) m c) (news : List ByteArray) (hm : news.length = m) (hc : ∀ j t, news[j]? = some t → w.cell? (ad.add j) = some (.string t)) (hb : l.length + m ≤ 4000000)
    (hK : ∀ ao cap w', Appd w w' v (.slice ao (l.length + m) cap) (l ++ news) → K (a.put o.dst (.slice ao (l.length + m) cap)) w') : if Region.wanted o (yielded ops a.tmps) = true then Oper.wp Try.prog o a w K Q else E := by
  have hw : Region.wanted o (yielded ops a.tmps) = true := by simp [Region.wanted, hgd]
  rw [if_pos hw]
  obtain ⟨ao, cap, w', hrun, hA⟩ := run_append_txts h o.type ad m c news hm hc hb
  unfold Oper.wp
  simp [execOp, ho, resolve, invoke, builtin, hs, hx, hrun, Result.andThen]
  exact hK ao cap w' hA

theorem wpList_append_txts {w : World} {ops : Array Oper} {rest : List Oper} {o : Oper} {a : Act} {Q : Exit → Act → World → Prop} (hgd : o.guard = none) (s x : Operand)
    (ho : o.op = .call { callee := .builtin .append, args := #[s, x], argTypes := #[30, 30] }) (v : Value) (hs : a.eval s = v) (l : List ByteArray) (h : Txts w v l)
    (ad : Addr) (m c : Nat) (hx : a.eval x = .slice (some ad) m c) (news : List ByteArray) (hm : news.length = m) (hc : ∀ j t, news[j]? = some t → w.cell? (ad.add j) = some (.string t)) (hb : l.length + m ≤ 4000000)
    (hK : ∀ ao cap w', Appd w w' v (.slice ao (l.length + m) cap) (l ++ news) → wpList Try.prog ops Q rest (a.put o.dst (.slice ao (l.length + m) cap)) w') : wpList Try.prog ops Q (o :: rest) a w := by
  refine wpList_plain hgd fun K hK' => ?_
  obtain ⟨ao, cap, w', hrun, hA⟩ := run_append_txts h o.type ad m c news hm hc hb
  unfold Oper.wp
  simp [execOp, ho, resolve, invoke, builtin, hs, hx, hrun, Result.andThen]
  exact hK' _ _ (hK ao cap w' hA)

/-- strings.Clone, as a step of a region that draws. -/
theorem step_clone {ops : Array Oper} {o : Oper} {a : Act} {w : World} {K : Act → World → Prop} {Q : Exit → Act → World → Prop} {E : Prop} (hgd : o.guard = none) (x : Operand) (ts : Array TypeId)
    (ho : o.op = .call { callee := .value (.func 23), args := #[x], argTypes := ts }) (s : ByteArray) (hx : a.eval x = .string s) (hs : s.size ≤ 179)
    (hK : ∀ w', Below w.heap.size w w' → K (a.put o.dst (.string s)) w') : if Region.wanted o (yielded ops a.tmps) = true then Oper.wp Try.prog o a w K Q else E := by
  have hw : Region.wanted o (yielded ops a.tmps) = true := by simp [Region.wanted, hgd]
  rw [if_pos hw]
  unfold Oper.wp
  simp [execOp, ho, resolve, invoke, hx, Result.andThen]
  refine (clone_any s w (by omega)).mono ?_
  rintro e w' ⟨rfl, b1⟩
  exact hK w' b1

theorem RingAt_drewN {w : World} {b : Nat} {v : Value} {s : RSt} (h : RingAt w b v s) (q : Nat) : RingAt (w.drewN q) b v s := Rg.drewN h q
theorem RSt.takes_no {s : RSt} (ok : s.Ok) {n : Nat} (h : s.takes n = false) : s.cap < n + s.used ∧ (s.pol = 0 ∨ s.cap < n + s.rest) := by
  have := s.used_parts
  unfold RSt.takes at h
  rcases ok.p with hp | hp
  · rw [hp] at h; simp at h; exact ⟨by omega, .inl hp⟩
  · rw [hp] at h; simp at h; exact ⟨by omega, .inr (by omega)⟩
theorem RSt.takes_yes {s : RSt} (ok : s.Ok) {n : Nat} (h : s.takes n = true) : ¬ (s.cap < n + s.used ∧ (s.pol = 0 ∨ s.cap < n + s.rest)) := by
  have := s.used_parts
  unfold RSt.takes at h
  rcases ok.p with hp | hp
  · rw [hp] at h; simp at h; omega
  · rw [hp] at h; simp at h; omega

/-- Behind append: the row and the number. -/
theorem rg_held_fin {w w1 w2 : World} {b : Nat} {v v2 : Value} {room pol used : Int} {begun : Bool} {lost : Int} {l l2 : List ByteArray} (h : Rg w1 b v room pol used begun lost l) (hA : Appd w1 w2 v v2 l2) (u : Int) :
    (w2.heap[b]? = w1.heap[b]?) ∧ Rg ((w2.setCell ⟨b, 2, none⟩ v2).setCell ⟨b, 3, none⟩ (.int .i64 u)) b v2 room pol u begun lost l2 ∧ Turned w1 ((w2.setCell ⟨b, 2, none⟩ v2).setCell ⟨b, 3, none⟩ (.int .i64 u)) b v v2 := by
  have hb := hA.only.block b h.lt h.ne
  have hne : v2.ownBlock ≠ some b := fun e => by
    rcases hA.new b e with e1 | e1
    · exact h.ne e1
    · have := h.lt; omega
  have h2 : Rg (w2.setCell ⟨b, 2, none⟩ v2) b v2 room pol used begun lost l2 := ⟨(heap_setCell_same w2 b 2 _ _ _ (hb.trans h.blk)).trans rfl, hA.row.setCell b 2 v2 hne, hne⟩
  refine ⟨hb, h2.set_used u, ?_, hA.new⟩
  exact ((hA.only.mono fun k _ e => Or.inr e).trans (Only.setCell w2 b 2 v2 (fun k => k = b) rfl) (fun k _ e => .inl e)).trans (Only.setCell _ b 3 _ (fun k => k = b) rfl) (fun k _ e => .inl e)

set_option maxRecDepth 100000 in
set_option maxHeartbeats 2000000 in
theorem rg_put {w : World} {b : Nat} {v : Value} {s : RSt} (h : RingAt w b v s) (ok : s.Ok) (t : ByteArray) (ht : t.size ≤ maxLen) (hl : s.lost + s.fs.length + 1 < 18446744073709551615) :
    Calls Try.prog 11 #[.pointer (some ⟨b, 0, none⟩), .string t] w fun e w' => e = .returned (.int .i64 (s.put t).1) ∧ ∃ v', RingAt w' b v' (s.put t).2 ∧ Turned w w' b v v' := by
  unfold maxLen at ht
  by_cases h1 : t.size < 1
  · have hp : s.put t = (1, s) := by unfold RSt.put; rw [if_pos (.inl h1)]
    have H := Lib.hid h
    rw [hp]
    clear h ok
    have hd : decide ((t.size : Int) < 1) = true := by simp; omega
    go_enter Try.func11, Try.ntmps11
    go_wp2_with fail
    go_ret
    exact ⟨rfl, v, H.out, Turned.refl _ _ _⟩
  · by_cases h2 : 179 < t.size
    · have hp : s.put t = (1, s) := by unfold RSt.put; rw [if_pos (.inr h2)]
      have H := Lib.hid h
      rw [hp]
      clear h ok
      have hd : decide ((t.size : Int) < 1) = false := by simp; omega
      have hd2 : decide ((179 : Int) < t.size) = true := by simp; omega
      go_enter Try.func11, Try.ntmps11
      go_wp2_with fail
      go_ret
      exact ⟨rfl, v, H.out, Turned.refl _ _ _⟩
    · have hd : decide ((t.size : Int) < 1) = false := by simp; omega
      have hd2 : decide ((179 : Int) < t.size) = false := by simp; omega
      have htk := rg_takes h ok t.size (by omega)
      cases hT : s.takes t.size with
      | false =>
        have hp : s.put t = (7, s.losing1 t) := by unfold RSt.put; rw [if_neg (by omega), if_pos (RSt.takes_no ok hT)]
        rw [hp]
        rw [hT] at htk
        have Htk := Lib.hid htk
        have H := Lib.hid h
        obtain ⟨c0, c1, c2, c3, c4, c5⟩ := h.c
        have f5 := h.free 5
        have hl2 : s.lost < 18446744073709551614 := by omega
        clear htk h ok hT hp
        go_enter Try.func11, Try.ntmps11
        go_wp2_with fail
        refine Htk.out.mono ?_
        rintro e w1 ⟨rfl, q, rfl⟩
        go_wp2_with fail
        go_ret
        refine ⟨rfl, v, ?_, (Turned.drewN _ _ q _).trans (Turned.cell _ _ _ _ _)⟩
        exact (H.out.drewN q).set_lost _
      | true =>
        have hp : s.put t = (0, (s.losing (s.shed t.size)).holding t) := by unfold RSt.put; rw [if_neg (by omega), if_neg (RSt.takes_yes ok hT)]
        rw [hp]
        rw [hT] at htk
        have hlo := fun q => rg_loseFor (RingAt_drewN h q) ok t.size (by omega) (by omega)
        have okl := RSt.ok_losing ok (s.shed t.size)
        have hle : (s.losing (s.shed t.size)).fs.length ≤ 1048576 := by
          have h3 := len_le_sz _ okl.e
          have h4 := okl.u
          have h5 := okl.c2
          have h6 : sz (s.losing (s.shed t.size)).fs = (s.losing (s.shed t.size)).used := rfl
          omega
        have hus : (s.losing (s.shed t.size)).used ≤ 1048576 := by have := okl.u; have := okl.c2; omega
        have Htk := Lib.hid htk
        have Hlo := Lib.hid hlo
        clear htk h ok hT hp okl hlo
        generalize s.losing (s.shed t.size) = s2 at *
        have Hu := Lib.hid (show (((s2.holding t).used : Nat) : Int) = (s2.used : Int) + (t.size : Int) by show ((sz (s2.fs ++ [t]) : Nat) : Int) = _; rw [sz_append, sz_one, Int.natCast_add]; rfl)
        go_enter Try.func11, Try.ntmps11
        go_wp2_with fail
        refine Htk.out.mono ?_
        rintro e w1 ⟨rfl, q, rfl⟩
        go_wp2_with fail
        refine (Hlo.out q).mono ?_
        rintro e w2 ⟨rfl, v2, r2, t2⟩
        obtain ⟨ao, cap, rfl, hcap⟩ := r2.row.shape
        obtain ⟨d0, d1, d2, d3, d4, d5⟩ := r2.c
        have hX : ∀ w3, Below w2.heap.size w2 w3 → Rg (w3.alloc (.cells #[.string t] 9)) b (.slice ao s2.fs.length cap) s2.cap s2.pol s2.used s2.begun s2.lost s2.fs ∧ Turned w2 (w3.alloc (.cells #[.string t] 9)) b (.slice ao s2.fs.length cap) (.slice ao s2.fs.length cap) := by
          intro w3 b3
          have o1 : Only w2 (w3.alloc (.cells #[.string t] 9)) (fun _ => False) := (Only.of_below b3 _).trans (Only.alloc w3 _ (fun _ => False)) (fun _ _ h => h)
          exact ⟨Rg.only r2 o1 (by simp) (by simp), o1.mono (fun _ _ h => h.elim), fun k hk => .inl hk⟩
        have HX := Lib.hid hX
        have HT := Lib.hid t2
        have hblt : b < w2.heap.size := r2.lt
        clear r2 t2 Hlo Htk hX
        go_wp2_with fail
        go_region_law (first
          | ((refine step_clone rfl (.tmp 36) #[9] rfl t rfl (by omega) ?_); (intro w3 b3'); (have b3 : Below w2.heap.size w2 w3 := ⟨b3'.os, b3'.tape, b3'.output, b3'.size, b3'.block⟩); (have x2 : w3.cell? ⟨b, 2, none⟩ = some (.slice ao s2.fs.length cap) := (b3.cell (p := ⟨b, 2, none⟩) hblt).trans d2); (obtain ⟨-, -, y2, -, -, -⟩ := (HX.out w3 b3).1.c); (have B3 := Lib.hid b3); (clear b3 b3'))
          | ((refine step_append_txts rfl (.tmp 35) (.tmp 38) rfl (.slice ao s2.fs.length cap) rfl s2.fs ?_ ⟨w3.heap.size, 0, none⟩ 1 1 rfl [t] rfl ?_ (by omega) ?_); (exact (HX.out w3 B3.out).1.row); (intro j u hj; cases j with | zero => (simp at hj; subst hj; simp [Addr.add]) | succ j => (simp at hj)); (intro ao4 cap4 w4 hA); (obtain ⟨e4, r4, t4⟩ := rg_held_fin (w := w) (HX.out w3 B3.out).1 hA ((s2.used : Int) + (t.size : Int))); (have e5 := e4.trans (HX.out w3 B3.out).1.blk); (have z2 := (cell_of_row w4 b 2 _ _ (0, 0) e5).trans rfl); (have z3 := (cell_of_row w4 b 3 _ _ (0, 0) e5).trans rfl); (have g2 := frozen_of_row w4 b 2 _ _ e5); (have g3 := frozen_of_row w4 b 3 _ _ e5); (have R4 := Lib.hid r4); (have T4 := Lib.hid t4); (clear hA e4 e5 r4 t4 y2 x2)))
        all_goals
          go_wp2_with fail
          go_ret
          refine ⟨rfl, _, ?_, ((Turned.drewN _ _ q _).trans HT.out).trans ((HX.out w3 B3.out).2.trans T4.out)⟩
          have R5 := R4.out
          rw [← Hu.out] at R5 ⊢
          exact R5

end Go.Proofs.Ytjdnjkniiippkaa
