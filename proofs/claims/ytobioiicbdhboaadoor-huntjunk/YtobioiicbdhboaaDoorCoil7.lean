/-
  What coil's Read does, over this seat's translation. Conditions: the table's cells (EvL); a text of at most a million bytes.
-/
import Derived.Test.YtobioiicbdhboaaDoorCoil6
namespace Go.Proofs.YtobioiicbdhboaaDoor
open Go.RowKit
set_option linter.unusedVariables false
set_option linter.unusedSimpArgs false

def lenOf : Value → Nat
  | .slice _ n _ => n
  | _ => 0

/-- The state of Read's loop. -/
structure RL (w wr : World) (s : ByteArray) (R : List Ev × Int) (v : Value) (acc : List Ev) (b : Ev) (k : Nat) : Prop where
  bel : Below w.heap.size w wr
  be : wr.heap[w.heap.size]? = some (evO b)
  rd : Rd wr (w.heap.size + 1) s k
  own : OwnE wr (w.heap.size + 1 + 1) v acc
  rat : ReadAt R s.data.toList acc b k
  fy : b.cyc < 18446744073709551616
  fc : b.cnt < 18446744073709551616
  len : acc.length ≤ k
  tab : EvL wr
  tlt : 0 < w.heap.size

theorem data_len (s : ByteArray) : s.data.toList.length = s.size := by rw [Array.length_toList]; rfl

theorem RL.drawn {w wr wr' : World} {s : ByteArray} {R : List Ev × Int} {v : Value} {acc : List Ev} {b : Ev} {k : Nat} (h : RL w wr s R v acc b k) (hw : ∃ n, wr' = wr.drewN n) : RL w wr' s R v acc b k := by
  obtain ⟨n, rfl⟩ := hw
  exact ⟨below_drewN h.bel n, h.be, h.rd.drewN n, h.own, h.rat, h.fy, h.fc, h.len, ⟨h.tab.row⟩, h.tlt⟩

theorem seg_ev' (w : World) (o : Obj) (e : Ev) : ∀ j u, (ev6 e)[j]? = some u → ((w.alloc o).alloc (evO e)).cell? ((⟨w.heap.size + 1, 0, none⟩ : Addr).add j) = some u := by
  have := seg_ev (w.alloc o) e
  rwa [show (w.alloc o).heap.size = w.heap.size + 1 by simp] at this

/-- Behind next: as it was, but for the reader. -/
structure RM (w wr : World) (s : ByteArray) (v : Value) (acc : List Ev) (b : Ev) : Prop where
  bel : Below w.heap.size w wr
  be : wr.heap[w.heap.size]? = some (evO b)
  own : OwnE wr (w.heap.size + 1 + 1) v acc
  tab : EvL wr
theorem RL.next {w wr wr' : World} {s : ByteArray} {R : List Ev × Int} {v : Value} {acc : List Ev} {b : Ev} {k : Nat} (h : RL w wr s R v acc b k) (ho : Only wr wr' (fun j => j = w.heap.size + 1)) : RM w wr' s v acc b := by
  have htl := h.tlt
  refine ⟨h.bel.trans (ho.below h.bel.size (fun j hj => by omega)), blk_only h.be ho (by omega), row_only h.own ho (fun j hj => ?_), h.tab.only ho (by omega)⟩
  have := (h.own.lt j hj).1
  omega

/-- Behind append: the event read, the one ahead, and the state of the next round. -/
theorem rl_step {w w4 w5 : World} {s : ByteArray} {R : List Ev × Int} {v v' : Value} {acc : List Ev} {b e : Ev} {k k' : Nat} (M : RM w w4 s v acc b) (rd : Rd w4 (w.heap.size + 1) s k') (rat : ReadAt R s.data.toList (acc ++ [e]) e k')
    (hlen : acc.length ≤ k) (hk : k < k') (fy : e.cyc < 18446744073709551616) (fc : e.cnt < 18446744073709551616) (htl : 0 < w.heap.size)
    (hown : w5.ownsRow (w.heap.size + 1 + 1) 69 6 v' (acc.length + 1) (evRow acc ++ ev6 e)) (hg : ((w4.alloc (evO e)).alloc (evO e)).grownBy w5 v.ownBlock) :
    w5.heap[w4.heap.size]? = some (evO e) ∧ w5.heap[w.heap.size]? = some (evO b) ∧ RL w (evSt w5 w.heap.size e) s R v' (acc ++ [e]) e k' := by
  have hrow : ∀ j, v.ownBlock = some j → w.heap.size + 1 + 1 ≤ j ∧ j < w4.heap.size := fun j hj => M.own.lt j hj
  have o1 : Only w4 w5 (fun j => v.ownBlock = some j) := ((Only.alloc w4 _ _).trans (Only.alloc _ _ _) (fun _ _ h => h)).trans (Only.of_grown hg (fun j hj => hj)) (fun _ _ h => h)
  have hsz4 := blk_lt rd.blk
  have nE : w5.heap[w4.heap.size]? = some (evO e) := by
    have n1 := heap_alloc_new w4 (evO e)
    have n2 : ((w4.alloc (evO e)).alloc (evO e)).heap[w4.heap.size]? = some (evO e) := by rw [Below.heap_alloc _ _ _ (by simp)]; exact n1
    exact (hg.block _ (by simp; omega) (fun e => by have := hrow _ e.symm; omega)).trans n2
  have nB : w5.heap[w.heap.size]? = some (evO b) := blk_only M.be o1 (fun e => by have := hrow _ e; omega)
  refine ⟨nE, nB, ?_⟩
  obtain ⟨st1, st2⟩ := ev_stored (e := e) nB
  have o2 : Only w5 (evSt w5 w.heap.size e) (fun j => j = w.heap.size) := Only.of_grown st2 (fun j hj => by cases hj; rfl)
  have r5 : Rd w5 (w.heap.size + 1) s k' := rd.only o1 (fun e => by have := hrow _ e; omega)
  have b5 : Below w.heap.size w w5 := M.bel.trans (o1.below M.bel.size (fun j hj => by have := hrow j hj; omega))
  refine ⟨b5.trans (o2.below b5.size (fun j hj => by omega)), st1, r5.only o2 (by omega), ?_, rat, fy, fc, by simp; omega, (M.tab.only o1 (fun e => by have := hrow _ e; omega)).only o2 (by omega), htl⟩
  have h5 : OwnE w5 (w.heap.size + 1 + 1) v' (acc ++ [e]) := by
    unfold OwnE
    rw [evRow_append, evRow_one, List.length_append]
    exact hown
  exact row_only h5 o2 (fun j hj e => by have := (h5.lt j hj).1; omega)

set_option maxRecDepth 100000 in
set_option maxHeartbeats 4000000 in
theorem read_tag (cyc cnt : Nat) (s : ByteArray) (hs : s.size ≤ 1000000) (hcy : cyc < 18446744073709551616) (hcn : cnt < 18446744073709551616) (w : World) (hL : EvL w) :
    Calls Tryd.prog 62 #[.int .u64 cyc, .int .u64 cnt, .string s] w fun r w' => ∃ ao cap, r = .returned (.tuple #[.slice ao (readL cyc cnt s.data.toList).1.length cap, .int .i64 (readL cyc cnt s.data.toList).2]) ∧ SeenE w' ao cap (readL cyc cnt s.data.toList).1 ∧ EvT w' ao ∧ Below w.heap.size w w' := by
  obtain ⟨R, hR⟩ : ∃ R, R = readL cyc cnt s.data.toList := ⟨_, rfl⟩
  have Hat := Lib.hid (read_init cyc cnt s.data.toList)
  rw [← hR] at Hat ⊢
  clear hR
  obtain ⟨w1, x1⟩ : ∃ w1, w1 = w.alloc (evO ⟨0, cyc, cnt, 0, 0, 0⟩) := ⟨_, rfl⟩
  obtain ⟨w2, x2⟩ : ∃ w2, w2 = w1.alloc (.cells #[.string s, .int .i64 0] 110) := ⟨_, rfl⟩
  have hlt := hL.lt
  have P0 : RL w w2 s R (.slice none 0 0) [] ⟨0, cyc, cnt, 0, 0, 0⟩ 0 := by
    obtain ⟨s1, n1, b1⟩ := new_size x1
    obtain ⟨s2, n2, b2⟩ := new_size x2
    have b12 := b1.trans (b2.mono b1.size)
    refine ⟨b12, (b2.block _ (blk_lt n1)).trans n1, ⟨?_, Nat.zero_le _, by unfold maxLen; omega⟩, World.ownsRow_nil _ _ _ _, Hat.out, hcy, hcn, Nat.le_refl _, hL.below b12, hlt⟩
    rw [s1] at n2; exact n2
  have HP0 := Lib.hid P0
  have HNew := Lib.hid (by have := new_any w1 s; rw [show w1.heap.size = w.heap.size + 1 by rw [x1]; simp, ← x2] at this; exact this)
  unfold evO at x1
  rw [show ((0 : Nat) : Int) = 0 from rfl] at x1
  obtain ⟨i0, hi, hz0, hz1, hz2⟩ := Tryd.infoEv3
  have hdl := Lib.hid (data_len s)
  clear P0 hL hlt x2 Hat hcy hcn
  go_enter Tryd.func62, Tryd.ntmps62
  go_wp2_with fail
  rw [← x1]
  clear x1
  refine HNew.out.mono ?_
  rintro r w' ⟨rfl, rfl⟩
  go_wp2_with fail
  go_loopw [8] (fun v wr => ∃ acc b k, Hid (RL w wr s R v acc b k)) (fun v _ => s.size + 1 - lenOf v)
  case atStart => exact ⟨_, _, _, HP0⟩
  case round =>
    clear HP0 HNew
    obtain ⟨acc, b, k, P⟩ := hrel
    obtain ⟨ao, cap, hv, -, hlo⟩ := P.out.own.seen
    subst hv
    by_cases hlt : k < s.size
    · obtain ⟨m, hm⟩ : ∃ m : Nat, m = s.size - k := ⟨_, rfl⟩
      have HLeft := Lib.hid (by have := left_any wr (w.heap.size + 1) s k P.out.rd; rw [← hm] at this; exact this)
      have hm0 : decide ((0 : Int) < (m : Int)) = true := by simp; omega
      have hm0' : decide (0 < m) = true := by simp; omega
      clear hm
      go_wp2_with fail
      refine HLeft.out.mono ?_
      rintro r w3 ⟨rfl, hw3⟩
      have P3 := Lib.hid (P.out.drawn hw3)
      clear hw3 HLeft P
      obtain ⟨c0, c1, c2, c3, c4, c5⟩ := evcells P3.out.be
      have htl := P3.out.tlt
      have HN := Lib.hid (next_any' w3 (w.heap.size + 1) s k b P3.out.rd hlt P3.out.tab (by omega) P3.out.fy P3.out.fc)
      have Hbad := Lib.hid (read_bad P3.out.rat (by rw [hdl.out]; exact hlt))
      have Hgo := Lib.hid (read_go P3.out.rat (by rw [hdl.out]; exact hlt))
      have Hroom := Lib.hid (nextC_room (b := b) (L := s.data.toList) (k := k) (by rw [hdl.out]; exact hlt))
      have Hfit := Lib.hid (nextC_fits (b := b) (L := s.data.toList) (k := k))
      generalize nextC b s.data.toList k = NC at *
      obtain ⟨e, c, k'⟩ := NC
      simp only at HN Hbad Hgo Hroom Hfit
      unfold evV at HN
      clear htl
      go_wp2_with fail
      refine HN.out.mono ?_
      rintro r w4 ⟨rfl, h4, o4⟩
      have M4 := Lib.hid (P3.out.next o4)
      have H4 := Lib.hid h4
      have Hlen := Lib.hid P3.out.len
      have Htl := Lib.hid P3.out.tlt
      clear h4 o4 HN P3 c0 c1 c2 c3 c4 c5
      by_cases hc : c = 0
      · have hcb : (c != 0) = false := by rw [hc]; rfl
        have rd4 := Lib.hid (H4.out hc)
        have rat4 := Lib.hid (Hgo.out hc)
        have room4 := Lib.hid (Hroom.out hc)
        have fit4 := Lib.hid (Hfit.out hc)
        clear hc H4 Hgo Hroom Hfit Hbad
        have hown2 := Lib.hid (fun o p => World.ownsRow.alloc (World.ownsRow.alloc M4.out.own o) p)
        have hl4 := Hlen.out
        go_wp2_with (at_builtin; refine wpList_append_own _ rfl _ _ 42 rfl (w.heap.size + 1 + 1) 69 i0 (.agg #[.int .i64 0, .int .u64 0, .int .u64 0, .int .u32 0, .int .u32 0, .int .u32 0]) 6 40 Tryd.underlying42 hi hz0 hz1 hz2 rfl (by decide) _ _ _ rfl (hown2.out _ _) _ 1 1 (ev6 e) rfl rfl (seg_ev' w4 _ e) (ev6_one _) (by unfold maxLen; omega) (by omega) (by have := blk_lt rd4.out.blk; simp; omega) ?_)
        intro v' w5 hown5 hg5 hne5
        obtain ⟨nE, nB, rl⟩ := rl_step M4.out rd4.out rat4.out Hlen.out room4.out.1 fit4.out.1 fit4.out.2.1 Htl.out hown5 hg5
        have HRL := Lib.hid rl
        obtain ⟨aa, cc, hv'⟩ := own_slice' hown5
        obtain ⟨c0, c1, c2, c3, c4, c5⟩ := evcells nE
        obtain ⟨d0, d1, d2, d3, d4, d5⟩ := evcells nB
        obtain ⟨f0, f1, f2, f3, f4, f5⟩ := evfree nB
        have hkk := room4.out
        rw [hdl.out] at hkk
        have hkk1 := hkk.1
        have hkk2 := hkk.2
        rw [hv'] at HRL ⊢
        clear hv' rl nE nB hown5 hg5 hne5 M4 rd4 rat4 room4 fit4 hown2 hkk
        go_wp2_with fail
        go_roundw
        case rel => exact ⟨_, _, _, HRL⟩
        case measure => simp [lenOf]; omega
      · have hcb : (c != 0) = true := by rw [bne_iff_ne]; exact hc
        have hE := Lib.hid (Hbad.out hc)
        clear hc H4 Hgo Hroom Hfit Hbad
        go_wp2
        go_ret2
        rw [hE.out]
        exact ⟨none, 0, rfl, ⟨by simp, by simp, fun _ => ⟨rfl, rfl⟩, fun i hi => by simp at hi⟩, evT_none _, (M4.out.bel).alloc M4.out.bel.size _⟩
    · have HLeft := Lib.hid (by have := left_any wr (w.heap.size + 1) s k P.out.rd; rw [show s.size - k = 0 by omega] at this; exact this)
      have hE := Lib.hid (read_end P.out.rat (by rw [hdl.out]; exact hlt))
      go_wp2_with fail
      refine HLeft.out.mono ?_
      rintro r w3 ⟨rfl, hw3⟩
      have P3 := Lib.hid (P.out.drawn hw3)
      clear hw3 HLeft P
      go_wp2
      go_ret2
      rw [hE.out]
      obtain ⟨ao', cap', hv, hseen, -⟩ := P3.out.own.seen
      cases hv
      exact ⟨ao, cap, rfl, hseen, P3.out.own.tag, P3.out.bel⟩

theorem read_any' (cyc cnt : Nat) (s : ByteArray) (hs : s.size ≤ 1000000) (hcy : cyc < 18446744073709551616) (hcn : cnt < 18446744073709551616) (w : World) (hL : EvL w) :
    Calls Tryd.prog 62 #[.int .u64 cyc, .int .u64 cnt, .string s] w fun r w' => ∃ ao cap, r = .returned (.tuple #[.slice ao (readL cyc cnt s.data.toList).1.length cap, .int .i64 (readL cyc cnt s.data.toList).2]) ∧ SeenE w' ao cap (readL cyc cnt s.data.toList).1 ∧ Below w.heap.size w w' := by
  refine (read_tag cyc cnt s hs hcy hcn w hL).mono ?_
  rintro r w' ⟨ao, cap, h1, h2, -, h3⟩
  exact ⟨ao, cap, h1, h2, h3⟩

end Go.Proofs.YtobioiicbdhboaaDoor
