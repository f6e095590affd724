/-
  The document's own answers of layer 6 (taffrailref06), Read: the states of its loops. Over this seat's translation. No condition.
-/
import Derived.Test.YtobioiicbdhboaaDoorCoil7
import Derived.Test.YtobioiicbdhboaaDoorCoil8
import Derived.Test.YtobioiicbdhboaaDoorLebAwake
namespace Go.Proofs.YtobioiicbdhboaaDoor
open Go.RowKit
set_option linter.unusedVariables false
set_option linter.unusedSimpArgs false

/-- The state of the outer loop. -/
structure OL (w wr : World) (s : ByteArray) (R : List Ev × Int) (v : Value) (acc : List Ev) (b : Ev) (k : Nat) : Prop where
  bel : Below w.heap.size w wr
  own : OwnE wr w.heap.size v acc
  rat : ReadAt R s.data.toList acc b k
  fy : b.cyc < 18446744073709551616
  fc : b.cnt < 18446744073709551616
  len : acc.length ≤ k

/-- The five numbers, as far as they are read. -/
def gI (L : List UInt8) (kind : Int) (k i j : Nat) : Nat := if j < i then (nst L kind k (j + 1)).1 else 0
def numsC (g : Nat → Nat) : Array Value := #[.int .u64 (g 0 : Nat), .int .u64 (g 1 : Nat), .int .u64 (g 2 : Nat), .int .u64 (g 3 : Nat), .int .u64 (g 4 : Nat)]
theorem numsC_set (L : List UInt8) (kind : Int) (k i : Nat) (hi : i < 5) : (numsC (gI L kind k i)).setIfInBounds i (.int .u64 ((nst L kind k (i + 1)).1 : Nat)) = numsC (gI L kind k (i + 1)) := by
  match i, hi with
  | 0, _ => simp [numsC, gI]
  | 1, _ => simp [numsC, gI]
  | 2, _ => simp [numsC, gI]
  | 3, _ => simp [numsC, gI]
  | 4, _ => simp [numsC, gI]
theorem numsC_skip (L : List UInt8) (kind : Int) (k i : Nat) (hi : i < 5) (h : (nst L kind k (i + 1)).1 = 0) : numsC (gI L kind k i) = numsC (gI L kind k (i + 1)) := by
  match i, hi, h with
  | 0, _, h => simp [numsC, gI, h]
  | 1, _, h => simp [numsC, gI, h]
  | 2, _, h => simp [numsC, gI, h]
  | 3, _, h => simp [numsC, gI, h]
  | 4, _, h => simp [numsC, gI, h]
theorem numsC_at (g : Nat → Nat) (i : Nat) (hi : i < 5) : (numsC g)[i]? = some (.int .u64 (g i : Nat)) := by
  match i, hi with
  | 0, _ => rfl
  | 1, _ => rfl
  | 2, _ => rfl
  | 3, _ => rfl
  | 4, _ => rfl

/-- The state of the inner loop: the event's block, the flags', the numbers'. -/
structure IL (w wr : World) (v : Value) (acc : List Ev) (L : List UInt8) (kd k i E Hb Nb : Nat) : Prop where
  bel : Below w.heap.size w wr
  own : OwnE wr w.heap.size v acc
  ee : wr.heap[E]? = some (evO ⟨kd, 0, 0, 0, 0, 0⟩)
  hh : wr.heap[Hb]? = some (.cells #[.bool (hasA kd), .bool (hasB kd), .bool (hasV kd)] 104 (0, 0))
  nn : wr.heap[Nb]? = some (.cells (numsC (gI L kd k i)) 106 (0, 0))
  row : ∀ j, v.ownBlock = some j → j < E
  lE : w.heap.size ≤ E
  EH : E < Hb
  HN : Hb < Nb
  ok : (nst L kd k i).2.2 = 0

theorem il_start {w wr w1 w2 w3 w4 : World} {s : ByteArray} {R : List Ev × Int} {v : Value} {acc : List Ev} {b : Ev} {k0 k kd : Nat} {L : List UInt8} (h : OL w wr s R v acc b k0) (e1 : w1 = wr.alloc (evO ⟨kd, 0, 0, 0, 0, 0⟩)) (b2 : Below w1.heap.size w1 w2)
    (e3 : w3 = w2.alloc (.cells #[.bool (hasA kd), .bool (hasB kd), .bool (hasV kd)] 104)) (e4 : w4 = w3.alloc (.cells #[.int .u64 0, .int .u64 0, .int .u64 0, .int .u64 0, .int .u64 0] 106)) :
    IL w w4 v acc L kd k 0 wr.heap.size w2.heap.size (w2.heap.size + 1) := by
  obtain ⟨s1, n1, b1⟩ := new_size e1
  obtain ⟨s3, n3, b3⟩ := new_size e3
  obtain ⟨s4, n4, b4⟩ := new_size e4
  rw [s3] at n4
  have hsz := h.bel.size
  have hs2 := b2.size
  have c1 := h.bel.trans (b1.mono hsz)
  have c2 := c1.trans (b2.mono (by omega))
  have c3 := c2.trans (b3.mono (by omega))
  have c4 := c3.trans (b4.mono (by omega))
  have hrow : ∀ j, v.ownBlock = some j → j < wr.heap.size := fun j hj => (h.own.lt j hj).2
  have all : Below wr.heap.size wr w4 := (b1.trans (b2.mono (by omega))).trans ((b3.mono (by omega)).trans (b4.mono (by omega)))
  refine ⟨c4, row_only h.own (Only.of_below all fun _ => False) (by simp), ?_, ?_, ?_, hrow, hsz, by omega, by omega, rfl⟩
  · exact (b4.block _ (by omega)).trans ((b3.block _ (by omega)).trans ((b2.block _ (by omega)).trans n1))
  · exact (b4.block _ (by omega)).trans n3
  · rw [n4]; simp [numsC, gI]

theorem IL.flg {w wr : World} {v : Value} {acc : List Ev} {L : List UInt8} {kd k i E Hb Nb : Nat} (h : IL w wr v acc L kd k i E Hb Nb) (hi : i < 5) (h2 : 2 ≤ i) : wr.cell? ⟨Hb, i - 2, none⟩ = some (.bool (flag kd i)) := by
  have hh := h.hh
  match i, hi, h2 with
  | 2, _, _ => simp [World.cell?, hh, flag]
  | 3, _, _ => simp [World.cell?, hh, flag]
  | 4, _, _ => simp [World.cell?, hh, flag]
theorem IL.num {w wr : World} {v : Value} {acc : List Ev} {L : List UInt8} {kd k i E Hb Nb : Nat} (h : IL w wr v acc L kd k i E Hb Nb) (j : Nat) (hj : j < 5) : wr.cell? ⟨Nb, j, none⟩ = some (.int .u64 (gI L kd k i j : Nat)) ∧ wr.frozen? ⟨Nb, j, none⟩ = false := by
  have hn := h.nn
  refine ⟨?_, by simp [World.frozen?, hn]⟩
  have : wr.cell? ⟨Nb, j, none⟩ = (numsC (gI L kd k i))[j]? := by simp [World.cell?, hn]
  rw [this, numsC_at _ j hj]
theorem IL.skip {w wr : World} {v : Value} {acc : List Ev} {L : List UInt8} {kd k i E Hb Nb : Nat} (h : IL w wr v acc L kd k i E Hb Nb) (hi : i < 5) (hf : flag kd i = false) : IL w wr v acc L kd k (i + 1) E Hb Nb ∧ (nst L kd k (i + 1)).2.1 = (nst L kd k i).2.1 := by
  have hn := nst_succ L kd k i
  rw [hf, numS_no] at hn
  refine ⟨⟨h.bel, h.own, h.ee, h.hh, ?_, h.row, h.lE, h.EH, h.HN, by rw [hn]; exact h.ok⟩, by rw [hn]⟩
  rw [← numsC_skip L kd k i hi (by rw [hn])]
  exact h.nn
theorem IL.next {w wr : World} {v : Value} {acc : List Ev} {L : List UInt8} {kd k i E Hb Nb : Nat} (h : IL w wr v acc L kd k i E Hb Nb) (hi : i < 5) (h0 : (nst L kd k (i + 1)).2.2 = 0) : IL w (wr.setCell ⟨Nb, i, none⟩ (.int .u64 ((nst L kd k (i + 1)).1 : Nat))) v acc L kd k (i + 1) E Hb Nb := by
  have ho := Only.setCell wr Nb i (.int .u64 ((nst L kd k (i + 1)).1 : Nat)) (fun x => x = Nb) rfl
  have hs := heap_setCell_same wr Nb i _ _ (.int .u64 ((nst L kd k (i + 1)).1 : Nat)) h.nn
  have h1 := h.lE
  have h2 := h.EH
  have h3 := h.HN
  refine ⟨h.bel.trans (ho.below h.bel.size (fun j hj => by omega)), row_only h.own ho (fun j hj e => by have := h.row j hj; omega), blk_only h.ee ho (by omega), blk_only h.hh ho (by omega), ?_, h.row, h1, h2, h3, h0⟩
  rw [hs, numsC_set L kd k i hi]
theorem nst_yes {L : List UInt8} {kd : Int} {k i : Nat} (hf : flag kd i = true) (h0 : (nst L kd k i).2.2 = 0) : nst L kd k (i + 1) = ((lebMost (L.drop (nst L kd k i).2.1) 4294967295).1, (nst L kd k i).2.1 + (lebMost (L.drop (nst L kd k i).2.1) 4294967295).2.2, (lebMost (L.drop (nst L kd k i).2.1) 4294967295).2.1) := by
  rw [nst_succ, hf, h0, numS_yes]

theorem ev_set1 {w : World} {E : Nat} {e e' : Ev} (h : w.heap[E]? = some (evO e)) (j : Nat) (v : Value) (hv : (evC e).setIfInBounds j v = evC e') : (w.setCell ⟨E, j, none⟩ v).heap[E]? = some (evO e') := by
  rw [heap_setCell_same w E j _ _ v h]
  unfold evC at hv
  unfold evO
  rw [hv]
/-- The event is whole. -/
theorem il_full {w wr : World} {v : Value} {acc : List Ev} {L : List UInt8} {kd k i E Hb Nb : Nat} (h : IL w wr v acc L kd k i E Hb Nb) (n2 n3 n4 cn cy : Nat) :
    ((((((wr.setCell ⟨E, 3, none⟩ (.int .u32 n2)).setCell ⟨E, 4, none⟩ (.int .u32 n3)).setCell ⟨E, 5, none⟩ (.int .u32 n4)).setCell ⟨E, 2, none⟩ (.int .u64 cn)).setCell ⟨E, 1, none⟩ (.int .u64 cy)).heap[E]? = some (evO ⟨kd, cy, cn, n2, n3, n4⟩)) ∧
    Only wr (((((wr.setCell ⟨E, 3, none⟩ (.int .u32 n2)).setCell ⟨E, 4, none⟩ (.int .u32 n3)).setCell ⟨E, 5, none⟩ (.int .u32 n4)).setCell ⟨E, 2, none⟩ (.int .u64 cn)).setCell ⟨E, 1, none⟩ (.int .u64 cy)) (fun j => j = E) := by
  have h1 := ev_set1 h.ee 3 (.int .u32 n2) (e' := ⟨kd, 0, 0, n2, 0, 0⟩) rfl
  have h2 := ev_set1 h1 4 (.int .u32 n3) (e' := ⟨kd, 0, 0, n2, n3, 0⟩) rfl
  have h3 := ev_set1 h2 5 (.int .u32 n4) (e' := ⟨kd, 0, 0, n2, n3, n4⟩) rfl
  have h4 := ev_set1 h3 2 (.int .u64 cn) (e' := ⟨kd, 0, cn, n2, n3, n4⟩) rfl
  have h5 := ev_set1 h4 1 (.int .u64 cy) (e' := ⟨kd, cy, cn, n2, n3, n4⟩) rfl
  refine ⟨h5, ?_⟩
  have o : ∀ (u : World) j x, Only u (u.setCell ⟨E, j, none⟩ x) (fun y => y = E) := fun u j x => Only.setCell u E j x _ rfl
  exact ((((o _ _ _).trans (o _ _ _) (fun _ _ h => h)).trans (o _ _ _) (fun _ _ h => h)).trans (o _ _ _) (fun _ _ h => h)).trans (o _ _ _) (fun _ _ h => h)
theorem il_part {w wr : World} {v : Value} {acc : List Ev} {L : List UInt8} {kd k i E Hb Nb : Nat} (h : IL w wr v acc L kd k i E Hb Nb) (x y z : Value) : Below w.heap.size w (((wr.setCell ⟨E, 3, none⟩ x).setCell ⟨E, 4, none⟩ y).setCell ⟨E, 5, none⟩ z) := by
  have o : ∀ (u : World) j x, Only u (u.setCell ⟨E, j, none⟩ x) (fun y => y = E) := fun u j x => Only.setCell u E j x _ rfl
  have h1 := h.lE
  exact h.bel.trans ((((o wr 3 x).trans (o _ 4 y) (fun _ _ h => h)).trans (o _ 5 z) (fun _ _ h => h)).below h.bel.size (fun j hj => by omega))
/-- The state of the next round. -/
theorem ol_step {w wr w6 w7 : World} {s : ByteArray} {R : List Ev × Int} {v v' : Value} {acc : List Ev} {e : Ev} {k k' : Nat} (bel : Below w.heap.size w w6) (own : OwnE w6 w.heap.size v acc) (rat : ReadAt R s.data.toList (acc ++ [e]) e k')
    (hlen : acc.length ≤ k) (hk : k < k') (fy : e.cyc < 18446744073709551616) (fc : e.cnt < 18446744073709551616)
    (hown : w7.ownsRow w.heap.size 69 6 v' (acc.length + 1) (evRow acc ++ ev6 e)) (hg : (w6.alloc (evO e)).grownBy w7 v.ownBlock) : OL w w7 s R v' (acc ++ [e]) e k' := by
  have o1 : Only w6 w7 (fun j => v.ownBlock = some j) := (Only.alloc w6 _ _).trans (Only.of_grown hg (fun j hj => hj)) (fun _ _ h => h)
  refine ⟨bel.trans (o1.below bel.size (fun j hj => (own.lt j hj).1)), ?_, rat, fy, fc, by simp; omega⟩
  unfold OwnE
  rw [evRow_append, evRow_one, List.length_append]
  exact hown

theorem seenE_nil (w : World) : SeenE w none 0 [] := ⟨by simp, by simp, fun _ => ⟨rfl, rfl⟩, fun i hi => by simp at hi⟩

set_option maxRecDepth 100000 in
set_option maxHeartbeats 16000000 in
theorem rread_tag (cyc cnt : Nat) (s : ByteArray) (hs : s.size ≤ 1000000) (hcy : cyc < 18446744073709551616) (hcn : cnt < 18446744073709551616) (w : World) :
    Calls Tryd.prog 40 #[.int .u64 cyc, .int .u64 cnt, .string s] w fun r w' => ∃ ao cap, r = .returned (.tuple #[.slice ao (readL cyc cnt s.data.toList).1.length cap, .int .i64 (readL cyc cnt s.data.toList).2]) ∧ SeenE w' ao cap (readL cyc cnt s.data.toList).1 ∧ EvT w' ao ∧ Below w.heap.size w w' := by
  obtain ⟨R, hR⟩ : ∃ R, R = readL cyc cnt s.data.toList := ⟨_, rfl⟩
  have Hat := Lib.hid (read_init cyc cnt s.data.toList)
  rw [← hR] at Hat ⊢
  clear hR
  have HP0 := Lib.hid (show OL w (w.alloc (.cells #[] 69)) s R (.slice (some ⟨w.heap.size, 0, none⟩) 0 0) [] ⟨0, cyc, cnt, 0, 0, 0⟩ 0 from
    ⟨(Below.refl _ w).alloc (Nat.le_refl _) _, World.ownsRow_lit w #[] 0 (Nat.le_refl _) (by decide) rfl, Hat.out, hcy, hcn, Nat.le_refl _⟩)
  obtain ⟨i0, hi, hz0, hz1, hz2⟩ := Tryd.infoEv3
  have hdl := Lib.hid (data_len s)
  clear Hat hcy hcn
  go_enter Tryd.func40, Tryd.ntmps40
  go_wp2_with fail
  go_loopw [0, 1, 8, 9] (fun xy xc v xk wr => ∃ (acc : List Ev) (b : Ev) (k : Nat), xy = .int .u64 (b.cyc : Int) ∧ xc = .int .u64 (b.cnt : Int) ∧ xk = .int .i64 (k : Int) ∧ Hid (OL w wr s R v acc b k)) (fun _ _ _ xk _ => s.size - (intOf xk).toNat)
  case atStart => exact ⟨_, _, 0, rfl, rfl, rfl, HP0⟩
  case round =>
    clear HP0
    obtain ⟨acc, b, k, rfl, rfl, rfl, P⟩ := hrel
    obtain ⟨ao, cap, hv, -, -⟩ := P.out.own.seen
    subst hv
    by_cases hlt : k < s.size
    · have hk0I : (0 : Int) ≤ (k : Int) := Int.natCast_nonneg _
      have hk1I : (k : Int) < (s.size : Int) := by omega
      have hkd := kindAt_is s k hlt
      obtain ⟨kd, hkdd⟩ : ∃ kd, kd = s[k].toNat := ⟨_, rfl⟩
      have hci : s[k].toNat = kd := hkdd.symm
      rw [hci] at hkd
      have Hkd := Lib.hid hkd
      have hk256 : kd < 256 := by rw [hkdd]; exact s[k].toNat_lt
      clear hkd hkdd
      by_cases hkn : 1 ≤ kd ∧ kd ≤ 24
      · obtain ⟨hkn1, hkn2⟩ := hkn
        have t1 : decide ((kd : Int) < 1) = false := by simp; omega
        have t2 : decide ((24 : Int) < (kd : Int)) = false := by simp; omega
        have HH := Lib.hid (fun w => rhas_is (kd : Int) w)
        obtain ⟨w1, x1⟩ : ∃ w1, w1 = wr.alloc (evO ⟨kd, 0, 0, 0, 0, 0⟩) := ⟨_, rfl⟩
        have IS := Lib.hid (fun w2 w3 w4 b2 e3 e4 => il_start (w1 := w1) (w2 := w2) (w3 := w3) (w4 := w4) (k := k + 1) (L := s.data.toList) P.out x1 b2 e3 e4)
        generalize hE : wr.heap.size = E at *
        unfold evO at x1
        simp only at x1
        rw [show ((0 : Nat) : Int) = 0 from rfl] at x1
        go_wp2_with fail
        rw [← x1]
        clear x1 hE
        refine (HH.out w1).mono ?_
        rintro r w2 ⟨rfl, b2⟩
        obtain ⟨w3, x3⟩ : ∃ w3, w3 = w2.alloc (.cells #[.bool (hasA kd), .bool (hasB kd), .bool (hasV kd)] 104) := ⟨_, rfl⟩
        obtain ⟨w4, x4⟩ : ∃ w4, w4 = w3.alloc (.cells #[.int .u64 0, .int .u64 0, .int .u64 0, .int .u64 0, .int .u64 0] 106) := ⟨_, rfl⟩
        have I0 := Lib.hid (IS.out w2 w3 w4 b2 x3 x4)
        have hNC := Lib.hid (show nextC b s.data.toList k = if (nst s.data.toList kd (k + 1) 5).2.2 ≠ 0 then (ev0, (((nst s.data.toList kd (k + 1) 5).2.2 : Nat) : Int), 0)
            else if fwdOk b s.data.toList kd (k + 1) = true ∧ checkN (nextE b s.data.toList kd (k + 1)) = 0 then (nextE b s.data.toList kd (k + 1), 0, (nst s.data.toList kd (k + 1) 5).2.1) else (ev0, 5, 0) by
          unfold nextC
          rw [Hkd.out, if_neg (by simp [knownB]; omega)])
        have Hroom := Lib.hid (nst_room s.data.toList kd (k + 1) (by rw [hdl.out]; exact hlt))
        clear IS HH b2 Hkd
        generalize hHb : w2.heap.size = Hb at *
        go_wp2_with fail
        rw [← x3, ← x4]
        clear x3 x4 hHb
        have hst0 : (((k : Nat) : Int) + 1) = ((nst s.data.toList kd (k + 1) 0).2.1 : Nat) := by simp [nst]
        have Hst0 := Lib.hid hst0
        clear hst0
        go_loopw [9, 13] (fun xk xi wr' => ∃ i : Nat, i ≤ 5 ∧ xi = .int .i64 (i : Int) ∧ xk = .int .i64 ((nst s.data.toList kd (k + 1) i).2.1 : Nat) ∧ Hid (IL w wr' (.slice ao acc.length cap) acc s.data.toList kd (k + 1) i E Hb (Hb + 1))) (fun _ xi _ => 5 - (intOf xi).toNat)
        case atStart => exact ⟨0, by omega, rfl, by rw [← Hst0.out], I0⟩
        case round =>
          clear I0 Hst0
          obtain ⟨i, hi5, rfl, rfl, I⟩ := hrel
          by_cases hi : i < 5
          · have hi0I : (0 : Int) ≤ (i : Int) := Int.natCast_nonneg _
            have hi1I : (i : Int) < 5 := by omega
            have htI : (i : Int).toNat = i := by omega
            by_cases hfl : flag kd i = true
            · have hy := nst_yes hfl I.out.ok
              have HM := Lib.hid (rmost_any s (nst s.data.toList kd (k + 1) i).2.1 4294967295 hs (by have := (Hroom.out i).2; rw [hdl.out] at this; exact this) wr)
              have HI := Lib.hid (I.out.next hi)
              have Hnum := I.out.num i hi
              have HX := Lib.hid (fun h => nst_err (L := s.data.toList) (kind := (kd : Int)) (k := k + 1) (i := i + 1) h (5 - (i + 1)))
              have hcase : (decide ((2 : Int) ≤ (i : Int)) = false ∧ decide (2 ≤ i) = false) ∨ (decide ((2 : Int) ≤ (i : Int)) = true ∧ decide (2 ≤ i) = true ∧ wr.cell? ⟨Hb, i - 2, none⟩ = some (.bool true) ∧ (0 : Int) ≤ (i : Int) - 2 ∧ (i : Int) - 2 < 3 ∧ ((i : Int) - 2).toNat = i - 2) := by
                by_cases h2 : 2 ≤ i
                · right
                  have := I.out.flg hi h2
                  rw [hfl] at this
                  exact ⟨by simp; omega, by simp; omega, this, by omega, by omega, by omega⟩
                · left
                  exact ⟨by simp; omega, by simp; omega⟩
              rw [show i + 1 + (5 - (i + 1)) = 5 by omega] at HX
              generalize lebMost (List.drop (nst s.data.toList kd (k + 1) i).2.1 s.data.toList) 4294967295 = M at *
              generalize (nst s.data.toList kd (k + 1) i).2.1 = at0 at *
              obtain ⟨n', er, mb⟩ := M
              simp only at hy HM
              by_cases her : er = 0
              · have hI := HI.out (by rw [hy]; exact her)
                rw [hy] at hI
                have HI' := Lib.hid hI
                have Hy := Lib.hid hy
                have heb : ((er : Int) != 0) = false := by rw [her]; rfl
                obtain ⟨m0, m1⟩ := Hnum
                generalize gI s.data.toList kd (k + 1) i i = gg at *
                clear hy hI HI HX I her hfl
                rcases hcase with ⟨d2, d2'⟩ | ⟨d2, d2', cH, cH0, cH1, cH2⟩
                all_goals
                  go_wp2_with fail
                  refine HM.out.mono ?_
                  rintro r w5 ⟨rfl, rfl⟩
                  go_wp2_with fail
                  go_roundw
                  case rel => exact ⟨i + 1, by omega, by go_num, by rw [Hy.out]; simp, HI'⟩
                  case measure => simp [intOf]; omega
              · have heb : ((er : Int) != 0) = true := by rw [bne_iff_ne]; omega
                have h5 := HX.out (by rw [hy]; exact her)
                rw [hy] at h5
                simp only at h5
                have hN := hNC.out
                rw [if_pos (by rw [h5]; exact her), h5] at hN
                have hE := Lib.hid (by have := read_bad P.out.rat (by rw [hdl.out]; exact hlt) (by rw [hN]; simp only; omega); rw [hN] at this; exact this)
                have HB := Lib.hid I.out.bel
                clear hy HI HX I her hfl Hnum h5 hN hNC P
                rcases hcase with ⟨d2, d2'⟩ | ⟨d2, d2', cH, cH0, cH1, cH2⟩
                all_goals
                  go_wp2_with fail
                  refine HM.out.mono ?_
                  rintro r w5 ⟨rfl, rfl⟩
                  go_wp2_with fail
                  go_ret2
                  rw [hE.out]
                  exact ⟨none, 0, rfl, seenE_nil _, evT_none _, HB.out⟩
            · have hff : flag kd i = false := by simpa using hfl
              have h2 : 2 ≤ i := by
                rcases Nat.lt_or_ge i 2 with h | h
                · exfalso
                  rcases (show i = 0 ∨ i = 1 by omega) with rfl | rfl
                  · exact hfl rfl
                  · exact hfl rfl
                · exact h
              obtain ⟨hI, hsame⟩ := I.out.skip hi hff
              have HI' := Lib.hid hI
              have Hsame := Lib.hid hsame
              have cH := I.out.flg hi h2
              rw [hff] at cH
              have d2 : decide ((2 : Int) ≤ (i : Int)) = true := by simp; omega
              have d2' : decide (2 ≤ i) = true := by simp; omega
              have cH0 : (0 : Int) ≤ (i : Int) - 2 := by omega
              have cH1 : (i : Int) - 2 < 3 := by omega
              have cH2 : ((i : Int) - 2).toNat = i - 2 := by omega
              clear hI hsame hfl hff I
              go_wp2_with fail
              go_roundw
              case rel => exact ⟨i + 1, by omega, by go_num, by rw [Hsame.out], HI'⟩
              case measure => simp [intOf]; omega
          · obtain rfl : i = 5 := by omega
            have hN := hNC.out
            rw [if_neg (by rw [I.out.ok]; simp)] at hN
            unfold fwdOk nextE growZ at hN
            simp only [decide_eq_true_eq] at hN
            obtain ⟨m0, -⟩ := I.out.num 0 (by omega)
            obtain ⟨m1, -⟩ := I.out.num 1 (by omega)
            obtain ⟨m2, -⟩ := I.out.num 2 (by omega)
            obtain ⟨m3, -⟩ := I.out.num 3 (by omega)
            obtain ⟨m4, -⟩ := I.out.num 4 (by omega)
            simp only [gI, Nat.zero_lt_succ, if_true, Nat.reduceAdd, Nat.reduceLT] at m0 m1 m2 m3 m4
            have l1 := nst_lt s.data.toList kd (k + 1) 1
            have l2 := nst_lt s.data.toList kd (k + 1) 2
            have l3 := nst_lt s.data.toList kd (k + 1) 3
            have l4 := nst_lt s.data.toList kd (k + 1) 4
            have l5 := nst_lt s.data.toList kd (k + 1) 5
            have hr5 := Hroom.out 5
            rw [hdl.out] at hr5
            generalize (nst s.data.toList kd (k + 1) 1).1 = n0 at *
            generalize (nst s.data.toList kd (k + 1) 2).1 = n1 at *
            generalize (nst s.data.toList kd (k + 1) 3).1 = n2 at *
            generalize (nst s.data.toList kd (k + 1) 4).1 = n3 at *
            generalize (nst s.data.toList kd (k + 1) 5).1 = n4 at *
            generalize (nst s.data.toList kd (k + 1) 5).2.1 = k5 at *
            obtain ⟨q, hq⟩ : ∃ q : Nat, (n1 : Int) / 2 = (q : Int) := ⟨n1 / 2, by omega⟩
            have hEN : E ≠ Hb + 1 := by have := I.out.EH; have := I.out.HN; omega
            obtain ⟨c0, c1, c2, c3, c4, c5⟩ := evcells I.out.ee
            obtain ⟨f0, f1, f2, f3, f4, f5⟩ := evfree I.out.ee
            have HP := Lib.hid (il_part I.out)
            have fy := P.out.fy
            have fc := P.out.fc
            have Hbad := Lib.hid (read_bad P.out.rat (by rw [hdl.out]; exact hlt))
            by_cases hodd : n1 % 2 = 1
            · have hpb : ((n1 : Int) % 2 == 1) = true := by rw [beq_iff_eq]; omega
              have hun : unfold' n1 = -(q : Int) - 1 := by unfold unfold'; rw [if_pos hodd]; omega
              rw [hun] at hN
              by_cases hc1 : n0 < q + 1
              · have g1 : decide ((n0 : Int) < (q : Int) + 1) = true := by simp; omega
                rw [if_neg (fun h => by omega)] at hN
                have hE := Lib.hid (by have := Hbad.out (by rw [hN]; decide); rw [hN] at this; exact this)
                clear hN Hbad hun hodd hNC
                go_wp2_with fail
                go_ret2
                rw [hE.out]
                exact ⟨none, 0, rfl, seenE_nil _, evT_none _, HP.out _ _ _⟩
              · have g1 : decide ((n0 : Int) < (q : Int) + 1) = false := by simp; omega
                obtain ⟨g, hg⟩ : ∃ g : Nat, (n0 : Int) - ((q : Int) + 1) = (g : Int) := ⟨n0 - (q + 1), by omega⟩
                have hgl : g < 18446744073709551616 := by omega
                have hgz : (n0 : Int) + (-(q : Int) - 1) = (g : Int) := by omega
                rw [hgz] at hN
                have htn : ((b.cyc : Int) + (g : Int)).toNat = b.cyc + g := by omega
                rw [htn] at hN
                clear hgz htn hun hodd hNC
                by_cases hc2 : b.cnt + n0 ≤ 18446744073709551615
                · obtain ⟨cn, hcn⟩ : ∃ cn : Nat, b.cnt + n0 = cn := ⟨_, rfl⟩
                  have hcnI : (b.cnt : Int) + (n0 : Int) = (cn : Int) := by omega
                  have g2 : decide ((cn : Int) < (b.cnt : Int)) = false := by simp; omega
                  by_cases hc3 : b.cyc + g ≤ 18446744073709551615
                  · obtain ⟨cy, hcy⟩ : ∃ cy : Nat, b.cyc + g = cy := ⟨_, rfl⟩
                    have hcyI : (b.cyc : Int) + (g : Int) = (cy : Int) := by omega
                    have g3 : decide ((cy : Int) < (b.cyc : Int)) = false := by simp; omega
                    have hcn' : cn ≤ 18446744073709551615 := by omega
                    have hcy' : cy ≤ 18446744073709551615 := by omega
                    rw [hcn, hcy] at hN
                    have hcnd : (0 ≤ (g : Int) ∧ cn ≤ 18446744073709551615 ∧ (b.cyc : Int) + (g : Int) ≤ 18446744073709551615) := ⟨by omega, hcn', by omega⟩
                    obtain ⟨hev, hon⟩ := il_full I.out n2 n3 n4 cn cy
                    have hlE := I.out.lE
                    have bel5 := I.out.bel.trans (hon.below I.out.bel.size (fun j hj => by omega))
                    have own5 := row_only I.out.own hon (fun j hj e => by have := I.out.row j hj; omega)
                    obtain ⟨w5, x5⟩ : ∃ w5, w5 = ((((wr.setCell ⟨E, 3, none⟩ (.int .u32 n2)).setCell ⟨E, 4, none⟩ (.int .u32 n3)).setCell ⟨E, 5, none⟩ (.int .u32 n4)).setCell ⟨E, 2, none⟩ (.int .u64 cn)).setCell ⟨E, 1, none⟩ (.int .u64 cy) := ⟨_, rfl⟩
                    rw [← x5] at hev bel5 own5
                    have HC := Lib.hid (rcheck_any ⟨kd, cy, cn, n2, n3, n4⟩ w5)
                    unfold evV at HC
                    simp only at HC
                    have Hev := Lib.hid hev
                    have Hbel5 := Lib.hid bel5
                    have Hown5 := Lib.hid own5
                    clear hev hon bel5 own5 hlE HP I
                    by_cases hck : checkN ⟨kd, cy, cn, n2, n3, n4⟩ = 0
                    · rw [if_pos ⟨hcnd, hck⟩] at hN
                      rw [hck] at HC
                      have Hgo := Lib.hid (by have := read_go P.out.rat (by rw [hdl.out]; exact hlt) (by rw [hN]); rw [hN] at this; exact this)
                      have Hlen := Lib.hid P.out.len
                      clear hN Hbad hck hcnd hc2 hc3 hcn hcy
                      go_wp2_with fail
                      rw [← x5]
                      clear x5 c0 c1 c2 c3 c4 c5 f0 f1 f2 f3 f4 f5 m0 m1 m2 m3 m4
                      refine HC.out.mono ?_
                      rintro r w6 ⟨rfl, b6⟩
                      have ev6' := (b6.block _ (blk_lt Hev.out)).trans Hev.out
                      have bel6 := Lib.hid (Hbel5.out.trans (b6.mono Hbel5.out.size))
                      have own6 := Lib.hid (row_only Hown5.out (Only.of_below b6 fun _ => False) (by simp))
                      obtain ⟨c0, c1, c2, c3, c4, c5⟩ := evcells ev6'
                      simp only at c0 c1 c2 c3 c4 c5
                      have hown2 := Lib.hid (fun o => World.ownsRow.alloc own6.out o)
                      have hl4 := Hlen.out
                      have hsz6 := bel6.out.size
                      clear b6 HC Hev Hbel5 Hown5 ev6'
                      go_wp2_with (at_builtin; refine wpList_append_own _ rfl _ _ 42 rfl w.heap.size 69 i0 (.agg #[.int .i64 0, .int .u64 0, .int .u64 0, .int .u32 0, .int .u32 0, .int .u32 0]) 6 40 Tryd.underlying42 ‹_› hz0 hz1 hz2 rfl (by decide) _ _ _ rfl (hown2.out _) _ 1 1 (ev6 ⟨kd, cy, cn, n2, n3, n4⟩) rfl rfl (seg_ev w6 ⟨kd, cy, cn, n2, n3, n4⟩) (ev6_one _) (by unfold maxLen; omega) (by omega) (by simp; omega) ?_)
                      intro v' w7 hown7 hg7 hne7
                      have HOL := Lib.hid (ol_step (s := s) (R := R) (wr := w6) bel6.out own6.out Hgo.out Hlen.out (by omega) (by simp only; omega) (by simp only; omega) hown7 hg7)
                      clear hown7 hg7 hne7 bel6 own6 hown2 c0 c1 c2 c3 c4 c5
                      go_wp2_with fail
                      go_roundw
                      case rel => exact ⟨_, ⟨kd, cy, cn, n2, n3, n4⟩, k5, rfl, rfl, rfl, HOL⟩
                      case measure => simp [intOf]; omega
                    · rw [if_neg (fun h => hck h.2)] at hN
                      have hcb : (checkN ⟨kd, cy, cn, n2, n3, n4⟩ != 0) = true := by rw [bne_iff_ne]; exact hck
                      generalize checkN ⟨kd, cy, cn, n2, n3, n4⟩ = ck at *
                      have hE := Lib.hid (by have := Hbad.out (by rw [hN]; decide); rw [hN] at this; exact this)
                      clear hN Hbad hck hcnd hc2 hc3 hcn hcy
                      go_wp2_with fail
                      rw [← x5]
                      clear x5 c0 c1 c2 c3 c4 c5 f0 f1 f2 f3 f4 f5 m0 m1 m2 m3 m4
                      refine HC.out.mono ?_
                      rintro r w6 ⟨rfl, b6⟩
                      have bel6 := Lib.hid (Hbel5.out.trans (b6.mono Hbel5.out.size))
                      clear b6
                      go_wp2_with fail
                      go_ret2
                      rw [hE.out]
                      exact ⟨none, 0, rfl, seenE_nil _, evT_none _, bel6.out⟩
                  · obtain ⟨xx, hxx⟩ : ∃ xx : Nat, xx = b.cyc + g - 18446744073709551616 := ⟨_, rfl⟩
                    have hwx : IntKind.u64.wrap ((b.cyc : Int) + (g : Int)) = (xx : Int) := by rw [IntKind.wrap_u64]; omega
                    have g3 : decide ((xx : Int) < (b.cyc : Int)) = true := by simp; omega
                    have g3' : xx < b.cyc := by omega
                    rw [if_neg (fun h => by omega)] at hN
                    have hE := Lib.hid (by have := Hbad.out (by rw [hN]; decide); rw [hN] at this; exact this)
                    clear hN Hbad hc3 hxx I hcn
                    go_wp2_with fail
                    all_goals first | (exfalso; omega) | skip
                    go_ret2
                    rw [hE.out]
                    exact ⟨none, 0, rfl, seenE_nil _, evT_none _, HP.out _ _ _⟩
                · obtain ⟨xx, hxx⟩ : ∃ xx : Nat, xx = b.cnt + n0 - 18446744073709551616 := ⟨_, rfl⟩
                  have hwx : IntKind.u64.wrap ((b.cnt : Int) + (n0 : Int)) = (xx : Int) := by rw [IntKind.wrap_u64]; omega
                  have g3 : decide ((xx : Int) < (b.cnt : Int)) = true := by simp; omega
                  have g3' : xx < b.cnt := by omega
                  rw [if_neg (fun h => by omega)] at hN
                  have hE := Lib.hid (by have := Hbad.out (by rw [hN]; decide); rw [hN] at this; exact this)
                  clear hN Hbad hc2 hxx I
                  go_wp2_with fail
                  all_goals first | (exfalso; omega) | skip
                  go_ret2
                  rw [hE.out]
                  exact ⟨none, 0, rfl, seenE_nil _, evT_none _, HP.out _ _ _⟩
            · have hpb : ((n1 : Int) % 2 == 1) = false := by rw [beq_eq_false_iff_ne]; omega
              have hun : unfold' n1 = (q : Int) := by unfold unfold'; rw [if_neg hodd]; omega
              rw [hun] at hN
              obtain ⟨g, hgz⟩ : ∃ g : Nat, (n0 : Int) + (q : Int) = (g : Int) := ⟨n0 + q, by omega⟩
              have hg : (n0 : Int) + (q : Int) = (g : Int) := hgz
              have hgl : g < 18446744073709551616 := by omega
              have g1 : decide ((g : Int) < 0) = false := by simp
              rw [hgz] at hN
              have htn : ((b.cyc : Int) + (g : Int)).toNat = b.cyc + g := by omega
              rw [htn] at hN
              clear hgz htn hun hodd hNC
              by_cases hc2 : b.cnt + n0 ≤ 18446744073709551615
              · obtain ⟨cn, hcn⟩ : ∃ cn : Nat, b.cnt + n0 = cn := ⟨_, rfl⟩
                have hcnI : (b.cnt : Int) + (n0 : Int) = (cn : Int) := by omega
                have g2 : decide ((cn : Int) < (b.cnt : Int)) = false := by simp; omega
                by_cases hc3 : b.cyc + g ≤ 18446744073709551615
                · obtain ⟨cy, hcy⟩ : ∃ cy : Nat, b.cyc + g = cy := ⟨_, rfl⟩
                  have hcyI : (b.cyc : Int) + (g : Int) = (cy : Int) := by omega
                  have g3 : decide ((cy : Int) < (b.cyc : Int)) = false := by simp; omega
                  have hcn' : cn ≤ 18446744073709551615 := by omega
                  have hcy' : cy ≤ 18446744073709551615 := by omega
                  rw [hcn, hcy] at hN
                  have hcnd : (0 ≤ (g : Int) ∧ cn ≤ 18446744073709551615 ∧ (b.cyc : Int) + (g : Int) ≤ 18446744073709551615) := ⟨by omega, hcn', by omega⟩
                  obtain ⟨hev, hon⟩ := il_full I.out n2 n3 n4 cn cy
                  have hlE := I.out.lE
                  have bel5 := I.out.bel.trans (hon.below I.out.bel.size (fun j hj => by omega))
                  have own5 := row_only I.out.own hon (fun j hj e => by have := I.out.row j hj; omega)
                  obtain ⟨w5, x5⟩ : ∃ w5, w5 = ((((wr.setCell ⟨E, 3, none⟩ (.int .u32 n2)).setCell ⟨E, 4, none⟩ (.int .u32 n3)).setCell ⟨E, 5, none⟩ (.int .u32 n4)).setCell ⟨E, 2, none⟩ (.int .u64 cn)).setCell ⟨E, 1, none⟩ (.int .u64 cy) := ⟨_, rfl⟩
                  rw [← x5] at hev bel5 own5
                  have HC := Lib.hid (rcheck_any ⟨kd, cy, cn, n2, n3, n4⟩ w5)
                  unfold evV at HC
                  simp only at HC
                  have Hev := Lib.hid hev
                  have Hbel5 := Lib.hid bel5
                  have Hown5 := Lib.hid own5
                  clear hev hon bel5 own5 hlE HP I
                  by_cases hck : checkN ⟨kd, cy, cn, n2, n3, n4⟩ = 0
                  · rw [if_pos ⟨hcnd, hck⟩] at hN
                    rw [hck] at HC
                    have Hgo := Lib.hid (by have := read_go P.out.rat (by rw [hdl.out]; exact hlt) (by rw [hN]); rw [hN] at this; exact this)
                    have Hlen := Lib.hid P.out.len
                    clear hN Hbad hck hcnd hc2 hc3 hcn hcy
                    go_wp2_with fail
                    rw [← x5]
                    clear x5 c0 c1 c2 c3 c4 c5 f0 f1 f2 f3 f4 f5 m0 m1 m2 m3 m4
                    refine HC.out.mono ?_
                    rintro r w6 ⟨rfl, b6⟩
                    have ev6' := (b6.block _ (blk_lt Hev.out)).trans Hev.out
                    have bel6 := Lib.hid (Hbel5.out.trans (b6.mono Hbel5.out.size))
                    have own6 := Lib.hid (row_only Hown5.out (Only.of_below b6 fun _ => False) (by simp))
                    obtain ⟨c0, c1, c2, c3, c4, c5⟩ := evcells ev6'
                    simp only at c0 c1 c2 c3 c4 c5
                    have hown2 := Lib.hid (fun o => World.ownsRow.alloc own6.out o)
                    have hl4 := Hlen.out
                    have hsz6 := bel6.out.size
                    clear b6 HC Hev Hbel5 Hown5 ev6'
                    go_wp2_with (at_builtin; refine wpList_append_own _ rfl _ _ 42 rfl w.heap.size 69 i0 (.agg #[.int .i64 0, .int .u64 0, .int .u64 0, .int .u32 0, .int .u32 0, .int .u32 0]) 6 40 Tryd.underlying42 ‹_› hz0 hz1 hz2 rfl (by decide) _ _ _ rfl (hown2.out _) _ 1 1 (ev6 ⟨kd, cy, cn, n2, n3, n4⟩) rfl rfl (seg_ev w6 ⟨kd, cy, cn, n2, n3, n4⟩) (ev6_one _) (by unfold maxLen; omega) (by omega) (by simp; omega) ?_)
                    intro v' w7 hown7 hg7 hne7
                    have HOL := Lib.hid (ol_step (s := s) (R := R) (wr := w6) bel6.out own6.out Hgo.out Hlen.out (by omega) (by simp only; omega) (by simp only; omega) hown7 hg7)
                    clear hown7 hg7 hne7 bel6 own6 hown2 c0 c1 c2 c3 c4 c5
                    go_wp2_with fail
                    go_roundw
                    case rel => exact ⟨_, ⟨kd, cy, cn, n2, n3, n4⟩, k5, rfl, rfl, rfl, HOL⟩
                    case measure => simp [intOf]; omega
                  · rw [if_neg (fun h => hck h.2)] at hN
                    have hcb : (checkN ⟨kd, cy, cn, n2, n3, n4⟩ != 0) = true := by rw [bne_iff_ne]; exact hck
                    generalize checkN ⟨kd, cy, cn, n2, n3, n4⟩ = ck at *
                    have hE := Lib.hid (by have := Hbad.out (by rw [hN]; decide); rw [hN] at this; exact this)
                    clear hN Hbad hck hcnd hc2 hc3 hcn hcy
                    go_wp2_with fail
                    rw [← x5]
                    clear x5 c0 c1 c2 c3 c4 c5 f0 f1 f2 f3 f4 f5 m0 m1 m2 m3 m4
                    refine HC.out.mono ?_
                    rintro r w6 ⟨rfl, b6⟩
                    have bel6 := Lib.hid (Hbel5.out.trans (b6.mono Hbel5.out.size))
                    clear b6
                    go_wp2_with fail
                    go_ret2
                    rw [hE.out]
                    exact ⟨none, 0, rfl, seenE_nil _, evT_none _, bel6.out⟩
                · obtain ⟨xx, hxx⟩ : ∃ xx : Nat, xx = b.cyc + g - 18446744073709551616 := ⟨_, rfl⟩
                  have hwx : IntKind.u64.wrap ((b.cyc : Int) + (g : Int)) = (xx : Int) := by rw [IntKind.wrap_u64]; omega
                  have g3 : decide ((xx : Int) < (b.cyc : Int)) = true := by simp; omega
                  have g3' : xx < b.cyc := by omega
                  rw [if_neg (fun h => by omega)] at hN
                  have hE := Lib.hid (by have := Hbad.out (by rw [hN]; decide); rw [hN] at this; exact this)
                  clear hN Hbad hc3 hxx I hcn
                  go_wp2_with fail
                  all_goals first | (exfalso; omega) | skip
                  go_ret2
                  rw [hE.out]
                  exact ⟨none, 0, rfl, seenE_nil _, evT_none _, HP.out _ _ _⟩
              · obtain ⟨xx, hxx⟩ : ∃ xx : Nat, xx = b.cnt + n0 - 18446744073709551616 := ⟨_, rfl⟩
                have hwx : IntKind.u64.wrap ((b.cnt : Int) + (n0 : Int)) = (xx : Int) := by rw [IntKind.wrap_u64]; omega
                have g3 : decide ((xx : Int) < (b.cnt : Int)) = true := by simp; omega
                have g3' : xx < b.cnt := by omega
                rw [if_neg (fun h => by omega)] at hN
                have hE := Lib.hid (by have := Hbad.out (by rw [hN]; decide); rw [hN] at this; exact this)
                clear hN Hbad hc2 hxx I
                go_wp2_with fail
                all_goals first | (exfalso; omega) | skip
                go_ret2
                rw [hE.out]
                exact ⟨none, 0, rfl, seenE_nil _, evT_none _, HP.out _ _ _⟩
      · have hkn' : knownB (kd : Int) = false := by simp [knownB]; omega
        have hN : nextC b s.data.toList k = (ev0, 1, 0) := by unfold nextC; rw [Hkd.out, hkn', if_pos rfl]
        have hE := Lib.hid (by have := read_bad P.out.rat (by rw [hdl.out]; exact hlt) (by rw [hN]; decide); rw [hN] at this; exact this)
        have HB := Lib.hid P.out.bel
        clear hN hkn' P
        by_cases h1 : kd < 1
        · have t1 : decide ((kd : Int) < 1) = true := by simp; omega
          clear hkn h1
          go_wp2_with fail
          go_ret2
          rw [hE.out]
          exact ⟨none, 0, rfl, seenE_nil _, evT_none _, HB.out.alloc HB.out.size _⟩
        · have t1 : decide ((kd : Int) < 1) = false := by simp; omega
          have t2 : decide ((24 : Int) < (kd : Int)) = true := by simp; omega
          clear hkn h1
          go_wp2_with fail
          go_ret2
          rw [hE.out]
          exact ⟨none, 0, rfl, seenE_nil _, evT_none _, HB.out.alloc HB.out.size _⟩
    · have hE := Lib.hid (read_end P.out.rat (by rw [hdl.out]; exact hlt))
      go_wp2_with fail
      go_ret2
      rw [hE.out]
      obtain ⟨ao', cap', hv, hseen, -⟩ := P.out.own.seen
      cases hv
      exact ⟨ao, cap, rfl, hseen, P.out.own.tag, P.out.bel⟩

theorem rread_any (cyc cnt : Nat) (s : ByteArray) (hs : s.size ≤ 1000000) (hcy : cyc < 18446744073709551616) (hcn : cnt < 18446744073709551616) (w : World) :
    Calls Tryd.prog 40 #[.int .u64 cyc, .int .u64 cnt, .string s] w fun r w' => ∃ ao cap, r = .returned (.tuple #[.slice ao (readL cyc cnt s.data.toList).1.length cap, .int .i64 (readL cyc cnt s.data.toList).2]) ∧ SeenE w' ao cap (readL cyc cnt s.data.toList).1 ∧ Below w.heap.size w w' := by
  refine (rread_tag cyc cnt s hs hcy hcn w).mono ?_
  rintro r w' ⟨ao, cap, h1, h2, -, h3⟩
  exact ⟨ao, cap, h1, h2, h3⟩

end Go.Proofs.YtobioiicbdhboaaDoor
