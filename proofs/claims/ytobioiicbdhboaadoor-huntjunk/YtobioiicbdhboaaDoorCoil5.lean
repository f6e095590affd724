/-
  What coil's next does: the event at the reader's place, over this seat's translation. Conditions: the table's cells (EvL); a reader in a block of its own.
-/
import Derived.Test.YtobioiicbdhboaaDoorCoil4
namespace Go.Proofs.YtobioiicbdhboaaDoor
open Go.RowKit
set_option linter.unusedVariables false
set_option linter.unusedSimpArgs false

theorem blk_only {w w' : World} {S : Nat → Prop} {b : Nat} {o : Obj} (h : w.heap[b]? = some o) (ho : Only w w' S) (hn : ¬ S b) : w'.heap[b]? = some o := (ho.block b (blk_lt h) hn).trans h

/-- While an event is read: the reader, the one ahead, the result, the table. -/
structure NA (w0 w : World) (rb : Nat) (s : ByteArray) (k : Nat) (d r : Ev) : Prop where
  only : Only w0 w (fun j => j = rb)
  rd : Rd w rb s k
  dd : w.heap[w0.heap.size]? = some (evO d)
  rr : w.heap[w0.heap.size + 1]? = some (evO r)
  rlt : rb < w0.heap.size
  tab : EvL w
  tb : 0 ≠ rb
  tlt : 0 < w0.heap.size
/-- Its numbers are in block nb. -/
structure NX (w0 w : World) (rb : Nat) (s : ByteArray) (k nb : Nat) (d r : Ev) (err : Nat) : Prop where
  na : NA w0 w rb s k d r
  nm : Nm w nb rb err
  lo : w0.heap.size + 1 < nb
/-- The event is made in block E. -/
structure NE (w0 w : World) (rb : Nat) (s : ByteArray) (k nb : Nat) (d r : Ev) (err E : Nat) (e : Ev) : Prop where
  nx : NX w0 w rb s k nb d r err
  ee : w.heap[E]? = some (evO e)
  lo : nb < E

theorem NA.below {w0 w w' : World} {rb : Nat} {s : ByteArray} {k : Nat} {d r : Ev} (h : NA w0 w rb s k d r) (hb : Below w.heap.size w w') : NA w0 w' rb s k d r :=
  ⟨h.only.trans (Only.of_below hb fun _ => False) (by simp), h.rd.only (Only.of_below hb fun _ => False) (by simp), (hb.block _ (blk_lt h.dd)).trans h.dd, (hb.block _ (blk_lt h.rr)).trans h.rr, h.rlt, h.tab.below hb, h.tb, h.tlt⟩
theorem NX.below {w0 w w' : World} {rb : Nat} {s : ByteArray} {k nb : Nat} {d r : Ev} {err : Nat} (h : NX w0 w rb s k nb d r err) (hb : Below w.heap.size w w') : NX w0 w' rb s k nb d r err :=
  ⟨h.na.below hb, (hb.block _ (blk_lt h.nm)).trans h.nm, h.lo⟩
theorem NE.below {w0 w w' : World} {rb : Nat} {s : ByteArray} {k nb : Nat} {d r : Ev} {err E : Nat} {e : Ev} (h : NE w0 w rb s k nb d r err E e) (hb : Below w.heap.size w w') : NE w0 w' rb s k nb d r err E e :=
  ⟨h.nx.below hb, (hb.block _ (blk_lt h.ee)).trans h.ee, h.lo⟩
theorem NX.num {w0 w w' : World} {rb : Nat} {s : ByteArray} {k k' nb : Nat} {d r : Ev} {err err' : Nat} (h : NX w0 w rb s k nb d r err) (hm : Nm w' nb rb err') (hr : Rd w' rb s k') (ho : Only w w' (fun j => j = nb ∨ j = rb)) : NX w0 w' rb s k' nb d r err' := by
  have hlo := h.lo
  have hrl := h.na.rlt
  have htl := h.na.tlt
  have htb := h.na.tb
  exact ⟨⟨h.na.only.trans ho (fun j hj e => by rcases e with e | e; omega; exact e), hr, blk_only h.na.dd ho (by omega), blk_only h.na.rr ho (by omega), hrl, h.na.tab.only ho (by omega), htb, htl⟩, hm, hlo⟩
theorem NE.num {w0 w w' : World} {rb : Nat} {s : ByteArray} {k k' nb : Nat} {d r : Ev} {err err' E : Nat} {e : Ev} (h : NE w0 w rb s k nb d r err E e) (hm : Nm w' nb rb err') (hr : Rd w' rb s k') (ho : Only w w' (fun j => j = nb ∨ j = rb)) : NE w0 w' rb s k' nb d r err' E e := by
  have hlo := h.nx.lo
  have hl := h.lo
  have hrl := h.nx.na.rlt
  exact ⟨h.nx.num hm hr ho, blk_only h.ee ho (by omega), hl⟩
theorem NX.ne {w0 w : World} {rb : Nat} {s : ByteArray} {k nb : Nat} {d r : Ev} {err : Nat} (h : NX w0 w rb s k nb d r err) : nb ≠ rb := by have := h.lo; have := h.na.rlt; omega
/-- A cell of the event is set. -/
theorem NE.set {w0 w : World} {rb : Nat} {s : ByteArray} {k nb : Nat} {d r : Ev} {err E : Nat} {e e' : Ev} (h : NE w0 w rb s k nb d r err E e) (j : Nat) (v : Value) (hv : (evC e).setIfInBounds j v = evC e') : NE w0 (w.setCell ⟨E, j, none⟩ v) rb s k nb d r err E e' := by
  have hlo := h.nx.lo
  have hl := h.lo
  have hrl := h.nx.na.rlt
  have htl := h.nx.na.tlt
  have ho := Only.setCell w E j v (fun x => x = E) rfl
  have hs := heap_setCell_same w E j _ _ v h.ee
  refine ⟨⟨⟨h.nx.na.only.trans ho (fun j hj e => by omega), h.nx.na.rd.only ho (by omega), blk_only h.nx.na.dd ho (by omega), blk_only h.nx.na.rr ho (by omega), hrl, h.nx.na.tab.only ho (by omega), h.nx.na.tb, htl⟩, h.nx.nm.only ho (by omega), hlo⟩, ?_, hl⟩
  rw [hs]
  have : (evC e).setIfInBounds j v = evC e' := hv
  unfold evC at this
  unfold evO
  rw [this]
/-- The result is stored. -/
theorem NA.stored {w0 w : World} {rb : Nat} {s : ByteArray} {k : Nat} {d r : Ev} (h : NA w0 w rb s k d r) (e : Ev) : Only w0 (evSt w (w0.heap.size + 1) e) (fun j => j = rb) ∧ Rd (evSt w (w0.heap.size + 1) e) rb s k := by
  have hrl := h.rlt
  have ho : Only w (evSt w (w0.heap.size + 1) e) (fun j => j = w0.heap.size + 1) := Only.of_grown (ev_stored h.rr).2 (fun j hj => by cases hj; rfl)
  exact ⟨h.only.trans ho (fun j hj e => by omega), h.rd.only ho (by omega)⟩

theorem na_start {w w1 w2 : World} {rb : Nat} {s : ByteArray} {k : Nat} {d : Ev} (h : Rd w rb s k) (hL : EvL w) (tb : 0 ≠ rb) (e1 : w1 = w.alloc (evO d)) (e2 : w2 = w1.alloc (evO ev0)) : NA w w2 rb s k d ev0 := by
  have hrl := h.lt
  have b := box_two w (evO d) (evO ev0)
  subst e1 e2
  have n2 := heap_alloc_new (w.alloc (evO d)) (evO ev0)
  rw [show (w.alloc (evO d)).heap.size = w.heap.size + 1 by simp] at n2
  refine ⟨Only.of_below b _, h.only (Only.of_below b fun _ => False) (by simp), ?_, n2, hrl, hL.below b, tb, hL.lt⟩
  rw [Below.heap_alloc _ _ _ (by simp)]; exact heap_alloc_new w _
theorem NA.byte {w0 w w' : World} {rb : Nat} {s : ByteArray} {k k' : Nat} {d r : Ev} (h : NA w0 w rb s k d r) (hr : Rd w' rb s k') (hg : w.grownBy w' (some rb)) : NA w0 w' rb s k' d r := by
  have hrl := h.rlt
  have ho : Only w w' (fun j => j = rb) := Only.of_grown hg (fun j hj => by cases hj; rfl)
  exact ⟨h.only.trans ho (fun j _ e => e), hr, blk_only h.dd ho (by omega), blk_only h.rr ho (by omega), hrl, h.tab.only ho (fun e => h.tb e), h.tb, h.tlt⟩
theorem NA.nums {w0 w w' : World} {rb : Nat} {s : ByteArray} {k : Nat} {d r : Ev} (h : NA w0 w rb s k d r) (e : w' = w.alloc (.cells #[.pointer (some ⟨rb, 0, none⟩), .int .i64 0] 131)) : NX w0 w' rb s k w.heap.size d r 0 := by
  obtain ⟨-, n, b⟩ := new_size e
  exact ⟨h.below b, n, blk_lt h.rr⟩
theorem NX.made {w0 w w' : World} {rb : Nat} {s : ByteArray} {k nb : Nat} {d r : Ev} {err : Nat} (h : NX w0 w rb s k nb d r err) (e : Ev) (he : w' = w.alloc (evO e)) : NE w0 w' rb s k nb d r err w.heap.size e := by
  obtain ⟨-, n, b⟩ := new_size he
  exact ⟨h.below b, n, blk_lt h.nm⟩

theorem name_is {k : Nat} (h : k < 25) : (nameB k).toList = nameL k := by rw [ByteArray.toList_eq]; exact bytesOf_data _

set_option maxRecDepth 100000 in
set_option maxHeartbeats 2000000 in
theorem next_not (w : World) (rb : Nat) (s : ByteArray) (k : Nat) (d : Ev) (h : Rd w rb s k) (hk : k < s.size) (hL : EvL w) (tb : 0 ≠ rb) (hkn : knownB (s[k].toNat : Nat) = false) :
    Calls Tryd.prog 71 #[.pointer (some ⟨rb, 0, none⟩), evV d] w fun r w' => r = .returned (.tuple #[evV ev0, .int .i64 1]) ∧ Only w w' (fun j => j = rb) := by
  obtain ⟨w1, e1⟩ : ∃ w1, w1 = w.alloc (evO d) := ⟨_, rfl⟩
  obtain ⟨w2, e2⟩ : ∃ w2, w2 = w1.alloc (evO ev0) := ⟨_, rfl⟩
  have A := Lib.hid (na_start h hL tb e1 e2)
  have HB := Lib.hid (byte_any w2 rb s k A.out.rd hk)
  have HN := Lib.hid (fun w hL => by have := name_any (s[k].toNat : Nat) w hL; rw [hkn, if_neg (by decide)] at this; exact this)
  have hb : s[k].toNat < 256 := s[k].toNat_lt
  generalize s[k].toNat = kd at *
  unfold evO ev0 at *
  unfold evV at *
  rw [show ((0 : Nat) : Int) = 0 from rfl] at e2
  clear h hL tb hkn hk
  go_enter Tryd.func71, Tryd.ntmps71
  go_wp2_with fail
  rw [← e1, ← e2]
  refine HB.out.mono ?_
  rintro r w3 ⟨rfl, r3, g3⟩
  have A3 := Lib.hid (A.out.byte r3 g3)
  clear r3 g3 A HB e1 e2
  go_wp2_with fail
  refine (HN.out _ A3.out.tab).mono ?_
  rintro r w4 ⟨rfl, rfl⟩
  obtain ⟨c0, c1, c2, c3, c4, c5⟩ := evcells A3.out.rr
  obtain ⟨f0, f1, f2, f3, f4, f5⟩ := evfree A3.out.rr
  go_wp2_with fail
  refine bodyPost_ret (v := .tuple #[.agg #[.int .i64 0, .int .u64 0, .int .u64 0, .int .u32 0, .int .u32 0, .int .u32 0], .int .i64 1]) (by rw [results_cell_tmp rfl]; go_simp) rfl ⟨rfl, ?_⟩
  exact (A3.out.stored ⟨0, 0, 0, 0, 0, 0⟩).1

end Go.Proofs.YtobioiicbdhboaaDoor
