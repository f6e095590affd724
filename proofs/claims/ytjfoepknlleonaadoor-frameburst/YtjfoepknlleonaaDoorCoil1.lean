/-
  What coil's functions that print do (steps, putField, put, Size, Print), a contract for each, over this seat's translation. Conditions: the table's cells (EvL); the events' numbers fit.
-/
import Derived.Test.YtjfoepknlleonaaDoorCoil0
import Derived.Test.YtjfoepknlleonaaDoorEvS
import Derived.Test.YtjfoepknlleonaaDoorLebFoot
namespace Go.Proofs.YtjfoepknlleonaaDoor
open Go.RowKit
set_option linter.unusedVariables false
set_option linter.unusedSimpArgs false

theorem box_two (w : World) (o p : Obj) : Below w.heap.size w ((w.alloc o).alloc p) := ((Below.refl _ w).alloc (Nat.le_refl _) _).alloc (by simp) _

set_option maxRecDepth 100000 in
set_option maxHeartbeats 1000000 in
theorem steps_fall (b e : Ev) (h : e.cnt < b.cnt ∨ e.cyc < b.cyc) (w : World) :
    Calls Tryd.prog 60 #[evV b, evV e] w fun r w' => r = .returned (.tuple #[.int .u64 0, .int .i64 0, .bool false]) ∧ Below w.heap.size w w' := by
  obtain ⟨bk, by', bc, ba, bb, bv⟩ := b
  obtain ⟨ek, ey, ec, ea, eb, ev⟩ := e
  simp only at h
  have B := Lib.hid (box_two w (evO ⟨bk, by', bc, ba, bb, bv⟩) (evO ⟨ek, ey, ec, ea, eb, ev⟩))
  unfold evV
  by_cases h1 : ec < bc
  · have d1 : decide ((ec : Int) < (bc : Int)) = true := by simp; omega
    have d1' : decide (ec < bc) = true := by simp; omega
    clear h h1
    go_enter Tryd.func60, Tryd.ntmps60
    go_wp2
    go_ret3
    exact ⟨rfl, B.out⟩
  · have d1 : decide ((ec : Int) < (bc : Int)) = false := by simp; omega
    have d1' : decide (ec < bc) = false := by simp; omega
    have d2 : decide ((ey : Int) < (by' : Int)) = true := by simp; omega
    have d2' : decide (ey < by') = true := by simp; omega
    clear h h1
    go_enter Tryd.func60, Tryd.ntmps60
    go_wp2
    go_ret3
    exact ⟨rfl, B.out⟩

set_option maxRecDepth 100000 in
set_option maxHeartbeats 1000000 in
theorem steps_go (b e : Ev) (h1 : ¬ e.cnt < b.cnt) (h2 : ¬ e.cyc < b.cyc) (hc : e.cnt < 18446744073709551616) (hy : e.cyc < 18446744073709551616) (w : World) :
    Calls Tryd.prog 60 #[evV b, evV e] w fun r w' => r = .returned (if told b e = true then .tuple #[.int .u64 (stepN b e : Int), .int .i64 (driftZ b e), .bool true] else .tuple #[.int .u64 0, .int .i64 0, .bool false]) ∧ Below w.heap.size w w' := by
  have ht : told b e = decide (stepN b e ≤ 4294967295 ∧ -2147483648 ≤ driftZ b e ∧ driftZ b e ≤ 2147483647) := by
    unfold told stepN
    congr 1
    refine propext ⟨fun h => h.2.2, fun h => ⟨by omega, by omega, h⟩⟩
  have hs : stepN b e = e.cnt - b.cnt := rfl
  have hd : driftZ b e = ((e.cyc - b.cyc : Nat) : Int) - (stepN b e : Int) := rfl
  rw [ht]
  generalize stepN b e = st at *
  generalize driftZ b e = dr at *
  clear ht
  obtain ⟨bk, by', bc, ba, bb, bv⟩ := b
  obtain ⟨ek, ey, ec, ea, eb, ev⟩ := e
  simp only at h1 h2 hc hy hs hd
  obtain ⟨gr, hg⟩ : ∃ gr, gr = ey - by' := ⟨_, rfl⟩
  rw [← hg] at hd
  have B := Lib.hid (box_two w (evO ⟨bk, by', bc, ba, bb, bv⟩) (evO ⟨ek, ey, ec, ea, eb, ev⟩))
  unfold evV
  have d1 : decide ((ec : Int) < (bc : Int)) = false := by simp; omega
  have d1' : decide (ec < bc) = false := by simp; omega
  have d2 : decide ((ey : Int) < (by' : Int)) = false := by simp; omega
  have d2' : decide (ey < by') = false := by simp; omega
  have w1 : IntKind.u64.wrap ((ec : Int) - (bc : Int)) = (st : Int) := by rw [IntKind.wrap_u64]; omega
  have w2 : IntKind.u64.wrap ((ey : Int) - (by' : Int)) = (gr : Int) := by rw [IntKind.wrap_u64]; omega
  clear hs hg h1 h2 hc hy
  by_cases c1 : st ≤ 4294967295
  · have e1 : decide ((4294967295 : Int) < (st : Int)) = false := by simp; omega
    have e1' : decide (4294967295 < st) = false := by simp; omega
    by_cases c2 : gr ≤ 8589934590
    · have e2 : decide ((8589934590 : Int) < (gr : Int)) = false := by simp; omega
      have e2' : decide (8589934590 < gr) = false := by simp; omega
      by_cases c3 : -2147483648 ≤ dr
      · have e3 : decide ((gr : Int) - (st : Int) < -2147483648) = false := by simp; omega
        by_cases c4 : dr ≤ 2147483647
        · have e4 : decide (2147483647 < (gr : Int) - (st : Int)) = false := by simp; omega
          rw [if_pos (decide_eq_true ⟨c1, c3, c4⟩)]
          have Hd := Lib.hid hd
          clear hd c3 c4
          go_enter Tryd.func60, Tryd.ntmps60
          go_wp2
          go_ret3
          rw [Hd.out]
          exact ⟨rfl, B.out⟩
        · have e4 : decide (2147483647 < (gr : Int) - (st : Int)) = true := by simp; omega
          rw [if_neg (fun h => c4 (of_decide_eq_true h).2.2)]
          clear hd c3 c4
          go_enter Tryd.func60, Tryd.ntmps60
          go_wp2
          go_ret3
          exact ⟨rfl, B.out⟩
      · have e3 : decide ((gr : Int) - (st : Int) < -2147483648) = true := by simp; omega
        rw [if_neg (fun h => c3 (of_decide_eq_true h).2.1)]
        clear hd c3
        go_enter Tryd.func60, Tryd.ntmps60
        go_wp2
        go_ret3
        exact ⟨rfl, B.out⟩
    · have e2 : decide ((8589934590 : Int) < (gr : Int)) = true := by simp; omega
      have e2' : decide (8589934590 < gr) = true := by simp; omega
      rw [if_neg (fun h => by have := (of_decide_eq_true h).2.2; omega)]
      clear hd c2
      go_enter Tryd.func60, Tryd.ntmps60
      go_wp2
      go_ret3
      exact ⟨rfl, B.out⟩
  · have e1 : decide ((4294967295 : Int) < (st : Int)) = true := by simp; omega
    have e1' : decide (4294967295 < st) = true := by simp; omega
    rw [if_neg (fun h => c1 (of_decide_eq_true h).1)]
    clear hd c1
    go_enter Tryd.func60, Tryd.ntmps60
    go_wp2
    go_ret3
    exact ⟨rfl, B.out⟩

theorem steps_any (b e : Ev) (hc : e.cnt < 18446744073709551616) (hy : e.cyc < 18446744073709551616) (w : World) :
    Calls Tryd.prog 60 #[evV b, evV e] w fun r w' => r = .returned (if told b e = true then .tuple #[.int .u64 (stepN b e : Int), .int .i64 (driftZ b e), .bool true] else .tuple #[.int .u64 0, .int .i64 0, .bool false]) ∧ Below w.heap.size w w' := by
  by_cases h : e.cnt < b.cnt ∨ e.cyc < b.cyc
  · rw [if_neg (fun h' => by have := told_fold h'; omega)]
    exact steps_fall b e h w
  · exact steps_go b e (fun x => h (.inl x)) (fun x => h (.inr x)) hc hy w

/-! ### put -/

set_option maxRecDepth 100000 in
set_option maxHeartbeats 400000 in
theorem putint_foot (w : World) (b : Nat) (v : Value) (l : List UInt8) (h : WrF w b v l) (n : Int) (h1 : -9223372036854775808 ≤ n) (h2 : n < 9223372036854775808) (hsz : l.length + 10 ≤ 140737488355328) :
    Calls Tryd.prog 63 #[.pointer (some ⟨b, 0, none⟩), .int .i64 n] w fun e w' => e = .returned (.tuple #[]) ∧ Wrote w w' b v (l ++ lebL (fold n).toNat) := by
  have hf := Lib.hid (fold_any n h1 h2 w)
  obtain ⟨r1, r2⟩ := fold_range h1 h2
  have hp := lput_foot w b v l h (fold n).toNat (by omega) hsz
  rw [Int.toNat_of_nonneg r1] at hp
  generalize fold n = f at *
  have Hp := Lib.hid hp
  clear hp h h1 h2 r1 r2 hsz
  go_enter Tryd.func63, Tryd.ntmps63
  go_wp2_with fail
  refine hf.out.mono ?_
  rintro e w1 ⟨rfl, rfl⟩
  go_wp2_with fail
  refine Hp.out.mono ?_
  rintro e w1 ⟨rfl, h1⟩
  go_wp2
  go_end0
  exact ⟨rfl, h1⟩

set_option maxRecDepth 100000 in
set_option maxHeartbeats 400000 in
theorem putField_any (w : World) (b : Nat) (v : Value) (l : List UInt8) (h : WrF w b v l) (has : Bool) (n : Nat) (hn : n < 4294967296) (hsz : l.length + 10 ≤ 140737488355328) :
    Calls Tryd.prog 65 #[.pointer (some ⟨b, 0, none⟩), .bool has, .int .u32 n] w fun e w' => e = .returned (.tuple #[]) ∧ Wrote w w' b v (l ++ optL has n) := by
  cases has with
  | false =>
    rw [show optL false n = [] from rfl, List.append_nil]
    have H := Lib.hid h
    clear h
    go_enter Tryd.func65, Tryd.ntmps65
    go_wp2
    go_end0
    exact ⟨rfl, Wrote.refl H.out⟩
  | true =>
    rw [optL_true]
    have H := Lib.hid (lput_foot w b v l h n (by omega) hsz)
    clear h hsz
    go_enter Tryd.func65, Tryd.ntmps65
    go_wp2_with fail
    refine H.out.mono ?_
    rintro e w1 ⟨rfl, h1⟩
    go_wp2
    go_end0
    exact ⟨rfl, h1⟩

theorem EvL.only {w w' : World} {S : Nat → Prop} (h : EvL w) (ho : Only w w' S) (hn : ¬ S 0) : EvL w' := by
  have hB : w'.heap[0]? = w.heap[0]? := ho.block _ h.lt hn
  refine ⟨fun k hk => ?_⟩
  obtain ⟨p, q, r, s⟩ := h.row k hk
  exact ⟨(World.cell?_of_block (w := w) hB).trans p, (World.cell?_of_block (w := w) hB).trans q, (World.cell?_of_block (w := w) hB).trans r, (World.cell?_of_block (w := w) hB).trans s⟩

/-- While an event is put: the writer, the two events, the table. -/
structure PS (w0 w : World) (b : Nat) (v0 : Value) (l : List UInt8) (D E : Nat) (d e : Ev) (v : Value) : Prop where
  wr : WrF w b v l
  fr : ∀ k, v.ownBlock = some k → v0.ownBlock = some k ∨ w0.heap.size ≤ k
  nE : v.ownBlock ≠ some E
  nD : v.ownBlock ≠ some D
  only : Only w0 w (fun k => k = b ∨ v0.ownBlock = some k)
  ed : w.heap[D]? = some (evO d)
  ee : w.heap[E]? = some (evO e)
  bD : D ≠ b
  bE : E ≠ b
  tab : EvL w
  tb : 0 ≠ b
  tv : v.ownBlock ≠ some 0

theorem PS.below {w0 w w' : World} {b : Nat} {v0 v : Value} {l : List UInt8} {D E : Nat} {d e : Ev} (h : PS w0 w b v0 l D E d e v) (hb : Below w.heap.size w w') : PS w0 w' b v0 l D E d e v :=
  ⟨h.wr.only (Only.of_below hb fun _ => False) (by simp) (by simp), h.fr, h.nE, h.nD, h.only.trans (Only.of_below hb fun _ => False) (by simp), (hb.block D (blk_lt h.ed)).trans h.ed, (hb.block E (blk_lt h.ee)).trans h.ee, h.bD, h.bE, h.tab.below hb, h.tb, h.tv⟩
theorem PS.wrote {w0 w w' : World} {b : Nat} {v0 v : Value} {l l' : List UInt8} {D E : Nat} {d e : Ev} (h : PS w0 w b v0 l D E d e v) (hw : Wrote w w' b v l') : ∃ v', PS w0 w' b v0 l' D E d e v' := by
  obtain ⟨v', h1, o1, f1⟩ := hw
  have hE := blk_lt h.ee
  have hD := blk_lt h.ed
  have hT := h.tab.lt
  have hsz := h.only.size
  have far : ∀ X, X < w.heap.size → v.ownBlock ≠ some X → v'.ownBlock ≠ some X := by
    intro X hX hn e
    rcases f1 X e with e | e
    · exact hn e
    · omega
  have notS : ∀ X, X ≠ b → v.ownBlock ≠ some X → ¬ (X = b ∨ v.ownBlock = some X) := fun X h1 h2 h => h.elim h1 h2
  refine ⟨v', ⟨h1, ?_, far E hE h.nE, far D hD h.nD, ?_, (o1.block D hD (notS D h.bD h.nD)).trans h.ed, (o1.block E hE (notS E h.bE h.nE)).trans h.ee, h.bD, h.bE, h.tab.only o1 (notS _ h.tb h.tv), h.tb, far _ hT h.tv⟩⟩
  · intro k hk
    rcases f1 k hk with e | e
    · exact h.fr k e
    · exact .inr (by omega)
  · refine h.only.trans o1 ?_
    intro k hk hT
    rcases hT with e | e
    · exact .inl e
    · rcases h.fr k e with e | e
      · exact .inr e
      · omega
theorem PS.done {w0 w : World} {b : Nat} {v0 v : Value} {l : List UInt8} {D E : Nat} {d e : Ev} (h : PS w0 w b v0 l D E d e v) : Wrote w0 w b v0 l := ⟨v, h.wr, h.only, h.fr⟩

theorem ps_start {w w2 : World} {b : Nat} {v : Value} {l : List UInt8} {d e : Ev} (h : WrF w b v l) (hL : EvL w) (tb : 0 ≠ b) (tv : v.ownBlock ≠ some 0) (h2 : w2 = (w.alloc (evO d)).alloc (evO e)) :
    PS w w2 b v l w.heap.size (w.heap.size + 1) d e v := by
  subst h2
  have hb := h.lt
  have hr := h.row_lt
  have h1 := (h.alloc (evO d)).alloc (evO e)
  have hs : (w.alloc (evO d)).heap.size = w.heap.size + 1 := by simp
  have n2 := heap_alloc_new (w.alloc (evO d)) (evO e)
  rw [hs] at n2
  refine ⟨h1, fun k hk => .inl hk, fun e => ?_, fun e => ?_, (Only.alloc w _ _).trans (Only.alloc _ _ _) (fun k _ hk => hk), ?_, n2, by omega, by omega, (hL.below (box_two w _ _)), tb, tv⟩
  · have := hr _ e; omega
  · have := hr _ e; omega
  · rw [Below.heap_alloc _ _ _ (by simp)]; exact heap_alloc_new w _

theorem ev_block_lt {n : Nat} (h1 : 1 ≤ n) (h2 : n ≤ 24) : IntKind.u8.wrap (n : Int) = (n : Int) := by rw [IntKind.wrap_u8]; omega

set_option maxRecDepth 100000 in
set_option maxHeartbeats 2000000 in
theorem put_form (w : World) (b : Nat) (v : Value) (l : List UInt8) (h : WrF w b v l) (d e : Ev) (hL : EvL w) (tb : 0 ≠ b) (tv : v.ownBlock ≠ some 0) (hc : checkN e ≠ 0) :
    Calls Tryd.prog 44 #[.pointer (some ⟨b, 0, none⟩), evV d, evV e] w fun r w' => r = .returned (.int .i64 3) ∧ Wrote w w' b v l := by
  obtain ⟨w2, e2⟩ : ∃ w2, w2 = (w.alloc (evO d)).alloc (evO e) := ⟨_, rfl⟩
  have P := Lib.hid (ps_start h hL tb tv e2)
  have HC := Lib.hid (check_any e w2 P.out.tab)
  obtain ⟨c0, c1, c2, c3, c4, c5⟩ := evcells P.out.ee
  have hc' : (checkN e != 0) = true := by rw [bne_iff_ne]; exact hc
  unfold evO at e2
  unfold evV at *
  clear h hL tb tv hc
  generalize checkN e = ck at *
  go_enter Tryd.func44, Tryd.ntmps44
  go_wp2_with fail
  rw [← e2]
  go_wp2_with fail
  refine HC.out.mono ?_
  rintro r w3 ⟨rfl, b3⟩
  have P3 := Lib.hid (P.out.below b3)
  clear b3 c0 c1 c2 c3 c4 c5
  go_wp2_with fail
  go_ret
  exact ⟨rfl, P3.out.done⟩

end Go.Proofs.YtjfoepknlleonaaDoor
