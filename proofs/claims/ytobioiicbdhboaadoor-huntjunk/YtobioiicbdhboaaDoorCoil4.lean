/-
  What coil's functions that read do, the small ones (numbers.next, forward), a contract for each, over this seat's translation. Conditions: a reader and its numbers lie in blocks of their own.
-/
import Derived.Test.YtobioiicbdhboaaDoorCoil1
namespace Go.Proofs.YtobioiicbdhboaaDoor
open Go.RowKit
set_option linter.unusedVariables false
set_option linter.unusedSimpArgs false

/-- Numbers of the reader in block rb, in block nb. -/
def Nm (w : World) (nb rb err : Nat) : Prop := w.heap[nb]? = some (.cells #[.pointer (some ⟨rb, 0, none⟩), .int .i64 err] 131 (0, 0))
theorem Nm.cells {w : World} {nb rb err : Nat} (h : Nm w nb rb err) : w.cell? ⟨nb, 0, none⟩ = some (.pointer (some ⟨rb, 0, none⟩)) ∧ w.cell? ⟨nb, 1, none⟩ = some (.int .i64 err) ∧ w.frozen? ⟨nb, 1, none⟩ = false := by
  have h' : w.heap[nb]? = some (.cells #[.pointer (some ⟨rb, 0, none⟩), .int .i64 err] 131 (0, 0)) := h
  refine ⟨?_, ?_, ?_⟩
  · simp [World.cell?, h']
  · simp [World.cell?, h']
  · simp [World.frozen?, h']
theorem Nm.set {w : World} {nb rb err : Nat} (h : Nm w nb rb err) (err' : Nat) : Nm (w.setCell ⟨nb, 1, none⟩ (.int .i64 err')) nb rb err' := by
  have := heap_setCell_same w nb 1 _ _ (.int .i64 err') h
  simpa [Nm] using this
theorem Rd.only {w w' : World} {S : Nat → Prop} {b : Nat} {s : ByteArray} {k : Nat} (h : Rd w b s k) (ho : Only w w' S) (hn : ¬ S b) : Rd w' b s k := ⟨(ho.block b h.lt hn).trans h.blk, h.le, h.mx⟩
theorem Nm.only {w w' : World} {S : Nat → Prop} {nb rb err : Nat} (h : Nm w nb rb err) (ho : Only w w' S) (hn : ¬ S nb) : Nm w' nb rb err := (ho.block nb (blk_lt h) hn).trans h

set_option maxRecDepth 100000 in
set_option maxHeartbeats 1000000 in
theorem num_no (w : World) (nb rb err : Nat) (h : Nm w nb rb err) (has : Bool) (hx : ¬ (has = true ∧ err = 0)) :
    Calls Tryd.prog 76 #[.pointer (some ⟨nb, 0, none⟩), .bool has] w fun r w' => r = .returned (.int .u64 0) ∧ w = w' := by
  obtain ⟨c0, c1, -⟩ := h.cells
  clear h
  cases has with
  | false =>
    clear hx
    go_enter Tryd.func76, Tryd.ntmps76
    go_wp2
    go_ret
    exact ⟨rfl, rfl⟩
  | true =>
    have he : ((err : Int) != 0) = true := by rw [bne_iff_ne]; intro h; exact hx ⟨rfl, by omega⟩
    clear hx
    go_enter Tryd.func76, Tryd.ntmps76
    go_wp2
    go_ret
    exact ⟨rfl, rfl⟩

set_option maxRecDepth 100000 in
set_option maxHeartbeats 1000000 in
theorem num_yes (w : World) (nb rb : Nat) (s : ByteArray) (k : Nat) (h : Nm w nb rb 0) (hr : Rd w rb s k) (hne : nb ≠ rb) :
    Calls Tryd.prog 76 #[.pointer (some ⟨nb, 0, none⟩), .bool true] w fun r w' => r = .returned (.int .u64 (lebMost (s.data.toList.drop k) 4294967295).1) ∧
      Nm w' nb rb (lebMost (s.data.toList.drop k) 4294967295).2.1 ∧ Rd w' rb s (k + (lebMost (s.data.toList.drop k) 4294967295).2.2) ∧ Only w w' (fun j => j = nb ∨ j = rb) := by
  obtain ⟨c0, c1, -⟩ := h.cells
  have HM := Lib.hid (most_any w rb s k hr 4294967295)
  have H := Lib.hid h
  clear h hr
  generalize lebMost (s.data.toList.drop k) 4294967295 = R at *
  obtain ⟨n, c, m⟩ := R
  go_enter Tryd.func76, Tryd.ntmps76
  go_wp2_with fail
  refine HM.out.mono ?_
  rintro r w1 ⟨rfl, h1, g1⟩
  have o1 : Only w w1 (fun j => j = rb) := Only.of_grown g1 (fun j hj => by cases hj; rfl)
  have n1 := H.out.only o1 hne
  obtain ⟨-, d1, d2⟩ := n1.cells
  have HN := Lib.hid n1
  have HO := Lib.hid o1
  have HR := Lib.hid h1
  clear HM H h1 g1 o1 n1 c0 c1
  go_wp2
  go_ret
  refine ⟨rfl, HN.out.set c, HR.out.only (Only.setCell _ nb 1 _ (fun j => j = nb) rfl) (fun e => hne e.symm), ?_⟩
  exact (HO.out.mono fun j _ hj => Or.inr hj).trans (Only.setCell _ nb 1 _ (fun j => j = nb) rfl) (fun j _ hj => .inl hj)

theorem num_any (w : World) (nb rb : Nat) (s : ByteArray) (k err : Nat) (h : Nm w nb rb err) (hr : Rd w rb s k) (hne : nb ≠ rb) (has : Bool) :
    Calls Tryd.prog 76 #[.pointer (some ⟨nb, 0, none⟩), .bool has] w fun r w' => r = .returned (.int .u64 ((numS s.data.toList has k err).1 : Nat)) ∧
      Nm w' nb rb (numS s.data.toList has k err).2.2 ∧ Rd w' rb s (numS s.data.toList has k err).2.1 ∧ Only w w' (fun j => j = nb ∨ j = rb) := by
  by_cases hx : has = true ∧ err = 0
  · obtain ⟨rfl, rfl⟩ := hx
    rw [numS_yes]
    exact num_yes w nb rb s k h hr hne
  · have : numS s.data.toList has k err = (0, k, err) := by unfold numS; rw [if_neg hx]
    rw [this]
    refine (num_no w nb rb err h has hx).mono ?_
    rintro r w' ⟨rfl, rfl⟩
    exact ⟨rfl, h, hr, Only.refl _ _⟩

set_option maxRecDepth 100000 in
set_option maxHeartbeats 2000000 in
theorem forward_any (d : Ev) (st : Nat) (dr : Int) (hst : st ≤ 4294967295) (hd1 : -2147483648 ≤ dr) (hd2 : dr ≤ 2147483647) (hcy : d.cyc < 18446744073709551616) (hcn : d.cnt < 18446744073709551616) (w : World) :
    Calls Tryd.prog 79 #[evV d, .int .u64 st, .int .i64 dr] w fun r w' => r = .returned (if (0 ≤ (st : Int) + dr ∧ d.cnt + st ≤ 18446744073709551615 ∧ (d.cyc : Int) + ((st : Int) + dr) ≤ 18446744073709551615) then .tuple #[.int .u64 (((d.cyc : Int) + ((st : Int) + dr)).toNat : Nat), .int .u64 ((d.cnt + st : Nat) : Int), .bool true] else .tuple #[.int .u64 0, .int .u64 0, .bool false]) ∧ Below w.heap.size w w' := by
  obtain ⟨dk, dy, dc, da, db, dv⟩ := d
  simp only at hcy hcn ⊢
  have B := Lib.hid (below_drewN ((Below.refl _ w).alloc (Nat.le_refl _) (evO ⟨dk, dy, dc, da, db, dv⟩)))
  unfold evV
  have hw1 : IntKind.i64.wrap (st : Int) = (st : Int) := by rw [IntKind.wrap_i64]; omega
  by_cases h1 : 0 ≤ (st : Int) + dr
  · obtain ⟨gr, hg⟩ : ∃ gr : Nat, (st : Int) + dr = (gr : Int) := ⟨((st : Int) + dr).toNat, by omega⟩
    have e1 : decide ((gr : Int) < 0) = false := by simp
    by_cases h2 : dc + st ≤ 18446744073709551615
    · have e2 : decide (18446744073709551615 - (dc : Int) < (st : Int)) = false := by simp; omega
      by_cases h3 : dy + gr ≤ 18446744073709551615
      · have e3 : decide (18446744073709551615 - (dy : Int) < (gr : Int)) = false := by simp; omega
        rw [if_pos ⟨h1, h2, by omega⟩]
        have hr : (((dy : Int) + ((st : Int) + dr)).toNat : Nat) = dy + gr := by omega
        rw [hr]
        clear hr h1
        go_enter Tryd.func79, Tryd.ntmps79
        go_wp2
        go_quiet (fail)
        go_wp2
        go_ret3
        exact ⟨rfl, B.out _⟩
      · have e3 : decide (18446744073709551615 - (dy : Int) < (gr : Int)) = true := by simp; omega
        rw [if_neg (fun h => by omega)]
        clear h1 h3
        go_enter Tryd.func79, Tryd.ntmps79
        go_wp2
        go_ret3
        exact ⟨rfl, B.out 0⟩
    · have e2 : decide (18446744073709551615 - (dc : Int) < (st : Int)) = true := by simp; omega
      rw [if_neg (fun h => by omega)]
      clear h1 h2
      go_enter Tryd.func79, Tryd.ntmps79
      go_wp2
      go_ret3
      exact ⟨rfl, B.out 0⟩
  · have e1 : decide ((st : Int) + dr < 0) = true := by simp; omega
    rw [if_neg (fun h => h1 h.1)]
    clear h1
    go_enter Tryd.func79, Tryd.ntmps79
    go_wp2
    go_ret3
    exact ⟨rfl, B.out 0⟩

end Go.Proofs.YtobioiicbdhboaaDoor
