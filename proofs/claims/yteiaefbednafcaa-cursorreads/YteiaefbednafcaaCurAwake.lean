/-
  The first line of each statement of layer 1: the answers that the document fixes are given, over this seat's translation. Condition: the cell of internal/bytealg.MaxLen holds some int.
-/
import Derived.Test.YteiaefbednafcaaCur3
import Derived.Test.YteiaefbednafcaaCur4
namespace Go.Proofs.Yteiaefbednafcaa
open Go.RowKit
set_option linter.unusedVariables false

theorem grown_drewN {w w' : World} (h : ∃ n, w' = w.drewN n) : w.grownBy w' none := by
  obtain ⟨n, rfl⟩ := h
  exact ⟨rfl, rfl, rfl, Nat.le_refl _, fun _ _ _ => rfl⟩
theorem Rd.drawn {w w' : World} {b : Nat} {s : ByteArray} {k : Nat} (h : Rd w b s k) (hw : ∃ n, w' = w.drewN n) : Rd w' b s k := by
  obtain ⟨n, rfl⟩ := hw
  exact h.drewN n
theorem Wr.drawn {w w' : World} {b : Nat} {l : List UInt8} (h : Wr w b l) (hw : ∃ n, w' = w.drewN n) : Wr w' b l := by
  obtain ⟨n, rfl⟩ := hw
  exact h.drewN n
theorem below_drawn {w0 w w' : World} {B : Nat} (h : Below B w0 w) (hw : ∃ n, w' = w.drewN n) : Below B w0 w' := by
  obtain ⟨n, rfl⟩ := hw
  exact ⟨h.os, h.tape, h.output, h.size, h.block⟩

/-- The cell of internal/bytealg.MaxLen holds some int. -/
def HasLen (w : World) : Prop := ∃ m, w.cell? ⟨0, 0, none⟩ = some (.int .i64 m)
theorem HasLen.below {w0 w : World} (h : HasLen w0) (hb : Below w0.heap.size w0 w) : HasLen w := by
  obtain ⟨m, hm⟩ := h
  exact ⟨m, by rw [hb.cell (World.block_lt_of_cell? w0 _ hm)]; exact hm⟩

theorem Wr.alloc {w : World} {b : Nat} {l : List UInt8} (h : Wr w b l) (o : Obj) : Wr (w.alloc o) b l := by
  have hlt := h.lt
  obtain ⟨v, h1, h2⟩ := h
  exact ⟨v, by rw [Below.heap_alloc w o b hlt]; exact h1, h2.alloc _⟩

theorem seg_two (w : World) (A : Obj) (x y : UInt8) : ∀ j u, (cellsOf [x, y])[j]? = some u → ((w.alloc A).alloc (.cells #[.int .u8 x.toNat, .int .u8 y.toNat] 5)).cell? ((⟨w.heap.size + 1, 0, none⟩ : Addr).add j) = some u := by
  intro j u hj
  match j, hj with
  | 0, hj => simp [cellsOf] at hj; subst hj; simp [Addr.add]
  | 1, hj => simp [cellsOf] at hj; subst hj; simp [Addr.add]

set_option maxHeartbeats 1000000 in
theorem awake_any (w : World) (hm : HasLen w) :
    Calls Try.prog 8 #[] w fun e w' => e = .returned (.bool true) ∧ Below w.heap.size w w' := by
  obtain ⟨s, hs⟩ : ∃ s : ByteArray, s = ⟨#[97, 98, 97, 98]⟩ := ⟨_, rfl⟩
  have hsz : s.size = 4 := by rw [hs]; rfl
  have hb0 : ∀ h : 0 < s.size, ((s[0]'h).toNat : Int) = 97 := by subst hs; intro h; rfl
  have b0 := Below.refl w.heap.size w
  have Hm := Lib.hid hm
  clear hm
  go_enter Try.func8, Try.ntmps8
  go_wp2_with fail
  rw [← hs]
  refine (new_any _ s).mono ?_
  rintro e w1 ⟨rfl, hw1⟩
  have r1 : Rd w1 w.heap.size s 0 := by rw [hw1]; exact rd_new w s (by rw [hsz]; decide)
  have b1 : Below w.heap.size w w1 := by rw [hw1]; exact b0.alloc (Nat.le_refl _) _
  clear hw1
  have hby := byte_any w1 w.heap.size s 0 r1 (by rw [hsz]; decide)
  rw [hb0] at hby
  have Hby := Lib.hid hby
  have Hs := Lib.hid hs
  have Hsz := Lib.hid hsz
  clear hs hsz hb0 hby
  go_wp2_with fail
  refine Hby.out.mono ?_
  clear Hby
  rintro e w2 ⟨rfl, r2, g2⟩
  have b2 : Below w.heap.size w w2 := b1.grown g2 b1.size (fun k hk => by simp at hk; omega)
  clear r1 b1 g2
  go_wp2_with fail
  refine (take_end _ _ s 1 r2 4 (by rw [Hsz.out]; decide)).mono ?_
  rintro e w3 ⟨rfl, hw3⟩
  have r3 := r2.drawn hw3
  have b3 := below_drawn b2 hw3
  clear r2 b2 hw3
  go_wp2_with fail
  have wn2 := (wr_new w3).alloc (.cells #[.int .u8 120, .int .u8 0] 5)
  refine (put_any _ w3.heap.size [] wn2 ⟨w3.heap.size + 1, 0, none⟩ 2 [120, 0] (seg_two w3 _ 120 0) (by decide)).mono ?_
  rintro e w4 ⟨rfl, wr4, g4⟩
  have hsz3 := b3.size
  have g3 : Below w3.heap.size w3 w4 := (((Below.refl w3.heap.size w3).alloc (Nat.le_refl _) _).alloc (by simp) _).trans g4
  have r4 := r3.below g3 r3.lt
  have b4 : Below w.heap.size w w4 := b3.trans (g3.mono hsz3)
  have hlt3 := r3.lt
  clear wn2 r3 b3 g4
  go_wp2_with fail
  refine (text_any _ w3.heap.size _ wr4 ⟨#[121, 122]⟩ (by decide)).mono ?_
  rintro e w5 ⟨rfl, wr5, g5⟩
  have r5 := r4.below g5 hlt3
  have b5 : Below w.heap.size w w5 := b4.trans (g5.mono (by omega))
  have hm5 := Hm.out.below b5
  clear wr4 r4 b4 g5 g3
  have hl5 := left_any w5 _ s 1 r5
  rw [Hsz.out] at hl5
  have hf5 := fun q => find_any (w5.drewN q) _ s 1 (r5.drewN q) ⟨#[97, 98]⟩ (by rw [Hsz.out]; decide) hm5
  rw [show findAt s.data.toList (⟨#[97, 98]⟩ : ByteArray).data.toList 1 = 2 from by rw [Hs.out]; decide] at hf5
  have ha5 := fun q => agree_any (w5.drewN q) _ s 1 (r5.drewN q) ⟨#[98, 97, 120]⟩ (by decide)
  rw [show agr (s.data.toList.drop 1) (⟨#[98, 97, 120]⟩ : ByteArray).data.toList = 2 from by rw [Hs.out]; decide] at ha5
  have hs5 := fun q => string_any (w5.drewN q) _ _ (wr5.drewN q)
  have hat := at_any w5 _ s 1 r5
  have Hl5 := Lib.hid hl5
  have Hf5 := Lib.hid hf5
  have Ha5 := Lib.hid ha5
  have Hs5 := Lib.hid hs5
  have Hat := Lib.hid hat
  clear hl5 hf5 ha5 hs5 hat hm5 r5 wr5
  go_wp2_with fail
  refine Hat.out.mono ?_
  rintro e w6 ⟨rfl, rfl⟩
  go_wp2_with fail
  refine Hl5.out.mono ?_
  rintro e w6 ⟨rfl, q, rfl⟩
  go_wp2_with fail
  refine (Hf5.out _).mono ?_
  rintro e w6 ⟨rfl, q2, rfl⟩
  go_wp2_with fail
  refine (Ha5.out _).mono ?_
  rintro e w6 ⟨rfl, q3, rfl⟩
  go_wp2_with fail
  refine (Hs5.out _).mono ?_
  rintro e w6 ⟨rfl, rfl⟩
  go_wp2
  go_ret
  exact ⟨rfl, below_drawn b5 ⟨_, rfl⟩⟩

end Go.Proofs.Yteiaefbednafcaa
