/-
  A ring of the call's own; a ring and the document's ring side by side; and awake. Over this seat's translation.
-/
import Derived.Test.YtjdnjkniiippkaaRi11
namespace Go.Proofs.Ytjdnjkniiippkaa
open Go.RowKit
set_option linter.unusedVariables false

/-- A ring of the call's own. -/
structure RB (w0 w : World) (b : Nat) (v : Value) (s : RSt) : Prop where
  ring : RingAt w b v s
  ok : s.Ok
  below : Below w0.heap.size w0 w
  hb : w0.heap.size ≤ b
  hv : ∀ k, v.ownBlock = some k → w0.heap.size ≤ k

theorem RB.turned {w0 w w' : World} {b : Nat} {v v' : Value} {s s' : RSt} (h : RB w0 w b v s) (hr : RingAt w' b v' s') (ok : s'.Ok) (ht : Turned w w' b v v') : RB w0 w' b v' s' := by
  have hz := h.below.size
  refine ⟨hr, ok, h.below.trans (ht.1.below hz fun k hk => ?_), h.hb, fun k hk => ?_⟩
  · rcases hk with e | e
    · have := h.hb; omega
    · exact h.hv k e
  · rcases ht.2 k hk with e | e
    · exact h.hv k e
    · omega
theorem RB.kept {w0 w w' : World} {b : Nat} {v : Value} {s : RSt} (h : RB w0 w b v s) (hb : Below w.heap.size w w') : RB w0 w' b v s :=
  h.turned (Rg.only h.ring (Only.of_below hb (fun _ => False)) (by simp) (by simp)) h.ok (Turned.below hb b v)
theorem RB.drewN {w0 w : World} {b : Nat} {v : Value} {s : RSt} (h : RB w0 w b v s) (q : Nat) : RB w0 (w.drewN q) b v s := h.turned (Rg.drewN h.ring q) h.ok (Turned.drewN w b q v)

/-- The ring of awake, step by step. -/
theorem aw1 (A : ByteArray) (h : A.size = 100) : (⟨179, 1, [], false, 0, []⟩ : RSt).put A = (0, ⟨179, 1, [A], false, 0, []⟩) := by
  simp [RSt.put, RSt.used, RSt.rest, RSt.head, RSt.first, RSt.losing, RSt.shed, RSt.tail, RSt.holding, shed, sz, h]
theorem aw2 (A B : ByteArray) (h : A.size = 100) (hB : B.size = 60) : (⟨179, 1, [A], false, 0, []⟩ : RSt).put B = (0, ⟨179, 1, [A, B], false, 0, []⟩) := by
  simp [RSt.put, RSt.used, RSt.rest, RSt.head, RSt.first, RSt.losing, RSt.shed, RSt.tail, RSt.holding, shed, sz, h, hB]
theorem aw3 (A B C : ByteArray) (h : A.size = 100) (hB : B.size = 60) (hC : C.size = 50) : (⟨179, 1, [A, B], false, 0, []⟩ : RSt).put C = (0, ⟨179, 1, [B, C], false, 1, [A]⟩) := by
  simp [RSt.put, RSt.used, RSt.rest, RSt.head, RSt.first, RSt.losing, RSt.shed, RSt.tail, RSt.holding, shed, sz, h, hB, hC]
theorem aw4 (g : List ByteArray) (B C : ByteArray) (hB : B.size = 60) : (⟨179, 1, [B, C], false, 1, g⟩ : RSt).drained 10 = B.data.toList.take 10 ∧ (⟨179, 1, [B, C], false, 1, g⟩ : RSt).drain 10 = ⟨179, 1, [B.extract 10 B.size, C], true, 1, g⟩ := by
  simp [RSt.drained, RSt.drain, drn, hB]
theorem aw5 (g : List ByteArray) (B C D : ByteArray) (hB : B.size = 50) (hC : C.size = 50) (hD : D.size = 130) : (⟨179, 1, [B, C], true, 1, g⟩ : RSt).put D = (7, ⟨179, 1, [B, C], true, 2, g ++ [D]⟩) := by
  simp [RSt.put, RSt.used, RSt.rest, RSt.head, RSt.first, RSt.losing1, sz, hB, hC, hD]
theorem aw6 (g : List ByteArray) (B C : ByteArray) (hB : B.size = 50) (hC : C.size = 50) : (⟨179, 1, [B, C], true, 2, g⟩ : RSt).drained 200 = B.data.toList ++ C.data.toList := by
  simp [RSt.drained, drn, hB, hC]
theorem aw7 : (rep 98 60).data.toList.take 10 = List.replicate 10 98 := by decide
theorem aw8 (C : ByteArray) (hC : C = rep 99 50) : (⟨(((rep 98 60).extract 10 (rep 98 60).size).data.toList ++ C.data.toList).toArray⟩ : ByteArray) = rep 98 50 ++ rep 99 50 := by
  refine (bytes_eq ?_).symm
  rw [list_append, hC, list_extract]
  rfl

theorem rep_of (c : UInt8) (n : Nat) : (⟨(List.replicate n c).toArray⟩ : ByteArray) = rep c n := rfl

set_option maxRecDepth 100000 in
set_option maxHeartbeats 8000000 in
theorem awake8_any (w : World) : Calls Try.prog 9 #[] w fun e w' => e = .returned (.bool true) ∧ Below w.heap.size w w' := by
  have HA := Lib.hid (rep_size 97 100)
  have HBs := Lib.hid (rep_size 98 60)
  have HC := Lib.hid (rep_size 99 50)
  have HDs := Lib.hid (rep_size 100 130)
  go_enter Try.func9, Try.ntmps9
  go_wp2_with fail
  refine (rg_new w 179 1 (by decide) (by decide) (.inr rfl)).mono ?_
  rintro e w1 ⟨rfl, hw1⟩
  have r1 : RB w w1 w.heap.size (.slice none 0 0) ⟨179, 1, [], false, 0, []⟩ := by
    rw [hw1]
    exact ⟨ring_new w 179 1, ok_new 179 1 (by decide) (by decide) (.inr rfl), (Below.refl _ _).alloc (Nat.le_refl _) _, Nat.le_refl _, fun k hk => by cases hk⟩
  have R1 := Lib.hid r1
  clear hw1 r1
  go_wp2_with fail
  refine (rg_new_bad w1 178 1 (.inl (by decide))).mono ?_
  rintro e w1' ⟨rfl, rfl⟩
  go_wp2_with fail
  refine (text_rep 97 97 rfl 100 (by decide) w1).mono ?_
  rintro e w2 ⟨rfl, b2⟩
  have r2 := R1.out.kept b2
  have R2 := Lib.hid r2
  have P2 := Lib.hid (rg_put r2.ring r2.ok (rep 97 100) (by rw [HA.out]; decide) (by decide))
  rw [aw1 _ HA.out] at P2
  clear b2 r2 R1
  go_wp2_with fail
  refine P2.out.mono ?_
  rintro e w3 ⟨rfl, v3, r3, t3⟩
  have ok3 := RSt.ok_put R2.out.ok (rep 97 100)
  rw [aw1 _ HA.out] at ok3
  have r3' := R2.out.turned r3 ok3 t3
  have R3 := Lib.hid r3'
  clear r3 t3 ok3 r3' P2 R2
  go_wp2_with fail
  refine (text_rep 98 98 rfl 60 (by decide) w3).mono ?_
  rintro e w4 ⟨rfl, b4⟩
  have r4 := R3.out.kept b4
  have R4 := Lib.hid r4
  have P4 := Lib.hid (rg_put r4.ring r4.ok (rep 98 60) (by rw [HBs.out]; decide) (by decide))
  rw [aw2 _ _ HA.out HBs.out] at P4
  clear b4 r4 R3
  go_wp2_with fail
  refine P4.out.mono ?_
  rintro e w5 ⟨rfl, v5, r5, t5⟩
  have ok5 := RSt.ok_put R4.out.ok (rep 98 60)
  rw [aw2 _ _ HA.out HBs.out] at ok5
  have r5' := R4.out.turned r5 ok5 t5
  have R5 := Lib.hid r5'
  clear r5 t5 ok5 r5' P4 R4
  go_wp2_with fail
  refine (text_rep 99 99 rfl 50 (by decide) w5).mono ?_
  rintro e w6 ⟨rfl, b6⟩
  have r6 := R5.out.kept b6
  have R6 := Lib.hid r6
  have P6 := Lib.hid (rg_put r6.ring r6.ok (rep 99 50) (by rw [HC.out]; decide) (by decide))
  rw [aw3 _ _ _ HA.out HBs.out HC.out] at P6
  clear b6 r6 R5
  go_wp2_with fail
  refine P6.out.mono ?_
  rintro e w7 ⟨rfl, v7, r7, t7⟩
  have ok7 := RSt.ok_put R6.out.ok (rep 99 50)
  rw [aw3 _ _ _ HA.out HBs.out HC.out] at ok7
  have r7' := R6.out.turned r7 ok7 t7
  have R7 := Lib.hid r7'
  have hU7 : (⟨179, 1, [rep 98 60, rep 99 50], false, 1, [rep 97 100]⟩ : RSt).used = 110 := by show sz [rep 98 60, rep 99 50] = 110; simp [sz, HBs.out, HC.out]
  have L7 := Lib.hid (rg_lost r7)
  have U7 := Lib.hid (rg_used r7)
  have E7 := Lib.hid (rg_held r7)
  rw [hU7] at U7
  clear r7 t7 ok7 r7' P6 R6 hU7
  go_wp2_with fail
  refine L7.out.mono ?_
  rintro e w7' ⟨rfl, rfl⟩
  go_wp2_with fail
  refine U7.out.mono ?_
  rintro e w7' ⟨rfl, rfl⟩
  go_wp2_with fail
  refine E7.out.mono ?_
  rintro e w7' ⟨rfl, rfl⟩
  have D7 := Lib.hid (rg_drain R7.out.ring R7.out.ok 10 10 rfl (by decide))
  rw [(aw4 _ _ _ HBs.out).1, (aw4 _ _ _ HBs.out).2, aw7, rep_of] at D7
  clear L7 U7 E7
  go_wp2_with fail
  refine D7.out.mono ?_
  rintro e w8 ⟨rfl, v8, r8, t8, -⟩
  have ok8 := RSt.ok_drain R7.out.ok 10
  rw [(aw4 _ _ _ HBs.out).2] at ok8
  have r8' := R7.out.turned r8 ok8 t8
  have R8 := Lib.hid r8'
  clear r8 t8 ok8 r8' D7 R7
  go_wp2_with fail
  refine (text_rep 100 100 rfl 130 (by decide) w8).mono ?_
  rintro e w9 ⟨rfl, b9⟩
  have r9 := R8.out.kept b9
  have R9 := Lib.hid r9
  have P9 := Lib.hid (rg_put r9.ring r9.ok (rep 100 130) (by rw [HDs.out]; decide) (by simp))
  have hx : ((rep 98 60).extract 10 (rep 98 60).size).size = 50 := by rw [size_extract _ _ (by rw [HBs.out]; decide), HBs.out]
  have HX := Lib.hid hx
  rw [aw5 _ _ _ _ hx HC.out HDs.out] at P9
  clear b9 r9 R8 hx
  go_wp2_with fail
  refine P9.out.mono ?_
  rintro e w10 ⟨rfl, v10, r10, t10⟩
  have ok10 := RSt.ok_put R9.out.ok (rep 100 130)
  rw [aw5 _ _ _ _ HX.out HC.out HDs.out] at ok10
  have r10' := R9.out.turned r10 ok10 t10
  have R10 := Lib.hid r10'
  clear r10 t10 ok10 r10' P9 R9
  go_wp2_with fail
  refine (text_rep 98 98 rfl 10 (by decide) w10).mono ?_
  rintro e w11 ⟨rfl, b11⟩
  have r11 := R10.out.kept b11
  have R11 := Lib.hid r11
  have hU11 : (⟨179, 1, [(rep 98 60).extract 10 (rep 98 60).size, rep 99 50], true, 2, [rep 97 100] ++ [rep 100 130]⟩ : RSt).used = 100 := by show sz [_, rep 99 50] = 100; simp only [sz, HX.out, HC.out]
  have G11 := Lib.hid (rg_begun r11.ring)
  have L11 := Lib.hid (rg_lost r11.ring)
  have U11 := Lib.hid (rg_used r11.ring)
  rw [hU11] at U11
  clear b11 r11 R10 hU11
  go_wp2_with fail
  refine G11.out.mono ?_
  rintro e w11' ⟨rfl, rfl⟩
  go_wp2_with fail
  refine L11.out.mono ?_
  rintro e w11' ⟨rfl, rfl⟩
  go_wp2_with fail
  refine U11.out.mono ?_
  rintro e w11' ⟨rfl, rfl⟩
  have D11 := Lib.hid (rg_drain R11.out.ring R11.out.ok 200 200 rfl (by decide))
  rw [aw6 _ _ _ HX.out HC.out, aw8 _ rfl] at D11
  clear G11 L11 U11
  go_wp2_with fail
  refine D11.out.mono ?_
  rintro e w12 ⟨rfl, v12, r12, t12, -⟩
  have r12' := R11.out.turned r12 (RSt.ok_drain R11.out.ok 200) t12
  have R12 := Lib.hid r12'
  clear r12 t12 r12' D11 R11
  go_wp2_with fail
  refine (text_rep 98 98 rfl 50 (by decide) w12).mono ?_
  rintro e w13 ⟨rfl, b13⟩
  have r13 := R12.out.kept b13
  have R13 := Lib.hid r13
  clear b13 r13 R12
  go_wp2_with fail
  refine (text_rep 99 99 rfl 50 (by decide) w13).mono ?_
  rintro e w14 ⟨rfl, b14⟩
  have r14 := R13.out.kept b14
  have R14 := Lib.hid r14
  clear b14 r14 R13
  have z1 := Lib.hid (rep_size 98 50)
  go_wp2_with fail
  go_ret
  exact ⟨rfl, R14.out.below⟩

end Go.Proofs.Ytjdnjkniiippkaa
