/-
  What coil's put, Size and Print do, over this seat's translation. Conditions: the table's cells (EvL); the events' numbers fit.
-/
import Derived.Test.YtjfoepknlleonaaDoorCoil1
namespace Go.Proofs.YtjfoepknlleonaaDoor
open Go.RowKit
set_option linter.unusedVariables false
set_option linter.unusedSimpArgs false

set_option maxRecDepth 100000 in
set_option maxHeartbeats 2000000 in
theorem put_range (w : World) (b : Nat) (v : Value) (l : List UInt8) (h : WrF w b v l) (d e : Ev) (hcy : e.cyc < 18446744073709551616) (hcn : e.cnt < 18446744073709551616) (hL : EvL w) (tb : 0 ≠ b) (tv : v.ownBlock ≠ some 0) (hc : checkN e = 0) (ht : told d e = false) :
    Calls Tryd.prog 44 #[.pointer (some ⟨b, 0, none⟩), evV d, evV e] w fun r w' => r = .returned (.int .i64 5) ∧ Wrote w w' b v l := by
  obtain ⟨w2, e2⟩ : ∃ w2, w2 = (w.alloc (evO d)).alloc (evO e) := ⟨_, rfl⟩
  have P := Lib.hid (ps_start h hL tb tv e2)
  have hC := check_any e w2 P.out.tab
  rw [hc] at hC
  have HC := Lib.hid hC
  have HS := Lib.hid (fun w => by have := steps_any d e hcn hcy w; rw [if_neg (by rw [ht]; simp)] at this; exact this)
  obtain ⟨c0, c1, c2, c3, c4, c5⟩ := evcells P.out.ee
  unfold evO at e2
  unfold evV at *
  clear h hL tb tv hc hC ht hcy hcn
  go_enter Tryd.func44, Tryd.ntmps44
  go_wp2_with fail
  rw [← e2]
  go_wp2_with fail
  refine HC.out.mono ?_
  rintro r w3 ⟨rfl, b3⟩
  have P3 := Lib.hid (P.out.below b3)
  clear b3 c0 c1 c2 c3 c4 c5 P e2
  obtain ⟨c0, c1, c2, c3, c4, c5⟩ := evcells P3.out.ee
  obtain ⟨d0, d1, d2, d3, d4, d5⟩ := evcells P3.out.ed
  go_wp2_with fail
  refine (HS.out _).mono ?_
  rintro r w4 ⟨rfl, b4⟩
  have P4 := Lib.hid (P3.out.below b4)
  clear b4 P3
  go_wp2_with fail
  go_ret
  exact ⟨rfl, P4.out.done⟩

set_option maxRecDepth 100000 in
set_option maxHeartbeats 4000000 in
theorem put_ok (w : World) (b : Nat) (v : Value) (l : List UInt8) (h : WrF w b v l) (d e : Ev) (f : EvFits e) (hL : EvL w) (tb : 0 ≠ b) (tv : v.ownBlock ≠ some 0) (hsz : l.length + 100 ≤ 140737488355328) (hc : checkN e = 0) (ht : told d e = true) :
    Calls Tryd.prog 44 #[.pointer (some ⟨b, 0, none⟩), evV d, evV e] w fun r w' => r = .returned (.int .i64 0) ∧ Wrote w w' b v (l ++ evBytes d e) := by
  obtain ⟨w2, e2⟩ : ∃ w2, w2 = (w.alloc (evO d)).alloc (evO e) := ⟨_, rfl⟩
  have P := Lib.hid (ps_start h hL tb tv e2)
  have hC := check_any e w2 P.out.tab
  rw [hc] at hC
  have HC := Lib.hid hC
  have HS := Lib.hid (fun w => by have := steps_any d e f.cnt f.cyc w; rw [if_pos ht] at this; exact this)
  have fine := check_fine f.cnt f.cyc f.a f.b f.v hc
  obtain ⟨n, hn⟩ : ∃ n : Nat, e.kind = n := ⟨e.kind.toNat, by have := fine.k1; omega⟩
  have n1 : 1 ≤ n := by have := fine.k1; omega
  have n2 : n ≤ 24 := by have := fine.k2; omega
  have hwk : IntKind.u8.wrap e.kind = (n : Int) := by rw [hn]; exact ev_block_lt n1 n2
  have Hx := Lib.hid (show (n : Int) = ((UInt8.ofNat n).toNat : Int) by simp; omega)
  obtain ⟨t1, t2, -, -⟩ := told_fold ht
  have tt := of_decide_eq_true ht
  have hd1 : -9223372036854775808 ≤ driftZ d e := by omega
  have hd2 : driftZ d e < 9223372036854775808 := by omega
  have hb1 : (lebL (stepN d e)).length ≤ 10 := lebL_len10 _ (by omega)
  have hb2 : (lebL (foldN d e)).length ≤ 10 := lebL_len10 _ (by omega)
  have ho : ∀ has m, m < 4294967296 → (optL has m).length ≤ 10 := fun has m hm => by unfold optL; split; exact lebL_len10 _ (by omega); simp
  have hb3 := ho (hasA e.kind) e.a f.a
  have hb4 := ho (hasB e.kind) e.b f.b
  have hfull : l ++ evBytes d e = ((((l ++ [UInt8.ofNat n]) ++ lebL (stepN d e)) ++ lebL (fold (driftZ d e)).toNat) ++ optL (hasA e.kind) e.a) ++ optL (hasB e.kind) e.b ++ optL (hasV e.kind) e.v := by
    unfold evBytes foldN
    rw [hn]
    simp
  rw [hfull]
  have hst : stepN d e < 18446744073709551616 := by omega
  have HF := Lib.hid (fun w hL => fields_any e.kind w hL)
  have fa := f.a
  have fb := f.b
  have fv := f.v
  unfold foldN at hb2
  have Hb := Lib.hid (And.intro hsz (And.intro hb1 (And.intro hb2 (And.intro hb3 hb4))))
  obtain ⟨c0, c1, c2, c3, c4, c5⟩ := evcells P.out.ee
  unfold evO at e2
  unfold evV at *
  clear h hL tb tv hc hC ht tt t1 t2 fine hfull hb1 hb2 hb3 hb4 hsz ho f
  generalize stepN d e = st at *
  generalize driftZ d e = dr at *
  generalize hasA e.kind = qA at *
  generalize hasB e.kind = qB at *
  generalize hasV e.kind = qV at *
  have Hn := Lib.hid hn
  clear hn
  go_enter Tryd.func44, Tryd.ntmps44
  go_wp2_with fail
  rw [← e2]
  go_wp2_with fail
  refine HC.out.mono ?_
  rintro r w3 ⟨rfl, b3⟩
  have P3 := Lib.hid (P.out.below b3)
  clear b3 c0 c1 c2 c3 c4 c5 P e2
  obtain ⟨c0, c1, c2, c3, c4, c5⟩ := evcells P3.out.ee
  obtain ⟨d0, d1, d2, d3, d4, d5⟩ := evcells P3.out.ed
  go_wp2_with fail
  refine (HS.out _).mono ?_
  rintro r w4 ⟨rfl, b4⟩
  have P4 := Lib.hid (P3.out.below b4)
  clear b4 P3 c0 c1 c2 c3 c4 c5 d0 d1 d2 d3 d4 d5
  obtain ⟨c0, c1, c2, c3, c4, c5⟩ := evcells P4.out.ee
  go_wp2_with fail
  refine (put_one_foot w4 b _ l P4.out.wr (UInt8.ofNat n) _ Hx.out _ (by have := Hb.out; omega)).mono ?_
  rintro r w5 ⟨rfl, b5⟩
  obtain ⟨v5, p5⟩ := P4.out.wrote b5
  have P5 := Lib.hid p5
  clear b5 P4 p5 c0 c1 c2 c3 c4 c5
  obtain ⟨c0, c1, c2, c3, c4, c5⟩ := evcells P5.out.ee
  go_wp2_with fail
  refine (lput_foot w5 b v5 _ P5.out.wr st hst (by have := Hb.out; simp only [List.length_append, List.length_cons, List.length_nil]; omega)).mono ?_
  rintro r w6 ⟨rfl, b6⟩
  obtain ⟨v6, p6⟩ := P5.out.wrote b6
  have P6 := Lib.hid p6
  clear b6 P5 p6 c0 c1 c2 c3 c4 c5
  obtain ⟨c0, c1, c2, c3, c4, c5⟩ := evcells P6.out.ee
  go_wp2_with fail
  refine (putint_foot w6 b v6 _ P6.out.wr dr hd1 hd2 (by have := Hb.out; simp only [List.length_append, List.length_cons, List.length_nil]; omega)).mono ?_
  rintro r w7 ⟨rfl, b7⟩
  obtain ⟨v7, p7⟩ := P6.out.wrote b7
  have P7 := Lib.hid p7
  clear b7 P6 p7 c0 c1 c2 c3 c4 c5
  obtain ⟨c0, c1, c2, c3, c4, c5⟩ := evcells P7.out.ee
  go_wp2_with fail
  refine (HF.out _ P7.out.tab).mono ?_
  rintro r w8 ⟨rfl, m8, rfl⟩
  have P8 := Lib.hid (P7.out.below (below_drewN (Below.refl _ _) m8))
  clear P7 c0 c1 c2 c3 c4 c5
  obtain ⟨c0, c1, c2, c3, c4, c5⟩ := evcells P8.out.ee
  generalize w7.drewN m8 = w8 at *
  go_wp2_with fail
  refine (putField_any w8 b v7 _ P8.out.wr qA e.a fa (by have := Hb.out; simp only [List.length_append, List.length_cons, List.length_nil]; omega)).mono ?_
  rintro r w9 ⟨rfl, b9⟩
  obtain ⟨v9, p9⟩ := P8.out.wrote b9
  have P9 := Lib.hid p9
  clear b9 P8 p9 c0 c1 c2 c3 c4 c5
  obtain ⟨c0, c1, c2, c3, c4, c5⟩ := evcells P9.out.ee
  go_wp2_with fail
  refine (putField_any w9 b v9 _ P9.out.wr qB e.b fb (by have := Hb.out; simp only [List.length_append, List.length_cons, List.length_nil]; omega)).mono ?_
  rintro r w10 ⟨rfl, b10⟩
  obtain ⟨v10, p10⟩ := P9.out.wrote b10
  have P10 := Lib.hid p10
  clear b10 P9 p10 c0 c1 c2 c3 c4 c5
  obtain ⟨c0, c1, c2, c3, c4, c5⟩ := evcells P10.out.ee
  go_wp2_with fail
  refine (putField_any w10 b v10 _ P10.out.wr qV e.v fv (by have := Hb.out; simp only [List.length_append, List.length_cons, List.length_nil]; omega)).mono ?_
  rintro r w11 ⟨rfl, b11⟩
  obtain ⟨v11, p11⟩ := P10.out.wrote b11
  have P11 := Lib.hid p11
  clear b11 P10 p11 c0 c1 c2 c3 c4 c5
  go_wp2_with fail
  go_ret
  exact ⟨rfl, P11.out.done⟩

/-- What an event behind another one adds. -/
def addB (d e : Ev) : List UInt8 := if putE d e = 0 then evBytes d e else []
theorem put_any' (w : World) (b : Nat) (v : Value) (l : List UInt8) (h : WrF w b v l) (d e : Ev) (f : EvFits e) (hL : EvL w) (tb : 0 ≠ b) (tv : v.ownBlock ≠ some 0) (hsz : l.length + 100 ≤ 140737488355328) :
    Calls Tryd.prog 44 #[.pointer (some ⟨b, 0, none⟩), evV d, evV e] w fun r w' => r = .returned (.int .i64 (putE d e)) ∧ Wrote w w' b v (l ++ addB d e) := by
  unfold addB putE
  by_cases hc : checkN e = 0
  · cases ht : told d e with
    | true =>
      have := put_ok w b v l h d e f hL tb tv hsz hc ht
      simpa [hc] using this
    | false =>
      have := put_range w b v l h d e f.cyc f.cnt hL tb tv hc ht
      simpa [hc] using this
  · have := put_form w b v l h d e hL tb tv hc
    simpa [hc] using this


end Go.Proofs.YtjfoepknlleonaaDoor
