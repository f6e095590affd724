/-
  What coil's next and Read do, over this seat's translation. Conditions: the table's cells (EvL); a reader in a block of its own.
-/
import Derived.Test.YtobioiicbdhboaaDoorCoil5
import Derived.BigRegion
import Derived.RegionTactic
namespace Go.Proofs.YtobioiicbdhboaaDoor
open Go.RowKit
set_option linter.unusedVariables false
set_option linter.unusedSimpArgs false

theorem nx_num {w0 w : World} {rb : Nat} {s : ByteArray} {k k' nb : Nat} {d r : Ev} {err err' n : Nat} {has : Bool} (h : NX w0 w rb s k nb d r err) (q : numS s.data.toList has k err = (n, k', err')) :
    Calls Tryd.prog 76 #[.pointer (some ⟨nb, 0, none⟩), .bool has] w fun x w' => x = .returned (.int .u64 n) ∧ NX w0 w' rb s k' nb d r err' := by
  have := num_any w nb rb s k err h.nm h.na.rd h.ne has
  rw [q] at this
  exact this.mono fun x w' h' => ⟨h'.1, h.num h'.2.1 h'.2.2.1 h'.2.2.2⟩
theorem ne_num {w0 w : World} {rb : Nat} {s : ByteArray} {k k' nb : Nat} {d r : Ev} {err err' n E : Nat} {e : Ev} {has : Bool} (h : NE w0 w rb s k nb d r err E e) (q : numS s.data.toList has k err = (n, k', err')) :
    Calls Tryd.prog 76 #[.pointer (some ⟨nb, 0, none⟩), .bool has] w fun x w' => x = .returned (.int .u64 n) ∧ NE w0 w' rb s k' nb d r err' E e := by
  have := num_any w nb rb s k err h.nx.nm h.nx.na.rd h.nx.ne has
  rw [q] at this
  exact this.mono fun x w' h' => ⟨h'.1, h.num h'.2.1 h'.2.2.1 h'.2.2.2⟩

theorem Only.drew {w w' : World} {S : Nat → Prop} (h : Only w w' S) : Only w w'.drew S := ⟨h.os, h.tape, h.output, h.size, h.block⟩

theorem name_some {n : Nat} (h1 : 1 ≤ n) (h2 : n ≤ 24) : (nameB n).toList.isEmpty = false := by
  rw [name_is (by omega)]
  have := names_some ⟨n - 1, by omega⟩
  simp only [show n - 1 + 1 = n by omega] at this
  cases h : nameL n with
  | nil => exact absurd h this
  | cons => rfl

set_option maxRecDepth 100000 in
set_option maxHeartbeats 8000000 in
theorem next_walk (w : World) (rb : Nat) (s : ByteArray) (k : Nat) (d : Ev) (h : Rd w rb s k) (hk : k < s.size) (hL : EvL w) (tb : 0 ≠ rb) (dcy : d.cyc < 18446744073709551616) (dcn : d.cnt < 18446744073709551616)
    (kd : Nat) (hkd : s[k].toNat = kd) (kn1 : 1 ≤ kd) (kn2 : kd ≤ 24) (n1 k1 e1 n2 k2 e2 n3 k3 e3 n4 k4 e4 n5 k5 e5 : Nat)
    (q1 : Hid (numS s.data.toList true (k + 1) 0 = (n1, k1, e1))) (q2 : Hid (numS s.data.toList true k1 e1 = (n2, k2, e2))) (q3 : Hid (numS s.data.toList (hasA kd) k2 e2 = (n3, k3, e3)))
    (q4 : Hid (numS s.data.toList (hasB kd) k3 e3 = (n4, k4, e4))) (q5 : Hid (numS s.data.toList (hasV kd) k4 e4 = (n5, k5, e5)))
    (l1 : n1 ≤ 4294967295) (l2 : n2 ≤ 4294967295) (l3 : n3 ≤ 4294967295) (l4 : n4 ≤ 4294967295) (l5 : n5 ≤ 4294967295) (res : Ev × Int × Nat)
    (hres : Hid (res = if e5 ≠ 0 then (ev0, (e5 : Int), 0) else if (0 ≤ (n1 : Int) + unfold' n2 ∧ d.cnt + n1 ≤ 18446744073709551615 ∧ (d.cyc : Int) + ((n1 : Int) + unfold' n2) ≤ 18446744073709551615) ∧ checkN ⟨kd, ((d.cyc : Int) + ((n1 : Int) + unfold' n2)).toNat, d.cnt + n1, n3, n4, n5⟩ = 0 then (⟨kd, ((d.cyc : Int) + ((n1 : Int) + unfold' n2)).toNat, d.cnt + n1, n3, n4, n5⟩, 0, k5) else (ev0, 5, 0))) :
    Calls Tryd.prog 71 #[.pointer (some ⟨rb, 0, none⟩), evV d] w fun r w' => r = .returned (.tuple #[evV res.1, .int .i64 res.2.1]) ∧ (res.2.1 = 0 → Rd w' rb s res.2.2) ∧ Only w w' (fun j => j = rb) := by
  obtain ⟨w1, x1⟩ : ∃ w1, w1 = w.alloc (evO d) := ⟨_, rfl⟩
  obtain ⟨w2, x2⟩ : ∃ w2, w2 = w1.alloc (evO ev0) := ⟨_, rfl⟩
  have A := Lib.hid (na_start h hL tb x1 x2)
  have HB := Lib.hid (byte_any w2 rb s k A.out.rd hk)
  rw [hkd] at HB
  have hkn : knownB (kd : Int) = true := by simp [knownB]; omega
  have HN := Lib.hid (fun w hL => by have := name_any (kd : Int) w hL; rw [hkn, if_pos rfl, Int.toNat_natCast] at this; exact this)
  have HF := Lib.hid (fun w hL => fields_any (kd : Int) w hL)
  have hnm := name_some kn1 kn2
  have HU := Lib.hid (fun w => unfold_any n2 (by omega) w)
  have hu : -2147483648 ≤ unfold' n2 ∧ unfold' n2 ≤ 2147483647 := by unfold unfold'; split <;> omega
  have HW := Lib.hid (fun w => forward_any d n1 (unfold' n2) l1 hu.1 hu.2 dcy dcn w)
  have HC := Lib.hid (fun e w hL => check_any e w hL)
  generalize unfold' n2 = dr at *
  generalize nameB kd = nam at *
  generalize hasA (kd : Int) = qA at *
  generalize hasB (kd : Int) = qB at *
  generalize hasV (kd : Int) = qV at *
  unfold evO at x1 x2
  unfold ev0 at x2
  unfold evV at *
  rw [show ((0 : Nat) : Int) = 0 from rfl] at x2
  clear h hL tb hkn hk hkd hu dcy dcn
  go_enter Tryd.func71, Tryd.ntmps71
  go_wp2_with fail
  rw [← x1, ← x2]
  refine HB.out.mono ?_
  rintro r w3 ⟨rfl, r3, g3⟩
  have A3 := Lib.hid (A.out.byte r3 g3)
  clear r3 g3 A HB x1 x2
  go_wp2_with fail
  refine (HN.out _ A3.out.tab).mono ?_
  rintro r w4 ⟨rfl, rfl⟩
  clear HN
  obtain ⟨w5, x5⟩ : ∃ w5, w5 = w3.alloc (.cells #[.pointer (some ⟨rb, 0, none⟩), .int .i64 0] 131) := ⟨_, rfl⟩
  have X5 := Lib.hid (A3.out.nums x5)
  generalize hnb : w3.heap.size = nb at *
  clear A3
  go_wp2_with fail
  rw [← x5]
  clear x5 hnb
  refine (nx_num X5.out q1.out).mono ?_
  rintro r w6 ⟨rfl, h6⟩
  have X6 := Lib.hid h6
  clear h6 X5
  go_wp2_with fail
  refine (nx_num X6.out q2.out).mono ?_
  rintro r w7 ⟨rfl, h7⟩
  have X7 := Lib.hid h7
  clear h7 X6
  go_wp2_with fail
  refine (HU.out w7).mono ?_
  rintro r w8 ⟨rfl, rfl⟩
  go_wp2_with fail
  refine (HF.out w7 X7.out.na.tab).mono ?_
  rintro r w8 ⟨rfl, m8, rfl⟩
  have X8 := Lib.hid (X7.out.below (below_drewN (Below.refl _ _) m8))
  clear X7 HF HU
  generalize w7.drewN m8 = w8 at *
  obtain ⟨w9, x9⟩ : ∃ w9, w9 = w8.alloc (evO ⟨kd, 0, 0, 0, 0, 0⟩) := ⟨_, rfl⟩
  have E9 := Lib.hid (X8.out.made _ x9)
  unfold evO at x9
  simp only at x9
  rw [show ((0 : Nat) : Int) = 0 from rfl] at x9
  generalize hE : w8.heap.size = E at *
  clear X8
  go_wp2_with fail
  rw [← x9]
  clear x9 hE
  refine (ne_num E9.out q3.out).mono ?_
  rintro r w10 ⟨rfl, h10⟩
  have E10 := Lib.hid h10
  have E10' := Lib.hid (h10.set 3 (.int .u32 n3) (e' := ⟨kd, 0, 0, n3, 0, 0⟩) rfl)
  obtain ⟨c0, c1, c2, c3, c4, c5⟩ := evcells h10.ee
  obtain ⟨f0, f1, f2, f3, f4, f5⟩ := evfree h10.ee
  clear h10 E9
  obtain ⟨w11, x11⟩ : ∃ w11, w11 = w10.setCell ⟨E, 3, none⟩ (.int .u32 n3) := ⟨_, rfl⟩
  rw [← x11] at E10'
  go_wp2_with fail
  rw [← x11]
  clear x11 E10 c0 c1 c2 c3 c4 c5 f0 f1 f2 f3 f4 f5
  refine (ne_num E10'.out q4.out).mono ?_
  rintro r w12 ⟨rfl, h12⟩
  have E12 := Lib.hid (h12.set 4 (.int .u32 n4) (e' := ⟨kd, 0, 0, n3, n4, 0⟩) rfl)
  obtain ⟨c0, c1, c2, c3, c4, c5⟩ := evcells h12.ee
  obtain ⟨f0, f1, f2, f3, f4, f5⟩ := evfree h12.ee
  clear h12 E10'
  obtain ⟨w13, x13⟩ : ∃ w13, w13 = w12.setCell ⟨E, 4, none⟩ (.int .u32 n4) := ⟨_, rfl⟩
  rw [← x13] at E12
  go_wp2_with fail
  rw [← x13]
  clear x13 c0 c1 c2 c3 c4 c5 f0 f1 f2 f3 f4 f5
  refine (ne_num E12.out q5.out).mono ?_
  rintro r w14 ⟨rfl, h14⟩
  have E14 := Lib.hid (h14.set 5 (.int .u32 n5) (e' := ⟨kd, 0, 0, n3, n4, n5⟩) rfl)
  obtain ⟨c0, c1, c2, c3, c4, c5⟩ := evcells h14.ee
  obtain ⟨f0, f1, f2, f3, f4, f5⟩ := evfree h14.ee
  obtain ⟨-, m1, -⟩ := h14.nx.nm.cells
  have hnE : nb ≠ E := by have := h14.lo; omega
  clear h14 E12
  clear q1 q2 q3 q4 q5
  by_cases he5 : e5 = 0
  · have hb5 : ((e5 : Int) != 0) = false := by rw [he5]; rfl
    have hr0 := hres.out
    rw [if_neg (fun h => h he5)] at hr0
    have HE5 := Lib.hid he5
    clear hres he5
    obtain ⟨w15, x15⟩ : ∃ w15, w15 = w14.setCell ⟨E, 5, none⟩ (.int .u32 n5) := ⟨_, rfl⟩
    have E15 := E14
    rw [← x15] at E15
    obtain ⟨d0, d1, d2, d3, d4, d5⟩ := evcells E14.out.nx.na.dd
    by_cases hf : (0 ≤ (n1 : Int) + dr ∧ d.cnt + n1 ≤ 18446744073709551615 ∧ (d.cyc : Int) + ((n1 : Int) + dr) ≤ 18446744073709551615)
    · have HW' := Lib.hid (by have := HW.out w15; rw [if_pos hf] at this; exact this)
      generalize ((d.cyc : Int) + ((n1 : Int) + dr)).toNat = cy at *
      generalize d.cnt + n1 = cn at *
      clear HW
      go_wp2_with fail
      rw [← x15]
      clear x15 E14 d0 d1 d2 d3 d4 d5 c0 c1 c2 c3 c4 c5 f0 f1 f2 f3 f4 f5 m1
      refine HW'.out.mono ?_
      rintro r w16 ⟨rfl, b16⟩
      have h16 := E15.out.below b16
      have E17 := Lib.hid ((h16.set 1 (.int .u64 cy) (e' := ⟨kd, cy, 0, n3, n4, n5⟩) rfl).set 2 (.int .u64 cn) (e' := ⟨kd, cy, cn, n3, n4, n5⟩) rfl)
      obtain ⟨c0, c1, c2, c3, c4, c5⟩ := evcells h16.ee
      obtain ⟨f0, f1, f2, f3, f4, f5⟩ := evfree h16.ee
      clear h16 b16 E15 HW' hnE
      obtain ⟨w17, x17⟩ : ∃ w17, w17 = (w16.setCell ⟨E, 1, none⟩ (.int .u64 cy)).setCell ⟨E, 2, none⟩ (.int .u64 cn) := ⟨_, rfl⟩
      rw [← x17] at E17
      have HC' := Lib.hid (HC.out ⟨kd, cy, cn, n3, n4, n5⟩ w17 E17.out.nx.na.tab)
      clear HC
      by_cases hck : checkN ⟨kd, cy, cn, n3, n4, n5⟩ = 0
      · rw [if_pos ⟨hf, hck⟩] at hr0
        subst hr0
        rw [hck] at HC'
        clear hf hck
        go_wp2_with fail
        rw [← x17]
        clear x17 c0 c1 c2 c3 c4 c5 f0 f1 f2 f3 f4 f5
        refine HC'.out.mono ?_
        rintro r w18 ⟨rfl, b18⟩
        have E18 := Lib.hid (E17.out.below b18)
        clear b18 HC' E17
        obtain ⟨c0, c1, c2, c3, c4, c5⟩ := evcells E18.out.nx.na.rr
        obtain ⟨f0, f1, f2, f3, f4, f5⟩ := evfree E18.out.nx.na.rr
        obtain ⟨g0, g1, g2, g3, g4, g5⟩ := evcells E18.out.ee
        have hER : E ≠ w.heap.size + 1 := by have := E18.out.nx.lo; have := E18.out.lo; omega
        have HS := Lib.hid (E18.out.nx.na.stored ⟨kd, cy, cn, n3, n4, n5⟩)
        generalize w.heap.size + 1 = RB at *
        go_wp2_with fail
        refine bodyPost_ret (v := .tuple #[.agg #[.int .i64 kd, .int .u64 cy, .int .u64 cn, .int .u32 n3, .int .u32 n4, .int .u32 n5], .int .i64 0]) (by rw [results_cell_tmp rfl]; go_simp) rfl ⟨rfl, ?_⟩
        exact ⟨HS.out.2, HS.out.1⟩
      · rw [if_neg (fun h => hck h.2)] at hr0
        subst hr0
        have hcb : (checkN ⟨kd, cy, cn, n3, n4, n5⟩ != 0) = true := by rw [bne_iff_ne]; exact hck
        generalize checkN ⟨kd, cy, cn, n3, n4, n5⟩ = ck at *
        clear hf hck
        go_wp2_with fail
        rw [← x17]
        clear x17 c0 c1 c2 c3 c4 c5 f0 f1 f2 f3 f4 f5
        refine HC'.out.mono ?_
        rintro r w18 ⟨rfl, b18⟩
        have E18 := Lib.hid (E17.out.below b18)
        clear b18 HC' E17
        obtain ⟨c0, c1, c2, c3, c4, c5⟩ := evcells E18.out.nx.na.rr
        obtain ⟨f0, f1, f2, f3, f4, f5⟩ := evfree E18.out.nx.na.rr
        have HS := Lib.hid (E18.out.nx.na.stored ⟨0, 0, 0, 0, 0, 0⟩)
        generalize w.heap.size + 1 = RB at *
        go_wp2_with fail
        refine bodyPost_ret (v := .tuple #[.agg #[.int .i64 0, .int .u64 0, .int .u64 0, .int .u32 0, .int .u32 0, .int .u32 0], .int .i64 5]) (by rw [results_cell_tmp rfl]; go_simp) rfl ⟨rfl, ?_⟩
        exact HS.out.1
    · have HW' := Lib.hid (by have := HW.out w15; rw [if_neg hf] at this; exact this)
      rw [if_neg (fun h => hf h.1)] at hr0
      subst hr0
      clear HW HC hf
      go_wp2_with fail
      rw [← x15]
      clear x15 E14 d0 d1 d2 d3 d4 d5 c0 c1 c2 c3 c4 c5 f0 f1 f2 f3 f4 f5 m1
      refine HW'.out.mono ?_
      rintro r w16 ⟨rfl, b16⟩
      have h16 := E15.out.below b16
      have E17 := Lib.hid ((h16.set 1 (.int .u64 0) (e' := ⟨kd, 0, 0, n3, n4, n5⟩) rfl).set 2 (.int .u64 0) (e' := ⟨kd, 0, 0, n3, n4, n5⟩) rfl)
      obtain ⟨c0, c1, c2, c3, c4, c5⟩ := evcells h16.ee
      obtain ⟨f0, f1, f2, f3, f4, f5⟩ := evfree h16.ee
      clear b16 E15 HW' hnE
      obtain ⟨r0, r1, r2, r3, r4, r5⟩ := evcells h16.nx.na.rr
      obtain ⟨z0, z1, z2, z3, z4, z5⟩ := evfree h16.nx.na.rr
      have hER : E ≠ w.heap.size + 1 := by have := h16.nx.lo; have := h16.lo; omega
      clear h16
      have HS := Lib.hid (E17.out.nx.na.stored ⟨0, 0, 0, 0, 0, 0⟩)
      generalize w.heap.size + 1 = RB at *
      go_wp2_with fail
      refine bodyPost_ret (v := .tuple #[.agg #[.int .i64 0, .int .u64 0, .int .u64 0, .int .u32 0, .int .u32 0, .int .u32 0], .int .i64 5]) (by rw [results_cell_tmp rfl]; go_simp) rfl ⟨rfl, ?_⟩
      exact HS.out.1
  · have hb5 : ((e5 : Int) != 0) = true := by rw [bne_iff_ne]; omega
    have hr0 := hres.out
    rw [if_pos he5] at hr0
    subst hr0
    clear hres
    obtain ⟨w15, x15⟩ : ∃ w15, w15 = w14.setCell ⟨E, 5, none⟩ (.int .u32 n5) := ⟨_, rfl⟩
    rw [← x15] at E14
    go_wp2_with fail
    rw [← x15]
    clear x15 c0 c1 c2 c3 c4 c5 f0 f1 f2 f3 f4 f5 m1
    obtain ⟨c0, c1, c2, c3, c4, c5⟩ := evcells E14.out.nx.na.rr
    obtain ⟨f0, f1, f2, f3, f4, f5⟩ := evfree E14.out.nx.na.rr
    obtain ⟨-, m1, -⟩ := E14.out.nx.nm.cells
    have hnR : nb ≠ w.heap.size + 1 := by have := E14.out.nx.lo; omega
    have HS := Lib.hid (E14.out.nx.na.stored ⟨0, 0, 0, 0, 0, 0⟩)
    clear hnE HC HW
    generalize w.heap.size + 1 = RB at *
    go_region
    all_goals go_wp2_with fail
    refine bodyPost_ret (v := .tuple #[.agg #[.int .i64 0, .int .u64 0, .int .u64 0, .int .u32 0, .int .u32 0, .int .u32 0], .int .i64 e5]) (by rw [results_cell_tmp rfl]; go_simp) rfl ⟨rfl, ?_⟩
    exact HS.out.1.drew

theorem nst_eta {L : List UInt8} {kind : Int} {k i : Nat} : nst L kind k i = ((nst L kind k i).1, (nst L kind k i).2.1, (nst L kind k i).2.2) := rfl

theorem kindAt_is (s : ByteArray) (k : Nat) (hk : k < s.size) : kindAt s.data.toList k = (s[k].toNat : Nat) := by
  unfold kindAt
  rw [List.getD_eq_getElem?_getD, Array.getElem?_toList, show s.data[k]? = some s[k] from Array.getElem?_eq_getElem hk]
  rfl

theorem next_any' (w : World) (rb : Nat) (s : ByteArray) (k : Nat) (d : Ev) (h : Rd w rb s k) (hk : k < s.size) (hL : EvL w) (tb : 0 ≠ rb) (dcy : d.cyc < 18446744073709551616) (dcn : d.cnt < 18446744073709551616) :
    Calls Tryd.prog 71 #[.pointer (some ⟨rb, 0, none⟩), evV d] w fun r w' => r = .returned (.tuple #[evV (nextC d s.data.toList k).1, .int .i64 (nextC d s.data.toList k).2.1]) ∧ ((nextC d s.data.toList k).2.1 = 0 → Rd w' rb s (nextC d s.data.toList k).2.2) ∧ Only w w' (fun j => j = rb) := by
  have hkd := kindAt_is s k hk
  cases hkn : knownB (s[k].toNat : Nat) with
  | false =>
    have hn : nextC d s.data.toList k = (ev0, 1, 0) := by unfold nextC; rw [hkd, hkn, if_pos rfl]
    rw [hn]
    exact (next_not w rb s k d h hk hL tb hkn).mono fun r w' h' => ⟨h'.1, (fun e => by cases e), h'.2⟩
  | true =>
    have hk12 : 1 ≤ s[k].toNat ∧ s[k].toNat ≤ 24 := by
      simp only [knownB, Bool.and_eq_true, decide_eq_true_eq] at hkn
      omega
    refine next_walk w rb s k d h hk hL tb dcy dcn s[k].toNat rfl hk12.1 hk12.2 (nst s.data.toList ((s[k].toNat : Nat) : Int) (k + 1) 1).1 (nst s.data.toList ((s[k].toNat : Nat) : Int) (k + 1) 1).2.1 (nst s.data.toList ((s[k].toNat : Nat) : Int) (k + 1) 1).2.2 (nst s.data.toList ((s[k].toNat : Nat) : Int) (k + 1) 2).1 (nst s.data.toList ((s[k].toNat : Nat) : Int) (k + 1) 2).2.1 (nst s.data.toList ((s[k].toNat : Nat) : Int) (k + 1) 2).2.2 (nst s.data.toList ((s[k].toNat : Nat) : Int) (k + 1) 3).1 (nst s.data.toList ((s[k].toNat : Nat) : Int) (k + 1) 3).2.1 (nst s.data.toList ((s[k].toNat : Nat) : Int) (k + 1) 3).2.2 (nst s.data.toList ((s[k].toNat : Nat) : Int) (k + 1) 4).1 (nst s.data.toList ((s[k].toNat : Nat) : Int) (k + 1) 4).2.1 (nst s.data.toList ((s[k].toNat : Nat) : Int) (k + 1) 4).2.2 (nst s.data.toList ((s[k].toNat : Nat) : Int) (k + 1) 5).1 (nst s.data.toList ((s[k].toNat : Nat) : Int) (k + 1) 5).2.1 (nst s.data.toList ((s[k].toNat : Nat) : Int) (k + 1) 5).2.2
      (Lib.hid ((nst_succ _ _ _ 0).symm.trans nst_eta)) (Lib.hid ((nst_succ _ _ _ 1).symm.trans nst_eta)) (Lib.hid ((nst_succ _ _ _ 2).symm.trans nst_eta)) (Lib.hid ((nst_succ _ _ _ 3).symm.trans nst_eta)) (Lib.hid ((nst_succ _ _ _ 4).symm.trans nst_eta))
      (nst_lt _ _ _ _) (nst_lt _ _ _ _) (nst_lt _ _ _ _) (nst_lt _ _ _ _) (nst_lt _ _ _ _) _ (Lib.hid ?_)
    unfold nextC
    rw [hkd, hkn, if_neg (by decide)]
    unfold fwdOk nextE growZ
    simp only [decide_eq_true_eq]

end Go.Proofs.YtobioiicbdhboaaDoor
