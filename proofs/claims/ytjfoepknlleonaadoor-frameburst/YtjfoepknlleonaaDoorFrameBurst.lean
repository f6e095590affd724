/-
  FrameBurst: for every frame, place and pattern the statement's function answers true: a frame behind a burst is no frame. Conditions: none beyond the card's own: the listed package variables start as the program's text lays them, which the card ties to that text.
-/
import Derived.Test.YtjfoepknlleonaaDoorFrZ
import Derived.Test.YtjfoepknlleonaaDoorTie
import Derived.Test.YtjfoepknlleonaaDoorCards
import Derived.ProofKit
import Derived.OpenShut
import Derived.ShutString
import Derived.LaidMore
import Derived.Lay
import Derived.SevenTiedAt
import Derived.Stop.Joined
import Derived.Deep.DeepHandedRow
namespace Go.Proofs.YtjfoepknlleonaaDoor.FrameBurst
open Go.ChangeShapes Go.WideShapes Go.ChangeAt Go.RowKit
open Go.ChangeMaps (open_string shut_string)
set_option linter.unusedVariables false
set_option linter.unusedSimpArgs false

theorem print_len (q : Nat) (l : List Ev) : (frameP q l).1.length ≤ 179 := by
  unfold frameP
  split
  · simp
  · split
    · split
      · simp only [frameB_len]; omega
      · simp
    · simp

set_option maxRecDepth 100000 in
set_option maxHeartbeats 4000000 in
theorem walk_out1 (q : Nat) (ao : Option Addr) (len cap : Nat) (k : Int) (p : Nat) (hl : decide ((100 : Int) < (len : Int)) = true) (w : World) (hL : EvL w) :
    Calls Tryd.prog 8 #[.agg #[.int .u32 (q : Int), .slice ao len cap], .int .i64 k, .int .u32 (p : Int)] w fun r w' => r = .returned (.bool true) ∧ Below w.heap.size w w' := by
  obtain ⟨w1, x1⟩ : ∃ w1, w1 = w.alloc (frO q ao len cap) := ⟨_, rfl⟩
  obtain ⟨s1, n1, b1⟩ := new_size x1
  have HA := Lib.hid (awake7_any w1 (hL.below b1))
  have HL := Lib.hid hL
  have N1 := Lib.hid n1
  have B1 := Lib.hid b1
  obtain ⟨D, hD⟩ : ∃ D, w.heap.size = D := ⟨_, rfl⟩
  rw [hD] at N1 B1
  have HD := Lib.hid hD
  have hDw : D ≤ w1.heap.size := by omega
  have HDw := Lib.hid hDw
  unfold frO at x1
  clear s1 n1 b1 hD hDw hL
  go_enter Tryd.func8, Tryd.ntmps8
  go_wp2_with fail
  rw [← x1, HD.out]
  clear x1
  refine HA.out.mono ?_
  rintro r w2 ⟨rfl, h2⟩
  have N2 := Lib.hid ((h2.block _ (blk_lt N1.out)).trans N1.out)
  have B2 := Lib.hid (B1.out.trans (h2.mono HDw.out))
  have D2 := Lib.hid (Nat.le_trans HDw.out h2.size)
  have hDl : D < w2.heap.size := blk_lt N2.out
  clear h2 HA N1 B1 HDw
  obtain ⟨c0, c1, -, -⟩ := frcells N2.out
  go_wp2_with fail
  refine (awake7_any w2 (HL.out.below (by rw [HD.out]; exact B2.out))).mono ?_
  rintro r w3 ⟨rfl, h3⟩
  have B3 := Lib.hid (B2.out.trans (h3.mono D2.out))
  clear h3
  go_wp2_with fail
  go_ret
  exact ⟨rfl, by rw [HD.out]; exact B3.out⟩

set_option maxRecDepth 100000 in
set_option maxHeartbeats 4000000 in
theorem walk_out2 (q : Nat) (ao : Option Addr) (len cap : Nat) (k : Int) (p : Nat) (hl : decide ((100 : Int) < (len : Int)) = false) (hl2 : decide (k < 0) = true) (w : World) (hL : EvL w) :
    Calls Tryd.prog 8 #[.agg #[.int .u32 (q : Int), .slice ao len cap], .int .i64 k, .int .u32 (p : Int)] w fun r w' => r = .returned (.bool true) ∧ Below w.heap.size w w' := by
  obtain ⟨w1, x1⟩ : ∃ w1, w1 = w.alloc (frO q ao len cap) := ⟨_, rfl⟩
  obtain ⟨s1, n1, b1⟩ := new_size x1
  have HA := Lib.hid (awake7_any w1 (hL.below b1))
  have HL := Lib.hid hL
  have N1 := Lib.hid n1
  have B1 := Lib.hid b1
  obtain ⟨D, hD⟩ : ∃ D, w.heap.size = D := ⟨_, rfl⟩
  rw [hD] at N1 B1
  have HD := Lib.hid hD
  have hDw : D ≤ w1.heap.size := by omega
  have HDw := Lib.hid hDw
  unfold frO at x1
  clear s1 n1 b1 hD hDw hL
  go_enter Tryd.func8, Tryd.ntmps8
  go_wp2_with fail
  rw [← x1, HD.out]
  clear x1
  refine HA.out.mono ?_
  rintro r w2 ⟨rfl, h2⟩
  have N2 := Lib.hid ((h2.block _ (blk_lt N1.out)).trans N1.out)
  have B2 := Lib.hid (B1.out.trans (h2.mono HDw.out))
  have D2 := Lib.hid (Nat.le_trans HDw.out h2.size)
  have hDl : D < w2.heap.size := blk_lt N2.out
  clear h2 HA N1 B1 HDw
  obtain ⟨c0, c1, -, -⟩ := frcells N2.out
  go_wp2_with fail
  refine (awake7_any w2 (HL.out.below (by rw [HD.out]; exact B2.out))).mono ?_
  rintro r w3 ⟨rfl, h3⟩
  have B3 := Lib.hid (B2.out.trans (h3.mono D2.out))
  clear h3
  go_wp2_with fail
  go_ret
  exact ⟨rfl, by rw [HD.out]; exact B3.out⟩

set_option maxRecDepth 100000 in
set_option maxHeartbeats 4000000 in
theorem walk_out3 (q : Nat) (ao : Option Addr) (len cap : Nat) (k : Int) (p : Nat) (hl : decide ((100 : Int) < (len : Int)) = false) (hl2 : decide (k < 0) = false) (hl3 : decide ((2000 : Int) < k) = true) (w : World) (hL : EvL w) :
    Calls Tryd.prog 8 #[.agg #[.int .u32 (q : Int), .slice ao len cap], .int .i64 k, .int .u32 (p : Int)] w fun r w' => r = .returned (.bool true) ∧ Below w.heap.size w w' := by
  obtain ⟨w1, x1⟩ : ∃ w1, w1 = w.alloc (frO q ao len cap) := ⟨_, rfl⟩
  obtain ⟨s1, n1, b1⟩ := new_size x1
  have HA := Lib.hid (awake7_any w1 (hL.below b1))
  have HL := Lib.hid hL
  have N1 := Lib.hid n1
  have B1 := Lib.hid b1
  obtain ⟨D, hD⟩ : ∃ D, w.heap.size = D := ⟨_, rfl⟩
  rw [hD] at N1 B1
  have HD := Lib.hid hD
  have hDw : D ≤ w1.heap.size := by omega
  have HDw := Lib.hid hDw
  unfold frO at x1
  clear s1 n1 b1 hD hDw hL
  go_enter Tryd.func8, Tryd.ntmps8
  go_wp2_with fail
  rw [← x1, HD.out]
  clear x1
  refine HA.out.mono ?_
  rintro r w2 ⟨rfl, h2⟩
  have N2 := Lib.hid ((h2.block _ (blk_lt N1.out)).trans N1.out)
  have B2 := Lib.hid (B1.out.trans (h2.mono HDw.out))
  have D2 := Lib.hid (Nat.le_trans HDw.out h2.size)
  have hDl : D < w2.heap.size := blk_lt N2.out
  clear h2 HA N1 B1 HDw
  obtain ⟨c0, c1, -, -⟩ := frcells N2.out
  go_wp2_with fail
  refine (awake7_any w2 (HL.out.below (by rw [HD.out]; exact B2.out))).mono ?_
  rintro r w3 ⟨rfl, h3⟩
  have B3 := Lib.hid (B2.out.trans (h3.mono D2.out))
  clear h3
  go_wp2_with fail
  go_ret
  exact ⟨rfl, by rw [HD.out]; exact B3.out⟩

set_option maxRecDepth 100000 in
set_option maxHeartbeats 4000000 in
theorem walk_few (q : Nat) (hq : q < 4294967296) (ao : Option Addr) (cap : Nat) (l : List Ev) (k p : Nat) (hp : p < 4294967296) (hl : decide ((100 : Int) < (l.length : Int)) = false) (hl2 : decide ((k : Int) < 0) = false) (hl3 : decide ((2000 : Int) < (k : Int)) = false) (w : World) (hs : SeenE w ao cap l) (hf : ∀ e ∈ l, EvFits e) (hL : EvL w) :
    Calls Tryd.prog 8 #[.agg #[.int .u32 (q : Int), .slice ao l.length cap], .int .i64 (k : Int), .int .u32 (p : Int)] w fun r w' => r = .returned (.bool true) ∧ Below w.heap.size w w' := by
  have hn' : l.length ≤ 1000000 := by rw [decide_eq_false_iff_not] at hl; omega
  have Hn := Lib.hid hn'
  have HS := Lib.hid hs
  obtain ⟨S, hS⟩ : ∃ S : ByteArray, S = ⟨(frameP q l).1.toArray⟩ := ⟨_, rfl⟩
  obtain ⟨c, hc⟩ : ∃ c : Int, c = (frameP q l).2 := ⟨_, rfl⟩
  have HP : Hid (∀ t bo bc w', TabK w' t 256 → SeenE w' bo bc l → EvL w' → Calls Tryd.prog 12 #[.pointer (some ⟨t, 0, none⟩), .agg #[.int .u32 (q : Int), .slice bo l.length bc]] w' fun r w'' => r = .returned (.tuple #[.string S, .int .i64 c]) ∧ Below w'.heap.size w' w'') :=
    Lib.hid (by rw [hS, hc]; exact fun t bo bc w' h1 h2 h3 => fprint_any t q hq bo bc l w' h1 h2 h3 hf Hn.out)
  have hSl : S.data.toList = (frameP q l).1 := by rw [hS]
  have hSz : S.size ≤ 179 := by
    rw [hS, mk_size]
    exact print_len q l
  have hk : k ≤ 2000 := by rw [decide_eq_false_iff_not] at hl3; omega
  have HB := Lib.hid (fun w' => spoil_any S (by unfold maxLen; omega) k p (by omega) hp w')
  rw [hSl] at HB
  have HE : Hid (c = 0 → ∀ t : List UInt8, t.length = (frameP q l).1.length → num t = num (frameP q l).1 ^^^ burst k p (8 * (frameP q l).1.length) → (((frameR t).2.2.2 == 0) = !decide (burst k p (8 * (frameP q l).1.length) ≠ 0))) := Lib.hid (by
    intro h0 t hl ht
    have h0' : (frameP q l).2 = 0 := by rw [← hc]; exact h0
    by_cases hb : burst k p (8 * (frameP q l).1.length) = 0
    · have et : t = (frameP q l).1 := num_inj hl (by rw [ht, hb, Nat.xor_zero])
      have := frame_back hq hf h0' []
      rw [List.append_nil] at this
      rw [et, this, hb]
      show ((0 : Int) == 0) = !decide ((0 : Nat) ≠ 0)
      decide
    · rw [decide_eq_true hb, Bool.not_true, beq_eq_false_iff_ne]
      exact fun h => hb (frame_burst hf h0' hp hl ht h))
  have HR := Lib.hid (fun (x : ByteArray) (hx : x.size ≤ 1000000) t w' h1 h2 => fread_any t x hx 0 (Nat.zero_le _) w' h1 h2)
  have hlen : (frameP q l).1.length ≤ 179 := print_len q l
  generalize burst k p (8 * (frameP q l).1.length) = bu at *
  generalize decide (bu ≠ 0) = D1 at *
  generalize (frameP q l).1 = PL at *
  have Hlen := Lib.hid hlen
  clear hs hf hSl hS hc hn' hq hSz hp hk hlen
  obtain ⟨w1, x1⟩ : ∃ w1, w1 = w.alloc (frO q ao l.length cap) := ⟨_, rfl⟩
  obtain ⟨s1, n1, b1⟩ := new_size x1
  have HA := Lib.hid (awake7_any w1 (hL.below b1))
  have HL := Lib.hid hL
  have N1 := Lib.hid n1
  have B1 := Lib.hid b1
  obtain ⟨D, hD⟩ : ∃ D, w.heap.size = D := ⟨_, rfl⟩
  rw [hD] at N1 B1
  have HD := Lib.hid hD
  have hDw : D ≤ w1.heap.size := by omega
  have HDw := Lib.hid hDw
  unfold frO at x1
  clear s1 n1 b1 hD hDw hL
  go_enter Tryd.func8, Tryd.ntmps8
  go_wp2_with fail
  rw [← x1, HD.out]
  clear x1
  refine HA.out.mono ?_
  rintro r w2 ⟨rfl, h2⟩
  have N2 := Lib.hid ((h2.block _ (blk_lt N1.out)).trans N1.out)
  have B2 := Lib.hid (B1.out.trans (h2.mono HDw.out))
  have D2 := Lib.hid (Nat.le_trans HDw.out h2.size)
  have hDl : D < w2.heap.size := blk_lt N2.out
  clear h2 HA N1 B1 HDw
  obtain ⟨c0, c1, -, -⟩ := frcells N2.out
  go_wp2_with fail
  refine (make_any w2).mono ?_
  rintro r w3 ⟨rfl, t3, h3⟩
  have N3 := Lib.hid ((h3.block _ (blk_lt N2.out)).trans N2.out)
  have B3 := Lib.hid (B2.out.trans (h3.mono D2.out))
  have D3 := Lib.hid (Nat.le_trans D2.out h3.size)
  have T3 := Lib.hid t3
  obtain ⟨t, ht⟩ : ∃ t, w2.heap.size = t := ⟨_, rfl⟩
  rw [ht] at T3 ⊢
  clear h3 t3 N2 B2 D2 ht c0 c1 hDl
  obtain ⟨c0, c1, -, -⟩ := frcells N3.out
  go_wp2_with fail
  refine (own_any q ao cap l w3 (HS.out.below (by rw [HD.out]; exact B3.out)) Hn.out).mono ?_
  rintro r w4 ⟨bo, bc, rfl, s4, h4⟩
  have N4 := Lib.hid ((h4.block _ (blk_lt N3.out)).trans N3.out)
  have B4 := Lib.hid (B3.out.trans (h4.mono D3.out))
  have D4 := Lib.hid (Nat.le_trans D3.out h4.size)
  have T4 := Lib.hid (T3.out.below h4 T3.out.lt)
  have S4 := Lib.hid s4
  clear h4 s4 N3 B3 D3 T3 c0 c1
  go_wp2_with fail
  refine (HP.out t bo bc w4 T4.out S4.out (HL.out.below (by rw [HD.out]; exact B4.out))).mono ?_
  rintro r w5 ⟨rfl, h5⟩
  have N5 := Lib.hid ((h5.block _ (blk_lt N4.out)).trans N4.out)
  have B5 := Lib.hid (B4.out.trans (h5.mono D4.out))
  have D5 := Lib.hid (Nat.le_trans D4.out h5.size)
  have T5 := Lib.hid (T4.out.below h5 T4.out.lt)
  clear h5 N4 B4 D4 T4 S4
  by_cases hc0 : c = 0
  · have hcb : (c != 0) = false := by rw [hc0]; rfl
    have HE := Lib.hid (HE.out hc0)
    clear hc0
    go_wp2_with fail
    refine (HB.out w5).mono ?_
    rintro r w6 ⟨tl, htl, htn, rfl, h6⟩
    have N6 := Lib.hid ((h6.block _ (blk_lt N5.out)).trans N5.out)
    have B6 := Lib.hid (B5.out.trans (h6.mono D5.out))
    have D6 := Lib.hid (Nat.le_trans D5.out h6.size)
    have T6 := Lib.hid (T5.out.below h6 T5.out.lt)
    have hE := HE.out tl htl htn
    have HR := Lib.hid (HR.out ⟨tl.toArray⟩ (by rw [mk_size]; have := Hlen.out; omega))
    rw [show (⟨tl.toArray⟩ : ByteArray).data.toList = tl from rfl, List.drop_zero] at HR
    generalize frameR tl = RR at *
    obtain ⟨rq, rl, rn, re⟩ := RR
    simp only at HR hE
    generalize (⟨tl.toArray⟩ : ByteArray) = x at *
    clear h6 N5 B5 D5 T5 HB HE htl htn
    go_wp2_with fail
    refine (HR.out t w6 T6.out (HL.out.below (by rw [HD.out]; exact B6.out))).mono ?_
    rintro r w7 ⟨go, gc, rfl, -, h7⟩
    have B7 := Lib.hid ((B6.out.trans (h7.mono D6.out)).alloc (Nat.le_trans D6.out h7.size) (.cells #[.int .u32 (rq : Int), .slice go rl.length gc] 25))
    generalize nextP 0 (rq, rl, rn, re) = np at *
    clear h7 HR
    go_wp2_with fail
    go_ret
    exact ⟨rfl, by rw [HD.out]; exact B7.out⟩
  · have hcb : (c != 0) = true := by rw [bne_iff_ne]; exact hc0
    clear hc0
    go_wp2_with fail
    go_ret
    exact ⟨rfl, by rw [HD.out]; exact B5.out⟩

theorem walk {w : World} (q : Nat) (ao : Option Addr) (cap : Nat) (l : List Ev) (h : q < 4294967296 ∧ SeenE w ao cap l ∧ ∀ e ∈ l, EvFits e) (k : Int) (h1 : (Lit.int .i64 k).wf = true) (p : Int) (h2 : (Lit.int .u32 p).wf = true) (hL : EvL w) :
    Calls Tryd.prog 8 #[.agg #[.int .u32 (q : Int), .slice ao l.length cap], .int .i64 k, .int .u32 p] w fun r w' => r = .returned (.bool true) ∧ Below w.heap.size w w' := by
  obtain ⟨p, rfl, hp⟩ := wf_u32 h2
  by_cases hl : (100 : Int) < (l.length : Int)
  · exact walk_out1 q ao _ cap k p (by rw [decide_eq_true_iff]; exact hl) w hL
  · have d1 : decide ((100 : Int) < (l.length : Int)) = false := by rw [decide_eq_false_iff_not]; exact hl
    by_cases ha : k < 0
    · exact walk_out2 q ao _ cap k p d1 (by rw [decide_eq_true_iff]; exact ha) w hL
    · have d2 : decide (k < 0) = false := by rw [decide_eq_false_iff_not]; exact ha
      by_cases hb : (2000 : Int) < k
      · exact walk_out3 q ao _ cap k p d1 d2 (by rw [decide_eq_true_iff]; exact hb) w hL
      · obtain ⟨k, rfl⟩ := Int.eq_ofNat_of_zero_le (show 0 ≤ k by omega)
        exact walk_few q h.1 ao cap l k p hp d1 d2 (by rw [decide_eq_false_iff_not]; exact hb) w h.2.1 h.2.2 hL

theorem own : ownKnob Tryd.prog.godebug = none := by kernel_rfl
theorem laidOut : laidOutB Tryd.prog = true := by kernel_rfl

set_option maxRecDepth 100000 in
theorem lifted (os : Os) (started : os.Started) (H : Type) (enc : TypeId × Value → H) :
    ReturnsInHanded {} Tryd.checked os 8 .any (fun w args => (Rows.frameBurstSpec.pre enc Tryd.prog Tryd.f8 Rows.frameBurstRow.domain false w args ∧ laidMetH Tryd.prog laidL w) ∧ sizedMet enc Tryd.prog Tryd.f8 (OpenSpec.ofChange Rows.frameBurstSpec) false w args) (Rows.frameBurstSpec.post enc Tryd.prog Tryd.f8 false true false false) := by
  refine returnsInHanded_of_row (s := OpenSpec.ofChange Rows.frameBurstSpec) (F := fun _ _ _ => 0) (laid := laidL) (C := Tryd.checked) own started (by kernel_rfl) Tryd.func8
    (ChangeSpec.witness_shaped (enc := enc) (C := Tryd.checked) (os := os) (s := Rows.frameBurstSpec) (X := fun w _ => laidMetH Tryd.prog laidL w) false (World.laidAll Tryd.prog os laidL) #[.agg #[.int .u32 0, .slice none 0 0], .int .i64 0, .int .u32 0] 8 (World.laidAll_os _ _ _)
      (World.shaped_of_ZipB (by kernel_rfl) (by kernel_rfl)) (by kernel_rfl) (by kernel_rfl) (by kernel_rfl)
      (by rw [MakeChecks.laidMetH_plain _ _ _ (by kernel_rfl)]; exact laidMet_laidAll _ (by kernel_rfl) (by kernel_rfl))) ?_
  intro W base args ds gs before hval0 hW hcnd _ hsz0 hL hsh _
  have hval : ∀ (j : Nat) t v, Tryd.f8.params[j]? = some t → args[j]? = some v → Value.okWide Tryd.prog W .any base t v := hval0
  have hW' := hW
  obtain ⟨p, q, hA0, hV, rfl, hfz, hnd⟩ := hW
  have hA : DataW.TrodAll enc Tryd.prog W 0 (fun _ => true) true Tryd.f8.params.toList args.toList ds p := hA0
  rw [Tryd.params8] at hA hval
  obtain ⟨v0, vs0, d0, ds0, p0, q0, hargs, rfl, rfl, h0, r0⟩ := trodAll_cons hA
  obtain ⟨v1, vs1, d1, ds1, p1, q1, rfl, rfl, rfl, h1, r1⟩ := trodAll_cons r0
  obtain ⟨v2, vs2, d2, ds2, p2, q2, rfl, rfl, rfl, h2, r2⟩ := trodAll_cons r1
  obtain ⟨rfl, rfl, rfl⟩ := trodAll_nil r2
  obtain rfl : args = #[v0, v1, v2] := by cases args; simp_all
  obtain ⟨rfl, rfl⟩ := trodVars_none hV
  have k0 := h0
  have lt0 : ∀ x ∈ p0, x.block < W.heap.size := by obtain ⟨m, hm⟩ := k0; exact DataW.trod_lt m _ _ _ hm
  have k1 := h1
  have lt1 : ∀ x ∈ p1, x.block < W.heap.size := by obtain ⟨m, hm⟩ := k1; exact DataW.trod_lt m _ _ _ hm
  have k2 := h2
  have lt2 : ∀ x ∈ p2, x.block < W.heap.size := by obtain ⟨m, hm⟩ := k2; exact DataW.trod_lt m _ _ _ hm
  obtain ⟨a0, ao0, cap0, z0, rfl, w0⟩ := open_frame (hval 0 25 v0 rfl rfl) h0
  obtain ⟨a1, rfl, rfl, rfl, w1⟩ := open_int Tryd.underlying3 (hval 1 3 v1 rfl rfl) h1
  obtain ⟨a2, rfl, rfl, rfl, w2⟩ := open_int Tryd.underlying22 (hval 2 22 v2 rfl rfl) h2
  clear hA0 hval0
  refine (walk (w := W) a0 ao0 cap0 z0 w0 a1 w1 a2 w2 (of_laid hL hsh)).mono fun e W' ⟨he, bel⟩ => ?_
  subst he
  exact ⟨_, rfl, _, _, _, [], _, [], hW', trodAll_mk1 (shut_bool Tryd.underlying4 _), (trodAll_cons_mk (Below.trod laidOut (by kernel_rfl) (of_decide_eq_true (by kernel_rfl)) k0 bel lt0) (trodAll_cons_mk (Below.trod laidOut (by kernel_rfl) (of_decide_eq_true (by kernel_rfl)) k1 bel lt1) (trodAll_cons_mk (Below.trod laidOut (by kernel_rfl) (of_decide_eq_true (by kernel_rfl)) k2 bel lt2) trodAll_mk0))), rfl, bel.frame _, fun h => by cases h⟩

theorem over : Rows.FrameBurstSaid :=
  OpenClaim.holds_of_wide 8 Tryd.f8 rfl rfl rfl rfl rfl rfl rfl ⟨rfl, rfl, rfl, rfl, rfl⟩ rfl rfl rfl rfl rfl (by kernel_rfl) Tryd.func8 (by kernel_rfl)
    (of_decide_eq_true (by kernel_rfl)) (by unfold Func.isWrapper; first | (rw [if_pos (by decide +kernel)]; kernel_rfl) | (rw [if_neg (by decide +kernel)]; exact ⟨rfl, rfl⟩))
    (fun os started H enc _ => lifted os started H enc)

theorem proved : Rows.FrameBurstCardSaid :=
  Claim7.holds_tied_plain_at .later [] _ true _ false over (fun _ h => by cases h) (by kernel_rfl) (fun _ h => by cases h) frameBurst_row_tie rfl ⟨rfl, rfl⟩ (by kernel_rfl) rfl
    (fun f fn hf hfn => by
      obtain rfl : f = 8 := Option.some.inj ((show Tryd.prog.funcNamed "taffrail/taffraillaw07.FrameBurst" = some 8 by kernel_rfl).symm.trans hf) |>.symm
      obtain rfl : fn = Tryd.f8 := (Option.some.inj (Tryd.func8.symm.trans hfn)).symm
      refine ⟨by kernel_rfl, fun j t ht => ?_⟩
      rw [Tryd.params8] at ht
      have hm : t ∈ [25, 3, 22] := by simpa using Array.mem_of_getElem? ht
      have hall : ([25, 3, 22].all fun u => !Tryd.prog.wantsStandIn u) = true := by kernel_rfl
      exact (show Tryd.prog.wantsStandIn t = false by simpa using List.all_eq_true.1 hall t hm))
    (by kernel_rfl)
#print axioms proved

end Go.Proofs.YtjfoepknlleonaaDoor.FrameBurst
