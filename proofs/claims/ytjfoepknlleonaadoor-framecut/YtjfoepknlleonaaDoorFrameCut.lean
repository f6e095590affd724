/-
  FrameCut: for every frame and place the statement's function answers true: a frame that is cut off lacks bytes. Conditions: none beyond the card's own: the listed package variables start as the program's text lays them, which the card ties to that text.
-/
import Derived.Test.YtjfoepknlleonaaDoorFrZ
import Derived.Test.YtjfoepknlleonaaDoorTie
import Derived.Test.YtjfoepknlleonaaDoorCards
import Derived.ProofKit
import Derived.OpenShut
import Derived.ShutString
import Derived.LaidMore
import Derived.Lay
import Derived.SevenTiedAt
import Derived.Stop.Joined
import Derived.Deep.DeepHandedRow
namespace Go.Proofs.YtjfoepknlleonaaDoor.FrameCut
open Go.ChangeShapes Go.WideShapes Go.ChangeAt Go.RowKit
open Go.ChangeMaps (open_string shut_string)
set_option linter.unusedVariables false
set_option linter.unusedSimpArgs false

theorem print_len (q : Nat) (l : List Ev) : (frameP q l).1.length ≤ 179 := by
  unfold frameP
  split
  · simp
  · split
    · split
      · simp only [frameB_len]; omega
      · simp
    · simp

set_option maxRecDepth 100000 in
set_option maxHeartbeats 4000000 in
theorem walk_out (q : Nat) (ao : Option Addr) (len cap : Nat) (n : Int) (hl : decide ((100 : Int) < (len : Int)) = true) (w : World) (hL : EvL w) :
    Calls Tryd.prog 7 #[.agg #[.int .u32 (q : Int), .slice ao len cap], .int .i64 n] w fun r w' => r = .returned (.bool true) ∧ Below w.heap.size w w' := by
  obtain ⟨w1, x1⟩ : ∃ w1, w1 = w.alloc (frO q ao len cap) := ⟨_, rfl⟩
  obtain ⟨s1, n1, b1⟩ := new_size x1
  have HA := Lib.hid (awake7_any w1 (hL.below b1))
  have HL := Lib.hid hL
  have N1 := Lib.hid n1
  have B1 := Lib.hid b1
  obtain ⟨D, hD⟩ : ∃ D, w.heap.size = D := ⟨_, rfl⟩
  rw [hD] at N1 B1
  have HD := Lib.hid hD
  have hDw : D ≤ w1.heap.size := by omega
  have HDw := Lib.hid hDw
  unfold frO at x1
  clear s1 n1 b1 hD hDw hL
  go_enter Tryd.func7, Tryd.ntmps7
  go_wp2_with fail
  rw [← x1, HD.out]
  clear x1
  refine HA.out.mono ?_
  rintro r w2 ⟨rfl, h2⟩
  have N2 := Lib.hid ((h2.block _ (blk_lt N1.out)).trans N1.out)
  have B2 := Lib.hid (B1.out.trans (h2.mono HDw.out))
  have D2 := Lib.hid (Nat.le_trans HDw.out h2.size)
  have hDl : D < w2.heap.size := blk_lt N2.out
  clear h2 HA N1 B1 HDw
  obtain ⟨c0, c1, -, -⟩ := frcells N2.out
  go_wp2_with fail
  refine (awake7_any w2 (HL.out.below (by rw [HD.out]; exact B2.out))).mono ?_
  rintro r w3 ⟨rfl, h3⟩
  have B3 := Lib.hid (B2.out.trans (h3.mono D2.out))
  clear h3
  go_wp2_with fail
  go_ret
  exact ⟨rfl, by rw [HD.out]; exact B3.out⟩

set_option maxRecDepth 100000 in
set_option maxHeartbeats 4000000 in
theorem walk_few (q : Nat) (hq : q < 4294967296) (ao : Option Addr) (cap : Nat) (l : List Ev) (n : Int) (hl : decide ((100 : Int) < (l.length : Int)) = false) (w : World) (hs : SeenE w ao cap l) (hf : ∀ e ∈ l, EvFits e) (hL : EvL w) :
    Calls Tryd.prog 7 #[.agg #[.int .u32 (q : Int), .slice ao l.length cap], .int .i64 n] w fun r w' => r = .returned (.bool true) ∧ Below w.heap.size w w' := by
  have hn' : l.length ≤ 1000000 := by rw [decide_eq_false_iff_not] at hl; omega
  have Hn := Lib.hid hn'
  have HS := Lib.hid hs
  obtain ⟨S, hS⟩ : ∃ S : ByteArray, S = ⟨(frameP q l).1.toArray⟩ := ⟨_, rfl⟩
  obtain ⟨c, hc⟩ : ∃ c : Int, c = (frameP q l).2 := ⟨_, rfl⟩
  have HP : Hid (∀ t bo bc w', TabK w' t 256 → SeenE w' bo bc l → EvL w' → Calls Tryd.prog 12 #[.pointer (some ⟨t, 0, none⟩), .agg #[.int .u32 (q : Int), .slice bo l.length bc]] w' fun r w'' => r = .returned (.tuple #[.string S, .int .i64 c]) ∧ Below w'.heap.size w' w'') :=
    Lib.hid (by rw [hS, hc]; exact fun t bo bc w' h1 h2 h3 => fprint_any t q hq bo bc l w' h1 h2 h3 hf Hn.out)
  have hSl : S.data.toList = (frameP q l).1 := by rw [hS]
  have hSz : S.size ≤ 179 := by
    rw [hS, mk_size]
    exact print_len q l
  have HR : Hid (c = 0 → ∀ m : Nat, (m : Int) < (S.size : Int) → ∀ t w', TabK w' t 256 → EvL w' → Calls Tryd.prog 16 #[.pointer (some ⟨t, 0, none⟩), .string (S.extract 0 m), .int .i64 0] w' fun r w'' => ∃ ao cap, r = .returned (.tuple #[.agg #[.int .u32 0, .slice ao 0 cap], .int .i64 0, .int .i64 2]) ∧ Below w'.heap.size w' w'') :=
    Lib.hid (fun h0 m hm t w' h1 h2 => by
      have hz : (S.extract 0 m).size ≤ 1000000 := by rw [ByteArray.size_extract]; omega
      have := fread_any t (S.extract 0 m) hz 0 (by omega) w' h1 h2
      have e : (S.extract 0 m).data.toList = (frameP q l).1.take m := by rw [extract_part _ _ _ (by omega), List.drop_zero, hSl, Nat.sub_zero]
      have h0' : (frameP q l).2 = 0 := by rw [← hc]; exact h0
      have a := print_at hq hf h0' []
      rw [List.append_nil] at a
      have hlen : (frameP q l).1.length = 59 + (coilL l).1.length := by rw [(print_ok h0').2.2.2]; simp only [frameB_len]
      have hsz : S.size = (frameP q l).1.length := by rw [hS, mk_size]
      rw [List.drop_zero, e, fr_err (frame_cut a m (by omega)) (by decide)] at this
      refine this.mono ?_
      rintro r w'' ⟨ao, cap, rfl, -, b⟩
      exact ⟨ao, cap, rfl, b⟩)
  clear hs hf hSl hS hc hn' hSz hq
  obtain ⟨w1, x1⟩ : ∃ w1, w1 = w.alloc (frO q ao l.length cap) := ⟨_, rfl⟩
  obtain ⟨s1, n1, b1⟩ := new_size x1
  have HA := Lib.hid (awake7_any w1 (hL.below b1))
  have HL := Lib.hid hL
  have N1 := Lib.hid n1
  have B1 := Lib.hid b1
  obtain ⟨D, hD⟩ : ∃ D, w.heap.size = D := ⟨_, rfl⟩
  rw [hD] at N1 B1
  have HD := Lib.hid hD
  have hDw : D ≤ w1.heap.size := by omega
  have HDw := Lib.hid hDw
  unfold frO at x1
  clear s1 n1 b1 hD hDw hL
  go_enter Tryd.func7, Tryd.ntmps7
  go_wp2_with fail
  rw [← x1, HD.out]
  clear x1
  refine HA.out.mono ?_
  rintro r w2 ⟨rfl, h2⟩
  have N2 := Lib.hid ((h2.block _ (blk_lt N1.out)).trans N1.out)
  have B2 := Lib.hid (B1.out.trans (h2.mono HDw.out))
  have D2 := Lib.hid (Nat.le_trans HDw.out h2.size)
  have hDl : D < w2.heap.size := blk_lt N2.out
  clear h2 HA N1 B1 HDw
  obtain ⟨c0, c1, -, -⟩ := frcells N2.out
  go_wp2_with fail
  refine (make_any w2).mono ?_
  rintro r w3 ⟨rfl, t3, h3⟩
  have N3 := Lib.hid ((h3.block _ (blk_lt N2.out)).trans N2.out)
  have B3 := Lib.hid (B2.out.trans (h3.mono D2.out))
  have D3 := Lib.hid (Nat.le_trans D2.out h3.size)
  have T3 := Lib.hid t3
  obtain ⟨t, ht⟩ : ∃ t, w2.heap.size = t := ⟨_, rfl⟩
  rw [ht] at T3 ⊢
  clear h3 t3 N2 B2 D2 ht c0 c1 hDl
  obtain ⟨c0, c1, -, -⟩ := frcells N3.out
  go_wp2_with fail
  refine (own_any q ao cap l w3 (HS.out.below (by rw [HD.out]; exact B3.out)) Hn.out).mono ?_
  rintro r w4 ⟨bo, bc, rfl, s4, h4⟩
  have N4 := Lib.hid ((h4.block _ (blk_lt N3.out)).trans N3.out)
  have B4 := Lib.hid (B3.out.trans (h4.mono D3.out))
  have D4 := Lib.hid (Nat.le_trans D3.out h4.size)
  have T4 := Lib.hid (T3.out.below h4 T3.out.lt)
  have S4 := Lib.hid s4
  clear h4 s4 N3 B3 D3 T3 c0 c1
  go_wp2_with fail
  refine (HP.out t bo bc w4 T4.out S4.out (HL.out.below (by rw [HD.out]; exact B4.out))).mono ?_
  rintro r w5 ⟨rfl, h5⟩
  have N5 := Lib.hid ((h5.block _ (blk_lt N4.out)).trans N4.out)
  have B5 := Lib.hid (B4.out.trans (h5.mono D4.out))
  have D5 := Lib.hid (Nat.le_trans D4.out h5.size)
  have T5 := Lib.hid (T4.out.below h5 T4.out.lt)
  clear h5 N4 B4 D4 T4 S4
  by_cases hc0 : c = 0
  · have hcb : (c != 0) = false := by rw [hc0]; rfl
    have HR := Lib.hid (HR.out hc0)
    clear hc0
    by_cases hn0 : n < 0
    · have hd : decide (n < 0) = true := by rw [decide_eq_true_iff]; exact hn0
      go_wp2_with fail
      go_ret
      exact ⟨rfl, by rw [HD.out]; exact B5.out⟩
    · have hd : decide (n < 0) = false := by rw [decide_eq_false_iff_not]; exact hn0
      obtain ⟨m, rfl⟩ := Int.eq_ofNat_of_zero_le (show 0 ≤ n by omega)
      by_cases hm : (S.size : Int) ≤ (m : Int)
      · have hd2 : decide ((S.size : Int) ≤ (m : Int)) = true := by rw [decide_eq_true_iff]; exact hm
        clear hn0
        go_wp2_with fail
        go_ret
        exact ⟨rfl, by rw [HD.out]; exact B5.out⟩
      · have hd2 : decide ((S.size : Int) ≤ (m : Int)) = false := by rw [decide_eq_false_iff_not]; exact hm
        have HR := Lib.hid (HR.out m (by omega))
        have hmS : m ≤ S.size := by omega
        clear hn0
        go_wp2_with fail
        refine (HR.out t w5 T5.out (HL.out.below (by rw [HD.out]; exact B5.out))).mono ?_
        rintro r w6 ⟨go, gc, rfl, h6⟩
        have B6 := Lib.hid ((B5.out.trans (h6.mono D5.out)).alloc (Nat.le_trans D5.out h6.size) (.cells #[.int .u32 0, .slice go 0 gc] 25))
        clear h6 HR
        go_wp2_with fail
        go_ret
        exact ⟨rfl, by rw [HD.out]; exact B6.out⟩
  · have hcb : (c != 0) = true := by rw [bne_iff_ne]; exact hc0
    clear hc0
    go_wp2_with fail
    go_ret
    exact ⟨rfl, by rw [HD.out]; exact B5.out⟩

theorem walk {w : World} (q : Nat) (ao : Option Addr) (cap : Nat) (l : List Ev) (h : q < 4294967296 ∧ SeenE w ao cap l ∧ ∀ e ∈ l, EvFits e) (n : Int) (h1 : (Lit.int .i64 n).wf = true) (hL : EvL w) :
    Calls Tryd.prog 7 #[.agg #[.int .u32 (q : Int), .slice ao l.length cap], .int .i64 n] w fun r w' => r = .returned (.bool true) ∧ Below w.heap.size w w' := by
  by_cases hl : (100 : Int) < (l.length : Int)
  · exact walk_out q ao _ cap n (by rw [decide_eq_true_iff]; exact hl) w hL
  · exact walk_few q h.1 ao cap l n (by rw [decide_eq_false_iff_not]; exact hl) w h.2.1 h.2.2 hL

theorem own : ownKnob Tryd.prog.godebug = none := by kernel_rfl
theorem laidOut : laidOutB Tryd.prog = true := by kernel_rfl

set_option maxRecDepth 100000 in
theorem lifted (os : Os) (started : os.Started) (H : Type) (enc : TypeId × Value → H) :
    ReturnsInHanded {} Tryd.checked os 7 .any (fun w args => (Rows.frameCutSpec.pre enc Tryd.prog Tryd.f7 Rows.frameCutRow.domain false w args ∧ laidMetH Tryd.prog laidL w) ∧ sizedMet enc Tryd.prog Tryd.f7 (OpenSpec.ofChange Rows.frameCutSpec) false w args) (Rows.frameCutSpec.post enc Tryd.prog Tryd.f7 false true false false) := by
  refine returnsInHanded_of_row (s := OpenSpec.ofChange Rows.frameCutSpec) (F := fun _ _ _ => 0) (laid := laidL) (C := Tryd.checked) own started (by kernel_rfl) Tryd.func7
    (ChangeSpec.witness_shaped (enc := enc) (C := Tryd.checked) (os := os) (s := Rows.frameCutSpec) (X := fun w _ => laidMetH Tryd.prog laidL w) false (World.laidAll Tryd.prog os laidL) #[.agg #[.int .u32 0, .slice none 0 0], .int .i64 0] 8 (World.laidAll_os _ _ _)
      (World.shaped_of_ZipB (by kernel_rfl) (by kernel_rfl)) (by kernel_rfl) (by kernel_rfl) (by kernel_rfl)
      (by rw [MakeChecks.laidMetH_plain _ _ _ (by kernel_rfl)]; exact laidMet_laidAll _ (by kernel_rfl) (by kernel_rfl))) ?_
  intro W base args ds gs before hval0 hW hcnd _ hsz0 hL hsh _
  have hval : ∀ (j : Nat) t v, Tryd.f7.params[j]? = some t → args[j]? = some v → Value.okWide Tryd.prog W .any base t v := hval0
  have hW' := hW
  obtain ⟨p, q, hA0, hV, rfl, hfz, hnd⟩ := hW
  have hA : DataW.TrodAll enc Tryd.prog W 0 (fun _ => true) true Tryd.f7.params.toList args.toList ds p := hA0
  rw [Tryd.params7] at hA hval
  obtain ⟨v0, vs0, d0, ds0, p0, q0, hargs, rfl, rfl, h0, r0⟩ := trodAll_cons hA
  obtain ⟨v1, vs1, d1, ds1, p1, q1, rfl, rfl, rfl, h1, r1⟩ := trodAll_cons r0
  obtain ⟨rfl, rfl, rfl⟩ := trodAll_nil r1
  obtain rfl : args = #[v0, v1] := by cases args; simp_all
  obtain ⟨rfl, rfl⟩ := trodVars_none hV
  have k0 := h0
  have lt0 : ∀ x ∈ p0, x.block < W.heap.size := by obtain ⟨m, hm⟩ := k0; exact DataW.trod_lt m _ _ _ hm
  have k1 := h1
  have lt1 : ∀ x ∈ p1, x.block < W.heap.size := by obtain ⟨m, hm⟩ := k1; exact DataW.trod_lt m _ _ _ hm
  obtain ⟨a0, ao0, cap0, z0, rfl, w0⟩ := open_frame (hval 0 25 v0 rfl rfl) h0
  obtain ⟨a1, rfl, rfl, rfl, w1⟩ := open_int Tryd.underlying3 (hval 1 3 v1 rfl rfl) h1
  clear hA0 hval0
  refine (walk (w := W) a0 ao0 cap0 z0 w0 a1 w1 (of_laid hL hsh)).mono fun e W' ⟨he, bel⟩ => ?_
  subst he
  exact ⟨_, rfl, _, _, _, [], _, [], hW', trodAll_mk1 (shut_bool Tryd.underlying4 _), (trodAll_cons_mk (Below.trod laidOut (by kernel_rfl) (of_decide_eq_true (by kernel_rfl)) k0 bel lt0) (trodAll_cons_mk (Below.trod laidOut (by kernel_rfl) (of_decide_eq_true (by kernel_rfl)) k1 bel lt1) trodAll_mk0)), rfl, bel.frame _, fun h => by cases h⟩

theorem over : Rows.FrameCutSaid :=
  OpenClaim.holds_of_wide 7 Tryd.f7 rfl rfl rfl rfl rfl rfl rfl ⟨rfl, rfl, rfl, rfl, rfl⟩ rfl rfl rfl rfl rfl (by kernel_rfl) Tryd.func7 (by kernel_rfl)
    (of_decide_eq_true (by kernel_rfl)) (by unfold Func.isWrapper; first | (rw [if_pos (by decide +kernel)]; kernel_rfl) | (rw [if_neg (by decide +kernel)]; exact ⟨rfl, rfl⟩))
    (fun os started H enc _ => lifted os started H enc)

theorem proved : Rows.FrameCutCardSaid :=
  Claim7.holds_tied_plain_at .later [] _ true _ false over (fun _ h => by cases h) (by kernel_rfl) (fun _ h => by cases h) frameCut_row_tie rfl ⟨rfl, rfl⟩ (by kernel_rfl) rfl
    (fun f fn hf hfn => by
      obtain rfl : f = 7 := Option.some.inj ((show Tryd.prog.funcNamed "taffrail/taffraillaw07.FrameCut" = some 7 by kernel_rfl).symm.trans hf) |>.symm
      obtain rfl : fn = Tryd.f7 := (Option.some.inj (Tryd.func7.symm.trans hfn)).symm
      refine ⟨by kernel_rfl, fun j t ht => ?_⟩
      rw [Tryd.params7] at ht
      have hm : t ∈ [25, 3] := by simpa using Array.mem_of_getElem? ht
      have hall : ([25, 3].all fun u => !Tryd.prog.wantsStandIn u) = true := by kernel_rfl
      exact (show Tryd.prog.wantsStandIn t = false by simpa using List.all_eq_true.1 hall t hm))
    (by kernel_rfl)
#print axioms proved

end Go.Proofs.YtjfoepknlleonaaDoor.FrameCut
