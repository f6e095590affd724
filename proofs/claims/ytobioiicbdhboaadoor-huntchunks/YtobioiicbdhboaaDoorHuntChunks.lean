/-
  HuntChunks: how the bytes are parted plays no part: for every list of texts the statement's function answers true. Conditions: none beyond the card's own: the listed package variables start as the program's text lays them, which the card ties to that text.
-/
import Derived.Test.YtobioiicbdhboaaDoorHuC
import Derived.Test.YtobioiicbdhboaaDoorTie
import Derived.Test.YtobioiicbdhboaaDoorCards
import Derived.ProofKit
import Derived.OpenShut
import Derived.ShutString
import Derived.LaidMore
import Derived.Lay
import Derived.SevenTiedAt
import Derived.Stop.Joined
import Derived.Deep.DeepHandedRow
import Derived.BigRegion
import Derived.Deep.RegionWith
import Derived.Deep.DeepCutAuto
namespace Go.Proofs.YtobioiicbdhboaaDoor.HuntChunks
open Go.ChangeShapes Go.WideShapes Go.ChangeAt Go.RowKit
open Go.ChangeMaps (open_string shut_string)
set_option linter.unusedVariables false
set_option linter.unusedSimpArgs false

set_option maxRecDepth 100000 in
set_option maxHeartbeats 4000000 in
theorem walk_much {w : World} (ao : Option Addr) (len cap : Nat) (f : Nat → ByteArray) (hs : Seen w ao len cap (fun i => .string (f i))) (hz : ∀ k, (f k).size ≤ maxLen) (hl : len * 16 ≤ 140737488351232) (hL : EvL w) (hm : muchT len f = true) :
    Calls Tryd.prog 4 #[.slice ao len cap] w fun r w' => r = .returned (.bool true) ∧ Below w.heap.size w w' := by
  have HSn := Lib.hid hs
  have HL := Lib.hid hL
  have HG := Lib.hid (fun W h => great9_any ao len cap f W h hz (by omega))
  rw [hm] at HG
  clear hs hL hz hm
  go_enter Tryd.func4, Tryd.ntmps4
  go_wp2_with fail
  refine (awake9_any w HL.out).mono ?_
  rintro r w3 ⟨rfl, b3⟩
  have B3 := Lib.hid b3
  clear b3
  go_wp2_with fail
  refine (HG.out w3 (seen_below HSn.out B3.out)).mono ?_
  rintro r w4 ⟨rfl, rfl⟩
  go_wp2_with fail
  refine (awake9_any w3 (HL.out.below B3.out)).mono ?_
  rintro r w4 ⟨rfl, b4⟩
  have B4 := Lib.hid (B3.out.trans (b4.mono B3.out.size))
  clear b4 B3
  go_wp2_with fail
  go_ret
  exact ⟨rfl, B4.out⟩

set_option maxRecDepth 100000 in
set_option maxHeartbeats 16000000 in
theorem walk_few {w : World} (ao : Option Addr) (len cap : Nat) (f : Nat → ByteArray) (hs : Seen w ao len cap (fun i => .string (f i))) (hz : ∀ k, (f k).size ≤ maxLen) (hL : EvL w) (hm : muchT len f = false) :
    Calls Tryd.prog 4 #[.slice ao len cap] w fun r w' => r = .returned (.bool true) ∧ Below w.heap.size w w' := by
  have hV := hL.lt
  have hfew : len + sumT f len ≤ 4000 := by unfold muchT at hm; simpa using hm
  have HSn := Lib.hid hs
  have HL := Lib.hid hL
  have HG := Lib.hid (fun W h => great9_any ao len cap f W h hz (by omega))
  rw [hm] at HG
  obtain ⟨B, hB⟩ : ∃ B, w.heap.size = B := ⟨_, rfl⟩
  have HA := Lib.hid (awake9_any w hL)
  rw [hB] at HA hV ⊢
  have HBe := Lib.hid hB
  clear hs hL hz hm hB
  go_enter Tryd.func4, Tryd.ntmps4
  go_wp2_with fail
  refine HA.out.mono ?_
  rintro r w1 ⟨rfl, b1⟩
  have B1 := Lib.hid b1
  have S1 := Lib.hid (show B ≤ w1.heap.size by rw [← HBe.out]; exact b1.size)
  clear b1 HA
  go_wp2_with fail
  refine (HG.out w1 (seen_below HSn.out (by rw [HBe.out]; exact B1.out))).mono ?_
  rintro r w2 ⟨rfl, rfl⟩
  clear HG
  go_wp2_with fail
  refine (make_any w1).mono ?_
  rintro r w2 ⟨rfl, t2, b2⟩
  have T2 := Lib.hid t2
  have B2 := Lib.hid (B1.out.trans (b2.mono S1.out))
  have S2 := Lib.hid (Nat.le_trans S1.out b2.size)
  have L2 := Lib.hid (HL.out.below (by rw [HBe.out]; exact B2.out))
  obtain ⟨t, ht⟩ : ∃ t, w1.heap.size = t := ⟨_, rfl⟩
  rw [ht] at T2 ⊢
  clear t2 b2 ht
  go_wp2_with fail
  refine (hnew_any w2 t).mono ?_
  rintro r w3 ⟨rfl, hw3⟩
  have P3 := Lib.hid (show HB w w3 B w2.heap.size t (.slice none 0 0) hs0 false by rw [hw3]; exact hb_new S2.out B2.out L2.out T2.out)
  have Z3 := Lib.hid (show w2.heap.size < w3.heap.size from P3.out.hu.lt)
  obtain ⟨b, hb⟩ : ∃ b, w2.heap.size = b := ⟨_, rfl⟩
  rw [hb] at P3 Z3 ⊢
  clear hw3 hb
  go_wp2_with fail
  refine (hnew_any w3 t).mono ?_
  rintro r w4 ⟨rfl, hw4⟩
  have Q4 := Lib.hid (show HB w w4 B w3.heap.size t (.slice none 0 0) hs0 false by rw [hw4]; exact hb_new P3.out.le P3.out.bel P3.out.evl P3.out.hu.tab)
  have P4 := Lib.hid (show HB w w4 B b t (.slice none 0 0) hs0 false by rw [hw4]; exact P3.out.below ((Below.refl _ _).alloc (Nat.le_refl _) _))
  obtain ⟨c, hc⟩ : ∃ c, w3.heap.size = c := ⟨_, rfl⟩
  rw [hc] at Q4 Z3 ⊢
  have hbc : c ≠ b := by have := Z3.out; omega
  have R4 := Lib.hid (run9_new (C := B) P4.out hV (Nat.le_refl _) P4.out.le)
  clear hw4 hc P3 P4 Z3 T2 L2 B2 S2 B1 S1
  go_wp2_with fail
  go_loopw [8, 9, 33] (fun all a i wr => ∃ (k : Nat) (v va : Value) (la : List Im) (X : ByteArray), k ≤ len ∧ i = .int .i64 k ∧ all = .string X ∧ a = va ∧ X.size = sumT f k ∧ Hid (Run9 w wr B B b t v va la X.data.toList) ∧ Hid (HB w wr B c t (.slice none 0 0) hs0 false)) (fun _ _ i _ => len - (intOf i).toNat)
  case atStart => exact ⟨0, _, _, _, ⟨#[]⟩, Nat.zero_le _, rfl, rfl, rfl, rfl, R4, Q4⟩
  case round =>
    clear R4 Q4
    obtain ⟨k, v, va, la, X, hk, rfl, rfl, rfl, hX, R, Q⟩ := hrel
    obtain ⟨aa, ca, hva⟩ := R.out.own.shape
    subst hva
    by_cases hlt : k < len
    · obtain ⟨g, off, hao, hgw, hcell⟩ := HSn.out.row k hlt
      subst hao
      have c0 := (R.out.hb.bel.cell (p := ⟨g, off + k, none⟩) (by rw [← HBe.out]; exact hgw)).trans (hcell k hlt)
      obtain ⟨hx1, hx2, hx3⟩ := text_small hfew hlt
      have HSum := Lib.hid hx2
      clear hcell hgw
      generalize f k = Y at *
      have hXY : X.size + Y.size ≤ 4000 := by omega
      have HFd := Lib.hid (R.out.feed Y hXY)
      have HO := Lib.hid (fun w' ho => R.out.hb.other (W' := w') Q.out hV hbc (fun k hk => by cases hk) ho)
      have zz : ¬ 9223372036854775807 < X.size + Y.size := by omega
      have hkI : (k : Int) < (len : Int) := by omega
      clear R Q
      go_wp2_with fail
      refine HFd.out.mono ?_
      rintro r w6 ⟨vg, lg, cp, v6, rfl, r6, ra6, le6, len6, o6, own6, N6⟩
      have Q6 := Lib.hid (HO.out w6 o6)
      have R6 := Lib.hid r6
      have RA6 := Lib.hid ra6
      have O6 := Lib.hid own6
      have N6' := Lib.hid N6
      clear r6 ra6 own6 N6 o6 HFd HO c0
      go_wp2_with (at_builtin; refine wpList_append_im rfl _ _ rfl B 0 _ _ rfl la lg RA6.out le6 rfl R6.out (by omega) ?_)
      intro a7 p7 w7 r7 g7
      have R7 := Lib.hid (N6'.out (.slice a7 (la.length + lg.length) p7) w7 (by rw [List.length_append]; exact r7) g7)
      have Q7 := Lib.hid (Q6.out.items hV O6.out (Nat.le_refl _) g7)
      have hXY' : Hid ((X ++ Y).data.toList = X.data.toList ++ Y.data.toList) := Lib.hid (app_list X Y)
      clear r7 g7 N6' Q6 O6 R6 RA6
      go_wp2_with fail
      go_roundw
      case rel => exact ⟨k + 1, v6, _, la ++ lg, X ++ Y, hlt, by go_num, rfl, rfl, by rw [HSum.out, ByteArray.size_append]; omega, by rw [hXY'.out]; exact R7, Q7⟩
      case measure => simp [intOf]; omega
    · have hd1 : decide ((k : Int) < (len : Int)) = false := by simp; omega
      have hd2 : decide (k < len) = false := by simp; omega
      have hnI : ¬ ((k : Int) < (len : Int)) := by omega
      have hXs : X.size ≤ 4000 := by have := sumT_mono f k len (by omega); omega
      have HCl := Lib.hid (R.out.close hXs)
      have HO := Lib.hid (fun w' ho => R.out.hb.other (W' := w') Q.out hV hbc (fun k hk => by cases hk) ho)
      clear R Q hfew HSn HL hX
      go_wp2_with fail
      refine HCl.out.mono ?_
      rintro r w6 ⟨vg, lg, cp, v6, rfl, r6, ra6, le6, len6, o6, own6, N6⟩
      have Q6 := Lib.hid (HO.out w6 (o6.mono fun k _ e => .inl e))
      have R6 := Lib.hid r6
      have RA6 := Lib.hid ra6
      have O6 := Lib.hid own6
      have N6' := Lib.hid N6
      clear r6 ra6 own6 N6 o6 HCl HO
      go_wp2_with (at_builtin; refine wpList_append_im rfl _ _ rfl B 0 _ _ rfl la lg RA6.out le6 rfl R6.out (by omega) ?_)
      intro a7 p7 w7 r7 g7
      obtain ⟨h7, i7, m7⟩ := N6'.out (.slice a7 (la.length + lg.length) p7) w7 (by rw [List.length_append]; exact r7) g7
      have q7 := Q6.out.items hV O6.out (Nat.le_refl _) g7
      have H7 := Lib.hid h7
      have I7 := Lib.hid i7
      have M7 := Lib.hid m7
      have U7 := Lib.hid (run9_new (C := w7.heap.size) q7 hV h7.le (Nat.le_refl _))
      have hlb : (la ++ lg).length ≤ 100000 := by rw [List.length_append]; exact len6
      have HLB := Lib.hid hlb
      clear r7 g7 N6' Q6 O6 R6 RA6 h7 i7 m7 q7 hlb
      generalize la.length + lg.length = nn at *
      -- the other hunter, at once
      go_wp2_with fail
      refine (U7.out.feed X (by simpa using hXs)).mono ?_
      rintro r w8 ⟨vg8, lg8, cp8, v8, rfl, r8, ra8, le8, len8, o8, own8, N8⟩
      have H8 := Lib.hid (U7.out.hb.other (W' := w8) H7.out hV (fun e => hbc e.symm) (fun k hk e => by cases e) o8)
      have I8 := Lib.hid (I7.out.hf U7.out.hb.hu.tag (foot_hf U7.out.hb.hu o8))
      have R8 := Lib.hid r8
      have RA8 := Lib.hid ra8
      have N8' := Lib.hid N8
      have HI7 := Lib.hid (fun k hk => (I7.out.row.lt k hk).2)
      clear r8 ra8 own8 N8 o8 U7 H7 I7
      go_wp2_with (at_builtin; refine wpList_append_im rfl _ _ rfl w7.heap.size 0 _ _ rfl [] lg8 RA8.out le8 rfl R8.out (by simpa using Nat.le_trans len8 (by decide)) ?_)
      intro a9 p9 w9 r9 g9
      have u9 := N8'.out (.slice a9 lg8.length p9) w9 (by simpa using r9) g9
      simp only [List.nil_append] at u9
      have hno : Only w8 w9 (fun _ => False) := Only.of_grown g9 (fun k e => by cases e)
      have I9 := Lib.hid (I8.out.only hno (fun k e => e.elim) (fun k e => e.elim))
      have H9 := Lib.hid (H8.out.items hV (ownI_nil B B w8) (Nat.le_refl _) g9)
      have U9 := Lib.hid u9
      clear r9 g9 u9 hno N8' R8 RA8 I8 H8
      go_wp2_with fail
      refine (U9.out.close hXs).mono ?_
      rintro r w10 ⟨vg10, lg10, cp10, v10, rfl, r10, ra10, le10, len10, o10, own10, N10⟩
      have H10 := Lib.hid (U9.out.hb.other0 (W' := w10) H9.out hV (fun e => hbc e.symm) o10)
      have I10 := Lib.hid (I9.out.hf (p := False) U9.out.hb.hu.tag (o10.mono fun k _ e => ⟨by rw [e]; exact U9.out.hb.hu.base, .inl e⟩))
      have R10 := Lib.hid r10
      have RA10 := Lib.hid ra10
      have O10 := Lib.hid own10
      have N10' := Lib.hid N10
      have HBC := Lib.hid U9.out.hBC
      clear r10 ra10 own10 N10 o10 U9 H9 I9
      go_wp2_with (at_builtin; refine wpList_append_im rfl _ _ rfl w7.heap.size 0 _ _ rfl lg8 lg10 RA10.out le10 rfl R10.out (by omega) ?_)
      intro a11 p11 w11 r11 g11
      obtain ⟨h11, i11, m11⟩ := N10'.out (.slice a11 (lg8.length + lg10.length) p11) w11 (by rw [List.length_append]; exact r11) g11
      have o11 : Only w10 w11 (fun k => (Value.slice a9 lg8.length p9).ownBlock = some k) := Only.of_grown g11 (fun k e => e)
      have I11 := Lib.hid (I10.out.only o11 (fun k e => ⟨Nat.le_trans HBC.out (O10.out.tag e).1, fun tg => tg.ne (O10.out.tag e).2 (by decide) rfl⟩) (fun k e hk => by have h1 := (O10.out.tag e).1; have h2 := HI7.out k hk; omega))
      have H11 := Lib.hid (H10.out.items hV O10.out HBC.out g11)
      have G11 := Lib.hid h11
      have J11 := Lib.hid i11
      have M11 := Lib.hid (M7.out.trans m11.symm)
      clear r11 g11 h11 i11 m11 o11 N10' R10 RA10 O10 I10 H10
      generalize lg8.length + lg10.length = nn2 at *
      go_wp2_with fail
      refine (hsame_any I11.out J11.out M11.out (Nat.le_trans HLB.out (by decide))).mono ?_
      rintro r w12 ⟨rfl, nq, rfl⟩
      have H12 := Lib.hid (H11.out.below (below_drewN (Below.refl _ _) nq))
      have G12 := Lib.hid (G11.out.below (below_drewN (Below.refl _ _) nq))
      clear I11 J11 M11 H11 G11
      go_wp2_with fail
      refine (hskip_any H12.out.hu).mono ?_
      rintro r w13 ⟨rfl, rfl⟩
      go_wp2_with fail
      refine (hskip_any G12.out.hu).mono ?_
      rintro r w13 ⟨rfl, rfl⟩
      go_wp2_with fail
      refine (hlost_any H12.out.hu).mono ?_
      rintro r w13 ⟨rfl, rfl⟩
      go_wp2_with fail
      refine (hlost_any G12.out.hu).mono ?_
      rintro r w13 ⟨rfl, rfl⟩
      go_wp2_with fail
      go_ret
      exact ⟨by simp, H12.out.bel⟩

theorem walk {w : World} (ao : Option Addr) (len cap : Nat) (ss : List ByteArray) (h : Seen w ao len cap (fun i => .string (ss.getD i ByteArray.empty)) ∧ ∀ s ∈ ss, s.size ≤ maxLen) (hl : len * 16 ≤ 140737488351232) (hL : EvL w) :
    Calls Tryd.prog 4 #[.slice ao len cap] w fun r w' => r = .returned (.bool true) ∧ Below w.heap.size w w' := by
  cases hm : muchT len (fun i => ss.getD i ByteArray.empty) with
  | true => exact walk_much ao len cap _ h.1 (text_max h.2) hl hL hm
  | false => exact walk_few ao len cap _ h.1 (text_max h.2) hL hm

theorem own : ownKnob Tryd.prog.godebug = none := by kernel_rfl
theorem laidOut : laidOutB Tryd.prog = true := by kernel_rfl

set_option maxRecDepth 100000 in
theorem lifted (os : Os) (started : os.Started) (H : Type) (enc : TypeId × Value → H) :
    ReturnsInHanded {} Tryd.checked os 4 .any (fun w args => (Rows.huntChunksSpec.pre enc Tryd.prog Tryd.f4 Rows.huntChunksRow.domain false w args ∧ laidMetH Tryd.prog laidL w) ∧ sizedMet enc Tryd.prog Tryd.f4 (OpenSpec.ofChange Rows.huntChunksSpec) false w args) (Rows.huntChunksSpec.post enc Tryd.prog Tryd.f4 false true false false) := by
  refine returnsInHanded_of_row (s := OpenSpec.ofChange Rows.huntChunksSpec) (F := fun _ _ _ => 0) (laid := laidL) (C := Tryd.checked) own started (by kernel_rfl) Tryd.func4
    (ChangeSpec.witness_shaped (enc := enc) (C := Tryd.checked) (os := os) (s := Rows.huntChunksSpec) (X := fun w _ => laidMetH Tryd.prog laidL w) false (World.laidAll Tryd.prog os laidL) #[.slice none 0 0] 8 (World.laidAll_os _ _ _)
      (World.shaped_of_ZipB (by kernel_rfl) (by kernel_rfl)) (by kernel_rfl) (by kernel_rfl) (by kernel_rfl)
      (by rw [MakeChecks.laidMetH_plain _ _ _ (by kernel_rfl)]; exact laidMet_laidAll _ (by kernel_rfl) (by kernel_rfl))) ?_
  intro W base args ds gs before hval0 hW hcnd _ hsz0 hL hsh _
  have hval : ∀ (j : Nat) t v, Tryd.f4.params[j]? = some t → args[j]? = some v → Value.okWide Tryd.prog W .any base t v := hval0
  have hW' := hW
  obtain ⟨p, q, hA0, hV, rfl, hfz, hnd⟩ := hW
  have hA : DataW.TrodAll enc Tryd.prog W 0 (fun _ => true) true Tryd.f4.params.toList args.toList ds p := hA0
  rw [Tryd.params4] at hA hval
  obtain ⟨v0, vs0, d0, ds0, p0, q0, hargs, rfl, rfl, h0, r0⟩ := trodAll_cons hA
  obtain ⟨rfl, rfl, rfl⟩ := trodAll_nil r0
  obtain rfl : args = #[v0] := by cases args; simp_all
  obtain ⟨rfl, rfl⟩ := trodVars_none hV
  have k0 := h0
  have lt0 : ∀ x ∈ p0, x.block < W.heap.size := by obtain ⟨m, hm⟩ := k0; exact DataW.trod_lt m _ _ _ hm
  obtain ⟨a0, len0, cap0, rfl⟩ := okWide_slice Tryd.underlying22 (hval 0 22 v0 rfl rfl)
  obtain ⟨z0, w0⟩ := open_strs h0
  have sz0 : len0 * 16 ≤ 140737488351232 := by
    have hsz : (DataW.weightsEach Tryd.prog (Tryd.f4.params.toList ++ Rows.huntChunksSpec.plain.varTypes Tryd.prog) ([d0] ++ [])).all (· ≤ reachBytes) = true := hsz0
    rw [Tryd.params4] at hsz
    rcases w0.2.2 with h | ⟨el, sp, hd, hl⟩
    · omega
    · rw [hd] at hsz
      have hq := sized_slice hsz (j := 0) (t := 22) (e := 9) rfl rfl Tryd.underlying22
      rw [show Tryd.prog.bytesOf 9 = 16 from by kernel_rfl] at hq
      simp only [reachBytes] at hq
      omega
  clear hA0 hval0
  refine (walk a0 len0 cap0 z0 ⟨w0.1, w0.2.1⟩ sz0 (of_laid hL hsh)).mono fun e W' ⟨he, bel⟩ => ?_
  subst he
  exact ⟨_, rfl, _, _, _, [], _, [], hW', trodAll_mk1 (shut_bool Tryd.underlying4 _), (trodAll_cons_mk (Below.trod laidOut (by kernel_rfl) (of_decide_eq_true (by kernel_rfl)) k0 bel lt0) trodAll_mk0), rfl, bel.frame _, fun h => by cases h⟩

theorem over : Rows.HuntChunksSaid :=
  OpenClaim.holds_of_wide 4 Tryd.f4 rfl rfl rfl rfl rfl rfl rfl ⟨rfl, rfl, rfl, rfl, rfl⟩ rfl rfl rfl rfl rfl (by kernel_rfl) Tryd.func4 (by kernel_rfl)
    (of_decide_eq_true (by kernel_rfl)) (by unfold Func.isWrapper; first | (rw [if_pos (by decide +kernel)]; kernel_rfl) | (rw [if_neg (by decide +kernel)]; exact ⟨rfl, rfl⟩))
    (fun os started H enc _ => lifted os started H enc)

theorem proved : Rows.HuntChunksCardSaid :=
  Claim7.holds_tied_plain_at .later [] _ true _ false over (fun _ h => by cases h) (by kernel_rfl) (fun _ h => by cases h) huntChunks_row_tie rfl ⟨rfl, rfl⟩ (by kernel_rfl) rfl
    (fun f fn hf hfn => by
      obtain rfl : f = 4 := Option.some.inj ((show Tryd.prog.funcNamed "taffrail/taffraillaw09.HuntChunks" = some 4 by kernel_rfl).symm.trans hf) |>.symm
      obtain rfl : fn = Tryd.f4 := (Option.some.inj (Tryd.func4.symm.trans hfn)).symm
      refine ⟨by kernel_rfl, fun j t ht => ?_⟩
      rw [Tryd.params4] at ht
      have hm : t ∈ [22] := by simpa using Array.mem_of_getElem? ht
      have hall : ([22].all fun u => !Tryd.prog.wantsStandIn u) = true := by kernel_rfl
      exact (show Tryd.prog.wantsStandIn t = false by simpa using List.all_eq_true.1 hall t hm))
    (by kernel_rfl)
#print axioms proved

end Go.Proofs.YtobioiicbdhboaaDoor.HuntChunks
