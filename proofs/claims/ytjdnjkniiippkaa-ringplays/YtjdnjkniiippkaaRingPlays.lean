/-
  RingPlays is true for every input: in every order of calls a ring answers as the document says, and holds what it says. No condition.
-/
import Derived.Test.YtjdnjkniiippkaaRi13
import Derived.ProofKit
import Derived.OpenShut
import Derived.ShutString
import Derived.HandedShaped
import Derived.Deep.DeepCutAuto
import Derived.Deep.RegionWith
namespace Go.Proofs.Ytjdnjkniiippkaa.ringPlays
open Go.ChangeShapes Go.WideShapes Go.ChangeAt Go.RowKit
open Go.ChangeMaps (open_string shut_string)
set_option linter.unusedVariables false

set_option maxRecDepth 100000 in
set_option maxHeartbeats 1000000 in
theorem walk_bad (cap pol : Int) (x : Value) (h : cap < 179 ∨ 1048576 < cap ∨ (pol ≠ 0 ∧ pol ≠ 1)) (w : World) :
    Calls Try.prog 3 #[.int .i64 cap, .int .i64 pol, x] w fun e w' => e = .returned (.bool true) ∧ Below w.heap.size w w' := by
  have HN := Lib.hid (rg_new_bad w cap pol h)
  have hcs : decide (cap < 179) = true ∨ (decide (cap < 179) = false ∧ (decide (1048576 < cap) = true ∨ (decide (1048576 < cap) = false ∧ (pol != 0) = true ∧ (pol != 1) = true))) := by
    simp
    omega
  clear h
  rcases hcs with h1 | ⟨h1, h2 | ⟨h2, h3, h4⟩⟩
  all_goals
    go_enter Try.func3, Try.ntmps3
    go_wp2_with fail
    refine HN.out.mono ?_
    rintro e w1 ⟨rfl, rfl⟩
    go_wp2_with fail
    refine (awake8_any _).mono ?_
    rintro e w1 ⟨rfl, b1⟩
    go_wp2_with fail
    go_ret
    exact ⟨rfl, b1⟩

set_option maxRecDepth 100000 in
set_option maxHeartbeats 1000000 in
theorem walk_long (cap pol : Int) (hc : 179 ≤ cap) (hc' : cap ≤ 1048576) (hp : pol = 0 ∨ pol = 1) (ao : Option Addr) (len cp : Nat) (f : Nat → Int × Int × ByteArray) (hl : len * 32 ≤ 140737488351232) (hm : muchB len f = true) (w : World) (hs : SeenOps w ao len cp f) :
    Calls Try.prog 3 #[.int .i64 cap, .int .i64 pol, .slice ao len cp] w fun e w' => e = .returned (.bool true) ∧ Below w.heap.size w w' := by
  have HN := Lib.hid (rg_new w cap pol hc hc' hp)
  have HG := Lib.hid (fun w1 (hb : Below w.heap.size w w1) => great_any ao len cp f hl w1 (hs.below hb))
  rw [hm] at HG
  have h1 : decide (cap < 179) = false := by simp; omega
  have h2 : decide (1048576 < cap) = false := by simp; omega
  have hcs : (pol != 0) = false ∨ ((pol != 0) = true ∧ (pol != 1) = false) := by
    rcases hp with rfl | rfl
    · exact .inl rfl
    · exact .inr ⟨rfl, rfl⟩
  clear hs hm hp
  rcases hcs with h3 | ⟨h3, h4⟩
  all_goals
    go_enter Try.func3, Try.ntmps3
    go_wp2_with fail
    refine HN.out.mono ?_
    rintro e w1 ⟨rfl, hw1⟩
    have b1 : Below w.heap.size w w1 := by rw [hw1]; exact (Below.refl _ _).alloc (Nat.le_refl _) _
    clear hw1
    go_wp2_with fail
    refine (awake8_any _).mono ?_
    rintro e w2 ⟨rfl, b2⟩
    have b3 := b1.trans (b2.mono b1.size)
    go_wp2_with fail
    refine (HG.out _ b3).mono ?_
    rintro e w4 ⟨rfl, b4⟩
    go_wp2_with fail
    go_ret
    exact ⟨rfl, b3.trans (b4.mono b3.size)⟩

set_option maxRecDepth 100000 in
set_option maxHeartbeats 8000000 in
theorem walk_short (cap pol : Nat) (hc : 179 ≤ cap) (hc' : cap ≤ 1048576) (hp : pol = 0 ∨ pol = 1) (ao : Option Addr) (len cp : Nat) (f : Nat → Int × Int × ByteArray) (hl : len ≤ 300) (hft : tot f len ≤ 32768) (hm : muchB len f = false) (w : World) (hs : SeenOps w ao len cp f) :
    Calls Try.prog 3 #[.int .i64 cap, .int .i64 pol, .slice ao len cp] w fun e w' => e = .returned (.bool true) ∧ Below w.heap.size w w' := by
  have HN := Lib.hid (rg_new w cap pol (by omega) (by omega) (by omega))
  have HG := Lib.hid (fun w1 (hb : Below w.heap.size w w1) => great_any ao len cp f (by omega) w1 (hs.below hb))
  rw [hm] at HG
  have HS := Lib.hid hs
  have h1 : decide ((cap : Int) < 179) = false := by simp; omega
  have h2 : decide ((1048576 : Int) < (cap : Int)) = false := by simp; omega
  have hcs : ((pol : Int) != 0) = false ∨ (((pol : Int) != 0) = true ∧ ((pol : Int) != 1) = false) := by
    rcases hp with rfl | rfl
    · exact .inl rfl
    · exact .inr ⟨rfl, rfl⟩
  have HOK := Lib.hid (ok_new cap pol hc hc' hp)
  clear hs hm hp
  go_enter Try.func3, Try.ntmps3
  go_wp2_with fail
  refine HN.out.mono ?_
  rintro e w1 ⟨rfl, hw1⟩
  have r1 : RB w w1 w.heap.size (.slice none 0 0) ⟨cap, pol, [], false, 0, []⟩ := by
    rw [hw1]
    exact ⟨ring_new w cap pol, HOK.out, (Below.refl _ _).alloc (Nat.le_refl _) _, Nat.le_refl _, fun k hk => by cases hk⟩
  have R1 := Lib.hid r1
  clear hw1 r1 HN
  go_upto_region 2 with fail
  go_cut [9] (fun c wx => c = .bool false ∧ wx = w1)
  case first =>
    rcases hcs with h3 | ⟨h3, h4⟩
    all_goals
      go_wp2_with fail
      go_meet
      exact ⟨rfl, rfl⟩
  case rest =>
  obtain ⟨rfl, hwc⟩ := hcut
  have hwc' := hwc.symm
  subst hwc'
  clear hcs hwc
  go_wp2_with fail
  refine (awake8_any _).mono ?_
  rintro e w2 ⟨rfl, b2⟩
  have r2 := R1.out.kept b2
  have R2 := Lib.hid r2
  clear b2 r2 R1
  go_wp2_with fail
  refine (HG.out _ R2.out.below).mono ?_
  rintro e w3 ⟨rfl, b3⟩
  have r3 := both_new (R2.out.kept b3) cap pol HOK.out
  have R3 := Lib.hid r3
  clear b3 r3 R2 HG
  go_wp2_with fail
  go_loopw [66] (fun i wr => ∃ (k : Nat) (v vl vg : Value) (s : RSt), k ≤ len ∧ i = .int .i64 k ∧ Both w wr w.heap.size v w3.heap.size vl vg s s ∧ Cnt s k (tot f k)) (fun i _ => len - (intOf i).toNat)
  case atStart => exact ⟨0, _, _, _, _, Nat.zero_le _, rfl, R3.out, cnt_new cap pol⟩
  case round =>
    clear R3
    obtain ⟨k, v, vl, vg, s, hk, rfl, hB, hC⟩ := hrel
    by_cases hlt : k < len
    · obtain ⟨b, off, hao, hbw, hcell⟩ := HS.out.row k hlt
      subst hao
      obtain ⟨h0, h1', h2'⟩ := hcell k hlt
      have c0 := (hB.rb.below.cell (p := ⟨b, off + k * 3, none⟩) hbw).trans h0
      have c1 := (hB.rb.below.cell (p := ⟨b, off + k * 3 + 1, none⟩) hbw).trans h1'
      have c2 := (hB.rb.below.cell (p := ⟨b, off + k * 3 + 2, none⟩) hbw).trans h2'
      have htx := one_small f len k hlt hft
      have hnb := HS.out.nb k
      have htot : tot f (k + 1) = tot f k + min (f k).2.2.size 65536 := rfl
      have htot2 : tot f (k + 1) = tot f k + (f k).2.2.size := by omega
      have Htot := Lib.hid htot2
      clear hcell h0 h1' h2' htot htot2
      generalize (f k).1 = kd at *
      generalize (f k).2.1 = n at *
      generalize (f k).2.2 = tx at *
      have HB := Lib.hid (fun kd : Int => hB.alloc (.cells #[.int .i64 kd, .int .i64 n, .string tx] 35))
      have HC := Lib.hid hC
      have hcl := hC.fr
      have hcg := hC.go
      have hbl : w.heap.size < wr.heap.size := Rg.lt hB.rb.ring
      have hml : w3.heap.size < wr.heap.size := hB.mt.lt
      have hvl := hB.rb.ring.row.lt
      have HVL := Lib.hid hvl
      clear hB hC hvl
      rcases (show kd = 1 ∨ kd = 2 ∨ (kd ≠ 1 ∧ kd ≠ 2) from by omega) with hkd | hkd | hkd
      · subst hkd
        have B1 := Lib.hid (HB.out 1)
        clear HB
        go_upto_region 13 with fail
        go_cut [82] (fun c wx => c = .bool false ∧ ∃ v' vl' vg', Both w wx w.heap.size v' w3.heap.size vl' vg' (s.put tx).2 (s.put tx).2)
        case first =>
          have hp1 := rg_put (B1.out.drewN 1).rb.ring (B1.out.drewN 1).rb.ok tx (by unfold maxLen; omega) (by omega)
          have HP1 := Lib.hid hp1
          have hO : (wr.alloc (.cells #[.int .i64 1, .int .i64 n, .string tx] 35)).cell? ⟨wr.heap.size, 2, none⟩ = some (.string tx) := by simp
          have HO := Lib.hid hO
          clear hp1 hO
          go_region_with (first
            | (go_at_call 11; refine HP1.out.mono ?_; rintro e w5 ⟨rfl, v5, r5, t5⟩; have x2 : w5.cell? ⟨wr.heap.size, 2, none⟩ = some (.string tx) := t5.1.cell HO.out (fun hS => by rcases hS with e | e; { simp at e; omega }; { have := HVL.out _ e; simp at this }); have B5 := Lib.hid ((B1.out.drewN 1).ring r5 (RSt.ok_put (B1.out.drewN 1).rb.ok tx) t5); clear r5 t5)
            | (go_at_call 12; refine (mt_put B5.out.mt B5.out.ok2 tx (by unfold maxLen; omega) (by omega) (by omega)).mono ?_; rintro e w6 ⟨rfl, vl6, vg6, m6, t6⟩; have B6 := Lib.hid (B5.out.ref m6 (RSt.ok_put B5.out.ok2 tx) t6); clear m6 t6))
          all_goals
            go_wp2_with fail
            go_meet
            exact ⟨by simp, _, _, _, B6.out⟩
        case rest =>
        obtain ⟨rfl, v', vl', vg', hB2⟩ := hcut
        have A2 := Lib.hid (alike_any hB2.rb.ring hB2.mt hB2.ok2)
        have B2 := Lib.hid hB2
        clear hB2 c0 c1 c2
        go_wp2_with fail
        refine A2.out.mono ?_
        rintro e w6 ⟨rfl, q, rfl⟩
        have HN := Lib.hid (B2.out.drewN q)
        have HC2 := Lib.hid (HC.out.put tx)
        rw [← Htot.out] at HC2
        go_wp2_with fail
        go_roundw
        case rel =>
          first
            | exact ⟨k + 1, _, _, _, _, hlt, by go_num, HN.out, HC2.out⟩
            | ((repeat apply Exists.intro); exact ⟨⟨hlt, by go_num, HN.out, HC2.out⟩, rfl⟩)
        case measure => simp [intOf]; omega
      · subst hkd
        have B1 := Lib.hid (HB.out 2)
        clear HB
        go_upto_region 16 with fail
        go_cut [93] (fun c wx => c = .bool false ∧ ∃ v' vl' vg', Both w wx w.heap.size v' w3.heap.size vl' vg' (s.drain n.toNat) (s.drain n.toNat))
        case first =>
          have hp1 := rg_drain (B1.out.drewN 1).rb.ring (B1.out.drewN 1).rb.ok n n.toNat rfl hnb
          have HP1 := Lib.hid hp1
          have hO : (wr.alloc (.cells #[.int .i64 2, .int .i64 n, .string tx] 35)).cell? ⟨wr.heap.size, 1, none⟩ = some (.int .i64 n) := by simp
          have HO := Lib.hid hO
          clear hp1 hO
          go_region_with (first
            | (go_at_call 13; refine HP1.out.mono ?_; rintro e w5 ⟨rfl, v5, r5, t5, -⟩; have x2 : w5.cell? ⟨wr.heap.size, 1, none⟩ = some (.int .i64 n) := t5.1.cell HO.out (fun hS => by rcases hS with e | e; { simp at e; omega }; { have := HVL.out _ e; simp at this }); have B5 := Lib.hid ((B1.out.drewN 1).ring r5 (RSt.ok_drain (B1.out.drewN 1).rb.ok n.toNat) t5); clear r5 t5)
            | (go_at_call 14; refine (mt_drain B5.out.mt B5.out.ok2 n n.toNat rfl hnb).mono ?_; rintro e w6 ⟨rfl, vl6, m6, t6⟩; have B6 := Lib.hid (B5.out.ref m6 (RSt.ok_drain B5.out.ok2 n.toNat) t6); clear m6 t6))
          all_goals
            go_wp2_with fail
            go_meet
            exact ⟨by simp, _, _, _, B6.out⟩
        case rest =>
        obtain ⟨rfl, v', vl', vg', hB2⟩ := hcut
        have A2 := Lib.hid (alike_any hB2.rb.ring hB2.mt hB2.ok2)
        have B2 := Lib.hid hB2
        clear hB2 c0 c1 c2
        go_wp2_with fail
        refine A2.out.mono ?_
        rintro e w6 ⟨rfl, q, rfl⟩
        have HN := Lib.hid (B2.out.drewN q)
        have HC2 := Lib.hid ((HC.out.drain n.toNat).more (show k ≤ k + 1 by omega) (show tot f k ≤ tot f (k + 1) by rw [Htot.out]; omega))
        go_wp2_with fail
        go_roundw
        case rel =>
          first
            | exact ⟨k + 1, _, _, _, _, hlt, by go_num, HN.out, HC2.out⟩
            | ((repeat apply Exists.intro); exact ⟨⟨hlt, by go_num, HN.out, HC2.out⟩, rfl⟩)
        case measure => simp [intOf]; omega
      · have e1 : (kd == 1) = false := by simp; omega
        have e2 : (kd == 2) = false := by simp; omega
        have B1 := Lib.hid (HB.out kd)
        have A2 := Lib.hid (alike_any B1.out.rb.ring B1.out.mt B1.out.ok2)
        clear HB hkd
        go_wp2_with fail
        refine A2.out.mono ?_
        rintro e w6 ⟨rfl, q, rfl⟩
        have HN := Lib.hid (B1.out.drewN q)
        have HC2 := Lib.hid (HC.out.more (show k ≤ k + 1 by omega) (show tot f k ≤ tot f (k + 1) by rw [Htot.out]; omega))
        go_wp2_with fail
        go_roundw
        case rel =>
          first
            | exact ⟨k + 1, _, _, _, _, hlt, by go_num, HN.out, HC2.out⟩
            | ((repeat apply Exists.intro); exact ⟨⟨hlt, by go_num, HN.out, HC2.out⟩, rfl⟩)
        case measure => simp [intOf]; omega
    · have hkl : k = len := by omega
      subst hkl
      have HB := Lib.hid hB.rb.below
      clear hB hC HS
      go_wp2_with fail
      go_ret
      exact ⟨rfl, HB.out⟩

theorem walk {w : World} (cap : Int) (wc : (Lit.int .i64 cap).wf = true) (pol : Int) (wp : (Lit.int .i64 pol).wf = true) (ao : Option Addr) (len cp : Nat) (f : Nat → Int × Int × ByteArray) (h0 : SeenOps w ao len cp f ∧ True) (hl : len * 32 ≤ 140737488351232) :
    Calls Try.prog 3 #[.int .i64 cap, .int .i64 pol, .slice ao len cp] w fun e w' => e = .returned (.bool true) ∧ Below w.heap.size w w' := by
  by_cases hb : cap < 179 ∨ 1048576 < cap ∨ (pol ≠ 0 ∧ pol ≠ 1)
  · exact walk_bad cap pol _ hb w
  · cases hm : muchB len f with
    | true => exact walk_long cap pol (by omega) (by omega) (by omega) ao len cp f hl hm w h0.1
    | false =>
      have hm' := hm
      unfold muchB at hm'
      simp at hm'
      obtain ⟨c, rfl⟩ := Int.eq_ofNat_of_zero_le (show 0 ≤ cap by omega)
      obtain ⟨p, rfl⟩ := Int.eq_ofNat_of_zero_le (show 0 ≤ pol by omega)
      exact walk_short c p (by omega) (by omega) (by omega) ao len cp f (by omega) (by omega) hm w h0.1

theorem own : ownKnob Try.prog.godebug = none := by kernel_rfl
theorem laidOut : laidOutB Try.prog = true := by kernel_rfl

set_option maxRecDepth 100000 in
theorem lifted (os : Os) (started : os.Started) (H : Type) (enc : TypeId × Value → H) :
    ReturnsInHanded {} Try.checked os 3 .any (Rows.ringPlaysSpec.pre6 enc Try.prog Try.f3 Rows.ringPlaysRow.domain false) (Rows.ringPlaysSpec.post enc Try.prog Try.f3 false true false false) := by
  refine returnsInHanded_of_change_shaped (C := Try.checked) own started (by kernel_rfl) Try.func3
    (ChangeSpec.witness6 (enc := enc) (C := Try.checked) false ⟨#[], #[.int .i64 0, .int .i64 0, .slice none 0 0], []⟩ 8 (by kernel_rfl) (by kernel_rfl) (by kernel_rfl) (by kernel_rfl)) ?_
  intro W base args ds gs before hval0 hW hcnd hsz0 hsh _
  have hval : ∀ (j : Nat) t v, Try.f3.params[j]? = some t → args[j]? = some v → Value.okWide Try.prog W .any base t v := hval0
  have hsz : (DataW.weightsEach Try.prog (Try.f3.params.toList ++ Rows.ringPlaysSpec.plain.varTypes Try.prog) (ds ++ gs)).all (· ≤ reachBytes) = true := hsz0
  have hW' := hW
  obtain ⟨p, q, hA0, hV, rfl, hfz, hnd⟩ := hW
  have hA : DataW.TrodAll enc Try.prog W 0 (fun _ => true) true Try.f3.params.toList args.toList ds p := hA0
  rw [Try.params3] at hA hval hsz
  obtain ⟨v0, vs0, d0, ds0, p0, q0, hargs, rfl, rfl, h0, r0⟩ := trodAll_cons hA
  obtain ⟨v1, vs1, d1, ds1, p1, q1, rfl, rfl, rfl, h1, r1⟩ := trodAll_cons r0
  obtain ⟨v2, vs2, d2, ds2, p2, q2, rfl, rfl, rfl, h2, r2⟩ := trodAll_cons r1
  obtain ⟨rfl, rfl, rfl⟩ := trodAll_nil r2
  obtain rfl : args = #[v0, v1, v2] := by cases args; simp_all
  obtain ⟨rfl, rfl⟩ := trodVars_none hV
  have k0 := h0
  have lt0 : ∀ x ∈ p0, x.block < W.heap.size := by obtain ⟨m, hm⟩ := k0; exact DataW.trod_lt m _ _ _ hm
  have k1 := h1
  have lt1 : ∀ x ∈ p1, x.block < W.heap.size := by obtain ⟨m, hm⟩ := k1; exact DataW.trod_lt m _ _ _ hm
  have k2 := h2
  have lt2 : ∀ x ∈ p2, x.block < W.heap.size := by obtain ⟨m, hm⟩ := k2; exact DataW.trod_lt m _ _ _ hm
  obtain ⟨a0, rfl, rfl, rfl, w0⟩ := open_int Try.underlying3 (hval 0 3 v0 rfl rfl) h0
  obtain ⟨a1, rfl, rfl, rfl, w1⟩ := open_int Try.underlying3 (hval 1 3 v1 rfl rfl) h1
  obtain ⟨a2, len2, cap2, rfl⟩ := okWide_slice Try.underlying22 (hval 2 22 v2 rfl rfl)
  obtain ⟨z2, w2⟩ := open_ops h2
  have sz2 : len2 * 32 ≤ 140737488351232 := by
    rcases w2.2.2 with h | ⟨el, sp, hd, hl⟩
    · omega
    · rw [hd] at hsz
      have hq := sized_slice hsz (j := 2) (t := 22) (e := 35) rfl rfl Try.underlying22
      rw [show Try.prog.bytesOf 35 = 32 from by kernel_rfl] at hq
      simp only [reachBytes] at hq
      omega
  clear hA0 hval0
  refine (walk a0 w0 a1 w1 a2 len2 cap2 z2 ⟨w2.1, w2.2.1⟩ sz2 ).mono fun e W' ⟨he, bel⟩ => ?_
  subst he
  exact ⟨_, rfl, _, _, _, [], _, [], hW', trodAll_mk1 (shut_bool Try.underlying4 _), (trodAll_cons_mk (Below.trod laidOut (by kernel_rfl) (of_decide_eq_true (by kernel_rfl)) k0 bel lt0) (trodAll_cons_mk (Below.trod laidOut (by kernel_rfl) (of_decide_eq_true (by kernel_rfl)) k1 bel lt1) (trodAll_cons_mk (Below.trod laidOut (by kernel_rfl) (of_decide_eq_true (by kernel_rfl)) k2 bel lt2) trodAll_mk0))), rfl, bel.frame _, fun h => by cases h⟩

theorem over : Rows.ringPlaysRow.holds Try.pinned (OpenSpec.ofChange Rows.ringPlaysSpec) :=
  OpenClaim.holds_of_wide 3 Try.f3 rfl rfl rfl rfl rfl rfl rfl ⟨rfl, rfl, rfl, rfl, rfl⟩ rfl rfl rfl rfl rfl (by kernel_rfl) Try.func3 (by kernel_rfl)
    (of_decide_eq_true (by kernel_rfl)) (by unfold Func.isWrapper; first | (rw [if_pos (by decide +kernel)]; kernel_rfl) | (rw [if_neg (by decide +kernel)]; exact ⟨rfl, rfl⟩))
    (fun os started H enc _ => lifted os started H enc)

theorem proved : Rows.RingPlaysSaid :=
  over
#print axioms proved
end Go.Proofs.Ytjdnjkniiippkaa.ringPlays
