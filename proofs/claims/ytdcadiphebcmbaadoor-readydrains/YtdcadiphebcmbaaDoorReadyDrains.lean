/-
  ReadyDrains: for all lists of tasks and levels the statement's function answers true: taken from the front, one by one, tasks come by rising levels, and those of a level in the order in which they were put there. Conditions: none beyond the card's own: the listed package variables start as the program's text lays them, which the card ties to that text.
-/
import Derived.Test.YtdcadiphebcmbaaDoorRy17
import Derived.Test.YtdcadiphebcmbaaDoorRy16
import Derived.Test.YtdcadiphebcmbaaDoorTie
import Derived.Test.YtdcadiphebcmbaaDoorCards
import Derived.ProofKit
import Derived.OpenShut
import Derived.ShutString
import Derived.LaidMore
import Derived.Lay
import Derived.SevenTiedAt
import Derived.Stop.Joined
import Derived.Deep.DeepHandedRow
import Derived.BigRegion
import Derived.Deep.RegionWith
import Derived.Deep.DeepCutAuto
namespace Go.Proofs.YtdcadiphebcmbaaDoor.ReadyDrains
open Go.ChangeShapes Go.WideShapes Go.ChangeAt Go.RowKit
open Go.ChangeMaps (open_string shut_string)
set_option linter.unusedVariables false
set_option linter.unusedSimpArgs false

set_option maxRecDepth 100000 in
set_option maxHeartbeats 16000000 in
theorem walk_long {w : World} (ao : Option Addr) (cap : Nat) (l : List Int) (bo : Option Addr) (bc : Nat) (k : List Int) (hl : 100 < l.length ∨ 100 < k.length) (hT : TabL w) : Calls Tryd.prog 4 #[.slice ao l.length cap, .slice bo k.length bc] w fun e w' => e = .returned (.bool true) ∧ Below w.heap.size w w' := by
  have HA := Lib.hid (fun w' h => awake14_any w' (hT.below h))
  have hcs : decide ((100 : Int) < (l.length : Int)) = true ∨ (decide ((100 : Int) < (l.length : Int)) = false ∧ decide ((100 : Int) < (k.length : Int)) = true) := by
    simp; omega
  clear hT hl
  rcases hcs with h1 | ⟨h1, h2⟩
  all_goals
    go_enter Tryd.func4, Tryd.ntmps4
    go_wp2_with fail
    refine (HA.out w (Below.refl _ _)).mono ?_
    rintro e w1 ⟨rfl, h⟩
    have B1 := Lib.hid h
    clear h
    go_wp2_with fail
    refine (HA.out w1 B1.out).mono ?_
    rintro e w2 ⟨rfl, h⟩
    have B2 := Lib.hid (below_on B1.out h)
    clear h
    go_wp2_with fail
    go_ret
    exact ⟨rfl, B2.out⟩

set_option maxRecDepth 100000 in
set_option maxHeartbeats 16000000 in
theorem walk_short {w : World} (ao : Option Addr) (cap : Nat) (l : List Int) (hs : SeenZ w ao cap l) (bo : Option Addr) (bc : Nat) (k : List Int) (hk : SeenZ w bo bc k) (hl : l.length ≤ 100) (hl2 : k.length ≤ 100) (hT : TabL w) : Calls Tryd.prog 4 #[.slice ao l.length cap, .slice bo k.length bc] w fun e w' => e = .returned (.bool true) ∧ Below w.heap.size w w' := by
  have HA := Lib.hid (awake14_any w hT)
  have hd : decide ((100 : Int) < (l.length : Int)) = false := by simp <;> omega
  have hd2 : decide ((100 : Int) < (k.length : Int)) = false := by simp <;> omega
  have HS := Lib.hid hs
  have HK := Lib.hid hk
  have HT := Lib.hid hT
  obtain ⟨Z, hZ, hz⟩ := zero_q
  obtain ⟨Y, hY, hy⟩ := zero_64
  have HZ := Lib.hid hZ
  have HY := Lib.hid hY
  clear hs hk hT hZ hY
  obtain ⟨M, hM⟩ : ∃ M, l.length = M := ⟨_, rfl⟩
  obtain ⟨M2, hM2⟩ : ∃ M2, k.length = M2 := ⟨_, rfl⟩
  rw [hM] at hl hd
  rw [hM2] at hl2 hd2
  simp only [hM, hM2]
  have HM := Lib.hid hM
  have HM2 := Lib.hid hM2
  clear hM hM2
  go_enter Tryd.func4, Tryd.ntmps4
  go_wp2_with fail
  refine HA.out.mono ?_
  rintro e w1 ⟨rfl, h⟩
  have B1 := Lib.hid h
  clear h
  obtain ⟨w2, e2⟩ : ∃ w2, w2 = w1.alloc (.cells Z 31) := ⟨_, rfl⟩
  obtain ⟨w3, e3⟩ : ∃ w3, w3 = w2.alloc (.cells Y 46) := ⟨_, rfl⟩
  obtain ⟨w4, e4⟩ : ∃ w4, w4 = w3.alloc (.cells Y 46) := ⟨_, rfl⟩
  obtain ⟨s2, -, b2⟩ := new_size e2
  obtain ⟨s3, -, b3⟩ := new_size e3
  obtain ⟨s4, -, b4⟩ := new_size e4
  obtain ⟨B, hB⟩ : ∃ B, w1.heap.size = B := ⟨_, rfl⟩
  obtain ⟨C, hC⟩ : ∃ C, B + 1 = C := ⟨_, rfl⟩
  obtain ⟨D, hD⟩ : ∃ D, C + 1 = D := ⟨_, rfl⟩
  have hQ2 := oq_new (HT.out.below B1.out) e2 (HZ.out w1)
  have hX3 := HY.out w2
  have hY4 := HY.out w3
  rw [← e3] at hX3
  rw [← e4] at hY4
  rw [s2, hB, hC] at hX3
  rw [s3, s2, hB, hC, hD] at hY4
  rw [hB] at hQ2
  have T4 := Lib.hid (show DR w1 w4 B C D (fun _ => []) (fun _ => 0) (fun _ => 0) from ⟨(hQ2.kept b3).kept b4, hX3.below b4, hY4, by omega, by omega, by omega, by omega, by omega⟩)
  have HB := Lib.hid hB
  have HC := Lib.hid hC
  have HD := Lib.hid hD
  clear s2 s3 s4 b2 b3 b4 hQ2 hX3 hY4 hB hC hD
  go_upto_region 6 with fail
  rw [← e2, ← e3, ← e4, HB.out, HC.out, HD.out]
  clear e2 e3 e4 hz hy
  go_wp2_with fail
  go_loopw [32] (fun i wr => ∃ (j : Nat) (r : Rws) (inn att : Nat → Int), j ≤ M ∧ i = .int .i64 j ∧ DR w1 wr B C D r inn att ∧ Came inn att j r) (fun i _ => M - (intOf i).toNat)
  case atStart => exact ⟨0, _, _, _, Nat.zero_le _, rfl, T4.out, came_new⟩
  case round =>
    clear T4 HZ HY
    obtain ⟨j, r, inn, att, hj, rfl, hT4, hcame⟩ := hrel
    have T4 := Lib.hid hT4
    have HCA := Lib.hid hcame
    clear hT4 hcame
    by_cases hlt : j < M
    · obtain ⟨b0, off, rfl, hb0, c0⟩ := seenZ_at (HS.out.below (below_on B1.out T4.out.q.bel)) j (by rw [HM.out]; exact hlt)
      generalize (l[j]'(by rw [HM.out]; exact hlt)) = t at *
      obtain ⟨lv, hlv⟩ : ∃ lv : Int, lv = if h : j < M2 then (k[j]'(by rw [HM2.out]; exact h)) else 0 := ⟨_, rfl⟩
      have HLV := Lib.hid hlv
      clear hlv
      go_upto_if 40 with fail
      go_cut [10] (fun v wx => v = .int .i64 lv ∧ wx = wr)
      case first =>
        by_cases h2 : j < M2
        · have hlv := HLV.out
          rw [dif_pos h2] at hlv
          obtain ⟨b9, off9, rfl, hb9, c9⟩ := seenZ_at (HK.out.below (below_on B1.out T4.out.q.bel)) j (by rw [HM2.out]; exact h2)
          rw [← hlv] at c9
          clear hlv
          go_wp2_with fail
          go_meet
          exact ⟨rfl, rfl⟩
        · have hlv := HLV.out
          rw [dif_neg h2] at hlv
          subst hlv
          have h3 : decide ((j : Int) < (M2 : Int)) = false := by simp <;> omega
          clear HLV
          go_wp2_with fail
          go_meet
          exact ⟨rfl, rfl⟩
      case rest =>
      obtain ⟨rfl, hwc⟩ := hcut
      have hwc' := hwc.symm
      subst hwc'
      clear HLV c0
      have KP := Lib.hid (put_any T4.out.q.q t lv)
      cases hp : rput r t lv with
      | none =>
        rw [hp] at KP
        have HCA2 := Lib.hid HCA.out.next
        have HN := Lib.hid (show ((j : Int) + 1 : Int) = ((j + 1 : Nat) : Int) by omega)
        clear hp
        go_wp2_with fail
        refine KP.out.mono ?_
        rintro e w5 ⟨rfl, q5, f5⟩
        have T5 := Lib.hid (T4.out.code q5 f5)
        clear q5 f5
        go_wp2_with fail
        go_roundw
        case rel => exact ⟨j + 1, r, inn, att, hlt, by go_num, T5.out, by rw [← HN.out]; exact HCA2.out⟩
        case measure => simp [intOf]; omega
      | some r' =>
        rw [hp] at KP
        have hcn : 0 ≤ t ∧ t ≤ 63 ∧ 0 ≤ lv ∧ lv ≤ 31 ∧ at? r t = none ∧ r' = pushR r lv.toNat t.toNat := by
          unfold rput at hp
          split at hp
          · rename_i hc
            exact ⟨hc.1, hc.2.1, hc.2.2.1, hc.2.2.2.1, hc.2.2.2.2, (Option.some.inj hp).symm⟩
          · cases hp
        obtain ⟨g1, g2, g3, g4, g5, rfl⟩ := hcn
        obtain ⟨n, rfl⟩ := Int.eq_ofNat_of_zero_le g1
        obtain ⟨q, rfl⟩ := Int.eq_ofNat_of_zero_le g3
        rw [Int.toNat_natCast, Int.toNat_natCast] at KP
        have hno := at?_nowhere T4.out.q.q.ok g5
        have hn64 : n < 64 := by omega
        have hin := HCA.out.no n hn64 hno
        have HCA2 := Lib.hid (HCA.out.put (by omega) (l := q) hno)
        have HN := Lib.hid (show ((j : Int) + 1 : Int) = ((j + 1 : Nat) : Int) by omega)
        have d1 : decide ((n : Int) < 0) = false := by simp <;> omega
        have d2 : decide ((63 : Int) < (n : Int)) = false := by simp <;> omega
        clear hp g1 g2 g3 g4 g5 hno
        go_wp2_with fail
        refine KP.out.mono ?_
        rintro e w5 ⟨rfl, q5, f5⟩
        have t5 := T4.out.code q5 f5
        have T5 := Lib.hid t5
        have x0 := t5.x.cell n hn64
        rw [hin] at x0
        have y0 := t5.y.cell n hn64
        have x1 := t5.x.thawed n
        have y1 := t5.y.thawed n
        have T6 := Lib.hid (t5.setX n ((j : Int) + 1))
        have hCD : C ≠ D := t5.cd
        clear q5 f5 t5 hin
        go_upto_region 15 with fail
        go_cut [] (fun wx => wx = w5.setCell ⟨C, n, none⟩ (.int .i64 ((j : Int) + 1)))
        case first =>
          go_wp2_with fail
          go_meet
          first
            | rfl
            | (congr 2; go_num)
        case rest =>
        obtain ⟨w6, hw6⟩ : ∃ w6, w6 = w5.setCell ⟨C, n, none⟩ (.int .i64 ((j : Int) + 1)) := ⟨_, rfl⟩
        rw [← hw6] at hcut T6
        subst hcut
        clear hw6 x0 y0 x1 y1
        have y0 := T6.out.y.cell n hn64
        have y1 := T6.out.y.thawed n
        have T7 := Lib.hid (T6.out.setY n (q : Int))
        go_wp2_with fail
        go_roundw
        case rel => exact ⟨j + 1, _, _, _, hlt, by go_num, T7.out, by rw [← HN.out]; exact HCA2.out⟩
        case measure => simp [intOf]; omega
    · obtain rfl : j = M := by omega
      have KL := Lib.hid (len_any T4.out.q.q)
      obtain ⟨N, hN⟩ : ∃ N, rlen r = N := ⟨_, rfl⟩
      have hN64 : N ≤ 64 := by
        obtain ⟨s, _, hh⟩ := T4.out.q.q.st
        rw [← hN]; exact rlen_le hh T4.out.q.q.ok
      rw [hN] at KL
      have HN := Lib.hid hN
      have C2 := Lib.hid HCA.out.two
      clear hN
      go_wp2_with fail
      refine KL.out.mono ?_
      rintro e w4 ⟨rfl, rfl⟩
      go_wp2_with fail
      go_loopw [11, 71] (fun v i wr => ∃ (j : Nat) (last : Int) (r : Rws), j ≤ N ∧ i = .int .i64 j ∧ v = .int .i64 last ∧ (last = -1 ∨ (0 ≤ last ∧ last < 64)) ∧ j + rlen r = N ∧ DR w1 wr B C D r inn att ∧ Cam2 inn att r ∧ Behind inn att last r) (fun _ i _ => N - (intOf i).toNat)
      case atStart => exact ⟨0, -1, r, Nat.zero_le _, rfl, rfl, .inl rfl, by rw [Nat.zero_add]; exact HN.out, T4.out, C2.out, fun y hy => by omega⟩
      case round =>
        clear T4 HCA KL HN C2
        obtain ⟨i, last, s, hi, rfl, rfl, hla, hsum, hT5, hcm, hbh⟩ := hrel
        have T5 := Lib.hid hT5
        have HCM := Lib.hid hcm
        have HBH := Lib.hid hbh
        have HLA := Lib.hid hla
        have HSU := Lib.hid hsum
        clear hT5 hcm hbh hla hsum
        by_cases hlt : i < N
        · obtain ⟨lw, x, rest, hlow, hrow⟩ := rlen_pos (r := s) (by have := HSU.out; omega)
          obtain ⟨f1, f2, f3, f4, f5, f6, f7⟩ := take_front T5.out.q.q.ok HCM.out hlow hrow
          have KF := Lib.hid (first_any T5.out.q.q T5.out.q.t)
          rw [show firstV s = .tuple #[.int .i64 (x : Int), .bool true] by unfold firstV; rw [rfirst_of hlow hrow]] at KF
          have KR : ∀ q, Calls Tryd.prog 11 #[.pointer (some ⟨B, 0, none⟩), .int .i64 (x : Int)] (wr.drewN q) fun e w' => e = .returned (.bool true) ∧ DR w1 w' B C D (setR s lw rest) inn att := by
            intro q
            refine (remove_any (T5.out.drewN q).q.q (x : Int)).mono ?_
            rw [f1]
            rintro e w' ⟨rfl, h2, h3⟩
            exact ⟨rfl, (T5.out.drewN q).code h2 h3⟩
          have HKR := Lib.hid KR
          have HF3 := Lib.hid f3
          have HF4 := Lib.hid f4
          have HSU2 := Lib.hid (show (i + 1) + rlen (setR s lw rest) = N by have := HSU.out; omega)
          have c0 := T5.out.x.cell x f7
          have e0 : (inn x == 0) = false := by simp; omega
          have d1 : decide ((x : Int) < 0) = false := by simp <;> omega
          have d2 : decide ((63 : Int) < (x : Int)) = false := by simp <;> omega
          have HX64 := Lib.hid f7
          have HW : Hid ((decide (0 ≤ last) = false) ∨ (∃ y : Nat, last = y ∧ y < 64 ∧ decide (att x < att y) = false ∧ ((att x == att y) = false ∨ ((att x == att y) = true ∧ decide (inn x < inn y) = false)))) := by
            refine Lib.hid ?_
            rcases HLA.out with h | ⟨h1, h2⟩
            · exact .inl (by rw [h]; rfl)
            · obtain ⟨y, rfl⟩ := Int.eq_ofNat_of_zero_le h1
              refine .inr ⟨y, rfl, by omega, ?_⟩
              have hx : x ∈ s lw := by rw [hrow]; simp
              rcases HBH.out y rfl lw x hx with g | ⟨g1, g2⟩
              · exact ⟨by simp; omega, .inl (by simp; omega)⟩
              · exact ⟨by simp; omega, .inr ⟨by simp; omega, by simp; omega⟩⟩
          have HR := Lib.hid (show (x : Int) = -1 ∨ (0 ≤ (x : Int) ∧ (x : Int) < 64) from .inr ⟨by omega, by omega⟩)
          clear hlow hrow f1 f2 f3 f4 f5 f6 KR
          generalize setR s lw rest = s' at *
          go_wp2_with fail
          refine KF.out.mono ?_
          rintro e w6 ⟨rfl, q, rfl⟩
          go_wp2_with fail
          refine (HKR.out q).mono ?_
          rintro e w7 ⟨rfl, h⟩
          have T7 := Lib.hid h
          have z0 := h.x.cell x f7
          have z1 := h.y.cell x f7
          clear h c0 KF HKR
          go_upto_region 24 with fail
          go_cut [126] (fun v wx => v = .bool false ∧ ∃ q, wx = w7.drewN q)
          case first =>
            rcases HW.out with h1 | ⟨y, rfl, hy, h2, h3 | ⟨h3, h4⟩⟩
            · go_quiet (fail)
              go_wp2_with fail
              go_meet
              exact ⟨rfl, _, rfl⟩
            · have z2 := T7.out.x.cell y hy
              have z3 := T7.out.y.cell y hy
              have h1 : decide ((0 : Int) ≤ (y : Int)) = true := by simp
              go_quiet (fail)
              go_wp2_with fail
              go_meet
              exact ⟨rfl, _, rfl⟩
            · have z2 := T7.out.x.cell y hy
              have z3 := T7.out.y.cell y hy
              have h1 : decide ((0 : Int) ≤ (y : Int)) = true := by simp
              go_quiet (fail)
              go_wp2_with fail
              go_meet
              exact ⟨rfl, _, rfl⟩
          case rest =>
          obtain ⟨rfl, q7, hw7⟩ := hcut
          have T8 := Lib.hid (show DR w1 wc B C D s' inn att by rw [hw7]; exact T7.out.drewN q7)
          clear hw7 z0 z1 HW
          go_wp2_with fail
          go_roundw
          case rel => exact ⟨i + 1, (x : Int), s', hlt, by go_num, rfl, HR.out, HSU2.out, T8.out, HF3.out, HF4.out⟩
          case measure => simp [intOf]; omega
        · obtain rfl : i = N := by omega
          have hz0 : rlen s = 0 := by have := HSU.out; omega
          have KF := Lib.hid (first_any T5.out.q.q T5.out.q.t)
          rw [show firstV s = .tuple #[.int .i64 0, .bool false] by unfold firstV; rw [rfirst_none (rlen_zero hz0)]] at KF
          have KL := Lib.hid (fun q => len_any (T5.out.drewN q).q.q)
          rw [hz0] at KL
          clear hz0
          go_wp2_with fail
          refine KF.out.mono ?_
          rintro e w6 ⟨rfl, q, rfl⟩
          go_wp2_with fail
          refine (KL.out q).mono ?_
          rintro e w7 ⟨rfl, hw⟩
          have BF := Lib.hid (show Below w.heap.size w w7 by rw [← hw]; exact below_drewN (below_on B1.out T5.out.q.bel) q)
          clear hw
          go_wp2_with fail
          go_ret
          exact ⟨rfl, BF.out⟩

theorem walk {w : World} (ao : Option Addr) (cap : Nat) (l : List Int) (hs : SeenZ w ao cap l) (_ok : ∀ z ∈ l, (Lit.int .i64 z).wf = true) (bo : Option Addr) (bc : Nat) (k : List Int) (hk : SeenZ w bo bc k) (_ok2 : ∀ z ∈ k, (Lit.int .i64 z).wf = true) (hT : TabL w) : Calls Tryd.prog 4 #[.slice ao l.length cap, .slice bo k.length bc] w fun e w' => e = .returned (.bool true) ∧ Below w.heap.size w w' := by
  by_cases h : 100 < l.length ∨ 100 < k.length
  · exact walk_long ao cap l bo bc k h hT
  · exact walk_short ao cap l hs bo bc k hk (by omega) (by omega) hT

theorem own : ownKnob Tryd.prog.godebug = none := by kernel_rfl
theorem laidOut : laidOutB Tryd.prog = true := by kernel_rfl

set_option maxRecDepth 100000 in
theorem lifted (os : Os) (started : os.Started) (H : Type) (enc : TypeId × Value → H) :
    ReturnsInHanded {} Tryd.checked os 4 .any (fun w args => (Rows.readyDrainsSpec.pre enc Tryd.prog Tryd.f4 Rows.readyDrainsRow.domain false w args ∧ laidMetH Tryd.prog laidL w) ∧ sizedMet enc Tryd.prog Tryd.f4 (OpenSpec.ofChange Rows.readyDrainsSpec) false w args) (Rows.readyDrainsSpec.post enc Tryd.prog Tryd.f4 false true false false) := by
  refine returnsInHanded_of_row (s := OpenSpec.ofChange Rows.readyDrainsSpec) (F := fun _ _ _ => 0) (laid := laidL) (C := Tryd.checked) own started (by kernel_rfl) Tryd.func4
    (ChangeSpec.witness_shaped (enc := enc) (C := Tryd.checked) (os := os) (s := Rows.readyDrainsSpec) (X := fun w _ => laidMetH Tryd.prog laidL w) false (World.laidAll Tryd.prog os laidL) #[.slice none 0 0, .slice none 0 0] 8 (World.laidAll_os _ _ _)
      (World.shaped_of_ZipB (by kernel_rfl) (by kernel_rfl)) (by kernel_rfl) (by kernel_rfl) (by kernel_rfl)
      (by rw [MakeChecks.laidMetH_plain _ _ _ (by kernel_rfl)]; exact laidMet_laidAll _ (by kernel_rfl) (by kernel_rfl))) ?_
  intro W base args ds gs before hval0 hW hcnd _ hsz0 hL hsh _
  have hval : ∀ (j : Nat) t v, Tryd.f4.params[j]? = some t → args[j]? = some v → Value.okWide Tryd.prog W .any base t v := hval0
  have hW' := hW
  obtain ⟨p, q, hA0, hV, rfl, hfz, hnd⟩ := hW
  have hA : DataW.TrodAll enc Tryd.prog W 0 (fun _ => true) true Tryd.f4.params.toList args.toList ds p := hA0
  rw [Tryd.params4] at hA hval
  obtain ⟨v0, vs0, d0, ds0, p0, q0, hargs, rfl, rfl, h0, r0⟩ := trodAll_cons hA
  obtain ⟨v1, vs1, d1, ds1, p1, q1, rfl, rfl, rfl, h1, r1⟩ := trodAll_cons r0
  obtain ⟨rfl, rfl, rfl⟩ := trodAll_nil r1
  obtain rfl : args = #[v0, v1] := by cases args; simp_all
  obtain ⟨rfl, rfl⟩ := trodVars_none hV
  have k0 := h0
  have lt0 : ∀ x ∈ p0, x.block < W.heap.size := by obtain ⟨m, hm⟩ := k0; exact DataW.trod_lt m _ _ _ hm
  have k1 := h1
  have lt1 : ∀ x ∈ p1, x.block < W.heap.size := by obtain ⟨m, hm⟩ := k1; exact DataW.trod_lt m _ _ _ hm
  obtain ⟨a0, len0, cap0, rfl⟩ := okWide_slice Tryd.underlying33 (hval 0 33 v0 rfl rfl)
  obtain ⟨l0, rfl, w0, ok0⟩ := open_zs h0
  obtain ⟨a1, len1, cap1, rfl⟩ := okWide_slice Tryd.underlying33 (hval 1 33 v1 rfl rfl)
  obtain ⟨l1, rfl, w1, ok1⟩ := open_zs h1
  clear hA0 hval0
  refine (walk a0 cap0 l0 w0 ok0 a1 cap1 l1 w1 ok1 (of_laid hL hsh)).mono fun e W' ⟨he, bel⟩ => ?_
  subst he
  exact ⟨_, rfl, _, _, _, [], _, [], hW', trodAll_mk1 (shut_bool Tryd.underlying4 _), (trodAll_cons_mk (Below.trod laidOut (by kernel_rfl) (of_decide_eq_true (by kernel_rfl)) k0 bel lt0) (trodAll_cons_mk (Below.trod laidOut (by kernel_rfl) (of_decide_eq_true (by kernel_rfl)) k1 bel lt1) trodAll_mk0)), rfl, bel.frame _, fun h => by cases h⟩

theorem over : Rows.ReadyDrainsSaid :=
  OpenClaim.holds_of_wide 4 Tryd.f4 rfl rfl rfl rfl rfl rfl rfl ⟨rfl, rfl, rfl, rfl, rfl⟩ rfl rfl rfl rfl rfl (by kernel_rfl) Tryd.func4 (by kernel_rfl)
    (of_decide_eq_true (by kernel_rfl)) (by unfold Func.isWrapper; first | (rw [if_pos (by decide +kernel)]; kernel_rfl) | (rw [if_neg (by decide +kernel)]; exact ⟨rfl, rfl⟩))
    (fun os started H enc _ => lifted os started H enc)

theorem proved : Rows.ReadyDrainsCardSaid :=
  Claim7.holds_tied_plain_at .later [] _ true _ false over (fun _ h => by cases h) (by kernel_rfl) (fun _ h => by cases h) readyDrains_row_tie rfl ⟨rfl, rfl⟩ (by kernel_rfl) rfl
    (fun f fn hf hfn => by
      obtain rfl : f = 4 := Option.some.inj ((show Tryd.prog.funcNamed "taffrail/taffraillaw14.ReadyDrains" = some 4 by kernel_rfl).symm.trans hf) |>.symm
      obtain rfl : fn = Tryd.f4 := (Option.some.inj (Tryd.func4.symm.trans hfn)).symm
      refine ⟨by kernel_rfl, fun j t ht => ?_⟩
      rw [Tryd.params4] at ht
      have hm : t ∈ [33, 33] := by simpa using Array.mem_of_getElem? ht
      have hall : ([33, 33].all fun u => !Tryd.prog.wantsStandIn u) = true := by kernel_rfl
      exact (show Tryd.prog.wantsStandIn t = false by simpa using List.all_eq_true.1 hall t hm))
    (by kernel_rfl)
#print axioms proved

end Go.Proofs.YtdcadiphebcmbaaDoor.ReadyDrains
