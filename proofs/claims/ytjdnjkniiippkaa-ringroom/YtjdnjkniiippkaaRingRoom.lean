/-
  RingRoom is true for every input: never more bytes are held than there is room for; a frame for which there is room is held, and none is lost then. No condition.
-/
import Derived.Test.YtjdnjkniiippkaaRi13
import Derived.ProofKit
import Derived.OpenShut
import Derived.ShutString
import Derived.HandedShaped
import Derived.Deep.DeepCutAuto
import Derived.Deep.RegionWith
namespace Go.Proofs.Ytjdnjkniiippkaa.ringRoom
open Go.ChangeShapes Go.WideShapes Go.ChangeAt Go.RowKit
open Go.ChangeMaps (open_string shut_string)
set_option linter.unusedVariables false

theorem put_cap (s : RSt) (t : ByteArray) : (s.put t).2.cap = s.cap := by
  unfold RSt.put
  split
  · rfl
  · split
    · rfl
    · rfl
theorem put_lost (s : RSt) (t : ByteArray) : s.lost ≤ (s.put t).2.lost := by
  unfold RSt.put
  split
  · exact Nat.le_refl _
  · split
    · show s.lost ≤ s.lost + 1; omega
    · show s.lost ≤ s.lost + _; omega
theorem put_fits {s : RSt} {t : ByteArray} (h1 : 1 ≤ t.size) (h2 : t.size ≤ 179) (h3 : t.size + s.used ≤ s.cap) : s.put t = (0, s.holding t) := by
  unfold RSt.put
  rw [if_neg (by omega), if_neg (by omega), s.shed_fits _ h3, s.losing_zero]
theorem holding_used (s : RSt) (t : ByteArray) : (s.holding t).used = s.used + t.size := by
  show sz (s.fs ++ [t]) = _
  rw [sz_append, sz_one]; rfl

set_option maxRecDepth 100000 in
set_option maxHeartbeats 1000000 in
theorem walk_bad (cap pol : Int) (x : Value) (h : cap < 179 ∨ 1048576 < cap ∨ (pol ≠ 0 ∧ pol ≠ 1)) (w : World) :
    Calls Try.prog 6 #[.int .i64 cap, .int .i64 pol, x] w fun e w' => e = .returned (.bool true) ∧ Below w.heap.size w w' := by
  have HN := Lib.hid (rg_new_bad w cap pol h)
  clear h
  go_enter Try.func6, Try.ntmps6
  go_wp2_with fail
  refine HN.out.mono ?_
  rintro e w1 ⟨rfl, rfl⟩
  go_wp2_with fail
  refine (awake8_any _).mono ?_
  rintro e w1 ⟨rfl, b1⟩
  go_wp2_with fail
  refine (awake8_any _).mono ?_
  rintro e w2 ⟨rfl, b2⟩
  go_wp2_with fail
  go_ret
  exact ⟨rfl, b1.trans (b2.mono b1.size)⟩

set_option maxRecDepth 100000 in
set_option maxHeartbeats 1000000 in
theorem walk_long (cap pol : Int) (hc : 179 ≤ cap) (hc' : cap ≤ 1048576) (hp : pol = 0 ∨ pol = 1) (ao : Option Addr) (len cp : Nat) (f : Nat → Int × Int × ByteArray) (hl : len * 32 ≤ 140737488351232) (hm : muchB len f = true) (w : World) (hs : SeenOps w ao len cp f) :
    Calls Try.prog 6 #[.int .i64 cap, .int .i64 pol, .slice ao len cp] w fun e w' => e = .returned (.bool true) ∧ Below w.heap.size w w' := by
  have HN := Lib.hid (rg_new w cap pol hc hc' hp)
  have HG := Lib.hid (fun w1 (hb : Below w.heap.size w w1) => great_any ao len cp f hl w1 (hs.below hb))
  rw [hm] at HG
  clear hs hm hp
  go_enter Try.func6, Try.ntmps6
  go_wp2_with fail
  refine HN.out.mono ?_
  rintro e w1 ⟨rfl, hw1⟩
  have b1 : Below w.heap.size w w1 := by rw [hw1]; exact (Below.refl _ _).alloc (Nat.le_refl _) _
  clear hw1
  go_wp2_with fail
  refine (awake8_any _).mono ?_
  rintro e w2 ⟨rfl, b2⟩
  have b3 := b1.trans (b2.mono b1.size)
  go_wp2_with fail
  refine (HG.out _ b3).mono ?_
  rintro e w4 ⟨rfl, b4⟩
  have b5 := b3.trans (b4.mono b3.size)
  go_wp2_with fail
  refine (awake8_any _).mono ?_
  rintro e w6 ⟨rfl, b6⟩
  go_wp2_with fail
  go_ret
  exact ⟨rfl, b5.trans (b6.mono b5.size)⟩

/-- The ring at a round. -/
structure Rnd (w wr : World) (v : Value) (s : RSt) (cap k z : Nat) : Prop where
  rb : RB w wr w.heap.size v s
  c : s.cap = cap
  n : Cnt s k z

set_option maxRecDepth 100000 in
set_option maxHeartbeats 8000000 in
theorem walk_short (cap pol : Nat) (hc : 179 ≤ cap) (hc' : cap ≤ 1048576) (hp : pol = 0 ∨ pol = 1) (ao : Option Addr) (len cp : Nat) (f : Nat → Int × Int × ByteArray) (hl : len ≤ 300) (hft : tot f len ≤ 32768) (hm : muchB len f = false) (w : World) (hs : SeenOps w ao len cp f) :
    Calls Try.prog 6 #[.int .i64 cap, .int .i64 pol, .slice ao len cp] w fun e w' => e = .returned (.bool true) ∧ Below w.heap.size w w' := by
  have HN := Lib.hid (rg_new w cap pol (by omega) (by omega) (by omega))
  have HG := Lib.hid (fun w1 (hb : Below w.heap.size w w1) => great_any ao len cp f (by omega) w1 (hs.below hb))
  rw [hm] at HG
  have HS := Lib.hid hs
  have HOK := Lib.hid (ok_new cap pol hc hc' hp)
  clear hs hm hp
  go_enter Try.func6, Try.ntmps6
  go_wp2_with fail
  refine HN.out.mono ?_
  rintro e w1 ⟨rfl, hw1⟩
  have r1 : RB w w1 w.heap.size (.slice none 0 0) ⟨cap, pol, [], false, 0, []⟩ := by
    rw [hw1]
    exact ⟨ring_new w cap pol, HOK.out, (Below.refl _ _).alloc (Nat.le_refl _) _, Nat.le_refl _, fun k hk => by cases hk⟩
  have R1 := Lib.hid r1
  clear hw1 r1 HN
  go_wp2_with fail
  refine (awake8_any _).mono ?_
  rintro e w2 ⟨rfl, b2⟩
  have r2 := R1.out.kept b2
  have R2 := Lib.hid r2
  clear b2 r2 R1
  go_wp2_with fail
  refine (HG.out _ R2.out.below).mono ?_
  rintro e w3 ⟨rfl, b3⟩
  have r3 : Rnd w w3 (.slice none 0 0) ⟨cap, pol, [], false, 0, []⟩ cap 0 0 := ⟨R2.out.kept b3, rfl, cnt_new cap pol⟩
  have R3 := Lib.hid r3
  clear b3 r3 R2 HG
  go_wp2_with fail
  go_loopw [37] (fun i wr => ∃ (k : Nat) (v : Value) (s : RSt), k ≤ len ∧ i = .int .i64 k ∧ Rnd w wr v s cap k (tot f k)) (fun i _ => len - (intOf i).toNat)
  case atStart => exact ⟨0, _, _, Nat.zero_le _, rfl, R3.out⟩
  case round =>
    clear R3
    obtain ⟨k, v, s, hk, rfl, hR⟩ := hrel
    have htl := tot_le' f k len hk
    by_cases hlt : k < len
    · obtain ⟨b, off, hao, hbw, hcell⟩ := HS.out.row k hlt
      subst hao
      obtain ⟨h0, h1', h2'⟩ := hcell k hlt
      have c0 := (hR.rb.below.cell (p := ⟨b, off + k * 3, none⟩) hbw).trans h0
      have c1 := (hR.rb.below.cell (p := ⟨b, off + k * 3 + 1, none⟩) hbw).trans h1'
      have c2 := (hR.rb.below.cell (p := ⟨b, off + k * 3 + 2, none⟩) hbw).trans h2'
      have htx := one_small f len k hlt hft
      have hnb := HS.out.nb k
      have htot : tot f (k + 1) = tot f k + min (f k).2.2.size 65536 := rfl
      have htot2 : tot f (k + 1) = tot f k + (f k).2.2.size := by omega
      have Htot := Lib.hid htot2
      clear hcell h0 h1' h2' htot htot2
      generalize (f k).1 = kd at *
      generalize (f k).2.1 = n at *
      generalize (f k).2.2 = tx at *
      have HB := Lib.hid (fun kd : Int => hR.rb.kept ((Below.refl _ _).alloc (Nat.le_refl _) (.cells #[.int .i64 kd, .int .i64 n, .string tx] 35)))
      have HC := Lib.hid hR.n
      have HK := Lib.hid hR.c
      have hcl := hR.n.fr
      have hcu := hR.rb.ok.u
      have hcc := hR.c
      have hus : s.used ≤ cap := by omega
      have hbl : w.heap.size < wr.heap.size := Rg.lt hR.rb.ring
      have HVL := Lib.hid hR.rb.ring.row.lt
      clear hR hcu hcc
      rcases (show kd = 1 ∨ kd = 2 ∨ (kd ≠ 1 ∧ kd ≠ 2) from by omega) with hkd | hkd | hkd
      · subst hkd
        have B1 := Lib.hid (HB.out 1)
        have U1 := Lib.hid (rg_used B1.out.ring)
        have L1 := Lib.hid (rg_lost B1.out.ring)
        have HP1 := Lib.hid (rg_put B1.out.ring B1.out.ok tx (by unfold maxLen; omega) (by omega))
        have hO2 : (wr.alloc (.cells #[.int .i64 1, .int .i64 n, .string tx] 35)).cell? ⟨wr.heap.size, 2, none⟩ = some (.string tx) := by simp
        have HO := Lib.hid hO2
        clear HB hO2
        go_wp2_with fail
        refine U1.out.mono ?_
        rintro e w4 ⟨rfl, rfl⟩
        go_wp2_with fail
        refine L1.out.mono ?_
        rintro e w4 ⟨rfl, rfl⟩
        go_wp2_with fail
        refine HP1.out.mono ?_
        rintro e w5 ⟨rfl, v5, r5, t5⟩
        have x2 : w5.cell? ⟨wr.heap.size, 2, none⟩ = some (.string tx) := t5.1.cell HO.out (fun hS => by
          rcases hS with e | e
          · simp at e; omega
          · have := HVL.out _ e; simp at this)
        have B5 := Lib.hid (B1.out.turned r5 (RSt.ok_put B1.out.ok tx) t5)
        clear r5 t5 HP1 HO U1 L1
        go_upto_region 11 with fail
        go_cut [91] (fun c wx => c = .bool false ∧ ∃ q, wx = w5.drewN q)
        case first =>
          have HL5 := Lib.hid (fun q => (rg_lost (Rg.drewN B5.out.ring q)).mono (R' := fun e w' => e = .returned (.int .u64 ((s.put tx).2.lost : Int)) ∧ w' = w5.drewN q) fun e w' h => ⟨h.1, h.2.symm⟩)
          have HU5 := Lib.hid (fun q => (rg_used (Rg.drewN B5.out.ring q)).mono (R' := fun e w' => e = .returned (.int .i64 ((s.put tx).2.used : Int)) ∧ w' = w5.drewN q) fun e w' h => ⟨h.1, h.2.symm⟩)
          by_cases g1 : 1 ≤ tx.size
          · have q1 : decide ((1 : Int) ≤ (tx.size : Int)) = true := by simp; omega
            by_cases g2 : tx.size ≤ 179
            · have q2 : decide ((tx.size : Int) ≤ 179) = true := by simp; omega
              by_cases g3 : tx.size + s.used ≤ cap
              · have q3 : decide ((tx.size : Int) ≤ (cap : Int) - (s.used : Int)) = true := by simp; omega
                have hpf := put_fits g1 g2 (s := s) (by rw [HK.out]; exact g3)
                have q4 : (((s.put tx).1 : Int) != 0) = false := by rw [hpf]; rfl
                have q5 : (((s.put tx).2.lost : Int) != (s.lost : Int)) = false := by rw [hpf]; simp [RSt.holding]
                have q6 : (((s.put tx).2.used : Int) != (s.used : Int) + (tx.size : Int)) = false := by rw [hpf, holding_used]; simp
                clear hpf
                go_quiet (first | (go_at_call 19; exact Calls.quiet_of_same (HL5.out _)) | (go_at_call 16; exact Calls.quiet_of_same (HU5.out _)))
                go_wp2_with fail
                go_meet
                exact ⟨rfl, _, rfl⟩
              · have q3 : decide ((tx.size : Int) ≤ (cap : Int) - (s.used : Int)) = false := by simp; omega
                go_quiet (fail)
                go_wp2_with fail
                go_meet
                exact ⟨rfl, _, rfl⟩
            · have q2 : decide ((tx.size : Int) ≤ 179) = false := by simp; omega
              go_quiet (fail)
              go_wp2_with fail
              go_meet
              exact ⟨rfl, _, rfl⟩
          · have q1 : decide ((1 : Int) ≤ (tx.size : Int)) = false := by simp; omega
            go_quiet (fail)
            go_wp2_with fail
            go_meet
            exact ⟨rfl, _, rfl⟩
        case rest =>
        obtain ⟨rfl, q, hq⟩ := hcut
        have B2 : Hid (RB w wc w.heap.size v5 (s.put tx).2) := Lib.hid (by rw [hq]; exact B5.out.drewN q)
        clear hq B5 x2 c0 c1 c2
        have okx := B2.out.ok
        have hcx : (s.put tx).2.cap = cap := by rw [put_cap]; exact HK.out
        have hux : (s.put tx).2.used ≤ cap := by have := okx.u; omega
        have U2 := Lib.hid (rg_used B2.out.ring)
        have L2 := Lib.hid (rg_lost B2.out.ring)
        have q1 : decide ((cap : Int) < ((s.put tx).2.used : Int)) = false := by simp; omega
        have q2 : decide (((s.put tx).2.used : Int) < 0) = false := by simp
        have q3 : ¬ ((s.put tx).2.lost < s.lost) := Nat.not_lt.2 (put_lost s tx)
        have q4 : s.lost ≤ (s.put tx).2.lost := put_lost s tx
        have HN := Lib.hid (show Rnd w wc _ (s.put tx).2 cap (k + 1) (tot f (k + 1)) from ⟨B2.out, hcx, by rw [Htot.out]; exact HC.out.put tx⟩)
        clear okx hcx q1 q2
        go_wp2_with fail
        refine U2.out.mono ?_
        rintro e w7 ⟨rfl, rfl⟩
        go_wp2_with fail
        refine U2.out.mono ?_
        rintro e w7 ⟨rfl, rfl⟩
        go_wp2_with fail
        refine L2.out.mono ?_
        rintro e w7 ⟨rfl, rfl⟩
        go_wp2_with fail
        go_roundw
        case rel =>
          first
            | exact ⟨k + 1, _, _, hlt, by go_num, HN.out⟩
            | ((repeat apply Exists.intro); exact ⟨⟨hlt, by go_num, HN.out⟩, rfl⟩)
        case measure => simp [intOf]; omega
      · subst hkd
        have B1 := Lib.hid (HB.out 2)
        have U1 := Lib.hid (rg_used B1.out.ring)
        have L1 := Lib.hid (rg_lost B1.out.ring)
        have HP1 := Lib.hid (rg_drain B1.out.ring B1.out.ok n n.toNat rfl hnb)
        clear HB
        go_wp2_with fail
        refine U1.out.mono ?_
        rintro e w4 ⟨rfl, rfl⟩
        go_wp2_with fail
        refine L1.out.mono ?_
        rintro e w4 ⟨rfl, rfl⟩
        go_wp2_with fail
        refine HP1.out.mono ?_
        rintro e w5 ⟨rfl, v5, r5, t5, -⟩
        have B2 := Lib.hid (B1.out.turned r5 (RSt.ok_drain B1.out.ok n.toNat) t5)
        clear r5 t5 HP1 U1 L1
        have okx := B2.out.ok
        have hcx : (s.drain n.toNat).cap = cap := HK.out
        have hux : (s.drain n.toNat).used ≤ cap := by have := okx.u; omega
        have U2 := Lib.hid (rg_used B2.out.ring)
        have L2 := Lib.hid (rg_lost B2.out.ring)
        have q1 : decide ((cap : Int) < ((s.drain n.toNat).used : Int)) = false := by simp; omega
        have q2 : decide (((s.drain n.toNat).used : Int) < 0) = false := by simp
        have q3 : ¬ ((s.drain n.toNat).lost < s.lost) := Nat.not_lt.2 (Nat.le_refl _)
        have q4 : s.lost ≤ (s.drain n.toNat).lost := Nat.le_refl _
        have HN := Lib.hid (show Rnd w w5 _ (s.drain n.toNat) cap (k + 1) (tot f (k + 1)) from ⟨B2.out, hcx, (HC.out.drain n.toNat).more (show k ≤ k + 1 by omega) (show tot f k ≤ tot f (k + 1) by rw [Htot.out]; omega)⟩)
        clear okx hcx q1 q2
        go_wp2_with fail
        refine U2.out.mono ?_
        rintro e w7 ⟨rfl, rfl⟩
        go_wp2_with fail
        refine U2.out.mono ?_
        rintro e w7 ⟨rfl, rfl⟩
        go_wp2_with fail
        refine L2.out.mono ?_
        rintro e w7 ⟨rfl, rfl⟩
        go_wp2_with fail
        go_roundw
        case rel =>
          first
            | exact ⟨k + 1, _, _, hlt, by go_num, HN.out⟩
            | ((repeat apply Exists.intro); exact ⟨⟨hlt, by go_num, HN.out⟩, rfl⟩)
        case measure => simp [intOf]; omega
      · have e1 : (kd == 1) = false := by simp; omega
        have e2 : (kd == 2) = false := by simp; omega
        have B2 := Lib.hid (HB.out kd)
        have U1 := Lib.hid (rg_used B2.out.ring)
        have L1 := Lib.hid (rg_lost B2.out.ring)
        clear HB hkd
        go_wp2_with fail
        refine U1.out.mono ?_
        rintro e w4 ⟨rfl, hw4⟩
        subst hw4
        go_wp2_with fail
        refine L1.out.mono ?_
        rintro e w4 ⟨rfl, hw4⟩
        subst hw4
        clear U1 L1
        have okx := B2.out.ok
        have hcx : s.cap = cap := HK.out
        have hux : s.used ≤ cap := by have := okx.u; omega
        have U2 := Lib.hid (rg_used B2.out.ring)
        have L2 := Lib.hid (rg_lost B2.out.ring)
        have q1 : decide ((cap : Int) < (s.used : Int)) = false := by simp; omega
        have q2 : decide ((s.used : Int) < 0) = false := by simp
        have q3 : ¬ (s.lost < s.lost) := Nat.not_lt.2 (Nat.le_refl _)
        have q4 : s.lost ≤ s.lost := Nat.le_refl _
        have HN := Lib.hid (show Rnd w _ _ s cap (k + 1) (tot f (k + 1)) from ⟨B2.out, hcx, HC.out.more (show k ≤ k + 1 by omega) (show tot f k ≤ tot f (k + 1) by rw [Htot.out]; omega)⟩)
        clear okx hcx q1 q2
        go_wp2_with fail
        refine U2.out.mono ?_
        rintro e w7 ⟨rfl, rfl⟩
        go_wp2_with fail
        refine U2.out.mono ?_
        rintro e w7 ⟨rfl, rfl⟩
        go_wp2_with fail
        refine L2.out.mono ?_
        rintro e w7 ⟨rfl, rfl⟩
        go_wp2_with fail
        go_roundw
        case rel =>
          first
            | exact ⟨k + 1, _, _, hlt, by go_num, HN.out⟩
            | ((repeat apply Exists.intro); exact ⟨⟨hlt, by go_num, HN.out⟩, rfl⟩)
        case measure => simp [intOf]; omega
    · have hkl : k = len := by omega
      subst hkl
      have HB := Lib.hid hR.rb.below
      clear hR HS
      go_wp2_with fail
      go_ret
      exact ⟨rfl, HB.out⟩

theorem walk {w : World} (cap : Int) (wc : (Lit.int .i64 cap).wf = true) (pol : Int) (wp : (Lit.int .i64 pol).wf = true) (ao : Option Addr) (len cp : Nat) (f : Nat → Int × Int × ByteArray) (h0 : SeenOps w ao len cp f ∧ True) (hl : len * 32 ≤ 140737488351232) :
    Calls Try.prog 6 #[.int .i64 cap, .int .i64 pol, .slice ao len cp] w fun e w' => e = .returned (.bool true) ∧ Below w.heap.size w w' := by
  by_cases hb : cap < 179 ∨ 1048576 < cap ∨ (pol ≠ 0 ∧ pol ≠ 1)
  · exact walk_bad cap pol _ hb w
  · cases hm : muchB len f with
    | true => exact walk_long cap pol (by omega) (by omega) (by omega) ao len cp f hl hm w h0.1
    | false =>
      have hm' := hm
      unfold muchB at hm'
      simp at hm'
      obtain ⟨c, rfl⟩ := Int.eq_ofNat_of_zero_le (show 0 ≤ cap by omega)
      obtain ⟨p, rfl⟩ := Int.eq_ofNat_of_zero_le (show 0 ≤ pol by omega)
      exact walk_short c p (by omega) (by omega) (by omega) ao len cp f (by omega) (by omega) hm w h0.1

theorem own : ownKnob Try.prog.godebug = none := by kernel_rfl
theorem laidOut : laidOutB Try.prog = true := by kernel_rfl

set_option maxRecDepth 100000 in
theorem lifted (os : Os) (started : os.Started) (H : Type) (enc : TypeId × Value → H) :
    ReturnsInHanded {} Try.checked os 6 .any (Rows.ringRoomSpec.pre6 enc Try.prog Try.f6 Rows.ringRoomRow.domain false) (Rows.ringRoomSpec.post enc Try.prog Try.f6 false true false false) := by
  refine returnsInHanded_of_change_shaped (C := Try.checked) own started (by kernel_rfl) Try.func6
    (ChangeSpec.witness6 (enc := enc) (C := Try.checked) false ⟨#[], #[.int .i64 0, .int .i64 0, .slice none 0 0], []⟩ 8 (by kernel_rfl) (by kernel_rfl) (by kernel_rfl) (by kernel_rfl)) ?_
  intro W base args ds gs before hval0 hW hcnd hsz0 hsh _
  have hval : ∀ (j : Nat) t v, Try.f6.params[j]? = some t → args[j]? = some v → Value.okWide Try.prog W .any base t v := hval0
  have hsz : (DataW.weightsEach Try.prog (Try.f6.params.toList ++ Rows.ringRoomSpec.plain.varTypes Try.prog) (ds ++ gs)).all (· ≤ reachBytes) = true := hsz0
  have hW' := hW
  obtain ⟨p, q, hA0, hV, rfl, hfz, hnd⟩ := hW
  have hA : DataW.TrodAll enc Try.prog W 0 (fun _ => true) true Try.f6.params.toList args.toList ds p := hA0
  rw [Try.params6] at hA hval hsz
  obtain ⟨v0, vs0, d0, ds0, p0, q0, hargs, rfl, rfl, h0, r0⟩ := trodAll_cons hA
  obtain ⟨v1, vs1, d1, ds1, p1, q1, rfl, rfl, rfl, h1, r1⟩ := trodAll_cons r0
  obtain ⟨v2, vs2, d2, ds2, p2, q2, rfl, rfl, rfl, h2, r2⟩ := trodAll_cons r1
  obtain ⟨rfl, rfl, rfl⟩ := trodAll_nil r2
  obtain rfl : args = #[v0, v1, v2] := by cases args; simp_all
  obtain ⟨rfl, rfl⟩ := trodVars_none hV
  have k0 := h0
  have lt0 : ∀ x ∈ p0, x.block < W.heap.size := by obtain ⟨m, hm⟩ := k0; exact DataW.trod_lt m _ _ _ hm
  have k1 := h1
  have lt1 : ∀ x ∈ p1, x.block < W.heap.size := by obtain ⟨m, hm⟩ := k1; exact DataW.trod_lt m _ _ _ hm
  have k2 := h2
  have lt2 : ∀ x ∈ p2, x.block < W.heap.size := by obtain ⟨m, hm⟩ := k2; exact DataW.trod_lt m _ _ _ hm
  obtain ⟨a0, rfl, rfl, rfl, w0⟩ := open_int Try.underlying3 (hval 0 3 v0 rfl rfl) h0
  obtain ⟨a1, rfl, rfl, rfl, w1⟩ := open_int Try.underlying3 (hval 1 3 v1 rfl rfl) h1
  obtain ⟨a2, len2, cap2, rfl⟩ := okWide_slice Try.underlying22 (hval 2 22 v2 rfl rfl)
  obtain ⟨z2, w2⟩ := open_ops h2
  have sz2 : len2 * 32 ≤ 140737488351232 := by
    rcases w2.2.2 with h | ⟨el, sp, hd, hl⟩
    · omega
    · rw [hd] at hsz
      have hq := sized_slice hsz (j := 2) (t := 22) (e := 35) rfl rfl Try.underlying22
      rw [show Try.prog.bytesOf 35 = 32 from by kernel_rfl] at hq
      simp only [reachBytes] at hq
      omega
  clear hA0 hval0
  refine (walk a0 w0 a1 w1 a2 len2 cap2 z2 ⟨w2.1, w2.2.1⟩ sz2 ).mono fun e W' ⟨he, bel⟩ => ?_
  subst he
  exact ⟨_, rfl, _, _, _, [], _, [], hW', trodAll_mk1 (shut_bool Try.underlying4 _), (trodAll_cons_mk (Below.trod laidOut (by kernel_rfl) (of_decide_eq_true (by kernel_rfl)) k0 bel lt0) (trodAll_cons_mk (Below.trod laidOut (by kernel_rfl) (of_decide_eq_true (by kernel_rfl)) k1 bel lt1) (trodAll_cons_mk (Below.trod laidOut (by kernel_rfl) (of_decide_eq_true (by kernel_rfl)) k2 bel lt2) trodAll_mk0))), rfl, bel.frame _, fun h => by cases h⟩

theorem over : Rows.ringRoomRow.holds Try.pinned (OpenSpec.ofChange Rows.ringRoomSpec) :=
  OpenClaim.holds_of_wide 6 Try.f6 rfl rfl rfl rfl rfl rfl rfl ⟨rfl, rfl, rfl, rfl, rfl⟩ rfl rfl rfl rfl rfl (by kernel_rfl) Try.func6 (by kernel_rfl)
    (of_decide_eq_true (by kernel_rfl)) (by unfold Func.isWrapper; first | (rw [if_pos (by decide +kernel)]; kernel_rfl) | (rw [if_neg (by decide +kernel)]; exact ⟨rfl, rfl⟩))
    (fun os started H enc _ => lifted os started H enc)

theorem proved : Rows.RingRoomSaid :=
  over
#print axioms proved
end Go.Proofs.Ytjdnjkniiippkaa.ringRoom
