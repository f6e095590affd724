/-
  RingOnce is true for every input: each frame that was put is drained, held or lost: so many bytes, and so many frames, as there were. No condition.
-/
import Derived.Test.YtjdnjkniiippkaaRi13
import Derived.ProofKit
import Derived.OpenShut
import Derived.ShutString
import Derived.HandedShaped
import Derived.Deep.DeepCutAuto
import Derived.Deep.RegionWith
namespace Go.Proofs.Ytjdnjkniiippkaa.ringOnce
open Go.ChangeShapes Go.WideShapes Go.ChangeAt Go.RowKit
open Go.ChangeMaps (open_string shut_string)
set_option linter.unusedVariables false

theorem put_used (s : RSt) (t : ByteArray) : (s.put t).2.used ≤ s.used + t.size := by
  unfold RSt.put
  split
  · show s.used ≤ _; omega
  · split
    · show s.used ≤ _; omega
    · have h5 := s.losing_used (s.shed t.size)
      show sz ((s.losing (s.shed t.size)).fs ++ [t]) ≤ _
      rw [sz_append, sz_one]
      have : sz (s.losing (s.shed t.size)).fs = (s.losing (s.shed t.size)).used := rfl
      omega
theorem drain_used (s : RSt) (m : Nat) : (s.drained m).length + (s.drain m).used = s.used := drn_sz s.fs m s.begun
theorem drained_all {s : RSt} (ok : s.Ok) : s.drained s.used = bys s.fs := by
  unfold RSt.drained
  rw [drn_all s.fs s.used s.begun (Nat.le_refl _) ok.e ok.b]
theorem bytes_size (l : List UInt8) : (⟨l.toArray⟩ : ByteArray).size = l.length := by show l.toArray.size = _; simp

/-- Which policy is told. -/
def polOf (old : Bool) : Nat := if old then 1 else 0
theorem polOf_or (old : Bool) : polOf old = 0 ∨ polOf old = 1 := by cases old <;> simp [polOf]

set_option maxRecDepth 100000 in
set_option maxHeartbeats 1000000 in
theorem walk_bad (cap : Int) (old : Bool) (x : Value) (h : cap < 179 ∨ 1048576 < cap) (w : World) :
    Calls Try.prog 4 #[.int .i64 cap, .bool old, x] w fun e w' => e = .returned (.bool true) ∧ Below w.heap.size w w' := by
  have HN := Lib.hid (fun pol => rg_new_bad w cap pol (by omega))
  clear h
  cases old
  all_goals
    go_enter Try.func4, Try.ntmps4
    go_wp2_with fail
    refine (HN.out _).mono ?_
    rintro e w1 ⟨rfl, rfl⟩
    go_wp2_with fail
    refine (awake8_any _).mono ?_
    rintro e w1 ⟨rfl, b1⟩
    go_wp2_with fail
    refine (awake8_any _).mono ?_
    rintro e w2 ⟨rfl, b2⟩
    go_wp2_with fail
    go_ret
    exact ⟨rfl, b1.trans (b2.mono b1.size)⟩

set_option maxRecDepth 100000 in
set_option maxHeartbeats 1000000 in
theorem walk_long (cap : Int) (old : Bool) (hc : 179 ≤ cap) (hc' : cap ≤ 1048576) (ao : Option Addr) (len cp : Nat) (f : Nat → Int × Int × ByteArray) (hl : len * 32 ≤ 140737488351232) (hm : muchB len f = true) (w : World) (hs : SeenOps w ao len cp f) :
    Calls Try.prog 4 #[.int .i64 cap, .bool old, .slice ao len cp] w fun e w' => e = .returned (.bool true) ∧ Below w.heap.size w w' := by
  have HN := Lib.hid (fun pol hp => rg_new w cap pol hc hc' hp)
  have HG := Lib.hid (fun w1 (hb : Below w.heap.size w w1) => great_any ao len cp f hl w1 (hs.below hb))
  rw [hm] at HG
  clear hs hm
  cases old
  all_goals
    go_enter Try.func4, Try.ntmps4
    go_wp2_with fail
    refine (HN.out _ (by decide)).mono ?_
    rintro e w1 ⟨rfl, hw1⟩
    have b1 : Below w.heap.size w w1 := by rw [hw1]; exact (Below.refl _ _).alloc (Nat.le_refl _) _
    clear hw1
    go_wp2_with fail
    refine (awake8_any _).mono ?_
    rintro e w2 ⟨rfl, b2⟩
    have b3 := b1.trans (b2.mono b1.size)
    go_wp2_with fail
    refine (HG.out _ b3).mono ?_
    rintro e w4 ⟨rfl, b4⟩
    have b5 := b3.trans (b4.mono b3.size)
    go_wp2_with fail
    refine (awake8_any _).mono ?_
    rintro e w6 ⟨rfl, b6⟩
    go_wp2_with fail
    go_ret
    exact ⟨rfl, b5.trans (b6.mono b5.size)⟩

/-- Bytes and frames are kept. -/
theorem put_bytes (s : RSt) (t : ByteArray) (h : (s.put t).1 ≠ 1) : (s.put t).2.used + sz (s.put t).2.gone = s.used + sz s.gone + t.size ∧ (s.put t).2.lost + (s.put t).2.fs.length = s.lost + s.fs.length + 1 := by
  unfold RSt.put at h ⊢
  split at h
  · exact absurd rfl h
  · rename_i hn
    rw [if_neg hn]
    split
    · constructor
      · show s.used + sz (s.gone ++ [t]) = _
        rw [sz_append, sz_one]; omega
      · show s.lost + 1 + s.fs.length = _
        omega
    · have h4 := losing_len s (s.shed t.size) (s.shed_le t.size)
      have h5 := s.losing_used (s.shed t.size)
      constructor
      · show sz ((s.losing (s.shed t.size)).fs ++ [t]) + sz (s.gone ++ s.tail.take (s.shed t.size)) = _
        rw [sz_append, sz_one, sz_append]
        have : sz (s.losing (s.shed t.size)).fs = (s.losing (s.shed t.size)).used := rfl
        omega
      · show s.lost + s.shed t.size + ((s.losing (s.shed t.size)).fs ++ [t]).length = _
        rw [List.length_append, List.length_singleton]
        omega
theorem put_one (s : RSt) (t : ByteArray) (h : (s.put t).1 = 1) : (s.put t).2 = s := by
  unfold RSt.put at h ⊢
  split
  · rfl
  · rename_i hn
    rw [if_neg hn] at h
    split at h
    · simp at h
    · simp at h
/-- What is counted: bytes and frames. -/
structure Tal (s : RSt) (y fr k z : Nat) : Prop where
  eq : y = s.used + sz s.gone
  le : y ≤ z
  lf : s.lost + s.fs.length ≤ fr
  fk : fr ≤ k
theorem drain_all {s : RSt} (ok : s.Ok) : (s.drain s.used).fs = [] ∧ (s.drain s.used).begun = false ∧ (s.drain s.used).used = 0 := by
  have h := drn_all s.fs s.used s.begun (Nat.le_refl _) ok.e ok.b
  have h1 : (s.drain s.used).fs = [] := by show (drn s.fs s.used s.begun).2.1 = []; rw [h]
  refine ⟨h1, by show (drn s.fs s.used s.begun).2.2 = false; rw [h], ?_⟩
  show sz (s.drain s.used).fs = 0
  rw [h1]; rfl

set_option maxRecDepth 100000 in
set_option maxHeartbeats 8000000 in
theorem walk_short (cap : Nat) (old : Bool) (hc : 179 ≤ cap) (hc' : cap ≤ 1048576) (ao : Option Addr) (len cp : Nat) (f : Nat → Int × Int × ByteArray) (hl : len ≤ 300) (hft : tot f len ≤ 32768) (hm : muchB len f = false) (w : World) (hs : SeenOps w ao len cp f) :
    Calls Try.prog 4 #[.int .i64 cap, .bool old, .slice ao len cp] w fun e w' => e = .returned (.bool true) ∧ Below w.heap.size w w' := by
  obtain ⟨pol, hpol⟩ : ∃ pol, pol = polOf old := ⟨_, rfl⟩
  have hp : pol = 0 ∨ pol = 1 := by rw [hpol]; exact polOf_or old
  have HN := Lib.hid (rg_new w cap pol (by omega) (by omega) (by omega))
  have HG := Lib.hid (fun w1 (hb : Below w.heap.size w w1) => great_any ao len cp f (by omega) w1 (hs.below hb))
  rw [hm] at HG
  have HS := Lib.hid hs
  have HOK := Lib.hid (ok_new cap pol hc hc' hp)
  have HP := Lib.hid hpol
  clear hs hm hp hpol
  go_enter Try.func4, Try.ntmps4
  go_upto_if 19 with fail
  go_cut [7] (fun p wx => p = .int .i64 pol ∧ wx = w)
  case first =>
    cases old
    all_goals
      go_wp2_with fail
      go_meet
      exact ⟨by rw [HP.out]; rfl, rfl⟩
  case rest =>
  obtain ⟨rfl, hwc⟩ := hcut
  have hwc' := hwc.symm
  subst hwc'
  clear hwc HP
  go_wp2_with fail
  refine HN.out.mono ?_
  rintro e w1 ⟨rfl, hw1⟩
  have r1 : RB w w1 w.heap.size (.slice none 0 0) ⟨cap, pol, [], false, 0, []⟩ := by
    rw [hw1]
    exact ⟨ring_new w cap pol, HOK.out, (Below.refl _ _).alloc (Nat.le_refl _) _, Nat.le_refl _, fun k hk => by cases hk⟩
  have R1 := Lib.hid r1
  clear hw1 r1 HN
  go_wp2_with fail
  refine (awake8_any _).mono ?_
  rintro e w2 ⟨rfl, b2⟩
  have r2 := R1.out.kept b2
  have R2 := Lib.hid r2
  clear b2 r2 R1
  go_wp2_with fail
  refine (HG.out _ R2.out.below).mono ?_
  rintro e w3 ⟨rfl, b3⟩
  have r3 := both_new (R2.out.kept b3) cap pol HOK.out
  have R3 := Lib.hid r3
  clear b3 r3 R2 HG
  go_wp2_with fail
  go_loopw [11, 12, 47] (fun by1 fr1 i wr => ∃ (k y fr : Nat) (v vl vg : Value) (s : RSt), k ≤ len ∧ i = .int .i64 k ∧ by1 = .int .i64 y ∧ fr1 = .int .u64 fr ∧ Both w wr w.heap.size v w3.heap.size vl vg s s ∧ Cnt s k (tot f k) ∧ Tal s y fr k (tot f k)) (fun _ _ i _ => len - (intOf i).toNat)
  case atStart => exact ⟨0, 0, 0, _, _, _, _, Nat.zero_le _, rfl, rfl, rfl, R3.out, cnt_new cap pol, ⟨rfl, Nat.le_refl _, Nat.le_refl _, Nat.le_refl _⟩⟩
  case round =>
    clear R3
    obtain ⟨k, y, fr, v, vl, vg, s, hk, rfl, rfl, rfl, hB, hC, hT⟩ := hrel
    have htl := tot_le' f k len hk
    have hyz := hT.le
    have hfk := hT.fk
    have HT := Lib.hid hT
    by_cases hlt : k < len
    · obtain ⟨b, off, hao, hbw, hcell⟩ := HS.out.row k hlt
      subst hao
      obtain ⟨h0, h1', h2'⟩ := hcell k hlt
      have c0 := (hB.rb.below.cell (p := ⟨b, off + k * 3, none⟩) hbw).trans h0
      have c1 := (hB.rb.below.cell (p := ⟨b, off + k * 3 + 1, none⟩) hbw).trans h1'
      have c2 := (hB.rb.below.cell (p := ⟨b, off + k * 3 + 2, none⟩) hbw).trans h2'
      have htx := one_small f len k hlt hft
      have hnb := HS.out.nb k
      have htot : tot f (k + 1) = tot f k + min (f k).2.2.size 65536 := rfl
      have htot2 : tot f (k + 1) = tot f k + (f k).2.2.size := by omega
      have Htot := Lib.hid htot2
      clear hcell h0 h1' h2' htot htot2
      generalize (f k).1 = kd at *
      generalize (f k).2.1 = n at *
      generalize (f k).2.2 = tx at *
      have HB := Lib.hid (fun kd : Int => hB.alloc (.cells #[.int .i64 kd, .int .i64 n, .string tx] 35))
      have HC := Lib.hid hC
      have hcl := hC.fr
      have hcg := hC.go
      have hbl : w.heap.size < wr.heap.size := Rg.lt hB.rb.ring
      have hml : w3.heap.size < wr.heap.size := hB.mt.lt
      have hvl := hB.rb.ring.row.lt
      have HVL := Lib.hid hvl
      have HLL := Lib.hid (And.intro hB.mt.rl.lt hB.mt.rg.lt)
      clear hB hC hvl
      clear hT
      rcases (show kd = 1 ∨ kd = 2 ∨ (kd ≠ 1 ∧ kd ≠ 2) from by omega) with hkd | hkd | hkd
      · subst hkd
        have B1 := Lib.hid (HB.out 1)
        have HP1 := Lib.hid (mt_put B1.out.mt B1.out.ok2 tx (by unfold maxLen; omega) (by omega) (by omega))
        have hO2 : (wr.alloc (.cells #[.int .i64 1, .int .i64 n, .string tx] 35)).cell? ⟨wr.heap.size, 2, none⟩ = some (.string tx) := by simp
        have HO := Lib.hid hO2
        clear HB hO2
        go_wp2_with fail
        refine HP1.out.mono ?_
        rintro e w5 ⟨rfl, vl5, vg5, m5, t5⟩
        have hx2 : w5.cell? ⟨wr.heap.size, 2, none⟩ = some (.string tx) := t5.1.cell HO.out (fun hS => by
          rcases hS with e | e | e
          · simp at e; omega
          · have := HLL.out.1 _ e; simp at this
          · have := HLL.out.2 _ e; simp at this)
        have x2 := hx2
        have HX2 := Lib.hid hx2
        have hwl : wr.heap.size < w5.heap.size := by have := t5.1.size; simp at this; omega
        have B5 := Lib.hid (B1.out.ref m5 (RSt.ok_put B1.out.ok2 tx) t5)
        have hvl5 : ∀ q, v.ownBlock = some q → q ≠ wr.heap.size := fun q hq e => by have := HVL.out q hq; omega
        have HV5 := Lib.hid hvl5
        clear m5 t5 HP1 HO hx2 hvl5
        have HP2 := Lib.hid (rg_put B5.out.rb.ring B5.out.rb.ok tx (by unfold maxLen; omega) (by omega))
        go_wp2_with fail
        refine HP2.out.mono ?_
        rintro e w6 ⟨rfl, v6, r6, t6⟩
        have x6 : w6.cell? ⟨wr.heap.size, 2, none⟩ = some (.string tx) := t6.1.cell HX2.out (fun hS => by
          rcases hS with e | e
          · simp at e; omega
          · exact HV5.out _ e rfl)
        have HN := Lib.hid (B5.out.ring r6 (RSt.ok_put B5.out.rb.ok tx) t6)
        have HC2 := Lib.hid (HC.out.put tx)
        rw [← Htot.out] at HC2
        clear r6 t6 HP2 x2 HX2
        by_cases hone : (s.put tx).1 = 1
        · have q1 : (((s.put tx).1 : Int) != 1) = false := by rw [hone]; rfl
          have HT2 := Lib.hid (show Tal (s.put tx).2 y fr (k + 1) (tot f (k + 1)) by
            rw [put_one s tx hone]
            have := HT.out
            exact ⟨this.eq, by rw [Htot.out]; omega, this.lf, by omega⟩)
          clear hone
          go_wp2_with fail
          go_roundw
          case rel => exact ⟨k + 1, y, fr, _, _, _, _, hlt, by go_num, rfl, rfl, HN.out, HC2.out, HT2.out⟩
          case measure => simp [intOf]; omega
        · have q1 : (((s.put tx).1 : Int) != 1) = true := by simp; omega
          have HT2 := Lib.hid (show Tal (s.put tx).2 (y + tx.size) (fr + 1) (k + 1) (tot f (k + 1)) by
            obtain ⟨h1, h2⟩ := put_bytes s tx hone
            have := HT.out
            exact ⟨by rw [h1, ← this.eq], by rw [Htot.out]; omega, by rw [h2]; have := this.lf; omega, by omega⟩)
          clear hone
          go_wp2_with fail
          go_roundw
          case rel => exact ⟨k + 1, y + tx.size, fr + 1, _, _, _, _, hlt, by go_num, by go_num, by go_num, HN.out, HC2.out, HT2.out⟩
          case measure => simp [intOf]; omega
      · subst hkd
        have B1 := Lib.hid (HB.out 2)
        have HP1 := Lib.hid (mt_drain B1.out.mt B1.out.ok2 n n.toNat rfl hnb)
        have hO2 : (wr.alloc (.cells #[.int .i64 2, .int .i64 n, .string tx] 35)).cell? ⟨wr.heap.size, 1, none⟩ = some (.int .i64 n) := by simp
        have HO := Lib.hid hO2
        have hdu := drain_used s n.toNat
        obtain ⟨d, hd⟩ : ∃ d : ByteArray, d = ⟨(s.drained n.toNat).toArray⟩ := ⟨_, rfl⟩
        have hds : d.size = (s.drained n.toNat).length := by rw [hd]; exact bytes_size _
        have hty := HT.out.eq
        have hdy : d.size ≤ y := by omega
        rw [← hd] at HP1
        have HDD := Lib.hid hd
        have hdi : (y : Int) - (d.size : Int) = ((y - d.size : Nat) : Int) := by omega
        have Hdi := Lib.hid hdi
        have HT2 := Lib.hid (show Tal (s.drain n.toNat) (y - d.size) fr (k + 1) (tot f (k + 1)) by
          have h1 := HT.out
          refine ⟨?_, by rw [Htot.out]; omega, ?_, by omega⟩
          · show y - d.size = (s.drain n.toNat).used + sz s.gone
            omega
          · have h2 := drn_len s.fs n.toNat s.begun
            have h3 := h1.lf
            show s.lost + (drn s.fs n.toNat s.begun).2.1.length ≤ fr
            omega)
        clear HB hO2 hd hdu hds hty hdi
        go_wp2_with fail
        refine HP1.out.mono ?_
        rintro e w5 ⟨rfl, vl5, m5, t5⟩
        have x2 : w5.cell? ⟨wr.heap.size, 1, none⟩ = some (.int .i64 n) := t5.1.cell HO.out (fun hS => by
          rcases hS with e | e | e
          · simp at e; omega
          · have := HLL.out.1 _ e; simp at this
          · have := HLL.out.2 _ e; simp at this)
        have B5 := Lib.hid (B1.out.ref m5 (RSt.ok_drain B1.out.ok2 n.toNat) t5)
        clear m5 t5 HP1 HO
        have HP2 := Lib.hid (rg_drain B5.out.rb.ring B5.out.rb.ok n n.toNat rfl hnb)
        rw [← HDD.out] at HP2
        go_wp2_with fail
        refine HP2.out.mono ?_
        rintro e w6 ⟨rfl, v6, r6, t6, -⟩
        have HN := Lib.hid (B5.out.ring r6 (RSt.ok_drain B5.out.rb.ok n.toNat) t6)
        have HC2 := Lib.hid ((HC.out.drain n.toNat).more (show k ≤ k + 1 by omega) (show tot f k ≤ tot f (k + 1) by rw [Htot.out]; omega))
        clear r6 t6 HP2 x2
        go_wp2_with fail
        go_roundw
        case rel => exact ⟨k + 1, y - d.size, fr, _, _, _, _, hlt, by go_num, by rw [Hdi.out], rfl, HN.out, HC2.out, HT2.out⟩
        case measure => simp [intOf]; omega
      · have e1 : (kd == 1) = false := by simp; omega
        have e2 : (kd == 2) = false := by simp; omega
        have B1 := Lib.hid (HB.out kd)
        have HC2 := Lib.hid (HC.out.more (show k ≤ k + 1 by omega) (show tot f k ≤ tot f (k + 1) by rw [Htot.out]; omega))
        have HT2 := Lib.hid (show Tal s y fr (k + 1) (tot f (k + 1)) from ⟨HT.out.eq, by rw [Htot.out]; omega, HT.out.lf, by omega⟩)
        clear HB hkd
        go_wp2_with fail
        go_roundw
        case rel => exact ⟨k + 1, y, fr, _, _, _, _, hlt, by go_num, rfl, rfl, B1.out, HC2.out, HT2.out⟩
        case measure => simp [intOf]; omega
    · have hkl : k = len := by omega
      subst hkl
      have HB := Lib.hid hB
      have HC := Lib.hid hC
      obtain ⟨c0, c1, c2, c3, c4, c5⟩ := hB.mt.c
      obtain ⟨ag, cg, rfl, hcg⟩ := hB.mt.rg.shape
      have hgn := hC.go
      have hcl := hC.fr
      have hty := hT.eq
      have hgl : s.gone.length ≤ 300 := by omega
      clear hB hC HS hT
      generalize hG : s.gone.length = G at *
      have HGL := Lib.hid hG
      have hgz : sz s.gone ≤ 32768 := by omega
      have hus : s.used ≤ 32768 := by omega
      have HTY := Lib.hid hty
      have HGN := Lib.hid hgn
      have HLF := Lib.hid HT.out.lf
      clear hG hty hgn
      obtain ⟨wo, rfl⟩ : ∃ wo : World, wo = wr := ⟨_, rfl⟩
      go_wp2_with fail
      go_loopw [15, 90] (fun g i wx => ∃ j z : Nat, j ≤ G ∧ i = .int .i64 j ∧ g = .int .i64 z ∧ z = sz (s.gone.take j) ∧ wx = wo) (fun _ i _ => G - (intOf i).toNat)
      case atStart => exact ⟨0, 0, Nat.zero_le _, rfl, rfl, rfl, rfl⟩
      case round =>
        obtain ⟨j, z, hj, rfl, rfl, hz, hwo⟩ := hrel
        have hwo' := hwo.symm
        subst hwo'
        have Hz := Lib.hid hz
        have hzg : z ≤ sz s.gone := by rw [hz]; have := sz_take_drop s.gone j; omega
        clear hz
        by_cases hjl : j < G
        · have hj' : j < s.gone.length := by rw [HGL.out]; exact hjl
          obtain ⟨g, off, cap', hv, -, -, hcell, -⟩ := HB.out.mt.rg.at j hj'
          simp only [Value.slice.injEq] at hv
          obtain ⟨rfl, -, rfl⟩ := hv
          have hget : s.gone[j]? = some s.gone[j] := List.getElem?_eq_getElem hj'
          have d0 := hcell j _ hget
          have hstep : sz (s.gone.take (j + 1)) = sz (s.gone.take j) + s.gone[j].size := by
            rw [List.take_add_one, hget, Option.toList_some, sz_append, sz_one]
          have hfu : s.gone[j].size ≤ 32768 := by
            have h1 := sz_take_drop s.gone (j + 1)
            omega
          generalize s.gone[j] = g1 at *
          have Hs := Lib.hid (show z + g1.size = sz (s.gone.take (j + 1)) by rw [hstep, Hz.out])
          clear hcell hget hstep
          go_wp2_with fail
          go_roundw
          case rel => exact ⟨j + 1, z + g1.size, by omega, by go_num, by go_num, Hs.out, by trivial⟩
          case measure => simp [intOf]; omega
        · have hjG : j = G := by omega
          have hzz : z = sz s.gone := by rw [Hz.out, List.take_of_length_le (by rw [HGL.out]; omega)]
          subst hjG
          have U1 := Lib.hid (rg_used HB.out.rb.ring)
          have D1 := Lib.hid (rg_drain HB.out.rb.ring HB.out.rb.ok (s.used : Int) s.used (by simp) (by omega))
          obtain ⟨d, hd⟩ : ∃ d : ByteArray, d = ⟨(s.drained s.used).toArray⟩ := ⟨_, rfl⟩
          have hds : d.size = (s.drained s.used).length := by rw [hd]; exact bytes_size _
          have hdu := drain_used s s.used
          obtain ⟨e1, e2, e3⟩ := drain_all HB.out.rb.ok
          rw [← hd] at D1
          have hsub : (y : Int) - (z : Int) = (d.size : Int) := by have := HTY.out; omega
          have hds2 : d.size ≤ 32768 := by omega
          have hy2 : y ≤ 65536 := by omega
          have E1 := Lib.hid e1
          have E2 := Lib.hid e2
          have E3 := Lib.hid e3
          have q1 : ((s.lost : Int) == (j : Int)) = true := by have := HGN.out; simp; omega
          have q2 : decide ((s.lost : Int) ≤ (fr : Int)) = true := by have := HLF.out; simp; omega
          clear hd hds hdu e1 e2 e3 hzz Hz
          go_wp2_with fail
          refine U1.out.mono ?_
          rintro e w4 ⟨rfl, hw4⟩
          subst hw4
          go_wp2_with fail
          refine D1.out.mono ?_
          rintro e w5 ⟨rfl, v5, r5, t5, -⟩
          have B5 := HB.out.ring r5 (RSt.ok_drain HB.out.rb.ok s.used) t5
          have c5' := B5.mt.c.2.2.2.2.2
          have hbel := Lib.hid B5.rb.below
          have V1 := Lib.hid (fun q => (rg_used (Rg.drewN r5 q)).mono (R' := fun e w' => e = .returned (.int .i64 0) ∧ w' = w5.drewN q) fun e w' h => ⟨by rw [h.1, E3.out]; rfl, h.2.symm⟩)
          have V2 := Lib.hid (fun q => (rg_held (Rg.drewN r5 q)).mono (R' := fun e w' => e = .returned (.int .i64 0) ∧ w' = w5.drewN q) fun e w' h => ⟨by rw [h.1, E1.out]; rfl, h.2.symm⟩)
          have V3 := Lib.hid (fun q => (rg_begun (Rg.drewN r5 q)).mono (R' := fun e w' => e = .returned (.bool false) ∧ w' = w5.drewN q) fun e w' h => ⟨by rw [h.1, E2.out], h.2.symm⟩)
          have V4 := Lib.hid (fun q => (rg_lost (Rg.drewN r5 q)).mono (R' := fun e w' => e = .returned (.int .u64 (s.lost : Int)) ∧ w' = w5.drewN q) fun e w' h => ⟨h.1, h.2.symm⟩)
          clear r5 t5 B5 D1 U1
          go_wp2_with fail
          go_quiet (first | (go_at_call 16; exact Calls.quiet_of_same (V1.out _)) | (go_at_call 17; exact Calls.quiet_of_same (V2.out _)) | (go_at_call 18; exact Calls.quiet_of_same (V3.out _)) | (go_at_call 19; exact Calls.quiet_of_same (V4.out _)))
          go_wp2_with fail
          go_ret
          refine ⟨?_, ?_⟩
          · show Ending.returned (Value.bool (decide (s.lost ≤ fr))) = _
            rw [decide_eq_true (show s.lost ≤ fr by have := HLF.out; omega)]
          exact ⟨hbel.out.os, hbel.out.tape, hbel.out.output, hbel.out.size, hbel.out.block⟩

theorem walk {w : World} (cap : Int) (wc : (Lit.int .i64 cap).wf = true) (old : Bool) (ao : Option Addr) (len cp : Nat) (f : Nat → Int × Int × ByteArray) (h0 : SeenOps w ao len cp f ∧ True) (hl : len * 32 ≤ 140737488351232) :
    Calls Try.prog 4 #[.int .i64 cap, .bool old, .slice ao len cp] w fun e w' => e = .returned (.bool true) ∧ Below w.heap.size w w' := by
  by_cases hb : cap < 179 ∨ 1048576 < cap
  · exact walk_bad cap old _ hb w
  · cases hm : muchB len f with
    | true => exact walk_long cap old (by omega) (by omega) ao len cp f hl hm w h0.1
    | false =>
      have hm' := hm
      unfold muchB at hm'
      simp at hm'
      obtain ⟨c, rfl⟩ := Int.eq_ofNat_of_zero_le (show 0 ≤ cap by omega)
      exact walk_short c old (by omega) (by omega) ao len cp f (by omega) (by omega) hm w h0.1


theorem own : ownKnob Try.prog.godebug = none := by kernel_rfl
theorem laidOut : laidOutB Try.prog = true := by kernel_rfl

set_option maxRecDepth 100000 in
theorem lifted (os : Os) (started : os.Started) (H : Type) (enc : TypeId × Value → H) :
    ReturnsInHanded {} Try.checked os 4 .any (Rows.ringOnceSpec.pre6 enc Try.prog Try.f4 Rows.ringOnceRow.domain false) (Rows.ringOnceSpec.post enc Try.prog Try.f4 false true false false) := by
  refine returnsInHanded_of_change_shaped (C := Try.checked) own started (by kernel_rfl) Try.func4
    (ChangeSpec.witness6 (enc := enc) (C := Try.checked) false ⟨#[], #[.int .i64 0, .bool false, .slice none 0 0], []⟩ 8 (by kernel_rfl) (by kernel_rfl) (by kernel_rfl) (by kernel_rfl)) ?_
  intro W base args ds gs before hval0 hW hcnd hsz0 hsh _
  have hval : ∀ (j : Nat) t v, Try.f4.params[j]? = some t → args[j]? = some v → Value.okWide Try.prog W .any base t v := hval0
  have hsz : (DataW.weightsEach Try.prog (Try.f4.params.toList ++ Rows.ringOnceSpec.plain.varTypes Try.prog) (ds ++ gs)).all (· ≤ reachBytes) = true := hsz0
  have hW' := hW
  obtain ⟨p, q, hA0, hV, rfl, hfz, hnd⟩ := hW
  have hA : DataW.TrodAll enc Try.prog W 0 (fun _ => true) true Try.f4.params.toList args.toList ds p := hA0
  rw [Try.params4] at hA hval hsz
  obtain ⟨v0, vs0, d0, ds0, p0, q0, hargs, rfl, rfl, h0, r0⟩ := trodAll_cons hA
  obtain ⟨v1, vs1, d1, ds1, p1, q1, rfl, rfl, rfl, h1, r1⟩ := trodAll_cons r0
  obtain ⟨v2, vs2, d2, ds2, p2, q2, rfl, rfl, rfl, h2, r2⟩ := trodAll_cons r1
  obtain ⟨rfl, rfl, rfl⟩ := trodAll_nil r2
  obtain rfl : args = #[v0, v1, v2] := by cases args; simp_all
  obtain ⟨rfl, rfl⟩ := trodVars_none hV
  have k0 := h0
  have lt0 : ∀ x ∈ p0, x.block < W.heap.size := by obtain ⟨m, hm⟩ := k0; exact DataW.trod_lt m _ _ _ hm
  have k1 := h1
  have lt1 : ∀ x ∈ p1, x.block < W.heap.size := by obtain ⟨m, hm⟩ := k1; exact DataW.trod_lt m _ _ _ hm
  have k2 := h2
  have lt2 : ∀ x ∈ p2, x.block < W.heap.size := by obtain ⟨m, hm⟩ := k2; exact DataW.trod_lt m _ _ _ hm
  obtain ⟨a0, rfl, rfl, rfl, w0⟩ := open_int Try.underlying3 (hval 0 3 v0 rfl rfl) h0
  obtain ⟨a1, rfl, rfl, rfl⟩ := open_bool Try.underlying4 (hval 1 4 v1 rfl rfl) h1
  obtain ⟨a2, len2, cap2, rfl⟩ := okWide_slice Try.underlying22 (hval 2 22 v2 rfl rfl)
  obtain ⟨z2, w2⟩ := open_ops h2
  have sz2 : len2 * 32 ≤ 140737488351232 := by
    rcases w2.2.2 with h | ⟨el, sp, hd, hl⟩
    · omega
    · rw [hd] at hsz
      have hq := sized_slice hsz (j := 2) (t := 22) (e := 35) rfl rfl Try.underlying22
      rw [show Try.prog.bytesOf 35 = 32 from by kernel_rfl] at hq
      simp only [reachBytes] at hq
      omega
  clear hA0 hval0
  refine (walk a0 w0 a1 a2 len2 cap2 z2 ⟨w2.1, w2.2.1⟩ sz2 ).mono fun e W' ⟨he, bel⟩ => ?_
  subst he
  exact ⟨_, rfl, _, _, _, [], _, [], hW', trodAll_mk1 (shut_bool Try.underlying4 _), (trodAll_cons_mk (Below.trod laidOut (by kernel_rfl) (of_decide_eq_true (by kernel_rfl)) k0 bel lt0) (trodAll_cons_mk (Below.trod laidOut (by kernel_rfl) (of_decide_eq_true (by kernel_rfl)) k1 bel lt1) (trodAll_cons_mk (Below.trod laidOut (by kernel_rfl) (of_decide_eq_true (by kernel_rfl)) k2 bel lt2) trodAll_mk0))), rfl, bel.frame _, fun h => by cases h⟩

theorem over : Rows.ringOnceRow.holds Try.pinned (OpenSpec.ofChange Rows.ringOnceSpec) :=
  OpenClaim.holds_of_wide 4 Try.f4 rfl rfl rfl rfl rfl rfl rfl ⟨rfl, rfl, rfl, rfl, rfl⟩ rfl rfl rfl rfl rfl (by kernel_rfl) Try.func4 (by kernel_rfl)
    (of_decide_eq_true (by kernel_rfl)) (by unfold Func.isWrapper; first | (rw [if_pos (by decide +kernel)]; kernel_rfl) | (rw [if_neg (by decide +kernel)]; exact ⟨rfl, rfl⟩))
    (fun os started H enc _ => lifted os started H enc)

theorem proved : Rows.RingOnceSaid :=
  over
#print axioms proved
end Go.Proofs.Ytjdnjkniiippkaa.ringOnce
