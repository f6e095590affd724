/-
  RingWhole is true for every input: what is drained together is whole frames that were put, in their order, each once. No condition.
-/
import Derived.Test.YtjdnjkniiippkaaRi13
import Derived.ProofKit
import Derived.OpenShut
import Derived.ShutString
import Derived.HandedShaped
import Derived.Deep.DeepCutAuto
import Derived.Deep.RegionWith
namespace Go.Proofs.Ytjdnjkniiippkaa.ringWhole
open Go.ChangeShapes Go.WideShapes Go.ChangeAt Go.RowKit
open Go.ChangeMaps (open_string shut_string)
set_option linter.unusedVariables false

theorem put_used (s : RSt) (t : ByteArray) : (s.put t).2.used ≤ s.used + t.size := by
  unfold RSt.put
  split
  · show s.used ≤ _; omega
  · split
    · show s.used ≤ _; omega
    · have h5 := s.losing_used (s.shed t.size)
      show sz ((s.losing (s.shed t.size)).fs ++ [t]) ≤ _
      rw [sz_append, sz_one]
      have : sz (s.losing (s.shed t.size)).fs = (s.losing (s.shed t.size)).used := rfl
      omega
theorem drain_used (s : RSt) (m : Nat) : (s.drained m).length + (s.drain m).used = s.used := drn_sz s.fs m s.begun
theorem drained_all {s : RSt} (ok : s.Ok) : s.drained s.used = bys s.fs := by
  unfold RSt.drained
  rw [drn_all s.fs s.used s.begun (Nat.le_refl _) ok.e ok.b]
theorem bytes_size (l : List UInt8) : (⟨l.toArray⟩ : ByteArray).size = l.length := by show l.toArray.size = _; simp

/-- Which policy is told. -/
def polOf (old : Bool) : Nat := if old then 1 else 0
theorem polOf_or (old : Bool) : polOf old = 0 ∨ polOf old = 1 := by cases old <;> simp [polOf]

set_option maxRecDepth 100000 in
set_option maxHeartbeats 1000000 in
theorem walk_bad (cap : Int) (old : Bool) (x : Value) (h : cap < 179 ∨ 1048576 < cap) (w : World) :
    Calls Try.prog 5 #[.int .i64 cap, .bool old, x] w fun e w' => e = .returned (.bool true) ∧ Below w.heap.size w w' := by
  have HN := Lib.hid (fun pol => rg_new_bad w cap pol (by omega))
  clear h
  cases old
  all_goals
    go_enter Try.func5, Try.ntmps5
    go_wp2_with fail
    refine (HN.out _).mono ?_
    rintro e w1 ⟨rfl, rfl⟩
    go_wp2_with fail
    refine (awake8_any _).mono ?_
    rintro e w1 ⟨rfl, b1⟩
    go_wp2_with fail
    refine (awake8_any _).mono ?_
    rintro e w2 ⟨rfl, b2⟩
    go_wp2_with fail
    go_ret
    exact ⟨rfl, b1.trans (b2.mono b1.size)⟩

set_option maxRecDepth 100000 in
set_option maxHeartbeats 1000000 in
theorem walk_long (cap : Int) (old : Bool) (hc : 179 ≤ cap) (hc' : cap ≤ 1048576) (ao : Option Addr) (len cp : Nat) (f : Nat → Int × Int × ByteArray) (hl : len * 32 ≤ 140737488351232) (hm : muchB len f = true) (w : World) (hs : SeenOps w ao len cp f) :
    Calls Try.prog 5 #[.int .i64 cap, .bool old, .slice ao len cp] w fun e w' => e = .returned (.bool true) ∧ Below w.heap.size w w' := by
  have HN := Lib.hid (fun pol hp => rg_new w cap pol hc hc' hp)
  have HG := Lib.hid (fun w1 (hb : Below w.heap.size w w1) => great_any ao len cp f hl w1 (hs.below hb))
  rw [hm] at HG
  clear hs hm
  cases old
  all_goals
    go_enter Try.func5, Try.ntmps5
    go_wp2_with fail
    refine (HN.out _ (by decide)).mono ?_
    rintro e w1 ⟨rfl, hw1⟩
    have b1 : Below w.heap.size w w1 := by rw [hw1]; exact (Below.refl _ _).alloc (Nat.le_refl _) _
    clear hw1
    go_wp2_with fail
    refine (awake8_any _).mono ?_
    rintro e w2 ⟨rfl, b2⟩
    have b3 := b1.trans (b2.mono b1.size)
    go_wp2_with fail
    refine (HG.out _ b3).mono ?_
    rintro e w4 ⟨rfl, b4⟩
    have b5 := b3.trans (b4.mono b3.size)
    go_wp2_with fail
    refine (awake8_any _).mono ?_
    rintro e w6 ⟨rfl, b6⟩
    go_wp2_with fail
    go_ret
    exact ⟨rfl, b5.trans (b6.mono b5.size)⟩

/-- What is left of the document's ring is taken, frame by frame. -/
structure Left (w wr : World) (m : Nat) (vl vg : Value) (s : RSt) : Prop where
  mt : Mt wr m vl vg s
  below : Below w.heap.size w wr
  hm : w.heap.size ≤ m
theorem Left.next {w wr : World} {m n cap : Nat} {ao : Option Addr} {vg : Value} {s : RSt} (h : Left w wr m (.slice ao n cap) vg s) (hl : 1 ≤ s.fs.length) :
    Left w (wr.setCell ⟨m, 2, none⟩ (sliced ao 1 n cap 1)) m (sliced ao 1 n cap 1) vg { s with fs := s.fs.drop 1 } := by
  obtain ⟨d1, d2⟩ := h.mt.rl.drop 1 hl
  obtain ⟨m1, -, -⟩ := h.mt.put_row d1 (Only.refl _ _) (fun k hk => .inl (d2 k hk))
  exact ⟨m1, h.below.setCell (p := ⟨m, 2, none⟩) h.hm _, h.hm⟩

set_option maxRecDepth 100000 in
set_option maxHeartbeats 8000000 in
theorem walk_short (cap : Nat) (old : Bool) (hc : 179 ≤ cap) (hc' : cap ≤ 1048576) (ao : Option Addr) (len cp : Nat) (f : Nat → Int × Int × ByteArray) (hl : len ≤ 300) (hft : tot f len ≤ 32768) (hm : muchB len f = false) (w : World) (hs : SeenOps w ao len cp f) :
    Calls Try.prog 5 #[.int .i64 cap, .bool old, .slice ao len cp] w fun e w' => e = .returned (.bool true) ∧ Below w.heap.size w w' := by
  obtain ⟨pol, hpol⟩ : ∃ pol, pol = polOf old := ⟨_, rfl⟩
  have hp : pol = 0 ∨ pol = 1 := by rw [hpol]; exact polOf_or old
  have HN := Lib.hid (rg_new w cap pol (by omega) (by omega) (by omega))
  have HG := Lib.hid (fun w1 (hb : Below w.heap.size w w1) => great_any ao len cp f (by omega) w1 (hs.below hb))
  rw [hm] at HG
  have HS := Lib.hid hs
  have HOK := Lib.hid (ok_new cap pol hc hc' hp)
  have HP := Lib.hid hpol
  clear hs hm hp hpol
  go_enter Try.func5, Try.ntmps5
  go_upto_if 15 with fail
  go_cut [7] (fun p wx => p = .int .i64 pol ∧ wx = w)
  case first =>
    cases old
    all_goals
      go_wp2_with fail
      go_meet
      exact ⟨by rw [HP.out]; rfl, rfl⟩
  case rest =>
  obtain ⟨rfl, hwc⟩ := hcut
  have hwc' := hwc.symm
  subst hwc'
  clear hwc HP
  go_wp2_with fail
  refine HN.out.mono ?_
  rintro e w1 ⟨rfl, hw1⟩
  have r1 : RB w w1 w.heap.size (.slice none 0 0) ⟨cap, pol, [], false, 0, []⟩ := by
    rw [hw1]
    exact ⟨ring_new w cap pol, HOK.out, (Below.refl _ _).alloc (Nat.le_refl _) _, Nat.le_refl _, fun k hk => by cases hk⟩
  have R1 := Lib.hid r1
  clear hw1 r1 HN
  go_wp2_with fail
  refine (awake8_any _).mono ?_
  rintro e w2 ⟨rfl, b2⟩
  have r2 := R1.out.kept b2
  have R2 := Lib.hid r2
  clear b2 r2 R1
  go_wp2_with fail
  refine (HG.out _ R2.out.below).mono ?_
  rintro e w3 ⟨rfl, b3⟩
  have r3 := both_new (R2.out.kept b3) cap pol HOK.out
  have R3 := Lib.hid r3
  clear b3 r3 R2 HG
  go_wp2_with fail
  go_loopw [11, 12, 43] (fun all want i wr => ∃ (k : Nat) (v vl vg : Value) (s : RSt) (o : ByteArray), k ≤ len ∧ i = .int .i64 k ∧ all = .string o ∧ want = .string o ∧ Both w wr w.heap.size v w3.heap.size vl vg s s ∧ Cnt s k (tot f k) ∧ o.size + s.used ≤ tot f k) (fun _ _ i _ => len - (intOf i).toNat)
  case atStart => exact ⟨0, _, _, _, _, ⟨#[]⟩, Nat.zero_le _, rfl, rfl, rfl, R3.out, cnt_new cap pol, Nat.le_refl _⟩
  case round =>
    clear R3
    obtain ⟨k, v, vl, vg, s, o, hk, rfl, rfl, rfl, hB, hC, hO⟩ := hrel
    have htl := tot_le' f k len hk
    by_cases hlt : k < len
    · obtain ⟨b, off, hao, hbw, hcell⟩ := HS.out.row k hlt
      subst hao
      obtain ⟨h0, h1', h2'⟩ := hcell k hlt
      have c0 := (hB.rb.below.cell (p := ⟨b, off + k * 3, none⟩) hbw).trans h0
      have c1 := (hB.rb.below.cell (p := ⟨b, off + k * 3 + 1, none⟩) hbw).trans h1'
      have c2 := (hB.rb.below.cell (p := ⟨b, off + k * 3 + 2, none⟩) hbw).trans h2'
      have htx := one_small f len k hlt hft
      have hnb := HS.out.nb k
      have htot : tot f (k + 1) = tot f k + min (f k).2.2.size 65536 := rfl
      have htot2 : tot f (k + 1) = tot f k + (f k).2.2.size := by omega
      have Htot := Lib.hid htot2
      clear hcell h0 h1' h2' htot htot2
      generalize (f k).1 = kd at *
      generalize (f k).2.1 = n at *
      generalize (f k).2.2 = tx at *
      have HB := Lib.hid (fun kd : Int => hB.alloc (.cells #[.int .i64 kd, .int .i64 n, .string tx] 35))
      have HC := Lib.hid hC
      have hcl := hC.fr
      have hcg := hC.go
      have hbl : w.heap.size < wr.heap.size := Rg.lt hB.rb.ring
      have hml : w3.heap.size < wr.heap.size := hB.mt.lt
      have hvl := hB.rb.ring.row.lt
      have HVL := Lib.hid hvl
      clear hB hC hvl
      rcases (show kd = 1 ∨ kd = 2 ∨ (kd ≠ 1 ∧ kd ≠ 2) from by omega) with hkd | hkd | hkd
      · subst hkd
        have B1 := Lib.hid (HB.out 1)
        have HP1 := Lib.hid (rg_put B1.out.rb.ring B1.out.rb.ok tx (by unfold maxLen; omega) (by omega))
        have hO2 : (wr.alloc (.cells #[.int .i64 1, .int .i64 n, .string tx] 35)).cell? ⟨wr.heap.size, 2, none⟩ = some (.string tx) := by simp
        have HO := Lib.hid hO2
        have HU := Lib.hid (put_used s tx)
        clear HB hO2
        go_wp2_with fail
        refine HP1.out.mono ?_
        rintro e w5 ⟨rfl, v5, r5, t5⟩
        have x2 : w5.cell? ⟨wr.heap.size, 2, none⟩ = some (.string tx) := t5.1.cell HO.out (fun hS => by
          rcases hS with e | e
          · simp at e; omega
          · have := HVL.out _ e; simp at this)
        have B5 := Lib.hid (B1.out.ring r5 (RSt.ok_put B1.out.rb.ok tx) t5)
        clear r5 t5 HP1 HO
        have HP2 := Lib.hid (mt_put B5.out.mt B5.out.ok2 tx (by unfold maxLen; omega) (by omega) (by omega))
        go_wp2_with fail
        refine HP2.out.mono ?_
        rintro e w6 ⟨rfl, vl6, vg6, m6, t6⟩
        have HN := Lib.hid (B5.out.ref m6 (RSt.ok_put B5.out.ok2 tx) t6)
        have HC2 := Lib.hid (HC.out.put tx)
        rw [← Htot.out] at HC2
        have HO2 := Lib.hid (show o.size + (s.put tx).2.used ≤ tot f (k + 1) by rw [Htot.out]; have := HU.out; omega)
        clear m6 t6 HP2 x2
        go_wp2_with fail
        go_roundw
        case rel => exact ⟨k + 1, _, _, _, _, o, hlt, by go_num, rfl, rfl, HN.out, HC2.out, HO2.out⟩
        case measure => simp [intOf]; omega
      · subst hkd
        have B1 := Lib.hid (HB.out 2)
        have HP1 := Lib.hid (rg_drain B1.out.rb.ring B1.out.rb.ok n n.toNat rfl hnb)
        have hO2 : (wr.alloc (.cells #[.int .i64 2, .int .i64 n, .string tx] 35)).cell? ⟨wr.heap.size, 1, none⟩ = some (.int .i64 n) := by simp
        have HO := Lib.hid hO2
        have hdu := drain_used s n.toNat
        obtain ⟨d, hd⟩ : ∃ d : ByteArray, d = ⟨(s.drained n.toNat).toArray⟩ := ⟨_, rfl⟩
        have hds : d.size = (s.drained n.toNat).length := by rw [hd]; exact bytes_size _
        have hdz : d.size ≤ 32768 := by omega
        have hoz : o.size ≤ 32768 := by omega
        rw [← hd] at HP1
        have HDD := Lib.hid hd
        have HO2 := Lib.hid (show (o ++ d).size + (s.drain n.toNat).used ≤ tot f (k + 1) by rw [Htot.out, ByteArray.size_append]; omega)
        clear HB hO2 hd hdu hds
        go_wp2_with fail
        refine HP1.out.mono ?_
        rintro e w5 ⟨rfl, v5, r5, t5, -⟩
        have x2 : w5.cell? ⟨wr.heap.size, 1, none⟩ = some (.int .i64 n) := t5.1.cell HO.out (fun hS => by
          rcases hS with e | e
          · simp at e; omega
          · have := HVL.out _ e; simp at this)
        have B5 := Lib.hid (B1.out.ring r5 (RSt.ok_drain B1.out.rb.ok n.toNat) t5)
        clear r5 t5 HP1 HO
        have HP2 := Lib.hid (mt_drain B5.out.mt B5.out.ok2 n n.toNat rfl hnb)
        rw [← HDD.out] at HP2
        go_wp2_with fail
        refine HP2.out.mono ?_
        rintro e w6 ⟨rfl, vl6, m6, t6⟩
        have HN := Lib.hid (B5.out.ref m6 (RSt.ok_drain B5.out.ok2 n.toNat) t6)
        have HC2 := Lib.hid ((HC.out.drain n.toNat).more (show k ≤ k + 1 by omega) (show tot f k ≤ tot f (k + 1) by rw [Htot.out]; omega))
        clear m6 t6 HP2 x2
        go_wp2_with fail
        go_roundw
        case rel => exact ⟨k + 1, _, _, _, _, o ++ d, hlt, by go_num, rfl, rfl, HN.out, HC2.out, HO2.out⟩
        case measure => simp [intOf]; omega
      · have e1 : (kd == 1) = false := by simp; omega
        have e2 : (kd == 2) = false := by simp; omega
        have B1 := Lib.hid (HB.out kd)
        have HC2 := Lib.hid (HC.out.more (show k ≤ k + 1 by omega) (show tot f k ≤ tot f (k + 1) by rw [Htot.out]; omega))
        have HO2 := Lib.hid (show o.size + s.used ≤ tot f (k + 1) by rw [Htot.out]; omega)
        clear HB hkd
        go_wp2_with fail
        go_roundw
        case rel => exact ⟨k + 1, _, _, _, _, o, hlt, by go_num, rfl, rfl, B1.out, HC2.out, HO2.out⟩
        case measure => simp [intOf]; omega
    · have hkl : k = len := by omega
      subst hkl
      have HB := Lib.hid hB
      have U1 := Lib.hid (rg_used hB.rb.ring)
      have hus : s.used ≤ 32768 := by omega
      have D1 := Lib.hid (rg_drain hB.rb.ring hB.rb.ok (s.used : Int) s.used (by simp) (by omega))
      rw [drained_all hB.rb.ok] at D1
      obtain ⟨d, hd⟩ : ∃ d : ByteArray, d = ⟨(bys s.fs).toArray⟩ := ⟨_, rfl⟩
      have hds : d.size = (bys s.fs).length := by rw [hd]; exact bytes_size _
      have hbl := bys_len s.fs
      have hlu : sz s.fs = s.used := rfl
      have hdz : d.size ≤ 32768 := by omega
      have hoz : o.size ≤ 32768 := by omega
      rw [← hd] at D1
      have HDD := Lib.hid hd
      clear hB hC HS hd hds hbl hlu
      go_wp2_with fail
      refine U1.out.mono ?_
      rintro e w4 ⟨rfl, rfl⟩
      go_wp2_with fail
      refine D1.out.mono ?_
      rintro e w5 ⟨rfl, v5, r5, t5, -⟩
      have B5 := HB.out.ring r5 (RSt.ok_drain HB.out.rb.ok s.used) t5
      have L5 : Left w w5 w3.heap.size vl vg s := ⟨B5.mt, B5.rb.below, B5.hm⟩
      have HL := Lib.hid L5
      clear r5 t5 B5 L5 D1 U1
      go_wp2_with fail
      go_loopw [12] (fun want wx => ∃ (o1 : ByteArray) (vl1 : Value) (l1 : List ByteArray), want = .string o1 ∧ Left w wx w3.heap.size vl1 vg { s with fs := l1 } ∧ o1.data.toList ++ bys l1 = o.data.toList ++ bys s.fs ∧ o1.size + sz l1 ≤ 32768) (fun _ wx => heldOf wx w3.heap.size)
      case atStart => exact ⟨o, vl, s.fs, rfl, HL.out, rfl, by have : sz s.fs = s.used := rfl; omega⟩
      case round =>
        obtain ⟨o1, vl1, l1, rfl, hL1, hE, hZ⟩ := hrel
        clear HL
        obtain ⟨c0, c1, c2, c3, c4, c5⟩ := hL1.mt.c
        have f2 := hL1.mt.free 2
        obtain ⟨al, cl, rfl, hcl⟩ := hL1.mt.rl.shape
        have HL1 := Lib.hid hL1
        have HE := Lib.hid hE
        cases l1 with
        | nil =>
          have ho : o1 = o ++ d := by
            apply ByteArray.ext
            apply Array.ext'
            rw [list_append, HDD.out]
            have := HE.out
            rw [show bys ([] : List ByteArray) = [] from rfl, List.append_nil] at this
            rw [this]
          subst ho
          simp only [List.length_nil] at c2
          clear hL1 hE HE hZ HDD
          go_wp2_with fail
          go_ret
          exact ⟨by simp, HL1.out.below⟩
        | cons g1 r1 =>
          obtain ⟨g, off, cap', hv, -, -, hcell, -⟩ := hL1.mt.rl.at 0 (by simp)
          simp only [Value.slice.injEq] at hv
          obtain ⟨rfl, -, rfl⟩ := hv
          have d0 := hcell 0 g1 rfl
          simp only [Nat.add_zero] at d0
          obtain ⟨NN, hNN⟩ : ∃ NN, NN = (g1 :: r1).length := ⟨_, rfl⟩
          have hn : Left w (wr.setCell ⟨w3.heap.size, 2, none⟩ (sliced (some ⟨g, off, none⟩) 1 NN cl 1)) w3.heap.size (sliced (some ⟨g, off, none⟩) 1 NN cl 1) vg { s with fs := r1 } := by
            rw [hNN]
            exact hL1.next (by show 1 ≤ (g1 :: r1).length; simp)
          have c2' : wr.cell? ⟨w3.heap.size, 2, none⟩ = some (.slice (some ⟨g, off, none⟩) NN cl) := by rw [hNN]; exact c2
          have hcl' : NN ≤ cl := by rw [hNN]; exact hcl
          have hm0 : heldOf wr w3.heap.size = NN := by rw [hNN]; exact heldOf_mt hL1.mt
          have hlen : NN = r1.length + 1 := hNN
          have hm1 : heldOf (wr.setCell ⟨w3.heap.size, 2, none⟩ (sliced (some ⟨g, off, none⟩) 1 NN cl 1)) w3.heap.size < heldOf wr w3.heap.size := by
            have h9 := heldOf_mt hn.mt
            have h10 : ({ s with fs := r1 } : RSt).fs.length = r1.length := rfl
            omega
          have hN0 : (0 : Int) < (NN : Int) := by omega
          have hN1 : (1 : Int) ≤ (NN : Int) := by omega
          have hZ' : o1.size + (g1.size + sz r1) ≤ 32768 := hZ
          have hz1 : o1.size ≤ 32768 := by omega
          have hz2 : g1.size ≤ 32768 := by omega
          have HE2 := Lib.hid (show (o1 ++ g1).data.toList ++ bys r1 = o.data.toList ++ bys s.fs by rw [list_append, List.append_assoc]; exact HE.out)
          have HZ2 := Lib.hid (show (o1 ++ g1).size + sz r1 ≤ 32768 by rw [ByteArray.size_append]; omega)
          clear hL1 hE hZ hcell hm0 HE c2 hcl HL1 hNN
          by_cases hcF : cl = 1
          · rw [sliced_stay _ _ _ _ _ hcF] at hn hm1
            subst hcF
            rw [show NN - 1 = 0 by omega, Nat.sub_self] at hn hm1
            have Hme := Lib.hid hm1
            have HN := Lib.hid hn
            clear hn hm1 hlen
            go_wp2_with fail
            go_roundw
            case rel => exact ⟨o1 ++ g1, _, _, rfl, HN.out, HE2.out, HZ2.out⟩
            case measure => exact Hme.out
          · rw [sliced_move _ _ _ _ _ hcF] at hn hm1
            have Hme := Lib.hid hm1
            have HN := Lib.hid hn
            clear hn hm1 hlen
            go_wp2_with fail
            go_roundw
            case rel => exact ⟨o1 ++ g1, _, _, rfl, HN.out, HE2.out, HZ2.out⟩
            case measure => exact Hme.out

theorem walk {w : World} (cap : Int) (wc : (Lit.int .i64 cap).wf = true) (old : Bool) (ao : Option Addr) (len cp : Nat) (f : Nat → Int × Int × ByteArray) (h0 : SeenOps w ao len cp f ∧ True) (hl : len * 32 ≤ 140737488351232) :
    Calls Try.prog 5 #[.int .i64 cap, .bool old, .slice ao len cp] w fun e w' => e = .returned (.bool true) ∧ Below w.heap.size w w' := by
  by_cases hb : cap < 179 ∨ 1048576 < cap
  · exact walk_bad cap old _ hb w
  · cases hm : muchB len f with
    | true => exact walk_long cap old (by omega) (by omega) ao len cp f hl hm w h0.1
    | false =>
      have hm' := hm
      unfold muchB at hm'
      simp at hm'
      obtain ⟨c, rfl⟩ := Int.eq_ofNat_of_zero_le (show 0 ≤ cap by omega)
      exact walk_short c old (by omega) (by omega) ao len cp f (by omega) (by omega) hm w h0.1

theorem own : ownKnob Try.prog.godebug = none := by kernel_rfl
theorem laidOut : laidOutB Try.prog = true := by kernel_rfl

set_option maxRecDepth 100000 in
theorem lifted (os : Os) (started : os.Started) (H : Type) (enc : TypeId × Value → H) :
    ReturnsInHanded {} Try.checked os 5 .any (Rows.ringWholeSpec.pre6 enc Try.prog Try.f5 Rows.ringWholeRow.domain false) (Rows.ringWholeSpec.post enc Try.prog Try.f5 false true false false) := by
  refine returnsInHanded_of_change_shaped (C := Try.checked) own started (by kernel_rfl) Try.func5
    (ChangeSpec.witness6 (enc := enc) (C := Try.checked) false ⟨#[], #[.int .i64 0, .bool false, .slice none 0 0], []⟩ 8 (by kernel_rfl) (by kernel_rfl) (by kernel_rfl) (by kernel_rfl)) ?_
  intro W base args ds gs before hval0 hW hcnd hsz0 hsh _
  have hval : ∀ (j : Nat) t v, Try.f5.params[j]? = some t → args[j]? = some v → Value.okWide Try.prog W .any base t v := hval0
  have hsz : (DataW.weightsEach Try.prog (Try.f5.params.toList ++ Rows.ringWholeSpec.plain.varTypes Try.prog) (ds ++ gs)).all (· ≤ reachBytes) = true := hsz0
  have hW' := hW
  obtain ⟨p, q, hA0, hV, rfl, hfz, hnd⟩ := hW
  have hA : DataW.TrodAll enc Try.prog W 0 (fun _ => true) true Try.f5.params.toList args.toList ds p := hA0
  rw [Try.params5] at hA hval hsz
  obtain ⟨v0, vs0, d0, ds0, p0, q0, hargs, rfl, rfl, h0, r0⟩ := trodAll_cons hA
  obtain ⟨v1, vs1, d1, ds1, p1, q1, rfl, rfl, rfl, h1, r1⟩ := trodAll_cons r0
  obtain ⟨v2, vs2, d2, ds2, p2, q2, rfl, rfl, rfl, h2, r2⟩ := trodAll_cons r1
  obtain ⟨rfl, rfl, rfl⟩ := trodAll_nil r2
  obtain rfl : args = #[v0, v1, v2] := by cases args; simp_all
  obtain ⟨rfl, rfl⟩ := trodVars_none hV
  have k0 := h0
  have lt0 : ∀ x ∈ p0, x.block < W.heap.size := by obtain ⟨m, hm⟩ := k0; exact DataW.trod_lt m _ _ _ hm
  have k1 := h1
  have lt1 : ∀ x ∈ p1, x.block < W.heap.size := by obtain ⟨m, hm⟩ := k1; exact DataW.trod_lt m _ _ _ hm
  have k2 := h2
  have lt2 : ∀ x ∈ p2, x.block < W.heap.size := by obtain ⟨m, hm⟩ := k2; exact DataW.trod_lt m _ _ _ hm
  obtain ⟨a0, rfl, rfl, rfl, w0⟩ := open_int Try.underlying3 (hval 0 3 v0 rfl rfl) h0
  obtain ⟨a1, rfl, rfl, rfl⟩ := open_bool Try.underlying4 (hval 1 4 v1 rfl rfl) h1
  obtain ⟨a2, len2, cap2, rfl⟩ := okWide_slice Try.underlying22 (hval 2 22 v2 rfl rfl)
  obtain ⟨z2, w2⟩ := open_ops h2
  have sz2 : len2 * 32 ≤ 140737488351232 := by
    rcases w2.2.2 with h | ⟨el, sp, hd, hl⟩
    · omega
    · rw [hd] at hsz
      have hq := sized_slice hsz (j := 2) (t := 22) (e := 35) rfl rfl Try.underlying22
      rw [show Try.prog.bytesOf 35 = 32 from by kernel_rfl] at hq
      simp only [reachBytes] at hq
      omega
  clear hA0 hval0
  refine (walk a0 w0 a1 a2 len2 cap2 z2 ⟨w2.1, w2.2.1⟩ sz2 ).mono fun e W' ⟨he, bel⟩ => ?_
  subst he
  exact ⟨_, rfl, _, _, _, [], _, [], hW', trodAll_mk1 (shut_bool Try.underlying4 _), (trodAll_cons_mk (Below.trod laidOut (by kernel_rfl) (of_decide_eq_true (by kernel_rfl)) k0 bel lt0) (trodAll_cons_mk (Below.trod laidOut (by kernel_rfl) (of_decide_eq_true (by kernel_rfl)) k1 bel lt1) (trodAll_cons_mk (Below.trod laidOut (by kernel_rfl) (of_decide_eq_true (by kernel_rfl)) k2 bel lt2) trodAll_mk0))), rfl, bel.frame _, fun h => by cases h⟩

theorem over : Rows.ringWholeRow.holds Try.pinned (OpenSpec.ofChange Rows.ringWholeSpec) :=
  OpenClaim.holds_of_wide 5 Try.f5 rfl rfl rfl rfl rfl rfl rfl ⟨rfl, rfl, rfl, rfl, rfl⟩ rfl rfl rfl rfl rfl (by kernel_rfl) Try.func5 (by kernel_rfl)
    (of_decide_eq_true (by kernel_rfl)) (by unfold Func.isWrapper; first | (rw [if_pos (by decide +kernel)]; kernel_rfl) | (rw [if_neg (by decide +kernel)]; exact ⟨rfl, rfl⟩))
    (fun os started H enc _ => lifted os started H enc)

theorem proved : Rows.RingWholeSaid :=
  over
#print axioms proved
end Go.Proofs.Ytjdnjkniiippkaa.ringWhole
