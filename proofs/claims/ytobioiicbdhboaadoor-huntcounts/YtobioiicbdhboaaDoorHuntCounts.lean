/-
  HuntCounts: closed, each byte was skipped, or belongs to a frame that was told; numbers rise, and each gap is just what is missing: for every list of texts the statement's function answers true. Conditions: none beyond the card's own: the listed package variables start as the program's text lays them, which the card ties to that text.
-/
import Derived.Test.YtobioiicbdhboaaDoorHuC
import Derived.Test.YtobioiicbdhboaaDoorTie
import Derived.Test.YtobioiicbdhboaaDoorCards
import Derived.ProofKit
import Derived.OpenShut
import Derived.ShutString
import Derived.LaidMore
import Derived.Lay
import Derived.SevenTiedAt
import Derived.Stop.Joined
import Derived.Deep.DeepHandedRow
import Derived.BigRegion
import Derived.Deep.RegionWith
import Derived.Deep.DeepCutAuto
namespace Go.Proofs.YtobioiicbdhboaaDoor.HuntCounts
open Go.ChangeShapes Go.WideShapes Go.ChangeAt Go.RowKit
open Go.ChangeMaps (open_string shut_string)
set_option linter.unusedVariables false
set_option linter.unusedSimpArgs false

theorem chain_nil {n m u lo : Nat} (h : Chain n [] m u lo) : n = m ∧ u = 0 ∧ lo = 0 := by cases h; exact ⟨rfl, rfl, rfl⟩
theorem chain_cons {n m u lo : Nat} {x : It} {l : List It} (h : Chain n (x :: l) m u lo) :
    (∃ k lo', x = ⟨2, n, k, []⟩ ∧ 0 < k ∧ n + k < 4294967296 ∧ lo = lo' + k ∧ Chain (n + k) l m u lo') ∨
    (∃ e u', x = ⟨1, n, 0, e⟩ ∧ n < 4294967296 ∧ (∀ y ∈ e, EvFits y) ∧ (frameP n e).2 = 0 ∧ u = u' + (frameP n e).1.length ∧ Chain (n + 1) l m u' lo) := by
  cases h with
  | gap h1 h2 h3 => exact .inl ⟨_, _, rfl, h1, h2, rfl, h3⟩
  | frame h1 h2 h3 h4 => exact .inr ⟨_, _, rfl, h1, h2, h3, rfl, h4⟩
theorem drop_at {l : List It} {j : Nat} (h : j < l.length) : l.drop j = l[j] :: l.drop (j + 1) := List.drop_eq_getElem_cons h
theorem chain_lo {n m u lo : Nat} {l : List It} (h : Chain n l m u lo) : n + lo ≤ m := by
  induction h with
  | nil => omega
  | gap h1 h2 h3 ih => omega
  | frame h1 h2 h3 h4 ih => omega
/-- Each event has a byte at least. -/
theorem coil_events' : ∀ (l : List Ev) (b : Ev), (coilGo b l).2 = 0 → l.length ≤ (coilGo b l).1.length
  | [], b, h => by simp
  | e :: l, b, h => by
    unfold coilGo at h ⊢
    by_cases hp : putE b e = 0
    · rw [if_pos hp] at h ⊢
      unfold joinP at h ⊢
      by_cases h2 : (coilGo e l).2 = 0
      · rw [if_pos h2]
        have ih := coil_events' l e h2
        simp only [List.length_append, evBytes, List.length_cons]
        omega
      · rw [if_neg h2] at h; exact absurd h h2
    · rw [if_neg hp] at h; exact absurd h hp
theorem coil_events (l : List Ev) (hf : ∀ e ∈ l, EvFits e) (h : (coilL l).2 = 0) : l.length ≤ (coilL l).1.length := coil_events' l _ h
/-- What a closed hunter counts. -/
theorem shut_chain (L : List UInt8) : ∃ u lo, Chain 0 (shutS L).told (shutS L).next u lo ∧ (shutS L).lost = lo ∧ L.length = (shutS L).skip + u ∧ (shutS L).next ≤ 4294967296 := by
  obtain ⟨l, u, lo, h1, h2, h3, h4⟩ := HS.go_chain true (hs0.more L)
  have hr := HS.go_all (hs0.more L)
  have hn := HS.go_small true (hs0.more L) (show (0 : Nat) ≤ 4294967296 by decide)
  have e1 : (hs0.more L).told = [] := rfl
  rw [e1, List.nil_append] at h1
  rw [hr] at h4
  have e2 : (hs0.more L).skip + (hs0.more L).rest.length = L.length := by show 0 + ([] ++ L).length = _; simp
  rw [e2] at h4
  have e3 : (hs0.more L).lost = 0 := rfl
  rw [e3] at h3
  refine ⟨u, lo, by unfold shutS; rw [h1]; exact h2, by unfold shutS; rw [h3]; omega, by unfold shutS; simp only [List.length_nil] at h4; omega, hn.1⟩

set_option maxRecDepth 100000 in
set_option maxHeartbeats 4000000 in
theorem walk_much {w : World} (ao : Option Addr) (len cap : Nat) (f : Nat → ByteArray) (hs : Seen w ao len cap (fun i => .string (f i))) (hz : ∀ k, (f k).size ≤ maxLen) (hl : len * 16 ≤ 140737488351232) (hL : EvL w) (hm : muchT len f = true) :
    Calls Tryd.prog 5 #[.slice ao len cap] w fun r w' => r = .returned (.bool true) ∧ Below w.heap.size w w' := by
  have HSn := Lib.hid hs
  have HL := Lib.hid hL
  have HG := Lib.hid (fun W h => great9_any ao len cap f W h hz (by omega))
  rw [hm] at HG
  clear hs hL hz hm
  go_enter Tryd.func5, Tryd.ntmps5
  go_wp2_with fail
  refine (awake9_any w HL.out).mono ?_
  rintro r w3 ⟨rfl, b3⟩
  have B3 := Lib.hid b3
  clear b3
  go_wp2_with fail
  refine (HG.out w3 (seen_below HSn.out B3.out)).mono ?_
  rintro r w4 ⟨rfl, rfl⟩
  go_wp2_with fail
  refine (awake9_any w3 (HL.out.below B3.out)).mono ?_
  rintro r w4 ⟨rfl, b4⟩
  have B4 := Lib.hid (B3.out.trans (b4.mono B3.out.size))
  clear b4 B3
  go_wp2_with fail
  go_ret
  exact ⟨rfl, B4.out⟩

set_option maxRecDepth 100000 in
set_option maxHeartbeats 16000000 in
theorem walk_few {w : World} (ao : Option Addr) (len cap : Nat) (f : Nat → ByteArray) (hs : Seen w ao len cap (fun i => .string (f i))) (hz : ∀ k, (f k).size ≤ maxLen) (hL : EvL w) (hm : muchT len f = false) :
    Calls Tryd.prog 5 #[.slice ao len cap] w fun r w' => r = .returned (.bool true) ∧ Below w.heap.size w w' := by
  have hV := hL.lt
  have hfew : len + sumT f len ≤ 4000 := by unfold muchT at hm; simpa using hm
  have HSn := Lib.hid hs
  have HL := Lib.hid hL
  have HG := Lib.hid (fun W h => great9_any ao len cap f W h hz (by omega))
  rw [hm] at HG
  obtain ⟨B, hB⟩ : ∃ B, w.heap.size = B := ⟨_, rfl⟩
  have HA := Lib.hid (awake9_any w hL)
  rw [hB] at HA hV ⊢
  have HBe := Lib.hid hB
  clear hs hL hz hm hB
  go_enter Tryd.func5, Tryd.ntmps5
  go_wp2_with fail
  refine HA.out.mono ?_
  rintro r w1 ⟨rfl, b1⟩
  have B1 := Lib.hid b1
  have S1 := Lib.hid (show B ≤ w1.heap.size by rw [← HBe.out]; exact b1.size)
  clear b1 HA
  go_wp2_with fail
  refine (HG.out w1 (seen_below HSn.out (by rw [HBe.out]; exact B1.out))).mono ?_
  rintro r w2 ⟨rfl, rfl⟩
  clear HG
  go_wp2_with fail
  refine (make_any w1).mono ?_
  rintro r w2 ⟨rfl, t2, b2⟩
  have T2 := Lib.hid t2
  have B2 := Lib.hid (B1.out.trans (b2.mono S1.out))
  have S2 := Lib.hid (Nat.le_trans S1.out b2.size)
  have L2 := Lib.hid (HL.out.below (by rw [HBe.out]; exact B2.out))
  obtain ⟨t, ht⟩ : ∃ t, w1.heap.size = t := ⟨_, rfl⟩
  rw [ht] at T2 ⊢
  clear t2 b2 ht
  go_wp2_with fail
  refine (hnew_any w2 t).mono ?_
  rintro r w3 ⟨rfl, hw3⟩
  have P3 := Lib.hid (show HB w w3 B w2.heap.size t (.slice none 0 0) hs0 false by rw [hw3]; exact hb_new S2.out B2.out L2.out T2.out)
  obtain ⟨b, hb⟩ : ∃ b, w2.heap.size = b := ⟨_, rfl⟩
  rw [hb] at P3 ⊢
  have R4 := Lib.hid (run9_new (C := B) P3.out hV (Nat.le_refl _) P3.out.le)
  clear hw3 hb P3 T2 L2 B2 S2 B1 S1
  go_wp2_with fail
  go_loopw [5, 6, 29] (fun a by' i wr => ∃ (k : Nat) (v va : Value) (la : List Im) (L : List UInt8), k ≤ len ∧ i = .int .i64 k ∧ by' = .int .u64 (L.length : Int) ∧ a = va ∧ L.length = sumT f k ∧ Hid (Run9 w wr B B b t v va la L)) (fun _ _ i _ => len - (intOf i).toNat)
  case atStart => exact ⟨0, _, _, _, [], Nat.zero_le _, rfl, rfl, rfl, rfl, R4⟩
  case round =>
    clear R4
    obtain ⟨k, v, va, la, L, hk, rfl, rfl, rfl, hX, R⟩ := hrel
    obtain ⟨aa, ca, hva⟩ := R.out.own.shape
    subst hva
    by_cases hlt : k < len
    · obtain ⟨g, off, hao, hgw, hcell⟩ := HSn.out.row k hlt
      subst hao
      have c0 := (R.out.hb.bel.cell (p := ⟨g, off + k, none⟩) (by rw [← HBe.out]; exact hgw)).trans (hcell k hlt)
      obtain ⟨hx1, hx2, hx3⟩ := text_small hfew hlt
      have HSum := Lib.hid hx2
      clear hcell hgw
      generalize f k = Y at *
      have hXY : L.length + Y.size ≤ 4000 := by omega
      have HFd := Lib.hid (R.out.feed Y hXY)
      have HYl := Lib.hid (show (L ++ Y.data.toList).length = L.length + Y.size by rw [List.length_append]; rfl)
      have hkI : (k : Int) < (len : Int) := by omega
      clear R
      go_wp2_with fail
      refine HFd.out.mono ?_
      rintro r w6 ⟨vg, lg, cp, v6, rfl, r6, ra6, le6, len6, o6, own6, N6⟩
      have R6 := Lib.hid r6
      have RA6 := Lib.hid ra6
      have N6' := Lib.hid N6
      clear r6 ra6 own6 N6 o6 HFd c0
      go_wp2_with (at_builtin; refine wpList_append_im rfl _ _ rfl B 0 _ _ rfl la lg RA6.out le6 rfl R6.out (by omega) ?_)
      intro a7 p7 w7 r7 g7
      have R7 := Lib.hid (N6'.out (.slice a7 (la.length + lg.length) p7) w7 (by rw [List.length_append]; exact r7) g7)
      clear r7 g7 N6' R6 RA6
      go_wp2_with fail
      go_roundw
      case rel => exact ⟨k + 1, v6, _, la ++ lg, L ++ Y.data.toList, hlt, by go_num, by rw [HYl.out]; go_num, rfl, by rw [HSum.out, HYl.out]; omega, R7⟩
      case measure => simp [intOf]; omega
    · have hd1 : decide ((k : Int) < (len : Int)) = false := by simp; omega
      have hd2 : decide (k < len) = false := by simp; omega
      have hnI : ¬ ((k : Int) < (len : Int)) := by omega
      have hXs : L.length ≤ 4000 := by have := sumT_mono f k len (by omega); omega
      have HCl := Lib.hid (R.out.close hXs)
      clear R hfew HSn HL hX
      go_wp2_with fail
      refine HCl.out.mono ?_
      rintro r w6 ⟨vg, lg, cp, v6, rfl, r6, ra6, le6, len6, o6, own6, N6⟩
      have R6 := Lib.hid r6
      have RA6 := Lib.hid ra6
      have N6' := Lib.hid N6
      clear r6 ra6 own6 N6 o6 HCl
      go_wp2_with (at_builtin; refine wpList_append_im rfl _ _ rfl B 0 _ _ rfl la lg RA6.out le6 rfl R6.out (by omega) ?_)
      intro a7 p7 w7 r7 g7
      obtain ⟨h7, i7, m7⟩ := N6'.out (.slice a7 (la.length + lg.length) p7) w7 (by rw [List.length_append]; exact r7) g7
      have H7 := Lib.hid h7
      have I7 := Lib.hid i7
      have M7 := Lib.hid m7
      have hNl : (la ++ lg).length = la.length + lg.length := List.length_append
      obtain ⟨u, lo, hc1, hc2, hc3, hc4⟩ := shut_chain L
      have C0 := Lib.hid hc1
      have hLo : Hid ((shutS L).lost = lo) := Lib.hid hc2
      have hSk : Hid (L.length = (shutS L).skip + u) := Lib.hid hc3
      have HN4 := Lib.hid hc4
      have hlol := chain_lo hc1
      generalize la ++ lg = lx at *
      generalize la.length + lg.length = nn at *
      generalize shutS L = S at *
      have HNl := Lib.hid hNl
      clear r7 g7 N6' R6 RA6 h7 i7 m7 hc1 hc2 hc3 hNl
      go_wp2_with fail
      go_loopw [6, 9, 10, 50] (fun by' nx ls i wr => ∃ (j nb n l u' lo' : Nat), j ≤ nn ∧ i = .int .i64 j ∧ by' = .int .u64 (nb : Int) ∧ nx = .int .u64 (n : Int) ∧ ls = .int .u64 (l : Int) ∧ Hid (Chain n (S.told.drop j) S.next u' lo') ∧ nb = S.skip + u' ∧ l + lo' = lo ∧ nb ≤ 4000 ∧ Hid (HB w wr B b t v6 S.mute true) ∧ Hid (OwnI B B wr (.slice a7 nn p7) lx)) (fun _ _ _ i _ => nn - (intOf i).toNat)
      case atStart => exact ⟨0, L.length, 0, 0, u, lo, Nat.zero_le _, rfl, rfl, rfl, rfl, C0, hSk.out, by omega, hXs, H7, I7⟩
      case round =>
        clear H7 I7 C0 hSk
        obtain ⟨j, nb, n, l, u', lo', hj, rfl, rfl, rfl, rfl, CH, hnb, hll, hnb4, HH, OI⟩ := hrel
        have hM : S.told = lx.map Im.it := M7.out.symm
        by_cases hjl : j < nn
        · have hj1 : j < lx.length := by rw [HNl.out]; exact hjl
          obtain ⟨g, ha, c0, c1, c2, c3⟩ := OI.out.at j hj1
          have ok1 := OI.out.ok _ (List.getElem_mem hj1)
          have hch := CH.out
          have hjt : j < S.told.length := by rw [hM]; simpa using hj1
          rw [drop_at hjt] at hch
          have hit : S.told[j] = lx[j].it := by simp only [hM, List.getElem_map]
          rw [hit] at hch
          generalize lx[j] = mm at *
          obtain ⟨it, aoE, capE⟩ := mm
          simp only at c0 c1 c2 c3 hch
          subst ha
          have hjI : (j : Int) < (nn : Int) := by omega
          have HJ := Lib.hid hjl
          have HHd := Lib.hid HH.out
          clear hit hjt hM CH
          rcases chain_cons hch with ⟨q, lo2, hx, hq0, hq1, hlo2, hch2⟩ | ⟨e, u2, hx, hq1, hfit, hpr, hu2, hch2⟩
          · subst hx
            simp only [List.length_nil] at c0 c1 c2 c3
            have CH2 := Lib.hid hch2
            have hb1 := Lib.hid (HH.out.below ((Below.refl _ wr).alloc (Nat.le_refl _) (imO ⟨⟨2, n, q, []⟩, aoE, capE⟩)))
            have ob1 := Lib.hid (OI.out.below ((Below.refl _ wr).alloc (Nat.le_refl _) (imO ⟨⟨2, n, q, []⟩, aoE, capE⟩)))
            have hq2 : ((q : Int) == 0) = false := by simp; omega
            have hlq : l + q < 18446744073709551616 := by have := HN4.out; omega
            clear hch hch2 HH OI ok1
            go_wp2_with fail
            go_roundw
            case rel => exact ⟨j + 1, nb, n + q, l + q, u', lo2, by omega, by go_num, rfl, by go_num, by go_num, CH2, hnb, by omega, hnb4, hb1, ob1⟩
            case measure => simp [intOf]; omega
          · subst hx
            simp only at c0 c1 c2 c3
            obtain ⟨p0, p1, p2, p3⟩ := print_ok hpr
            have hev : e.length ≤ 1000000 := Nat.le_trans (coil_events e hfit p1) (Nat.le_trans p2 (by decide))
            have hb1 := Lib.hid (HH.out.below ((Below.refl _ wr).alloc (Nat.le_refl _) (imO ⟨⟨1, n, 0, e⟩, aoE, capE⟩)))
            have ob1 := Lib.hid (OI.out.below ((Below.refl _ wr).alloc (Nat.le_refl _) (imO ⟨⟨1, n, 0, e⟩, aoE, capE⟩)))
            have sn1 := ok1.sn.below ((Below.refl _ wr).alloc (Nat.le_refl _) (imO ⟨⟨1, n, 0, e⟩, aoE, capE⟩))
            have HPr := Lib.hid (rfprint_any n hq1 aoE capE e _ sn1 hfit hev)
            rw [hpr] at HPr
            have hsz : (⟨(frameP n e).1.toArray⟩ : ByteArray).size = (frameP n e).1.length := mk_size _
            obtain ⟨z, hzz⟩ : ∃ z, (frameP n e).1.length = z := ⟨_, rfl⟩
            rw [hzz] at hsz hu2
            generalize (⟨(frameP n e).1.toArray⟩ : ByteArray) = tx at *
            obtain ⟨wx, xw⟩ : ∃ wx, wx = wr.alloc (imO ⟨⟨1, n, 0, e⟩, aoE, capE⟩) := ⟨_, rfl⟩
            rw [← xw] at hb1 ob1 HPr
            have nx : wx.heap[wr.heap.size]? = some (imO ⟨⟨1, n, 0, e⟩, aoE, capE⟩) := by rw [xw]; exact heap_alloc_new wr _
            have NX := Lib.hid nx
            have CH2 := Lib.hid hch2
            have hzn : z ≤ nb := by omega
            have hd3 : decide ((nb : Int) < (z : Int)) = false := by simp; omega
            have hd4 : decide (nb < z) = false := by simp; omega
            unfold imO at xw
            simp only at xw
            rw [show ((1 : Nat) : Int) = 1 from rfl, show ((0 : Nat) : Int) = 0 from rfl] at xw
            clear hch hch2 HH OI ok1 sn1 hfit hpr p0 p1 p2 p3 hzz nx
            go_wp2_with fail
            rw [← xw]
            clear xw
            refine HPr.out.mono ?_
            rintro r w9 ⟨rfl, b9⟩
            have n9 := (b9.block _ (blk_lt NX.out)).trans NX.out
            have k0 : w9.cell? ⟨wr.heap.size, 0, none⟩ = some (.int .i64 1) := by simp [World.cell?, n9, imO]
            have HB9 := Lib.hid (hb1.out.below b9)
            have OB9 := Lib.hid (ob1.out.below b9)
            clear b9 n9 NX hb1 ob1 HPr
            go_wp2_with fail
            go_roundw
            case rel => exact ⟨j + 1, nb - z, n + 1, l, u2, lo', by omega, by go_num, by congr 1; omega, by go_num, rfl, CH2, by omega, hll, by omega, HB9, OB9⟩
            case measure => simp [intOf]; omega
        · have he1 : decide ((j : Int) < (nn : Int)) = false := by simp; omega
          have he2 : decide (j < nn) = false := by simp; omega
          have heI : ¬ ((j : Int) < (nn : Int)) := by omega
          have hch := CH.out
          rw [show S.told.drop j = [] from List.drop_of_length_le (by rw [hM, List.length_map, HNl.out]; omega)] at hch
          obtain ⟨e1, e2, e3⟩ := chain_nil hch
          have hs1 : S.mute.skip = nb := by show S.skip = nb; omega
          have hs2 : S.mute.lost = l := by have := hLo.out; show S.lost = l; omega
          have hs3 : S.mute.next = n := by show S.next = n; omega
          have K1 := Lib.hid (hskip_any HH.out.hu)
          have K2 := Lib.hid (hnext_any HH.out.hu)
          have K3 := Lib.hid (hlost_any HH.out.hu)
          rw [hs1] at K1
          rw [hs2] at K3
          rw [hs3] at K2
          clear hch CH hjl hM OI hs1 hs2 hs3 e1 e2 e3 hnb hll hLo HN4 hlol M7
          go_wp2_with fail
          refine K1.out.mono ?_
          rintro r w13 ⟨rfl, rfl⟩
          go_wp2_with fail
          refine K2.out.mono ?_
          rintro r w13 ⟨rfl, rfl⟩
          go_wp2_with fail
          refine K3.out.mono ?_
          rintro r w13 ⟨rfl, rfl⟩
          go_wp2_with fail
          go_ret
          exact ⟨by simp, HH.out.bel⟩

theorem walk {w : World} (ao : Option Addr) (len cap : Nat) (ss : List ByteArray) (h : Seen w ao len cap (fun i => .string (ss.getD i ByteArray.empty)) ∧ ∀ s ∈ ss, s.size ≤ maxLen) (hl : len * 16 ≤ 140737488351232) (hL : EvL w) :
    Calls Tryd.prog 5 #[.slice ao len cap] w fun r w' => r = .returned (.bool true) ∧ Below w.heap.size w w' := by
  cases hm : muchT len (fun i => ss.getD i ByteArray.empty) with
  | true => exact walk_much ao len cap _ h.1 (text_max h.2) hl hL hm
  | false => exact walk_few ao len cap _ h.1 (text_max h.2) hL hm

theorem own : ownKnob Tryd.prog.godebug = none := by kernel_rfl
theorem laidOut : laidOutB Tryd.prog = true := by kernel_rfl

set_option maxRecDepth 100000 in
theorem lifted (os : Os) (started : os.Started) (H : Type) (enc : TypeId × Value → H) :
    ReturnsInHanded {} Tryd.checked os 5 .any (fun w args => (Rows.huntCountsSpec.pre enc Tryd.prog Tryd.f5 Rows.huntCountsRow.domain false w args ∧ laidMetH Tryd.prog laidL w) ∧ sizedMet enc Tryd.prog Tryd.f5 (OpenSpec.ofChange Rows.huntCountsSpec) false w args) (Rows.huntCountsSpec.post enc Tryd.prog Tryd.f5 false true false false) := by
  refine returnsInHanded_of_row (s := OpenSpec.ofChange Rows.huntCountsSpec) (F := fun _ _ _ => 0) (laid := laidL) (C := Tryd.checked) own started (by kernel_rfl) Tryd.func5
    (ChangeSpec.witness_shaped (enc := enc) (C := Tryd.checked) (os := os) (s := Rows.huntCountsSpec) (X := fun w _ => laidMetH Tryd.prog laidL w) false (World.laidAll Tryd.prog os laidL) #[.slice none 0 0] 8 (World.laidAll_os _ _ _)
      (World.shaped_of_ZipB (by kernel_rfl) (by kernel_rfl)) (by kernel_rfl) (by kernel_rfl) (by kernel_rfl)
      (by rw [MakeChecks.laidMetH_plain _ _ _ (by kernel_rfl)]; exact laidMet_laidAll _ (by kernel_rfl) (by kernel_rfl))) ?_
  intro W base args ds gs before hval0 hW hcnd _ hsz0 hL hsh _
  have hval : ∀ (j : Nat) t v, Tryd.f5.params[j]? = some t → args[j]? = some v → Value.okWide Tryd.prog W .any base t v := hval0
  have hW' := hW
  obtain ⟨p, q, hA0, hV, rfl, hfz, hnd⟩ := hW
  have hA : DataW.TrodAll enc Tryd.prog W 0 (fun _ => true) true Tryd.f5.params.toList args.toList ds p := hA0
  rw [Tryd.params5] at hA hval
  obtain ⟨v0, vs0, d0, ds0, p0, q0, hargs, rfl, rfl, h0, r0⟩ := trodAll_cons hA
  obtain ⟨rfl, rfl, rfl⟩ := trodAll_nil r0
  obtain rfl : args = #[v0] := by cases args; simp_all
  obtain ⟨rfl, rfl⟩ := trodVars_none hV
  have k0 := h0
  have lt0 : ∀ x ∈ p0, x.block < W.heap.size := by obtain ⟨m, hm⟩ := k0; exact DataW.trod_lt m _ _ _ hm
  obtain ⟨a0, len0, cap0, rfl⟩ := okWide_slice Tryd.underlying22 (hval 0 22 v0 rfl rfl)
  obtain ⟨z0, w0⟩ := open_strs h0
  have sz0 : len0 * 16 ≤ 140737488351232 := by
    have hsz : (DataW.weightsEach Tryd.prog (Tryd.f5.params.toList ++ Rows.huntCountsSpec.plain.varTypes Tryd.prog) ([d0] ++ [])).all (· ≤ reachBytes) = true := hsz0
    rw [Tryd.params5] at hsz
    rcases w0.2.2 with h | ⟨el, sp, hd, hl⟩
    · omega
    · rw [hd] at hsz
      have hq := sized_slice hsz (j := 0) (t := 22) (e := 9) rfl rfl Tryd.underlying22
      rw [show Tryd.prog.bytesOf 9 = 16 from by kernel_rfl] at hq
      simp only [reachBytes] at hq
      omega
  clear hA0 hval0
  refine (walk a0 len0 cap0 z0 ⟨w0.1, w0.2.1⟩ sz0 (of_laid hL hsh)).mono fun e W' ⟨he, bel⟩ => ?_
  subst he
  exact ⟨_, rfl, _, _, _, [], _, [], hW', trodAll_mk1 (shut_bool Tryd.underlying4 _), (trodAll_cons_mk (Below.trod laidOut (by kernel_rfl) (of_decide_eq_true (by kernel_rfl)) k0 bel lt0) trodAll_mk0), rfl, bel.frame _, fun h => by cases h⟩

theorem over : Rows.HuntCountsSaid :=
  OpenClaim.holds_of_wide 5 Tryd.f5 rfl rfl rfl rfl rfl rfl rfl ⟨rfl, rfl, rfl, rfl, rfl⟩ rfl rfl rfl rfl rfl (by kernel_rfl) Tryd.func5 (by kernel_rfl)
    (of_decide_eq_true (by kernel_rfl)) (by unfold Func.isWrapper; first | (rw [if_pos (by decide +kernel)]; kernel_rfl) | (rw [if_neg (by decide +kernel)]; exact ⟨rfl, rfl⟩))
    (fun os started H enc _ => lifted os started H enc)

theorem proved : Rows.HuntCountsCardSaid :=
  Claim7.holds_tied_plain_at .later [] _ true _ false over (fun _ h => by cases h) (by kernel_rfl) (fun _ h => by cases h) huntCounts_row_tie rfl ⟨rfl, rfl⟩ (by kernel_rfl) rfl
    (fun f fn hf hfn => by
      obtain rfl : f = 5 := Option.some.inj ((show Tryd.prog.funcNamed "taffrail/taffraillaw09.HuntCounts" = some 5 by kernel_rfl).symm.trans hf) |>.symm
      obtain rfl : fn = Tryd.f5 := (Option.some.inj (Tryd.func5.symm.trans hfn)).symm
      refine ⟨by kernel_rfl, fun j t ht => ?_⟩
      rw [Tryd.params5] at ht
      have hm : t ∈ [22] := by simpa using Array.mem_of_getElem? ht
      have hall : ([22].all fun u => !Tryd.prog.wantsStandIn u) = true := by kernel_rfl
      exact (show Tryd.prog.wantsStandIn t = false by simpa using List.all_eq_true.1 hall t hm))
    (by kernel_rfl)
#print axioms proved

end Go.Proofs.YtobioiicbdhboaaDoor.HuntCounts
