/-
  HuntPlays: whatever bytes come, in whatever pieces, the statement's function answers true: a hunter tells at each just what the document says, and counts as it says. Conditions: none beyond the card's own: the listed package variables start as the program's text lays them, which the card ties to that text.
-/
import Derived.Test.YtobioiicbdhboaaDoorHuD
import Derived.Test.YtobioiicbdhboaaDoorTie
import Derived.Test.YtobioiicbdhboaaDoorCards
import Derived.ProofKit
import Derived.OpenShut
import Derived.ShutString
import Derived.LaidMore
import Derived.Lay
import Derived.SevenTiedAt
import Derived.Stop.Joined
import Derived.Deep.DeepHandedRow
import Derived.BigRegion
import Derived.Deep.RegionWith
import Derived.Deep.DeepCutAuto
namespace Go.Proofs.YtobioiicbdhboaaDoor.HuntPlays
open Go.ChangeShapes Go.WideShapes Go.ChangeAt Go.RowKit
open Go.ChangeMaps (open_string shut_string)
set_option linter.unusedVariables false
set_option linter.unusedSimpArgs false

set_option maxRecDepth 100000 in
set_option maxHeartbeats 4000000 in
theorem walk_much {w : World} (ao : Option Addr) (len cap : Nat) (f : Nat → ByteArray) (hs : Seen w ao len cap (fun i => .string (f i))) (hz : ∀ k, (f k).size ≤ maxLen) (hl : len * 16 ≤ 140737488351232) (hL : EvL w) (hm : muchT len f = true) :
    Calls Tryd.prog 3 #[.slice ao len cap] w fun r w' => r = .returned (.bool true) ∧ Below w.heap.size w w' := by
  have HMk := Lib.hid (make_any w)
  have HSn := Lib.hid hs
  have HL := Lib.hid hL
  have HG := Lib.hid (fun W h => great9_any ao len cap f W h hz (by omega))
  rw [hm] at HG
  clear hs hL hz hm
  go_enter Tryd.func3, Tryd.ntmps3
  go_wp2_with fail
  refine HMk.out.mono ?_
  rintro r w1 ⟨rfl, t1, b1⟩
  have B1 := Lib.hid b1
  clear t1 b1 HMk
  go_wp2_with fail
  refine (hnew_any w1 _).mono ?_
  rintro r w2 ⟨rfl, hw2⟩
  have B2 := Lib.hid (show Below w.heap.size w w2 by rw [hw2]; exact B1.out.alloc B1.out.size _)
  clear hw2 B1
  go_wp2_with fail
  refine (awake9_any w2 (HL.out.below B2.out)).mono ?_
  rintro r w3 ⟨rfl, b3⟩
  have B3 := Lib.hid (B2.out.trans (b3.mono B2.out.size))
  clear b3 B2
  go_wp2_with fail
  refine (HG.out w3 (seen_below HSn.out B3.out)).mono ?_
  rintro r w4 ⟨rfl, rfl⟩
  go_wp2_with fail
  go_ret
  exact ⟨rfl, B3.out⟩

set_option maxRecDepth 100000 in
set_option maxHeartbeats 16000000 in
theorem walk_few {w : World} (ao : Option Addr) (len cap : Nat) (f : Nat → ByteArray) (hs : Seen w ao len cap (fun i => .string (f i))) (hz : ∀ k, (f k).size ≤ maxLen) (hL : EvL w) (hm : muchT len f = false) :
    Calls Tryd.prog 3 #[.slice ao len cap] w fun r w' => r = .returned (.bool true) ∧ Below w.heap.size w w' := by
  have hV := hL.lt
  have hfew : len + sumT f len ≤ 4000 := by unfold muchT at hm; simpa using hm
  have HMk := Lib.hid (make_any w)
  have HSn := Lib.hid hs
  have HL := Lib.hid hL
  have HG := Lib.hid (fun W h => great9_any ao len cap f W h hz (by omega))
  rw [hm] at HG
  obtain ⟨B, hB⟩ : ∃ B, w.heap.size = B := ⟨_, rfl⟩
  rw [hB] at HMk hV ⊢
  have HBe := Lib.hid hB
  clear hs hL hz hm hB
  go_enter Tryd.func3, Tryd.ntmps3
  go_wp2_with fail
  refine HMk.out.mono ?_
  rintro r w1 ⟨rfl, t1, b1⟩
  have T1 := Lib.hid t1
  have B1 := Lib.hid b1
  have L1 := Lib.hid (HL.out.below (by rw [HBe.out]; exact b1))
  have S1 := Lib.hid (Nat.le_of_lt t1.lt)
  clear t1 b1 HMk
  go_wp2_with fail
  refine (hnew_any w1 B).mono ?_
  rintro r w2 ⟨rfl, hw2⟩
  have P2 := Lib.hid (show HB w w2 B w1.heap.size B (.slice none 0 0) hs0 false by rw [hw2]; exact hb_new S1.out B1.out L1.out T1.out)
  obtain ⟨b, hb⟩ : ∃ b, w1.heap.size = b := ⟨_, rfl⟩
  rw [hb] at P2 ⊢
  clear hw2 T1 B1 L1 S1 hb
  go_wp2_with fail
  refine (awake9_any w2 P2.out.evl).mono ?_
  rintro r w3 ⟨rfl, b3⟩
  have P3 := Lib.hid (P2.out.below b3)
  clear b3 P2
  go_wp2_with fail
  refine (HG.out w3 (seen_below HSn.out (by rw [HBe.out]; exact P3.out.bel))).mono ?_
  rintro r w4 ⟨rfl, rfl⟩
  have D3 := Lib.hid (duo_new P3.out hV)
  obtain ⟨w5, x5⟩ : ∃ w5, w5 = w3.alloc (refO ⟨#[]⟩ 0 0 0 0 false) := ⟨_, rfl⟩
  rw [← x5] at D3
  unfold refO at x5
  rw [show ((0 : Nat) : Int) = 0 from rfl] at x5
  obtain ⟨m, hm⟩ : ∃ m, w3.heap.size = m := ⟨_, rfl⟩
  rw [hm] at D3
  have Hmm := Lib.hid hm
  clear P3 HG hm
  go_wp2_with fail
  rw [← x5, Hmm.out]
  clear x5 Hmm
  go_loopw [6] (fun i wr => ∃ (k : Nat) (v : Value) (T : ByteArray) (kk : Nat) (st : HS), i = .int .i64 k ∧ k ≤ len + 1 ∧ Hid (Duo w wr B b B m v T kk st (decide (len < k))) ∧ T.size = sumT f (min k len)) (fun i _ => len + 1 - (intOf i).toNat)
  case atStart => exact ⟨0, _, _, _, _, rfl, by omega, by rw [show decide (len < 0) = false by simp]; exact D3, by rw [Nat.zero_min]; rfl⟩
  case round =>
    clear D3
    obtain ⟨k, v, T, kk, st, rfl, hk, D, hT⟩ := hrel
    by_cases hle : k ≤ len
    · have hd1 : decide ((k : Int) ≤ (len : Int)) = true := by simp; omega
      have hd2 : decide (k ≤ len) = true := by simp; omega
      have D0 : Hid (Duo w wr B b B m v T kk st false) := by rw [show decide (len < k) = false by simp; omega] at D; exact D
      clear D
      have hTs : T.size ≤ 4000 := by have := sumT_mono f (min k len) len (by omega); omega
      go_upto_if 36 with fail
      go_cut [7] (fun x7 wx => ∃ (vg : Option Addr) (lg : List Im) (v' : Value × Nat) (T' : ByteArray) (n sk lo : Nat) (s' : HS), x7 = .slice vg lg.length v'.2 ∧ Hid (Mid w wx B b B m v'.1 T' kk n sk lo s' (decide (len < k + 1)) (.slice vg lg.length v'.2) lg) ∧ T'.size = sumT f (min (k + 1) len))
      case first =>
        by_cases hlt : k < len
        · have he1 : decide ((k : Int) < (len : Int)) = true := by simp; omega
          have he2 : decide (k < len) = true := by simp; omega
          obtain ⟨g, off, hao, hgw, hcell⟩ := HSn.out.row k hlt
          subst hao
          have c0 := (D0.out.hb.bel.cell (p := ⟨g, off + k, none⟩) (by rw [← HBe.out]; exact hgw)).trans (hcell k hlt)
          obtain ⟨hx1, hx2, hx3⟩ := text_small hfew hlt
          have hmin : min k len = k := by omega
          have hmin1 : min (k + 1) len = k + 1 := by omega
          rw [hmin] at hT
          have HMin := Lib.hid hmin1
          have HSum := Lib.hid hx2
          have HC0 := Lib.hid (hcell k hlt)
          clear hcell hmin hmin1
          generalize f k = X at *
          have hTX : T.size + X.size ≤ 4000 := by omega
          have HFd := Lib.hid (D0.out.feed X hTX)
          have zz : ¬ 9223372036854775807 < T.size + X.size := by omega
          have hkI : (k : Int) < (len : Int) := by omega
          go_wp2_with fail
          refine HFd.out.mono ?_
          rintro r w6 ⟨vg, lg, v6, rfl, hr6, b6, M6⟩
          have M6' := Lib.hid M6
          have c6 := (b6.cell (p := ⟨g, off + k, none⟩) (by rw [← HBe.out]; exact hgw)).trans HC0.out
          obtain ⟨d0, -, -, -, -, -⟩ := refcells hr6
          have f0 := reffree hr6 0
          clear hr6 M6 HFd b6 hgw c0
          go_wp2_with fail
          go_region
          all_goals
            go_wp2_with fail
            go_meet
            exact ⟨vg, lg, v6, T ++ X, st.next, st.skip, st.lost, _, rfl, Lib.hid (by rw [show decide (len < k + 1) = false by simp; omega]; exact M6'.out 1), by rw [HMin.out, HSum.out, ByteArray.size_append]; omega⟩
        · have hkl : k = len := by omega
          have he1 : decide ((k : Int) < (len : Int)) = false := by simp; omega
          have he2 : decide (k < len) = false := by simp; omega
          have HCl := Lib.hid (D0.out.close hTs)
          have HMin := Lib.hid (show min (k + 1) len = min k len by omega)
          have HDe := Lib.hid (show decide (len < k + 1) = true by simp; omega)
          have hnI : ¬ ((k : Int) < (len : Int)) := by omega
          clear hkl
          go_wp2_with fail
          refine HCl.out.mono ?_
          rintro r w6 ⟨vg, lg, v6, rfl, hr6, M6⟩
          have M6' := Lib.hid M6
          obtain ⟨-, -, -, -, -, d5⟩ := refcells hr6
          have f5 := reffree hr6 5
          clear hr6 M6 HCl
          go_wp2_with fail
          go_meet
          exact ⟨vg, lg, v6, T, st.next, st.skip, st.lost, _, rfl, Lib.hid (by rw [HDe.out]; exact M6'.out), by rw [HMin.out]; exact hT⟩
      case rest =>
      obtain ⟨vg, lg, v6, T', n, sk, lo, s', rfl, M6, hT'⟩ := hcut
      have hTs' : T'.size ≤ 4000 := by have := sumT_mono f (min (k + 1) len) len (by omega); omega
      clear D0 hT hTs
      obtain ⟨cl, hcl⟩ : ∃ cl, decide (len < k + 1) = cl := ⟨_, rfl⟩
      rw [hcl] at M6
      have HCl := Lib.hid hcl
      clear hcl
      go_upto_region 16 with fail
      go_cut [90] (fun c wx => c = .bool false ∧ ∃ (v' : Value) (k' : Nat), Hid (Duo w wx B b B m v' T' k' s'.mute cl))
      case first =>
        have MD := Lib.hid (M6.out.drewN 1)
        clear M6 hfew HL HBe hT' hle hk hd1 hd2 HCl HSn
        refine wp_region_any (by kernel_rfl) ?_
        change wpAny _ _ _ _ _ _ _ (World.drew _)
        refine wpAny_take (i := 0) (v := Value.slice vg lg.length v6.2) rfl (by kernel_rfl) (by kernel_rfl) (by kernel_rfl) (fun _ _ _ h => h) (Or.inl ⟨by rfl, ?_⟩) ?_
        · intro w; go_simp
        refine wpAny_take (i := 1) (v := Value.pointer (some ⟨m, 0, none⟩)) rfl (by kernel_rfl) (by kernel_rfl) (by kernel_rfl) (fun _ _ _ h => h) (Or.inl ⟨by rfl, ?_⟩) ?_
        · intro w; go_simp
        refine wpAny_ready (rs := [2]) (by kernel_rfl) (by simp) (AllReady.cons rfl (fun K hK => ?_) AllReady.nil)
        go_simp
        refine (MD.out.run hTs').mono ?_
        rintro r w7 ⟨vt, lt, cp, k', rfl, o7, og, em, lb, D7⟩
        refine hK _ _ ?_
        clear hK K
        refine wpAny_ready (rs := [3]) (by kernel_rfl) (by simp) (AllReady.cons rfl (fun K hK => ?_) AllReady.nil)
        go_simp
        refine (hsame_any og o7 em (Nat.le_trans lb (by decide))).mono ?_
        rintro r w8 ⟨rfl, nn, rfl⟩
        refine hK _ _ ?_
        clear hK K
        have D8 := Lib.hid (D7.drewN nn)
        clear o7 og em lb D7 MD
        refine wpAny_vals [none, none, none, none, some (Value.bool false), some (Value.bool false), some (Value.pointer (some ⟨b, 0, none⟩)), some (Value.int .u64 (s'.mute.next : Int)), some (Value.pointer (some ⟨m, 0, none⟩)), some (Value.pointer (some ⟨m, 0, none⟩)), some (Value.pointer (some ⟨m, 2, none⟩)), some (Value.int .u64 (s'.mute.next : Int)), some (Value.bool false), some (Value.bool false), some (Value.bool false), some (Value.pointer (some ⟨b, 0, none⟩)), some (Value.int .u64 (s'.mute.skip : Int)), some (Value.pointer (some ⟨m, 0, none⟩)), some (Value.pointer (some ⟨m, 0, none⟩)), some (Value.pointer (some ⟨m, 3, none⟩)), some (Value.int .u64 (s'.mute.skip : Int)), some (Value.bool false), some (Value.bool false), some (Value.bool false), some (Value.pointer (some ⟨b, 0, none⟩)), some (Value.int .u64 (s'.mute.lost : Int)), some (Value.pointer (some ⟨m, 0, none⟩)), some (Value.pointer (some ⟨m, 0, none⟩)), some (Value.pointer (some ⟨m, 4, none⟩)), some (Value.int .u64 (s'.mute.lost : Int)), some (Value.bool false), some (Value.bool false)]
          (fun W => Duo w W B b B m v6.1 T' k' s'.mute cl) (fun _ _ => True) (fun _ _ => True) [(4, 63), (5, 64), (6, 65), (7, 66), (8, 67), (9, 68), (10, 69), (11, 70), (12, 71), (13, 72), (14, 73), (15, 74), (16, 75), (17, 76), (18, 77), (19, 78), (20, 79), (21, 80), (22, 81), (23, 82), (24, 83), (25, 84), (26, 85), (27, 86), (28, 87), (29, 88), (30, 89), (31, 90)] 4 32 (by kernel_rfl) (by kernel_rfl) (by kernel_rfl) (by kernel_rfl) ?hC (fun _ _ _ _ _ _ => trivial) ?hs ?hf
        case hC => exact D8.out
        case hs =>
          refine stepsD_succ ?s31 (stepsD_succ ?s30 (stepsD_succ ?s29 (stepsD_succ ?s28 (stepsD_succ ?s27 (stepsD_succ ?s26 (stepsD_succ ?s25 (stepsD_succ ?s24 (stepsD_succ ?s23 (stepsD_succ ?s22 (stepsD_succ ?s21 (stepsD_succ ?s20 (stepsD_succ ?s19 (stepsD_succ ?s18 (stepsD_succ ?s17 (stepsD_succ ?s16 (stepsD_succ ?s15 (stepsD_succ ?s14 (stepsD_succ ?s13 (stepsD_succ ?s12 (stepsD_succ ?s11 (stepsD_succ ?s10 (stepsD_succ ?s9 (stepsD_succ ?s8 (stepsD_succ ?s7 (stepsD_succ ?s6 (stepsD_succ ?s5 (stepsD_succ ?s4 (stepsD_zero))))))))))))))))))))))))))))
          case s4 =>
            refine stepD0 rfl (by kernel_rfl) ?_
            rintro w' hC
            intro K hK
            go_simp
            exact hK _ _ rfl ⟨rfl, hC, trivial, trivial⟩
          case s5 =>
            refine stepD1 4 63 rfl (by kernel_rfl) ?_
            rintro w' hC v1 rfl
            intro K hK
            go_simp
            exact hK _ _ rfl ⟨rfl, hC, trivial, trivial⟩
          case s6 =>
            refine stepD1 5 64 rfl (by kernel_rfl) ?_
            rintro w' hC v1 rfl
            intro K hK
            go_simp
            exact hK _ _ rfl ⟨rfl, hC, trivial, trivial⟩
          case s7 =>
            refine stepD2 5 64 6 65 rfl (by kernel_rfl) ?_
            rintro w' hC v1 v2 rfl rfl
            intro K hK
            go_simp
            refine (hnext_any hC.hb.hu).mono ?_
            rintro r w2 ⟨rfl, rfl⟩
            exact hK _ _ rfl ⟨rfl, hC, trivial, trivial⟩
          case s8 =>
            refine stepD1 5 64 rfl (by kernel_rfl) ?_
            rintro w' hC v1 rfl
            intro K hK
            go_simp
            exact hK _ _ rfl ⟨rfl, hC, trivial, trivial⟩
          case s9 =>
            refine stepD2 5 64 8 67 rfl (by kernel_rfl) ?_
            rintro w' hC v1 v2 rfl rfl
            intro K hK
            go_simp
            exact hK _ _ rfl ⟨rfl, hC, trivial, trivial⟩
          case s10 =>
            refine stepD2 5 64 9 68 rfl (by kernel_rfl) ?_
            rintro w' hC v1 v2 rfl rfl
            intro K hK
            go_simp
            exact hK _ _ rfl ⟨rfl, hC, trivial, trivial⟩
          case s11 =>
            refine stepD2 5 64 10 69 rfl (by kernel_rfl) ?_
            rintro w' hC v1 v2 rfl rfl
            intro K hK
            obtain ⟨c0, c1, c2, c3, c4, c5⟩ := refcells hC.rf
            go_simp
            exact hK _ _ rfl ⟨rfl, hC, trivial, trivial⟩
          case s12 =>
            refine stepD3 5 64 7 66 11 70 rfl (by kernel_rfl) ?_
            rintro w' hC v1 v2 v3 rfl rfl rfl
            intro K hK
            go_simp
            exact hK _ _ rfl ⟨rfl, hC, trivial, trivial⟩
          case s13 =>
            refine stepD2 5 64 12 71 rfl (by kernel_rfl) ?_
            rintro w' hC v1 v2 rfl rfl
            intro K hK
            go_simp
            exact hK _ _ rfl ⟨rfl, hC, trivial, trivial⟩
          case s14 =>
            refine stepD1 13 72 rfl (by kernel_rfl) ?_
            rintro w' hC v1 rfl
            intro K hK
            go_simp
            exact hK _ _ rfl ⟨rfl, hC, trivial, trivial⟩
          case s15 =>
            refine stepD1 14 73 rfl (by kernel_rfl) ?_
            rintro w' hC v1 rfl
            intro K hK
            go_simp
            exact hK _ _ rfl ⟨rfl, hC, trivial, trivial⟩
          case s16 =>
            refine stepD2 14 73 15 74 rfl (by kernel_rfl) ?_
            rintro w' hC v1 v2 rfl rfl
            intro K hK
            go_simp
            refine (hskip_any hC.hb.hu).mono ?_
            rintro r w2 ⟨rfl, rfl⟩
            exact hK _ _ rfl ⟨rfl, hC, trivial, trivial⟩
          case s17 =>
            refine stepD1 14 73 rfl (by kernel_rfl) ?_
            rintro w' hC v1 rfl
            intro K hK
            go_simp
            exact hK _ _ rfl ⟨rfl, hC, trivial, trivial⟩
          case s18 =>
            refine stepD2 14 73 17 76 rfl (by kernel_rfl) ?_
            rintro w' hC v1 v2 rfl rfl
            intro K hK
            go_simp
            exact hK _ _ rfl ⟨rfl, hC, trivial, trivial⟩
          case s19 =>
            refine stepD2 14 73 18 77 rfl (by kernel_rfl) ?_
            rintro w' hC v1 v2 rfl rfl
            intro K hK
            go_simp
            exact hK _ _ rfl ⟨rfl, hC, trivial, trivial⟩
          case s20 =>
            refine stepD2 14 73 19 78 rfl (by kernel_rfl) ?_
            rintro w' hC v1 v2 rfl rfl
            intro K hK
            obtain ⟨c0, c1, c2, c3, c4, c5⟩ := refcells hC.rf
            go_simp
            exact hK _ _ rfl ⟨rfl, hC, trivial, trivial⟩
          case s21 =>
            refine stepD3 14 73 16 75 20 79 rfl (by kernel_rfl) ?_
            rintro w' hC v1 v2 v3 rfl rfl rfl
            intro K hK
            go_simp
            exact hK _ _ rfl ⟨rfl, hC, trivial, trivial⟩
          case s22 =>
            refine stepD2 14 73 21 80 rfl (by kernel_rfl) ?_
            rintro w' hC v1 v2 rfl rfl
            intro K hK
            go_simp
            exact hK _ _ rfl ⟨rfl, hC, trivial, trivial⟩
          case s23 =>
            refine stepD1 22 81 rfl (by kernel_rfl) ?_
            rintro w' hC v1 rfl
            intro K hK
            go_simp
            exact hK _ _ rfl ⟨rfl, hC, trivial, trivial⟩
          case s24 =>
            refine stepD1 23 82 rfl (by kernel_rfl) ?_
            rintro w' hC v1 rfl
            intro K hK
            go_simp
            exact hK _ _ rfl ⟨rfl, hC, trivial, trivial⟩
          case s25 =>
            refine stepD2 23 82 24 83 rfl (by kernel_rfl) ?_
            rintro w' hC v1 v2 rfl rfl
            intro K hK
            go_simp
            refine (hlost_any hC.hb.hu).mono ?_
            rintro r w2 ⟨rfl, rfl⟩
            exact hK _ _ rfl ⟨rfl, hC, trivial, trivial⟩
          case s26 =>
            refine stepD1 23 82 rfl (by kernel_rfl) ?_
            rintro w' hC v1 rfl
            intro K hK
            go_simp
            exact hK _ _ rfl ⟨rfl, hC, trivial, trivial⟩
          case s27 =>
            refine stepD2 23 82 26 85 rfl (by kernel_rfl) ?_
            rintro w' hC v1 v2 rfl rfl
            intro K hK
            go_simp
            exact hK _ _ rfl ⟨rfl, hC, trivial, trivial⟩
          case s28 =>
            refine stepD2 23 82 27 86 rfl (by kernel_rfl) ?_
            rintro w' hC v1 v2 rfl rfl
            intro K hK
            go_simp
            exact hK _ _ rfl ⟨rfl, hC, trivial, trivial⟩
          case s29 =>
            refine stepD2 23 82 28 87 rfl (by kernel_rfl) ?_
            rintro w' hC v1 v2 rfl rfl
            intro K hK
            obtain ⟨c0, c1, c2, c3, c4, c5⟩ := refcells hC.rf
            go_simp
            exact hK _ _ rfl ⟨rfl, hC, trivial, trivial⟩
          case s30 =>
            refine stepD3 23 82 25 84 29 88 rfl (by kernel_rfl) ?_
            rintro w' hC v1 v2 v3 rfl rfl rfl
            intro K hK
            go_simp
            exact hK _ _ rfl ⟨rfl, hC, trivial, trivial⟩
          case s31 =>
            refine stepD2 23 82 30 89 rfl (by kernel_rfl) ?_
            rintro w' hC v1 v2 rfl rfl
            intro K hK
            go_simp
            exact hK _ _ rfl ⟨rfl, hC, trivial, trivial⟩
        case hf =>
          intro w' hC x hx
          have e4 : x 63 = Value.bool false := hx (4, 63) (by simp)
          have e5 : x 64 = Value.bool false := hx (5, 64) (by simp)
          have e6 : x 65 = Value.pointer (some ⟨b, 0, none⟩) := hx (6, 65) (by simp)
          have e7 : x 66 = Value.int .u64 (s'.mute.next : Int) := hx (7, 66) (by simp)
          have e8 : x 67 = Value.pointer (some ⟨m, 0, none⟩) := hx (8, 67) (by simp)
          have e9 : x 68 = Value.pointer (some ⟨m, 0, none⟩) := hx (9, 68) (by simp)
          have e10 : x 69 = Value.pointer (some ⟨m, 2, none⟩) := hx (10, 69) (by simp)
          have e11 : x 70 = Value.int .u64 (s'.mute.next : Int) := hx (11, 70) (by simp)
          have e12 : x 71 = Value.bool false := hx (12, 71) (by simp)
          have e13 : x 72 = Value.bool false := hx (13, 72) (by simp)
          have e14 : x 73 = Value.bool false := hx (14, 73) (by simp)
          have e15 : x 74 = Value.pointer (some ⟨b, 0, none⟩) := hx (15, 74) (by simp)
          have e16 : x 75 = Value.int .u64 (s'.mute.skip : Int) := hx (16, 75) (by simp)
          have e17 : x 76 = Value.pointer (some ⟨m, 0, none⟩) := hx (17, 76) (by simp)
          have e18 : x 77 = Value.pointer (some ⟨m, 0, none⟩) := hx (18, 77) (by simp)
          have e19 : x 78 = Value.pointer (some ⟨m, 3, none⟩) := hx (19, 78) (by simp)
          have e20 : x 79 = Value.int .u64 (s'.mute.skip : Int) := hx (20, 79) (by simp)
          have e21 : x 80 = Value.bool false := hx (21, 80) (by simp)
          have e22 : x 81 = Value.bool false := hx (22, 81) (by simp)
          have e23 : x 82 = Value.bool false := hx (23, 82) (by simp)
          have e24 : x 83 = Value.pointer (some ⟨b, 0, none⟩) := hx (24, 83) (by simp)
          have e25 : x 84 = Value.int .u64 (s'.mute.lost : Int) := hx (25, 84) (by simp)
          have e26 : x 85 = Value.pointer (some ⟨m, 0, none⟩) := hx (26, 85) (by simp)
          have e27 : x 86 = Value.pointer (some ⟨m, 0, none⟩) := hx (27, 86) (by simp)
          have e28 : x 87 = Value.pointer (some ⟨m, 4, none⟩) := hx (28, 87) (by simp)
          have e29 : x 88 = Value.int .u64 (s'.mute.lost : Int) := hx (29, 88) (by simp)
          have e30 : x 89 = Value.bool false := hx (30, 89) (by simp)
          have e31 : x 90 = Value.bool false := hx (31, 90) (by simp)
          simp only [putAll, List.foldl_cons, List.foldl_nil, e4, e5, e6, e7, e8, e9, e10, e11, e12, e13, e14, e15, e16, e17, e18, e19, e20, e21, e22, e23, e24, e25, e26, e27, e28, e29, e30, e31, Act.put, List.setIfInBounds_toArray, List.set_cons_succ, List.set_cons_zero]
          clear hx e4 e5 e6 e7 e8 e9 e10 e11 e12 e13 e14 e15 e16 e17 e18 e19 e20 e21 e22 e23 e24 e25 e26 e27 e28 e29 e30 e31
          go_wp2_with fail
          go_meet
          exact ⟨rfl, _, _, Lib.hid hC⟩
      case rest =>
      obtain ⟨rfl, v', k', D9⟩ := hcut
      go_wp2_with fail
      go_roundw
      case rel =>
        first
          | exact ⟨k + 1, v', T', k', s'.mute, by go_num, by omega, by rw [HCl.out]; exact D9, hT'⟩
          | ((repeat apply Exists.intro); exact ⟨⟨by go_num, by omega, by rw [HCl.out]; exact D9, hT'⟩, rfl⟩)
      case measure => simp [intOf]; omega
    · have hd1 : decide ((k : Int) ≤ (len : Int)) = false := by simp; omega
      have hd2 : decide (k ≤ len) = false := by simp; omega
      have D0 : Hid (Duo w wr B b B m v T kk st true) := by rw [show decide (len < k) = true by simp; omega] at D; exact D
      clear D hfew HL HBe hT hle hk
      have DD := Lib.hid (D0.out.drewN 1)
      clear D0
      go_wp2_with fail
      refine wp_region_vals [some (Value.pointer (some ⟨b, 0, none⟩)), some (Value.string (oneB 9)), some (Value.slice none 0 0), some (Value.int .i64 0), some (Value.bool true), some (Value.bool true), some (Value.pointer (some ⟨b, 0, none⟩)), some (Value.slice none 0 0), some (Value.int .i64 0), some (Value.bool true), some (Value.bool true), some (Value.bool true), some (Value.pointer (some ⟨b, 0, none⟩)), some (Value.int .u64 (st.next : Int)), some (Value.pointer (some ⟨m, 0, none⟩)), some (Value.pointer (some ⟨m, 0, none⟩)), some (Value.pointer (some ⟨m, 2, none⟩)), some (Value.int .u64 (st.next : Int)), some (Value.bool true), some (Value.bool true), some (Value.bool true), some (Value.pointer (some ⟨b, 0, none⟩)), some (Value.int .u64 (st.skip : Int)), some (Value.pointer (some ⟨m, 0, none⟩)), some (Value.pointer (some ⟨m, 0, none⟩)), some (Value.pointer (some ⟨m, 3, none⟩)), some (Value.int .u64 (st.skip : Int)), some (Value.bool true), some (Value.bool true), some (Value.bool true)]
        (fun W => HB w W B b B v st true ∧ W.heap[m]? = some (refO T kk st.next st.skip st.lost true)) (fun _ _ => True) (fun _ _ => True) [(0, 91), (1, 92), (2, 93), (3, 94), (4, 95), (5, 96), (6, 97), (7, 98), (8, 99), (9, 100), (10, 101), (11, 102), (12, 103), (13, 104), (14, 105), (15, 106), (16, 107), (17, 108), (18, 109), (19, 110), (20, 111), (21, 112), (22, 113), (23, 114), (24, 115), (25, 116), (26, 117), (27, 118), (28, 119), (29, 2)] 30 (by kernel_rfl) (by kernel_rfl) (by kernel_rfl) (by kernel_rfl) ?hC (fun _ _ _ _ _ _ => trivial) ?hs ?hf
      case hC => exact ⟨DD.out.hb, DD.out.rf⟩
      case hs =>
        refine stepsV_succ ?s29 (stepsV_succ ?s28 (stepsV_succ ?s27 (stepsV_succ ?s26 (stepsV_succ ?s25 (stepsV_succ ?s24 (stepsV_succ ?s23 (stepsV_succ ?s22 (stepsV_succ ?s21 (stepsV_succ ?s20 (stepsV_succ ?s19 (stepsV_succ ?s18 (stepsV_succ ?s17 (stepsV_succ ?s16 (stepsV_succ ?s15 (stepsV_succ ?s14 (stepsV_succ ?s13 (stepsV_succ ?s12 (stepsV_succ ?s11 (stepsV_succ ?s10 (stepsV_succ ?s9 (stepsV_succ ?s8 (stepsV_succ ?s7 (stepsV_succ ?s6 (stepsV_succ ?s5 (stepsV_succ ?s4 (stepsV_succ ?s3 (stepsV_succ ?s2 (stepsV_succ ?s1 (stepsV_succ ?s0 (stepsV_zero))))))))))))))))))))))))))))))
        case s0 =>
          refine stepV0 rfl (by kernel_rfl) ?_
          rintro w' hC
          intro K hK
          go_simp
          exact hK _ _ rfl ⟨rfl, hC, trivial, trivial⟩
        case s1 =>
          refine stepV0 rfl (by kernel_rfl) ?_
          rintro w' hC
          intro K hK
          go_simp
          refine (one_any 9 (by decide) w').mono ?_
          rintro r w2 ⟨rfl, b2⟩
          have hC := (show HB w w2 B b B v st true ∧ w2.heap[m]? = some (refO T kk st.next st.skip st.lost true) from ⟨hC.1.below b2, (b2.block m (blk_lt hC.2)).trans hC.2⟩)
          exact hK _ _ rfl ⟨rfl, hC, trivial, trivial⟩
        case s2 =>
          refine stepV2 0 91 1 92 rfl (by kernel_rfl) ?_
          rintro w' hC v1 v2 rfl rfl
          intro K hK
          go_simp
          refine (hfeed_closed hC.1.hu _).mono ?_
          rintro r w2 ⟨rfl, rfl⟩
          exact hK _ _ rfl ⟨rfl, hC, trivial, trivial⟩
        case s3 =>
          refine stepV1 2 93 rfl (by kernel_rfl) ?_
          rintro w' hC v1 rfl
          intro K hK
          go_simp
          exact hK _ _ rfl ⟨rfl, hC, trivial, trivial⟩
        case s4 =>
          refine stepV1 3 94 rfl (by kernel_rfl) ?_
          rintro w' hC v1 rfl
          intro K hK
          go_simp
          exact hK _ _ rfl ⟨rfl, hC, trivial, trivial⟩
        case s5 =>
          refine stepV1 4 95 rfl (by kernel_rfl) ?_
          rintro w' hC v1 rfl
          intro K hK
          go_simp
          exact hK _ _ rfl ⟨rfl, hC, trivial, trivial⟩
        case s6 =>
          refine stepV1 5 96 rfl (by kernel_rfl) ?_
          rintro w' hC v1 rfl
          intro K hK
          go_simp
          exact hK _ _ rfl ⟨rfl, hC, trivial, trivial⟩
        case s7 =>
          refine stepV2 5 96 6 97 rfl (by kernel_rfl) ?_
          rintro w' hC v1 v2 rfl rfl
          intro K hK
          go_simp
          refine (hclose_closed hC.1.hu).mono ?_
          rintro r w2 ⟨rfl, rfl⟩
          exact hK _ _ rfl ⟨rfl, hC, trivial, trivial⟩
        case s8 =>
          refine stepV2 5 96 7 98 rfl (by kernel_rfl) ?_
          rintro w' hC v1 v2 rfl rfl
          intro K hK
          go_simp
          exact hK _ _ rfl ⟨rfl, hC, trivial, trivial⟩
        case s9 =>
          refine stepV2 5 96 8 99 rfl (by kernel_rfl) ?_
          rintro w' hC v1 v2 rfl rfl
          intro K hK
          go_simp
          exact hK _ _ rfl ⟨rfl, hC, trivial, trivial⟩
        case s10 =>
          refine stepV2 5 96 9 100 rfl (by kernel_rfl) ?_
          rintro w' hC v1 v2 rfl rfl
          intro K hK
          go_simp
          exact hK _ _ rfl ⟨rfl, hC, trivial, trivial⟩
        case s11 =>
          refine stepV1 10 101 rfl (by kernel_rfl) ?_
          rintro w' hC v1 rfl
          intro K hK
          go_simp
          exact hK _ _ rfl ⟨rfl, hC, trivial, trivial⟩
        case s12 =>
          refine stepV1 11 102 rfl (by kernel_rfl) ?_
          rintro w' hC v1 rfl
          intro K hK
          go_simp
          exact hK _ _ rfl ⟨rfl, hC, trivial, trivial⟩
        case s13 =>
          refine stepV2 11 102 12 103 rfl (by kernel_rfl) ?_
          rintro w' hC v1 v2 rfl rfl
          intro K hK
          go_simp
          refine (hnext_any hC.1.hu).mono ?_
          rintro r w2 ⟨rfl, rfl⟩
          exact hK _ _ rfl ⟨rfl, hC, trivial, trivial⟩
        case s14 =>
          refine stepV1 11 102 rfl (by kernel_rfl) ?_
          rintro w' hC v1 rfl
          intro K hK
          go_simp
          exact hK _ _ rfl ⟨rfl, hC, trivial, trivial⟩
        case s15 =>
          refine stepV2 11 102 14 105 rfl (by kernel_rfl) ?_
          rintro w' hC v1 v2 rfl rfl
          intro K hK
          go_simp
          exact hK _ _ rfl ⟨rfl, hC, trivial, trivial⟩
        case s16 =>
          refine stepV2 11 102 15 106 rfl (by kernel_rfl) ?_
          rintro w' hC v1 v2 rfl rfl
          intro K hK
          go_simp
          exact hK _ _ rfl ⟨rfl, hC, trivial, trivial⟩
        case s17 =>
          refine stepV2 11 102 16 107 rfl (by kernel_rfl) ?_
          rintro w' hC v1 v2 rfl rfl
          intro K hK
          obtain ⟨c0, c1, c2, c3, c4, c5⟩ := refcells hC.2
          go_simp
          exact hK _ _ rfl ⟨rfl, hC, trivial, trivial⟩
        case s18 =>
          refine stepV3 11 102 13 104 17 108 rfl (by kernel_rfl) ?_
          rintro w' hC v1 v2 v3 rfl rfl rfl
          intro K hK
          go_simp
          exact hK _ _ rfl ⟨rfl, hC, trivial, trivial⟩
        case s19 =>
          refine stepV2 11 102 18 109 rfl (by kernel_rfl) ?_
          rintro w' hC v1 v2 rfl rfl
          intro K hK
          go_simp
          exact hK _ _ rfl ⟨rfl, hC, trivial, trivial⟩
        case s20 =>
          refine stepV1 19 110 rfl (by kernel_rfl) ?_
          rintro w' hC v1 rfl
          intro K hK
          go_simp
          exact hK _ _ rfl ⟨rfl, hC, trivial, trivial⟩
        case s21 =>
          refine stepV1 20 111 rfl (by kernel_rfl) ?_
          rintro w' hC v1 rfl
          intro K hK
          go_simp
          exact hK _ _ rfl ⟨rfl, hC, trivial, trivial⟩
        case s22 =>
          refine stepV2 20 111 21 112 rfl (by kernel_rfl) ?_
          rintro w' hC v1 v2 rfl rfl
          intro K hK
          go_simp
          refine (hskip_any hC.1.hu).mono ?_
          rintro r w2 ⟨rfl, rfl⟩
          exact hK _ _ rfl ⟨rfl, hC, trivial, trivial⟩
        case s23 =>
          refine stepV1 20 111 rfl (by kernel_rfl) ?_
          rintro w' hC v1 rfl
          intro K hK
          go_simp
          exact hK _ _ rfl ⟨rfl, hC, trivial, trivial⟩
        case s24 =>
          refine stepV2 20 111 23 114 rfl (by kernel_rfl) ?_
          rintro w' hC v1 v2 rfl rfl
          intro K hK
          go_simp
          exact hK _ _ rfl ⟨rfl, hC, trivial, trivial⟩
        case s25 =>
          refine stepV2 20 111 24 115 rfl (by kernel_rfl) ?_
          rintro w' hC v1 v2 rfl rfl
          intro K hK
          go_simp
          exact hK _ _ rfl ⟨rfl, hC, trivial, trivial⟩
        case s26 =>
          refine stepV2 20 111 25 116 rfl (by kernel_rfl) ?_
          rintro w' hC v1 v2 rfl rfl
          intro K hK
          obtain ⟨c0, c1, c2, c3, c4, c5⟩ := refcells hC.2
          go_simp
          exact hK _ _ rfl ⟨rfl, hC, trivial, trivial⟩
        case s27 =>
          refine stepV3 20 111 22 113 26 117 rfl (by kernel_rfl) ?_
          rintro w' hC v1 v2 v3 rfl rfl rfl
          intro K hK
          go_simp
          exact hK _ _ rfl ⟨rfl, hC, trivial, trivial⟩
        case s28 =>
          refine stepV2 20 111 27 118 rfl (by kernel_rfl) ?_
          rintro w' hC v1 v2 rfl rfl
          intro K hK
          go_simp
          exact hK _ _ rfl ⟨rfl, hC, trivial, trivial⟩
        case s29 =>
          refine stepV1 28 119 rfl (by kernel_rfl) ?_
          rintro w' hC v1 rfl
          intro K hK
          go_simp
          exact hK _ _ rfl ⟨rfl, hC, trivial, trivial⟩
      case hf =>
        intro w' hC x hx _
        have e0 : x 91 = Value.pointer (some ⟨b, 0, none⟩) := hx (0, 91) (by simp)
        have e1 : x 92 = Value.string (oneB 9) := hx (1, 92) (by simp)
        have e2 : x 93 = Value.slice none 0 0 := hx (2, 93) (by simp)
        have e3 : x 94 = Value.int .i64 0 := hx (3, 94) (by simp)
        have e4 : x 95 = Value.bool true := hx (4, 95) (by simp)
        have e5 : x 96 = Value.bool true := hx (5, 96) (by simp)
        have e6 : x 97 = Value.pointer (some ⟨b, 0, none⟩) := hx (6, 97) (by simp)
        have e7 : x 98 = Value.slice none 0 0 := hx (7, 98) (by simp)
        have e8 : x 99 = Value.int .i64 0 := hx (8, 99) (by simp)
        have e9 : x 100 = Value.bool true := hx (9, 100) (by simp)
        have e10 : x 101 = Value.bool true := hx (10, 101) (by simp)
        have e11 : x 102 = Value.bool true := hx (11, 102) (by simp)
        have e12 : x 103 = Value.pointer (some ⟨b, 0, none⟩) := hx (12, 103) (by simp)
        have e13 : x 104 = Value.int .u64 (st.next : Int) := hx (13, 104) (by simp)
        have e14 : x 105 = Value.pointer (some ⟨m, 0, none⟩) := hx (14, 105) (by simp)
        have e15 : x 106 = Value.pointer (some ⟨m, 0, none⟩) := hx (15, 106) (by simp)
        have e16 : x 107 = Value.pointer (some ⟨m, 2, none⟩) := hx (16, 107) (by simp)
        have e17 : x 108 = Value.int .u64 (st.next : Int) := hx (17, 108) (by simp)
        have e18 : x 109 = Value.bool true := hx (18, 109) (by simp)
        have e19 : x 110 = Value.bool true := hx (19, 110) (by simp)
        have e20 : x 111 = Value.bool true := hx (20, 111) (by simp)
        have e21 : x 112 = Value.pointer (some ⟨b, 0, none⟩) := hx (21, 112) (by simp)
        have e22 : x 113 = Value.int .u64 (st.skip : Int) := hx (22, 113) (by simp)
        have e23 : x 114 = Value.pointer (some ⟨m, 0, none⟩) := hx (23, 114) (by simp)
        have e24 : x 115 = Value.pointer (some ⟨m, 0, none⟩) := hx (24, 115) (by simp)
        have e25 : x 116 = Value.pointer (some ⟨m, 3, none⟩) := hx (25, 116) (by simp)
        have e26 : x 117 = Value.int .u64 (st.skip : Int) := hx (26, 117) (by simp)
        have e27 : x 118 = Value.bool true := hx (27, 118) (by simp)
        have e28 : x 119 = Value.bool true := hx (28, 119) (by simp)
        have e29 : x 2 = Value.bool true := hx (29, 2) (by simp)
        simp only [putAll, List.foldl_cons, List.foldl_nil, e0, e1, e2, e3, e4, e5, e6, e7, e8, e9, e10, e11, e12, e13, e14, e15, e16, e17, e18, e19, e20, e21, e22, e23, e24, e25, e26, e27, e28, e29, Act.put, List.setIfInBounds_toArray, List.set_cons_succ, List.set_cons_zero]
        clear hx e0 e1 e2 e3 e4 e5 e6 e7 e8 e9 e10 e11 e12 e13 e14 e15 e16 e17 e18 e19 e20 e21 e22 e23 e24 e25 e26 e27 e28 e29
        go_wp2_with fail
        go_ret
        exact ⟨rfl, hC.1.bel⟩

theorem walk {w : World} (ao : Option Addr) (len cap : Nat) (ss : List ByteArray) (h : Seen w ao len cap (fun i => .string (ss.getD i ByteArray.empty)) ∧ ∀ s ∈ ss, s.size ≤ maxLen) (hl : len * 16 ≤ 140737488351232) (hL : EvL w) :
    Calls Tryd.prog 3 #[.slice ao len cap] w fun r w' => r = .returned (.bool true) ∧ Below w.heap.size w w' := by
  cases hm : muchT len (fun i => ss.getD i ByteArray.empty) with
  | true => exact walk_much ao len cap _ h.1 (text_max h.2) hl hL hm
  | false => exact walk_few ao len cap _ h.1 (text_max h.2) hL hm

theorem own : ownKnob Tryd.prog.godebug = none := by kernel_rfl
theorem laidOut : laidOutB Tryd.prog = true := by kernel_rfl

set_option maxRecDepth 100000 in
theorem lifted (os : Os) (started : os.Started) (H : Type) (enc : TypeId × Value → H) :
    ReturnsInHanded {} Tryd.checked os 3 .any (fun w args => (Rows.huntPlaysSpec.pre enc Tryd.prog Tryd.f3 Rows.huntPlaysRow.domain false w args ∧ laidMetH Tryd.prog laidL w) ∧ sizedMet enc Tryd.prog Tryd.f3 (OpenSpec.ofChange Rows.huntPlaysSpec) false w args) (Rows.huntPlaysSpec.post enc Tryd.prog Tryd.f3 false true false false) := by
  refine returnsInHanded_of_row (s := OpenSpec.ofChange Rows.huntPlaysSpec) (F := fun _ _ _ => 0) (laid := laidL) (C := Tryd.checked) own started (by kernel_rfl) Tryd.func3
    (ChangeSpec.witness_shaped (enc := enc) (C := Tryd.checked) (os := os) (s := Rows.huntPlaysSpec) (X := fun w _ => laidMetH Tryd.prog laidL w) false (World.laidAll Tryd.prog os laidL) #[.slice none 0 0] 8 (World.laidAll_os _ _ _)
      (World.shaped_of_ZipB (by kernel_rfl) (by kernel_rfl)) (by kernel_rfl) (by kernel_rfl) (by kernel_rfl)
      (by rw [MakeChecks.laidMetH_plain _ _ _ (by kernel_rfl)]; exact laidMet_laidAll _ (by kernel_rfl) (by kernel_rfl))) ?_
  intro W base args ds gs before hval0 hW hcnd _ hsz0 hL hsh _
  have hval : ∀ (j : Nat) t v, Tryd.f3.params[j]? = some t → args[j]? = some v → Value.okWide Tryd.prog W .any base t v := hval0
  have hW' := hW
  obtain ⟨p, q, hA0, hV, rfl, hfz, hnd⟩ := hW
  have hA : DataW.TrodAll enc Tryd.prog W 0 (fun _ => true) true Tryd.f3.params.toList args.toList ds p := hA0
  rw [Tryd.params3] at hA hval
  obtain ⟨v0, vs0, d0, ds0, p0, q0, hargs, rfl, rfl, h0, r0⟩ := trodAll_cons hA
  obtain ⟨rfl, rfl, rfl⟩ := trodAll_nil r0
  obtain rfl : args = #[v0] := by cases args; simp_all
  obtain ⟨rfl, rfl⟩ := trodVars_none hV
  have k0 := h0
  have lt0 : ∀ x ∈ p0, x.block < W.heap.size := by obtain ⟨m, hm⟩ := k0; exact DataW.trod_lt m _ _ _ hm
  obtain ⟨a0, len0, cap0, rfl⟩ := okWide_slice Tryd.underlying22 (hval 0 22 v0 rfl rfl)
  obtain ⟨z0, w0⟩ := open_strs h0
  have sz0 : len0 * 16 ≤ 140737488351232 := by
    have hsz : (DataW.weightsEach Tryd.prog (Tryd.f3.params.toList ++ Rows.huntPlaysSpec.plain.varTypes Tryd.prog) ([d0] ++ [])).all (· ≤ reachBytes) = true := hsz0
    rw [Tryd.params3] at hsz
    rcases w0.2.2 with h | ⟨el, sp, hd, hl⟩
    · omega
    · rw [hd] at hsz
      have hq := sized_slice hsz (j := 0) (t := 22) (e := 9) rfl rfl Tryd.underlying22
      rw [show Tryd.prog.bytesOf 9 = 16 from by kernel_rfl] at hq
      simp only [reachBytes] at hq
      omega
  clear hA0 hval0
  refine (walk a0 len0 cap0 z0 ⟨w0.1, w0.2.1⟩ sz0 (of_laid hL hsh)).mono fun e W' ⟨he, bel⟩ => ?_
  subst he
  exact ⟨_, rfl, _, _, _, [], _, [], hW', trodAll_mk1 (shut_bool Tryd.underlying4 _), (trodAll_cons_mk (Below.trod laidOut (by kernel_rfl) (of_decide_eq_true (by kernel_rfl)) k0 bel lt0) trodAll_mk0), rfl, bel.frame _, fun h => by cases h⟩

theorem over : Rows.HuntPlaysSaid :=
  OpenClaim.holds_of_wide 3 Tryd.f3 rfl rfl rfl rfl rfl rfl rfl ⟨rfl, rfl, rfl, rfl, rfl⟩ rfl rfl rfl rfl rfl (by kernel_rfl) Tryd.func3 (by kernel_rfl)
    (of_decide_eq_true (by kernel_rfl)) (by unfold Func.isWrapper; first | (rw [if_pos (by decide +kernel)]; kernel_rfl) | (rw [if_neg (by decide +kernel)]; exact ⟨rfl, rfl⟩))
    (fun os started H enc _ => lifted os started H enc)

theorem proved : Rows.HuntPlaysCardSaid :=
  Claim7.holds_tied_plain_at .later [] _ true _ false over (fun _ h => by cases h) (by kernel_rfl) (fun _ h => by cases h) huntPlays_row_tie rfl ⟨rfl, rfl⟩ (by kernel_rfl) rfl
    (fun f fn hf hfn => by
      obtain rfl : f = 3 := Option.some.inj ((show Tryd.prog.funcNamed "taffrail/taffraillaw09.HuntPlays" = some 3 by kernel_rfl).symm.trans hf) |>.symm
      obtain rfl : fn = Tryd.f3 := (Option.some.inj (Tryd.func3.symm.trans hfn)).symm
      refine ⟨by kernel_rfl, fun j t ht => ?_⟩
      rw [Tryd.params3] at ht
      have hm : t ∈ [22] := by simpa using Array.mem_of_getElem? ht
      have hall : ([22].all fun u => !Tryd.prog.wantsStandIn u) = true := by kernel_rfl
      exact (show Tryd.prog.wantsStandIn t = false by simpa using List.all_eq_true.1 hall t hm))
    (by kernel_rfl)
#print axioms proved

end Go.Proofs.YtobioiicbdhboaaDoor.HuntPlays
