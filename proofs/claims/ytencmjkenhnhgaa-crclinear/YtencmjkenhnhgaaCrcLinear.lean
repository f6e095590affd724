/-
  CrcLinear is true for every input: the sum of three texts of one length, xored, is their three sums, xored. No condition.
-/
import Derived.Test.YtencmjkenhnhgaaCrcRel
import Derived.Deep.RegionLaw
import Derived.ProofKit
import Derived.OpenShut
import Derived.ShutString
import Derived.HandedShaped
namespace Go.Proofs.Ytencmjkenhnhgaa.crcLinear
open Go.ChangeShapes Go.WideShapes Go.ChangeAt Go.RowKit
open Go.ChangeMaps (open_string shut_string)
set_option linter.unusedVariables false

theorem cell_new (w : World) (x : UInt8) : (w.alloc (.cells #[.int .u8 x.toNat] 5)).cell? ⟨w.heap.size, 0, none⟩ = some (.int .u8 x.toNat) := by
  rw [cell_of_row _ _ 0 _ _ (0, 0) (heap_alloc_new w _)]; rfl

/-- append on a row of one's own, as one step of a region that draws. -/
theorem step_append_mine {ops : Array Oper} {o : Oper} {a : Act} {w : World} {K : Act → World → Prop} {Q : Exit → Act → World → Prop} {E : Prop} (hgd : o.guard = none) (s x : Operand)
    (ho : o.op = .call { callee := .builtin .append, args := #[s, x], argTypes := #[41, 41] }) (B : Nat) (v : Value) (l : List UInt8) (hs : a.eval s = v) (hown : Byt w B v l) (c : UInt8) (g k : Nat)
    (hx : a.eval x = .slice (some ⟨g, 0, none⟩) 1 k) (hg : w.cell? ⟨g, 0, none⟩ = some (.int .u8 c.toNat)) (hl : l.length ≤ 140737488355000) (hB : B ≤ w.heap.size)
    (h : ∀ v' w', Byt w' B v' (l ++ [c]) → w.grownBy w' v.ownBlock → K (a.put o.dst v') w') :
    if Region.wanted o (yielded ops a.tmps) = true then Oper.wp Try.prog o a w K Q else E := by
  obtain ⟨i0, hi, hz0, hz1, hz2⟩ := info_parts Try.infoU8
  have hw : Region.wanted o (yielded ops a.tmps) = true := by simp [Region.wanted, hgd]
  rw [if_pos hw]
  refine wp_append_own w s x 41 ho B 5 i0 (.int .u8 0) 1 1 Try.underlying41 hi hz0 hz1 hz2 rfl (by decide) v _ _ hs hown ⟨g, 0, none⟩ 1 k (cellsOf [c]) hx rfl ?_ (cellsOf_one _) (by unfold maxLen; omega) (by omega) hB ?_
  · intro j u hj
    match j, hj with
    | 0, hj => simp [cellsOf] at hj; subst hj; simpa [Addr.add] using hg
  · intro v' w' h1 h2 h3
    refine h v' w' ?_ h2
    show w'.ownsRow B 5 1 v' (l ++ [c]).length (cellsOf (l ++ [c]))
    rw [cellsOf_append, List.length_append]
    exact h1

/-- The first bytes of three texts, xored. -/
def mix (a b c : List UInt8) (k : Nat) : List UInt8 := (List.range k).map fun i => a.getD i 0 ^^^ b.getD i 0 ^^^ c.getD i 0
theorem mix_length (a b c : List UInt8) (k : Nat) : (mix a b c k).length = k := by simp [mix]
theorem mix_succ (a b c : List UInt8) (k : Nat) : mix a b c (k + 1) = mix a b c k ++ [a.getD k 0 ^^^ b.getD k 0 ^^^ c.getD k 0] := by
  simp [mix, List.range_succ]

theorem byt_conv {w : World} {B : Nat} {v : Value} {l : List UInt8} (h : Byt w B v l) (w' : World) (hb : Below w.heap.size w w') :
    (convert 41 9 v).run Try.prog w' = .ok (.string ⟨l.toArray⟩) w' := by
  obtain ⟨ao, cap, rfl, hsh⟩ := h.shape
  rcases hsh with ⟨rfl, rfl, rfl⟩ | ⟨g, rfl, hc⟩
  · exact run_convert_bytes_nil (P := Try.prog) w' 41 5 Try.underlying41 Try.underlying5 0 0 9 Try.underlying9
  · refine run_convert_bytes_back (P := Try.prog) w' 41 9 5 ⟨g, 0, none⟩ cap l Try.underlying41 Try.underlying5 Try.underlying9 ?_
    intro j hj
    have h1 := hc j hj
    rw [hb.cell (World.block_lt_of_cell? w _ h1)]
    exact h1

theorem sum_mix (a b c : ByteArray) (n : Nat) (ha : n ≤ a.size) (hb : n ≤ b.size) (hc : n ≤ c.size) :
    sumL (mix a.data.toList b.data.toList c.data.toList n) = sumL (a.extract 0 n).data.toList ^^^ sumL (b.extract 0 n).data.toList ^^^ sumL (c.extract 0 n).data.toList := by
  rw [take_eq, take_eq, take_eq]
  have la : (a.data.toList.take n).length = n := by simp; omega
  have lb : (b.data.toList.take n).length = n := by simp; omega
  have lc : (c.data.toList.take n).length = n := by simp; omega
  apply sum_xor3
  · rw [la, lb]
  · rw [la, lc]
  · rw [la, mix_length]
  · apply num_xor3
    · rw [la, lb]
    · rw [la, lc]
    · rw [la, mix_length]
    · intro i hi
      rw [la] at hi
      simp [mix, List.getD_eq_getElem?_getD, hi]

set_option maxRecDepth 100000 in
set_option maxHeartbeats 1000000 in
theorem walk_long (a b c : ByteArray) (ha : a.size ≤ maxLen) (hb : b.size ≤ maxLen) (hc : c.size ≤ maxLen) (m n : Nat) (hm1 : (if b.size < a.size then (b.size : Int) else (a.size : Int)) = (m : Int)) (hm2 : (if c.size < m then (c.size : Int) else (m : Int)) = (n : Int)) (h : decide (500 < (n : Int)) = true) (w : World) :
    Calls Try.prog 8 #[.string a, .string b, .string c] w fun e w' => e = .returned (.bool true) ∧ Below w.heap.size w w' := by
  go_enter Try.func8, Try.ntmps8
  go_wp2_with fail
  refine (awake3_any _).mono ?_
  rintro e w1 ⟨rfl, b1⟩
  go_wp2_with fail
  refine (awake3_any _).mono ?_
  rintro e w2 ⟨rfl, b2⟩
  go_wp2
  go_ret
  exact ⟨rfl, b1.trans (b2.mono b1.size)⟩

set_option maxRecDepth 100000 in
set_option maxHeartbeats 4000000 in
theorem walk_short (a b c : ByteArray) (m n : Nat) (hm1 : (if b.size < a.size then (b.size : Int) else (a.size : Int)) = (m : Int)) (hm2 : (if c.size < m then (c.size : Int) else (m : Int)) = (n : Int)) (hn : n ≤ 500) (ha : n ≤ a.size) (hb : n ≤ b.size) (hc : n ≤ c.size) (ha' : a.size ≤ maxLen) (hb' : b.size ≤ maxLen) (hc' : c.size ≤ maxLen) (w : World) :
    Calls Try.prog 8 #[.string a, .string b, .string c] w fun e w' => e = .returned (.bool true) ∧ Below w.heap.size w w' := by
  obtain ⟨i0, hi, hz0, hz1, hz2⟩ := info_parts Try.infoU8
  have hd : decide (500 < (n : Int)) = false := by simp; omega
  have HM := Lib.hid (sum_mix a b c n ha hb hc)
  unfold maxLen at ha' hb' hc'
  go_enter Try.func8, Try.ntmps8
  go_wp2_with fail
  refine (awake3_any _).mono ?_
  rintro e w1 ⟨rfl, b1⟩
  have B1 := Lib.hid b1
  clear b1
  go_wp2_with fail
  go_loopw [8, 9] (fun v i wr => ∃ k : Nat, i = .int .i64 k ∧ k ≤ n ∧ Byt wr w1.heap.size v (mix a.data.toList b.data.toList c.data.toList k) ∧ Below w1.heap.size w1 wr) (fun _ i _ => n - (intOf i).toNat)
  case atStart => exact ⟨0, rfl, Nat.zero_le _, World.ownsRow_lit w1 #[] 0 (Nat.le_refl _) (by decide) rfl, (Below.refl _ _).alloc (Nat.le_refl _) _⟩
  case round =>
    obtain ⟨k, rfl, hk, hown, hbel⟩ := hrel
    by_cases h : k < n
    · have hsz := hbel.size
      have hka : k < a.size := by omega
      have hkb : k < b.size := by omega
      have hkc : k < c.size := by omega
      obtain ⟨l', hL⟩ : ∃ l', l' = mix a.data.toList b.data.toList c.data.toList k := ⟨_, rfl⟩
      rw [← hL] at hown
      obtain ⟨ao, cap, rfl, -⟩ := hown.shape
      have hml : l'.length = k := by rw [hL]; exact mix_length a.data.toList b.data.toList c.data.toList k
      have Hrep := Lib.hid (mix_succ a.data.toList b.data.toList c.data.toList k)
      obtain ⟨xa, hxa⟩ : ∃ x, a[k]'hka = x := ⟨_, rfl⟩
      obtain ⟨xb, hxb⟩ : ∃ x, b[k]'hkb = x := ⟨_, rfl⟩
      obtain ⟨xc, hxc⟩ : ∃ x, c[k]'hkc = x := ⟨_, rfl⟩
      have hkai : (k : Int) < (a.size : Int) := by omega
      have hkbi : (k : Int) < (b.size : Int) := by omega
      have hkci : (k : Int) < (c.size : Int) := by omega
      have hk0 : (0 : Int) ≤ (k : Int) := by omega
      obtain ⟨x, hx⟩ : ∃ x, x = xa ^^^ xb ^^^ xc := ⟨_, rfl⟩
      have hx1 : bits .xor .u8 (xa.toNat : Int) (xb.toNat : Int) = ((xa ^^^ xb).toNat : Int) := by rw [UInt8.toNat_xor]; exact u8_xor_nat _ _ (byte_lt _) (byte_lt _)
      have hx2 : bits .xor .u8 ((xa ^^^ xb).toNat : Int) (xc.toNat : Int) = (x.toNat : Int) := by rw [hx, UInt8.toNat_xor (xa ^^^ xb)]; exact u8_xor_nat _ _ (byte_lt _) (byte_lt _)
      generalize (xa ^^^ xb).toNat = xab at *
      have Hnext := Lib.hid (show l' ++ [x] = mix a.data.toList b.data.toList c.data.toList (k + 1) from by
        rw [hL, Hrep.out, hx, ← hxa, ← hxb, ← hxc]
        simp [List.getD_eq_getElem?_getD, hka, hkb, hkc]
        rfl)
      have hl' : l'.length ≤ 500 := by omega
      have Hml := Lib.hid hml
      clear hml hx Hrep hL
      go_wp2_with fail
      go_region_law ((refine step_append_mine rfl (.tmp 31) (.tmp 43) rfl w1.heap.size (.slice ao l'.length cap) l' rfl ?_ x wr.heap.size 1 rfl ?_ ?_ ?_ ?_); (exact World.ownsRow.alloc hown _); (exact cell_new wr x); omega; (exact Nat.le_trans hsz (by simp)); (intro v' w2 hown1 hg1))
      all_goals
        have hbb : Below w1.heap.size w1 w2 := Below.grown (below_drew (hbel.alloc hsz _)) hg1 (Nat.le_trans hsz (by simp)) (fun q hq => ((World.ownsRow.alloc hown (.cells #[.int .u8 0] 5)).lt q hq).1)
        clear hown hg1 hbel
        go_wp2_with fail
        go_roundw
        case rel => exact ⟨k + 1, by go_num, by omega, by rw [← Hnext.out]; exact hown1, hbb⟩
        case measure => simp [intOf]; omega
    · obtain rfl : n = k := by omega
      obtain ⟨L, hL⟩ : ∃ L, L = mix a.data.toList b.data.toList c.data.toList n := ⟨_, rfl⟩
      rw [← hL] at hown
      have hLl : L.length = n := by rw [hL]; exact mix_length _ _ _ _
      obtain ⟨A, hA⟩ : ∃ A, A = a.extract 0 n := ⟨_, rfl⟩
      obtain ⟨B, hB⟩ : ∃ B, B = b.extract 0 n := ⟨_, rfl⟩
      obtain ⟨D, hD⟩ : ∃ D, D = c.extract 0 n := ⟨_, rfl⟩
      obtain ⟨M, hM⟩ : ∃ M : ByteArray, M = ⟨L.toArray⟩ := ⟨_, rfl⟩
      have hsA : A.size ≤ maxLen := by rw [hA]; simp [ByteArray.size_extract]; unfold maxLen; omega
      have hsB : B.size ≤ maxLen := by rw [hB]; simp [ByteArray.size_extract]; unfold maxLen; omega
      have hsD : D.size ≤ maxLen := by rw [hD]; simp [ByteArray.size_extract]; unfold maxLen; omega
      have hsM : M.size ≤ maxLen := by rw [hM]; simp [ByteArray.size]; unfold maxLen; omega
      have OA := Lib.hid (fun (w' : World) (b g : Nat) (ht : TabK w' b 256) (hg : w'.heap[g]? = some (.cells #[.string A] 9 (0, 0))) => (sum_row w' b g ht A hg hsA w' w'.heap.size (Below.refl _ _)).mono (fun e w2 h => (⟨h.1, h.2.1⟩ : _ ∧ _)))
      have OB := Lib.hid (fun (w' : World) (b g : Nat) (ht : TabK w' b 256) (hg : w'.heap[g]? = some (.cells #[.string B] 9 (0, 0))) => (sum_row w' b g ht B hg hsB w' w'.heap.size (Below.refl _ _)).mono (fun e w2 h => (⟨h.1, h.2.1⟩ : _ ∧ _)))
      have OD := Lib.hid (fun (w' : World) (b g : Nat) (ht : TabK w' b 256) (hg : w'.heap[g]? = some (.cells #[.string D] 9 (0, 0))) => (sum_row w' b g ht D hg hsD w' w'.heap.size (Below.refl _ _)).mono (fun e w2 h => (⟨h.1, h.2.1⟩ : _ ∧ _)))
      have OM := Lib.hid (fun (w' : World) (b g : Nat) (ht : TabK w' b 256) (hg : w'.heap[g]? = some (.cells #[.string M] 9 (0, 0))) => (sum_row w' b g ht M hg hsM w' w'.heap.size (Below.refl _ _)).mono (fun e w2 h => (⟨h.1, h.2.1⟩ : _ ∧ _)))
      have hsum : sumL M.data.toList = sumL A.data.toList ^^^ sumL B.data.toList ^^^ sumL D.data.toList := by
        rw [hA, hB, hD, ← HM.out, hM, hL]
      have hx1 := u32_xor_nat (sumL A.data.toList) (sumL B.data.toList) (sumL_lt _) (sumL_lt _)
      have hx2 := u32_xor_nat (sumL A.data.toList ^^^ sumL B.data.toList) (sumL D.data.toList) (Nat.xor_lt_two_pow (n := 32) (sumL_lt _) (sumL_lt _)) (sumL_lt _)
      rw [← hsum] at hx2
      generalize sumL A.data.toList ^^^ sumL B.data.toList = X1 at *
      generalize sumL A.data.toList = SA at *
      generalize sumL B.data.toList = SB at *
      generalize sumL D.data.toList = SD at *
      generalize sumL M.data.toList = SM at *
      have hA' := hA.symm
      have hB' := hB.symm
      have hD' := hD.symm
      have hConv := byt_conv hown
      rw [← hM] at hConv
      obtain ⟨ao, cap, rfl, -⟩ := hown.shape
      have Hbel := Lib.hid hbel
      have hai : (n : Int) ≤ (a.size : Int) := by omega
      have hbi : (n : Int) ≤ (b.size : Int) := by omega
      have hci : (n : Int) ≤ (c.size : Int) := by omega
      have hn0 : (0 : Int) ≤ (n : Int) := by omega
      have HConv0 := Lib.hid hConv
      clear hConv hA hB hD hM hL hsum hown hbel hsA hsB hsD hsM HM hLl
      go_wp2_with fail
      refine (make_any _).mono ?_
      rintro e w2 ⟨rfl, t2, b2⟩
      have T2 := Lib.hid t2
      have HConv := Lib.hid (fun (w' : World) (hC : CT w2 wr.heap.size w') => HConv0.out w' (b2.trans (hC.1.mono b2.size)))
      have B2 := Lib.hid (B1.out.trans ((Hbel.out.trans (b2.mono Hbel.out.size)).mono B1.out.size))
      clear t2 b2
      generalize wr.heap.size = t at *
      go_wp2_with fail
      refine wp_region_rel_end [.is (.pointer (some ⟨t, 0, none⟩)), .is (.slice ao L.length cap), .is (.string M), .row #[.string M] 9 1, .is (.int .u32 (SM : Nat)), .is (.pointer (some ⟨t, 0, none⟩)), .is (.string a), .is (.int .i64 (n : Int)), .is (.string A), .row #[.string A] 9 1, .is (.int .u32 (SA : Nat)), .is (.pointer (some ⟨t, 0, none⟩)), .is (.string b), .is (.int .i64 (n : Int)), .is (.string B), .row #[.string B] 9 1, .is (.int .u32 (SB : Nat)), .is (.int .u32 (X1 : Nat)), .is (.pointer (some ⟨t, 0, none⟩)), .is (.string c), .is (.int .i64 (n : Int)), .is (.string D), .row #[.string D] 9 1, .is (.int .u32 (SD : Nat)), .is (.int .u32 (SM : Nat)), .is (.bool true), .is (.bool true)]
        (CT w2 t) [(0, 46), (1, 47), (2, 48), (3, 49), (4, 50), (5, 51), (6, 52), (7, 53), (8, 54), (9, 55), (10, 56), (11, 57), (12, 58), (13, 59), (14, 60), (15, 61), (16, 62), (17, 63), (18, 64), (19, 65), (20, 66), (21, 67), (22, 68), (23, 69), (24, 70), (25, 71), (26, 6)] 27 (by kernel_rfl) (by kernel_rfl) (by kernel_rfl) (by kernel_rfl) ?hC ?hs ?hf
      case hC => exact ⟨below_drew (Below.refl _ _), T2.out⟩
      case hs =>
        refine stepsOk_succ ?s26 (stepsOk_succ ?s25 (stepsOk_succ ?s24 (stepsOk_succ ?s23 (stepsOk_succ ?s22 (stepsOk_succ ?s21 (stepsOk_succ ?s20 (stepsOk_succ ?s19 (stepsOk_succ ?s18 (stepsOk_succ ?s17 (stepsOk_succ ?s16 (stepsOk_succ ?s15 (stepsOk_succ ?s14 (stepsOk_succ ?s13 (stepsOk_succ ?s12 (stepsOk_succ ?s11 (stepsOk_succ ?s10 (stepsOk_succ ?s9 (stepsOk_succ ?s8 (stepsOk_succ ?s7 (stepsOk_succ ?s6 (stepsOk_succ ?s5 (stepsOk_succ ?s4 (stepsOk_succ ?s3 (stepsOk_succ ?s2 (stepsOk_succ ?s1 (stepsOk_succ ?s0 (stepsOk_zero)))))))))))))))))))))))))))
        case s0 =>
          refine stepOk0 rfl (by kernel_rfl) ?_
          rintro w' hC
          intro K hK
          go_simp
          exact hK _ _ rfl ⟨rfl, hC, Below.refl _ _⟩
        case s1 =>
          refine stepOk0 rfl (by kernel_rfl) ?_
          rintro w' hC
          intro K hK
          go_simp
          exact hK _ _ rfl ⟨rfl, hC, Below.refl _ _⟩
        case s2 =>
          refine stepOk1 1 47 rfl (by kernel_rfl) ?_
          rintro w' hC v1 rfl
          intro K hK
          have hcv := HConv.out w' hC
          go_simp
          exact hK _ _ rfl ⟨rfl, hC, Below.refl _ _⟩
        case s3 =>
          refine stepOk1 2 48 rfl (by kernel_rfl) ?_
          rintro w' hC v1 rfl
          intro K hK
          go_simp
          exact hK _ _ rfl ⟨⟨_, rfl, heap_alloc_new w' _⟩, hC.step (below_new _ _), below_new _ _⟩
        case s4 =>
          refine stepOk2 0 46 3 49 rfl (by kernel_rfl) ?_
          rintro w' hC v1 v2 rfl ⟨g1, rfl, hg1⟩
          intro K hK
          go_simp
          refine (OM.out w' _ _ hC.2 hg1).mono ?_
          rintro e w2 ⟨rfl, h1⟩
          exact hK _ _ rfl ⟨rfl, hC.step h1, h1⟩
        case s5 =>
          refine stepOk0 rfl (by kernel_rfl) ?_
          rintro w' hC
          intro K hK
          go_simp
          exact hK _ _ rfl ⟨rfl, hC, Below.refl _ _⟩
        case s6 =>
          refine stepOk0 rfl (by kernel_rfl) ?_
          rintro w' hC
          intro K hK
          go_simp
          exact hK _ _ rfl ⟨rfl, hC, Below.refl _ _⟩
        case s7 =>
          refine stepOk0 rfl (by kernel_rfl) ?_
          rintro w' hC
          intro K hK
          go_simp
          exact hK _ _ rfl ⟨rfl, hC, Below.refl _ _⟩
        case s8 =>
          refine stepOk2 6 52 7 53 rfl (by kernel_rfl) ?_
          rintro w' hC v1 v2 rfl rfl
          intro K hK
          go_simp
          exact hK _ _ rfl ⟨rfl, hC, Below.refl _ _⟩
        case s9 =>
          refine stepOk1 8 54 rfl (by kernel_rfl) ?_
          rintro w' hC v1 rfl
          intro K hK
          go_simp
          exact hK _ _ rfl ⟨⟨_, rfl, heap_alloc_new w' _⟩, hC.step (below_new _ _), below_new _ _⟩
        case s10 =>
          refine stepOk2 5 51 9 55 rfl (by kernel_rfl) ?_
          rintro w' hC v1 v2 rfl ⟨g1, rfl, hg1⟩
          intro K hK
          go_simp
          refine (OA.out w' _ _ hC.2 hg1).mono ?_
          rintro e w2 ⟨rfl, h1⟩
          exact hK _ _ rfl ⟨rfl, hC.step h1, h1⟩
        case s11 =>
          refine stepOk0 rfl (by kernel_rfl) ?_
          rintro w' hC
          intro K hK
          go_simp
          exact hK _ _ rfl ⟨rfl, hC, Below.refl _ _⟩
        case s12 =>
          refine stepOk0 rfl (by kernel_rfl) ?_
          rintro w' hC
          intro K hK
          go_simp
          exact hK _ _ rfl ⟨rfl, hC, Below.refl _ _⟩
        case s13 =>
          refine stepOk0 rfl (by kernel_rfl) ?_
          rintro w' hC
          intro K hK
          go_simp
          exact hK _ _ rfl ⟨rfl, hC, Below.refl _ _⟩
        case s14 =>
          refine stepOk2 12 58 13 59 rfl (by kernel_rfl) ?_
          rintro w' hC v1 v2 rfl rfl
          intro K hK
          go_simp
          exact hK _ _ rfl ⟨rfl, hC, Below.refl _ _⟩
        case s15 =>
          refine stepOk1 14 60 rfl (by kernel_rfl) ?_
          rintro w' hC v1 rfl
          intro K hK
          go_simp
          exact hK _ _ rfl ⟨⟨_, rfl, heap_alloc_new w' _⟩, hC.step (below_new _ _), below_new _ _⟩
        case s16 =>
          refine stepOk2 11 57 15 61 rfl (by kernel_rfl) ?_
          rintro w' hC v1 v2 rfl ⟨g1, rfl, hg1⟩
          intro K hK
          go_simp
          refine (OB.out w' _ _ hC.2 hg1).mono ?_
          rintro e w2 ⟨rfl, h1⟩
          exact hK _ _ rfl ⟨rfl, hC.step h1, h1⟩
        case s17 =>
          refine stepOk2 10 56 16 62 rfl (by kernel_rfl) ?_
          rintro w' hC v1 v2 rfl rfl
          intro K hK
          go_simp
          exact hK _ _ rfl ⟨rfl, hC, Below.refl _ _⟩
        case s18 =>
          refine stepOk0 rfl (by kernel_rfl) ?_
          rintro w' hC
          intro K hK
          go_simp
          exact hK _ _ rfl ⟨rfl, hC, Below.refl _ _⟩
        case s19 =>
          refine stepOk0 rfl (by kernel_rfl) ?_
          rintro w' hC
          intro K hK
          go_simp
          exact hK _ _ rfl ⟨rfl, hC, Below.refl _ _⟩
        case s20 =>
          refine stepOk0 rfl (by kernel_rfl) ?_
          rintro w' hC
          intro K hK
          go_simp
          exact hK _ _ rfl ⟨rfl, hC, Below.refl _ _⟩
        case s21 =>
          refine stepOk2 19 65 20 66 rfl (by kernel_rfl) ?_
          rintro w' hC v1 v2 rfl rfl
          intro K hK
          go_simp
          exact hK _ _ rfl ⟨rfl, hC, Below.refl _ _⟩
        case s22 =>
          refine stepOk1 21 67 rfl (by kernel_rfl) ?_
          rintro w' hC v1 rfl
          intro K hK
          go_simp
          exact hK _ _ rfl ⟨⟨_, rfl, heap_alloc_new w' _⟩, hC.step (below_new _ _), below_new _ _⟩
        case s23 =>
          refine stepOk2 18 64 22 68 rfl (by kernel_rfl) ?_
          rintro w' hC v1 v2 rfl ⟨g1, rfl, hg1⟩
          intro K hK
          go_simp
          refine (OD.out w' _ _ hC.2 hg1).mono ?_
          rintro e w2 ⟨rfl, h1⟩
          exact hK _ _ rfl ⟨rfl, hC.step h1, h1⟩
        case s24 =>
          refine stepOk2 17 63 23 69 rfl (by kernel_rfl) ?_
          rintro w' hC v1 v2 rfl rfl
          intro K hK
          go_simp
          exact hK _ _ rfl ⟨rfl, hC, Below.refl _ _⟩
        case s25 =>
          refine stepOk2 4 50 24 70 rfl (by kernel_rfl) ?_
          rintro w' hC v1 v2 rfl rfl
          intro K hK
          go_simp
          exact hK _ _ rfl ⟨rfl, hC, Below.refl _ _⟩
        case s26 =>
          refine stepOk1 25 71 rfl (by kernel_rfl) ?_
          rintro w' hC v1 rfl
          intro K hK
          go_simp
          exact hK _ _ rfl ⟨rfl, hC, Below.refl _ _⟩
      case hf =>
        intro w' hC t' hx
        have h26 : t'.getD 6 undef = .bool true := hx (26, 6) (by simp)
        have H26 := Lib.hid h26
        clear h26 hx
        go_wp2_with fail
        go_ret
        exact ⟨by rw [H26.out], B2.out.trans (hC.1.mono B2.out.size)⟩

theorem walk (a : ByteArray) (ha : a.size ≤ maxLen) (b : ByteArray) (hb : b.size ≤ maxLen) (c : ByteArray) (hc : c.size ≤ maxLen) (w : World) :
    Calls Try.prog 8 #[.string a, .string b, .string c] w fun e w' => e = .returned (.bool true) ∧ Below w.heap.size w w' := by
  have hm1 : (if b.size < a.size then (b.size : Int) else (a.size : Int)) = ((min a.size b.size : Nat) : Int) := by split <;> omega
  have hm2 : (if c.size < min a.size b.size then (c.size : Int) else ((min a.size b.size : Nat) : Int)) = ((min (min a.size b.size) c.size : Nat) : Int) := by split <;> omega
  by_cases h : 500 < min (min a.size b.size) c.size
  · exact walk_long a b c ha hb hc _ _ hm1 hm2 (by simp; omega) w
  · exact walk_short a b c _ _ hm1 hm2 (by omega) (by omega) (by omega) (by omega) ha hb hc w

theorem own : ownKnob Try.prog.godebug = none := by kernel_rfl
theorem laidOut : laidOutB Try.prog = true := by kernel_rfl

set_option maxRecDepth 100000 in
theorem lifted (os : Os) (started : os.Started) (H : Type) (enc : TypeId × Value → H) :
    ReturnsInHanded {} Try.checked os 8 .any (Rows.crcLinearSpec.pre6 enc Try.prog Try.f8 Rows.crcLinearRow.domain false) (Rows.crcLinearSpec.post enc Try.prog Try.f8 false true false false) := by
  refine returnsInHanded_of_change_shaped (C := Try.checked) own started (by kernel_rfl) Try.func8
    (ChangeSpec.witness6 (enc := enc) (C := Try.checked) false ⟨#[], #[.string ByteArray.empty, .string ByteArray.empty, .string ByteArray.empty], []⟩ 8 (by kernel_rfl) (by kernel_rfl) (by kernel_rfl) (by kernel_rfl)) ?_
  intro W base args ds gs before hval0 hW hcnd hsz0 hsh _
  have hval : ∀ (j : Nat) t v, Try.f8.params[j]? = some t → args[j]? = some v → Value.okWide Try.prog W .any base t v := hval0
  have hsz : (DataW.weightsEach Try.prog (Try.f8.params.toList ++ Rows.crcLinearSpec.plain.varTypes Try.prog) (ds ++ gs)).all (· ≤ reachBytes) = true := hsz0
  have hW' := hW
  obtain ⟨p, q, hA0, hV, rfl, hfz, hnd⟩ := hW
  have hA : DataW.TrodAll enc Try.prog W 0 (fun _ => true) true Try.f8.params.toList args.toList ds p := hA0
  rw [Try.params8] at hA hval hsz
  obtain ⟨v0, vs0, d0, ds0, p0, q0, hargs, rfl, rfl, h0, r0⟩ := trodAll_cons hA
  obtain ⟨v1, vs1, d1, ds1, p1, q1, rfl, rfl, rfl, h1, r1⟩ := trodAll_cons r0
  obtain ⟨v2, vs2, d2, ds2, p2, q2, rfl, rfl, rfl, h2, r2⟩ := trodAll_cons r1
  obtain ⟨rfl, rfl, rfl⟩ := trodAll_nil r2
  obtain rfl : args = #[v0, v1, v2] := by cases args; simp_all
  obtain ⟨rfl, rfl⟩ := trodVars_none hV
  have k0 := h0
  have lt0 : ∀ x ∈ p0, x.block < W.heap.size := by obtain ⟨m, hm⟩ := k0; exact DataW.trod_lt m _ _ _ hm
  have k1 := h1
  have lt1 : ∀ x ∈ p1, x.block < W.heap.size := by obtain ⟨m, hm⟩ := k1; exact DataW.trod_lt m _ _ _ hm
  have k2 := h2
  have lt2 : ∀ x ∈ p2, x.block < W.heap.size := by obtain ⟨m, hm⟩ := k2; exact DataW.trod_lt m _ _ _ hm
  obtain ⟨a0, rfl, rfl, rfl, w0⟩ := open_string Try.underlying9 (hval 0 9 v0 rfl rfl) h0
  obtain ⟨a1, rfl, rfl, rfl, w1⟩ := open_string Try.underlying9 (hval 1 9 v1 rfl rfl) h1
  obtain ⟨a2, rfl, rfl, rfl, w2⟩ := open_string Try.underlying9 (hval 2 9 v2 rfl rfl) h2
  clear hA0 hval0
  refine (walk a0 w0 a1 w1 a2 w2 W).mono fun e W' ⟨he, bel⟩ => ?_
  subst he
  exact ⟨_, rfl, _, _, _, [], _, [], hW', trodAll_mk1 (shut_bool Try.underlying4 _), (trodAll_cons_mk (Below.trod laidOut (by kernel_rfl) (of_decide_eq_true (by kernel_rfl)) k0 bel lt0) (trodAll_cons_mk (Below.trod laidOut (by kernel_rfl) (of_decide_eq_true (by kernel_rfl)) k1 bel lt1) (trodAll_cons_mk (Below.trod laidOut (by kernel_rfl) (of_decide_eq_true (by kernel_rfl)) k2 bel lt2) trodAll_mk0))), rfl, bel.frame _, fun h => by cases h⟩

theorem over : Rows.crcLinearRow.holds Try.pinned (OpenSpec.ofChange Rows.crcLinearSpec) :=
  OpenClaim.holds_of_wide 8 Try.f8 rfl rfl rfl rfl rfl rfl rfl ⟨rfl, rfl, rfl, rfl, rfl⟩ rfl rfl rfl rfl rfl (by kernel_rfl) Try.func8 (by kernel_rfl)
    (of_decide_eq_true (by kernel_rfl)) (by unfold Func.isWrapper; first | (rw [if_pos (by decide +kernel)]; kernel_rfl) | (rw [if_neg (by decide +kernel)]; exact ⟨rfl, rfl⟩))
    (fun os started H enc _ => lifted os started H enc)

theorem proved : Rows.CrcLinearSaid :=
  over
#print axioms proved
end Go.Proofs.Ytencmjkenhnhgaa.crcLinear
