/-
  The document's own answers of layer 11 (taffrailref11): reg, mode, number, Line, over this seat's translation. No condition but on sizes.
-/
import Derived.Test.YtlnlfeninjjkmaaDoorLsW
import Derived.Test.YtlnlfeninjjkmaaDoorEvRef4
import Derived.Test.YtlnlfeninjjkmaaDoorIsR3
import Derived.Test.YtlnlfeninjjkmaaDoorRel
namespace Go.Proofs.YtlnlfeninjjkmaaDoor
open Go.RowKit
set_option linter.unusedVariables false
set_option linter.unusedSimpArgs false

set_option maxRecDepth 100000 in
theorem rdreg_any (n : Nat) (hn : n < 8) (w : World) :
    Calls Tryd.prog 30 #[.int .i64 (n : Int)] w fun r w' => r = .returned (.string (bytesOf (regW n))) ∧ Below w.heap.size w w' := by
  have H := Lib.hid (rdigits_any n (by omega) w)
  have hs : (bytesOf (Lib.decDigits n)).size ≤ 20 := by rw [bytesOf_size]; exact dec_len n (by omega)
  have he := Lib.hid (show (⟨#[114]⟩ : ByteArray) ++ bytesOf (Lib.decDigits n) = bytesOf (regW n) by
    rw [show (⟨#[114]⟩ : ByteArray) = bytesOf [114] from rfl, bytesOf_app]; rfl)
  generalize bytesOf (Lib.decDigits n) = X at *
  have h1 : ¬ 9223372036854775807 < 1 + X.size := by omega
  have hw : IntKind.u64.wrap (n : Int) = n := by rw [IntKind.wrap_u64]; omega
  clear hn hs
  go_enter Tryd.func30, Tryd.ntmps30
  go_wp2_with fail
  refine H.out.mono ?_
  rintro r w1 ⟨rfl, hb⟩
  have HB := Lib.hid hb
  clear hb
  go_wp2
  go_ret
  exact ⟨by rw [← he.out]; rfl, HB.out⟩

set_option maxRecDepth 100000 in
theorem rdmode_any (d : Nat) (w : World) :
    Calls Tryd.prog 31 #[.int .i64 (d : Int)] w fun r w' => r = .returned (.string (bytesOf (modeW d))) ∧ w = w' := by
  by_cases h0 : d = 0
  · subst h0
    go_enter Tryd.func31, Tryd.ntmps31
    go_wp2
    go_ret
    exact ⟨rfl, rfl⟩
  · by_cases h1 : d = 1
    · subst h1
      go_enter Tryd.func31, Tryd.ntmps31
      go_wp2
      go_ret
      exact ⟨rfl, rfl⟩
    · have hw := Lib.hid (show bytesOf (modeW d) = (⟨#[116, 105, 109, 101, 100]⟩ : ByteArray) by unfold modeW; rw [if_neg h0, if_neg h1]; rfl)
      have e0 : ((d : Int) == 0) = false := by simp; omega
      have e1 : ((d : Int) == 1) = false := by simp; omega
      clear h0 h1
      go_enter Tryd.func31, Tryd.ntmps31
      go_wp2
      go_ret
      exact ⟨by rw [hw.out]; rfl, rfl⟩

def numI (o : Option Nat) : Int := match o with
  | some n => (n : Int)
  | none => -1
theorem regN_none {l : List UInt8} (h : ∀ j, j < 8 → regW j ≠ l) : regN l = none := by
  cases hm : regN l with
  | none => rfl
  | some n =>
    obtain ⟨e, hn⟩ := (regN_iff l n).1 hm
    exact absurd e.symm (h n hn)

set_option maxRecDepth 100000 in
set_option maxHeartbeats 1000000 in
theorem rdnumber_any (X : ByteArray) (w : World) :
    Calls Tryd.prog 35 #[.string X] w fun r w' => r = .returned (.int .i64 (numI (regN X.data.toList))) ∧ Below w.heap.size w w' := by
  obtain ⟨l, hl⟩ : ∃ l, X.data.toList = l := ⟨_, rfl⟩
  rw [hl]
  have HX := Lib.hid hl
  clear hl
  go_enter Tryd.func35, Tryd.ntmps35
  go_wp2_with fail
  go_loopw [3] (fun x wr => ∃ k : Nat, x = .int .i64 (k : Int) ∧ k ≤ 8 ∧ Hid (∀ j, j < k → regW j ≠ l) ∧ Hid (Below w.heap.size w wr)) (fun x _ => ((8 : Int) - intOf x).toNat)
  case atStart => exact ⟨0, rfl, by omega, fun j hj => by omega, Below.refl _ _⟩
  case round =>
    obtain ⟨k, rfl, hk, K, B⟩ := hrel
    by_cases h8 : k = 8
    · subst h8
      have HQ := Lib.hid (regN_none K.out)
      go_wp2
      go_ret
      exact ⟨by rw [HQ.out]; rfl, B.out⟩
    · have hlt : (k : Int) < 8 := by omega
      have HR := Lib.hid (rdreg_any k (by omega) wr)
      have hb := beq_bytes (bytesOf (regW k)) X
      rw [bytesOf_data, HX.out] at hb
      by_cases hq : regW k = l
      · rw [decide_eq_true hq] at hb
        have HQ := Lib.hid ((regN_iff l k).2 ⟨hq.symm, by omega⟩)
        generalize bytesOf (regW k) = M at *
        clear hq h8
        go_wp2_with fail
        refine HR.out.mono ?_
        rintro r w1 ⟨rfl, h1⟩
        have B1 := Lib.hid (below_on B.out h1)
        clear h1 HR
        go_wp2
        go_ret
        exact ⟨by rw [HQ.out]; rfl, B1.out⟩
      · rw [decide_eq_false hq] at hb
        have HQ := Lib.hid hq
        generalize bytesOf (regW k) = M at *
        clear hq
        go_wp2_with fail
        refine HR.out.mono ?_
        rintro r w1 ⟨rfl, h1⟩
        have B1 := Lib.hid (below_on B.out h1)
        clear h1 HR
        go_wp2
        go_roundw
        case rel => exact ⟨k + 1, by go_num, by omega, fun j hj => by
          by_cases hj1 : j = k
          · rw [hj1]; exact HQ.out
          · exact K.out j (by omega), B1⟩
        case measure => simp [intOf]; omega

def optT (h : Bool) (x : List UInt8) : List UInt8 := if h then 32 :: x else []
theorem unwords_opt (h : Bool) (x : List UInt8) : ∀ ws : List (List UInt8), ws ≠ [] → unwords (ws ++ optW h x) = unwords ws ++ optT h x
  | [], hn => absurd rfl hn
  | [y], _ => by cases h <;> simp [optW, optT, unwords]
  | y :: z :: r, _ => by
    have ih := unwords_opt h x (z :: r) (by simp)
    have e : unwords (y :: z :: r) = y ++ 32 :: unwords (z :: r) := rfl
    have e2 : unwords (y :: z :: r ++ optW h x) = y ++ 32 :: unwords (z :: r ++ optW h x) := rfl
    rw [e, e2, ih]
    simp

set_option maxRecDepth 100000 in
set_option maxHeartbeats 4000000 in
theorem rdline_walk (op a b c d k : Nat) (ho : op < 39) (hk : k < 4294967296) (S P0 P1 P2 P3 P4 P5 W0 W1 W2 W3 W4 : ByteArray) (fA fB fC fD fK cc : Bool) (w : World)
    (HH : Hid (∀ w', Calls Tryd.prog 27 #[.int .i64 (op : Int)] w' fun r w'' => r = .returned (.string S) ∧ w' = w''))
    (HA : Hid (∀ w', Calls Tryd.prog 28 #[.string S, .int .u8 65] w' fun r w'' => r = .returned (.bool fA) ∧ w' = w''))
    (HB : Hid (∀ w', Calls Tryd.prog 28 #[.string S, .int .u8 66] w' fun r w'' => r = .returned (.bool fB) ∧ w' = w''))
    (HC : Hid (∀ w', Calls Tryd.prog 28 #[.string S, .int .u8 67] w' fun r w'' => r = .returned (.bool fC) ∧ w' = w''))
    (HD : Hid (∀ w', Calls Tryd.prog 28 #[.string S, .int .u8 68] w' fun r w'' => r = .returned (.bool fD) ∧ w' = w''))
    (HK : Hid (∀ w', Calls Tryd.prog 28 #[.string S, .int .u8 75] w' fun r w'' => r = .returned (.bool fK) ∧ w' = w''))
    (HW0 : Hid (∀ w', Calls Tryd.prog 30 #[.int .i64 (a : Int)] w' fun r w'' => r = .returned (.string W0) ∧ Below w'.heap.size w' w''))
    (HW1 : Hid (∀ w', Calls Tryd.prog 30 #[.int .i64 (b : Int)] w' fun r w'' => r = .returned (.string W1) ∧ Below w'.heap.size w' w''))
    (HW2 : Hid (∀ w', Calls Tryd.prog 31 #[.int .i64 (d : Int)] w' fun r w'' => r = .returned (.string W2) ∧ Below w'.heap.size w' w''))
    (HW3 : Hid (∀ w', Calls Tryd.prog 30 #[.int .i64 (c : Int)] w' fun r w'' => r = .returned (.string W3) ∧ Below w'.heap.size w' w''))
    (HW4 : Hid (∀ w', Calls Tryd.prog 32 #[.int .u64 (k : Int)] w' fun r w'' => r = .returned (.string W4) ∧ Below w'.heap.size w' w''))
    (hcc : Hid (cc = (fC && (decide ((d : Int) = 2) || !fD))))
    (hp : Hid (inameB op = P0))
    (hs0 : Hid (P1 = if fA then P0 ++ ((⟨#[32]⟩ : ByteArray) ++ W0) else P0)) (hz0 : Hid (P0.size ≤ 1000 ∧ W0.size ≤ 1000))
    (hs1 : Hid (P2 = if fB then P1 ++ ((⟨#[32]⟩ : ByteArray) ++ W1) else P1)) (hz1 : Hid (P1.size ≤ 1000 ∧ W1.size ≤ 1000))
    (hs2 : Hid (P3 = if fD then P2 ++ ((⟨#[32]⟩ : ByteArray) ++ W2) else P2)) (hz2 : Hid (P2.size ≤ 1000 ∧ W2.size ≤ 1000))
    (hs3 : Hid (P4 = if cc then P3 ++ ((⟨#[32]⟩ : ByteArray) ++ W3) else P3)) (hz3 : Hid (P3.size ≤ 1000 ∧ W3.size ≤ 1000))
    (hs4 : Hid (P5 = if fK then P4 ++ ((⟨#[32]⟩ : ByteArray) ++ W4) else P4)) (hz4 : Hid (P4.size ≤ 1000 ∧ W4.size ≤ 1000))
    :
    Calls Tryd.prog 12 #[insV ⟨op, a, b, c, d, k⟩] w fun r w' => r = .returned (.string P5) ∧ Below w.heap.size w w' := by
  obtain ⟨w1, e1⟩ : ∃ w1, w1 = w.alloc (insO ⟨op, a, b, c, d, k⟩) := ⟨_, rfl⟩
  obtain ⟨s1, n1, b1⟩ := new_size e1
  obtain ⟨E, eE⟩ : ∃ E, w.heap.size = E := ⟨_, rfl⟩
  rw [eE] at n1
  have N1 := Lib.hid n1
  have B1 := Lib.hid b1
  have HE := Lib.hid eE
  obtain ⟨c0, c1, c2, c3, c4, c5⟩ := inscells n1
  simp only at c0 c1 c2 c3 c4 c5
  replace e1 : w1 = w.alloc (.cells #[.int .i64 (op : Int), .int .i64 (a : Int), .int .i64 (b : Int), .int .i64 (c : Int), .int .i64 (d : Int), .int .u32 (k : Int)] 24) := e1
  have o0 : (0 : Int) ≤ op := Int.natCast_nonneg _
  have o1 : (op : Int) < 39 := by omega
  clear s1 n1 b1 eE
  unfold insV at *
  simp only at *
  go_enter Tryd.func12, Tryd.ntmps12
  go_wp2_with fail
  rw [← e1, HE.out]
  clear e1
  refine (HH.out w1).mono ?_
  rintro r w2 ⟨rfl, rfl⟩
  clear HH
  go_upto_region 2 with fail
  refine wp_region_rel [.has (fun v u => ∃ g, v = .slice (some ⟨g, 0, none⟩) 39 39 ∧ u.cell? ⟨g, op, none⟩ = some (.string (inameB op))) (fun v u u' hb h => by obtain ⟨g, h1, h2⟩ := h; exact ⟨g, h1, cell_kept hb h2⟩), .is (.pointer (some ⟨E, 0, none⟩)), .is (.int .i64 (op : Int)), .has (fun v u => ∃ g, v = .pointer (some ⟨g, op, none⟩) ∧ u.cell? ⟨g, op, none⟩ = some (.string (inameB op))) (fun v u u' hb h => by obtain ⟨g, h1, h2⟩ := h; exact ⟨g, h1, cell_kept hb h2⟩), .is (.string (inameB op)), .is (.string (inameB op))]
    (fun w' => Below w1.heap.size w1 w') [(0, 8), (1, 9), (2, 10), (3, 11), (4, 12), (5, 4)] 6 (by kernel_rfl) (by kernel_rfl) (by kernel_rfl) (by kernel_rfl) ?hC ?hs ?hf
  case hC => exact below_drew (Below.refl _ _)
  case hs =>
    refine stepsOk_succ ?s5 (stepsOk_succ ?s4 (stepsOk_succ ?s3 (stepsOk_succ ?s2 (stepsOk_succ ?s1 (stepsOk_succ ?s0 (stepsOk_zero))))))
    case s0 =>
      refine stepOk0 rfl (by kernel_rfl) ?_
      rintro w' hC
      intro K hK
      go_simp
      refine (rinames_any w').mono ?_
      rintro e w2 ⟨rfl, h1, hc⟩
      exact hK _ _ rfl ⟨⟨w'.heap.size, rfl, hc op (by omega)⟩, hC.trans (h1.mono hC.size), h1⟩
    case s1 =>
      refine stepOk0 rfl (by kernel_rfl) ?_
      rintro w' hC
      intro K hK
      go_simp
      exact hK _ _ rfl ⟨rfl, hC, Below.refl _ _⟩
    case s2 =>
      refine stepOk1 1 9 rfl (by kernel_rfl) ?_
      rintro w' hC v1 rfl
      intro K hK
      obtain ⟨c0, c1, c2, c3, c4, c5⟩ := inscells (blk_on hC N1.out)
      simp only at c0 c1 c2 c3 c4 c5
      go_simp
      exact hK _ _ rfl ⟨rfl, hC, Below.refl _ _⟩
    case s3 =>
      refine stepOk2 0 8 2 10 rfl (by kernel_rfl) ?_
      rintro w' hC v1 v2 ⟨g0, rfl, hg0⟩ rfl
      intro K hK
      go_simp
      exact hK _ _ rfl ⟨⟨_, rfl, hg0⟩, hC, Below.refl _ _⟩
    case s4 =>
      refine stepOk1 3 11 rfl (by kernel_rfl) ?_
      rintro w' hC v1 ⟨g0, rfl, hg0⟩
      intro K hK
      go_simp
      exact hK _ _ rfl ⟨rfl, hC, Below.refl _ _⟩
    case s5 =>
      refine stepOk1 4 12 rfl (by kernel_rfl) ?_
      rintro w' hC v1 rfl
      intro K hK
      go_simp
      exact hK _ _ rfl ⟨rfl, hC, Below.refl _ _⟩
  case hf =>
    intro w' hC x hx
    have e1 : x 9 = (.pointer (some ⟨E, 0, none⟩)) := hx (1, 9) (by simp)
    have e2 : x 10 = (.int .i64 (op : Int)) := hx (2, 10) (by simp)
    have e4 : x 12 = (.string (inameB op)) := hx (4, 12) (by simp)
    have e5 : x 4 = (.string (inameB op)) := hx (5, 4) (by simp)
    simp only [putAll, List.foldl_cons, List.foldl_nil, e1, e2, e4, e5, Act.put, List.setIfInBounds_toArray, List.set_cons_succ, List.set_cons_zero]
    clear hx e1 e2 e4 e5
    have X0' : Hid (Below w1.heap.size w1 w') := Lib.hid hC
    rw [hp.out]
    clear hC c0 c1 c2 c3 c4 c5
    obtain ⟨wz, ez⟩ : ∃ wz, w' = wz := ⟨_, rfl⟩
    rw [ez] at X0' ⊢
    clear ez
    go_wp2_with fail
    refine (HA.out _).mono ?_
    rintro r wy ⟨rfl, rfl⟩
    go_upto_if 14 with fail
    go_cut [4] (fun x wx => x = .string P1 ∧ Hid (Below w1.heap.size w1 wx))
    case first =>
      cases fA
      · have hs := hs0.out
        simp only [Bool.false_eq_true, if_false] at hs
        have HS := Lib.hid hs
        clear hs
        go_wp2_with fail
        go_meet
        exact ⟨by rw [HS.out], X0'⟩
      · have hs := hs0.out
        simp only [if_true] at hs
        have HS := Lib.hid hs
        obtain ⟨c0, c1, c2, c3, c4, c5⟩ := inscells (blk_on X0'.out N1.out)
        simp only at c0 c1 c2 c3 c4 c5
        obtain ⟨z1, z2⟩ := hz0.out
        have g1 : ¬ 9223372036854775807 < 1 + W0.size := by omega
        have g2 : ¬ 9223372036854775807 < P0.size + (1 + W0.size) := by omega
        have g3 : ¬ 9223372036854775807 < P0.size + ((⟨#[32]⟩ : ByteArray) ++ W0).size := by
          rw [ByteArray.size_append, show (⟨#[32]⟩ : ByteArray).size = 1 from rfl]; exact g2
        clear hs z1 z2
        go_wp2_with fail
        refine (HW0.out _).mono ?_
        rintro r wy ⟨rfl, hy⟩
        have Y := Lib.hid (below_on X0'.out hy)
        clear hy
        go_wp2_with fail
        go_meet
        exact ⟨by rw [HS.out], Y⟩
    case rest =>
    obtain ⟨rfl, X1'⟩ := hcut
    clear X0'
    go_wp2_with fail
    refine (HB.out _).mono ?_
    rintro r wy ⟨rfl, rfl⟩
    go_upto_if 22 with fail
    go_cut [4] (fun x wx => x = .string P2 ∧ Hid (Below w1.heap.size w1 wx))
    case first =>
      cases fB
      · have hs := hs1.out
        simp only [Bool.false_eq_true, if_false] at hs
        have HS := Lib.hid hs
        clear hs
        go_wp2_with fail
        go_meet
        exact ⟨by rw [HS.out], X1'⟩
      · have hs := hs1.out
        simp only [if_true] at hs
        have HS := Lib.hid hs
        obtain ⟨c0, c1, c2, c3, c4, c5⟩ := inscells (blk_on X1'.out N1.out)
        simp only at c0 c1 c2 c3 c4 c5
        obtain ⟨z1, z2⟩ := hz1.out
        have g1 : ¬ 9223372036854775807 < 1 + W1.size := by omega
        have g2 : ¬ 9223372036854775807 < P1.size + (1 + W1.size) := by omega
        have g3 : ¬ 9223372036854775807 < P1.size + ((⟨#[32]⟩ : ByteArray) ++ W1).size := by
          rw [ByteArray.size_append, show (⟨#[32]⟩ : ByteArray).size = 1 from rfl]; exact g2
        clear hs z1 z2
        go_wp2_with fail
        refine (HW1.out _).mono ?_
        rintro r wy ⟨rfl, hy⟩
        have Y := Lib.hid (below_on X1'.out hy)
        clear hy
        go_wp2_with fail
        go_meet
        exact ⟨by rw [HS.out], Y⟩
    case rest =>
    obtain ⟨rfl, X2'⟩ := hcut
    clear X1'
    go_wp2_with fail
    refine (HD.out _).mono ?_
    rintro r wy ⟨rfl, rfl⟩
    go_upto_if 30 with fail
    go_cut [4] (fun x wx => x = .string P3 ∧ Hid (Below w1.heap.size w1 wx))
    case first =>
      cases fD
      · have hs := hs2.out
        simp only [Bool.false_eq_true, if_false] at hs
        have HS := Lib.hid hs
        clear hs
        go_wp2_with fail
        go_meet
        exact ⟨by rw [HS.out], X2'⟩
      · have hs := hs2.out
        simp only [if_true] at hs
        have HS := Lib.hid hs
        obtain ⟨c0, c1, c2, c3, c4, c5⟩ := inscells (blk_on X2'.out N1.out)
        simp only at c0 c1 c2 c3 c4 c5
        obtain ⟨z1, z2⟩ := hz2.out
        have g1 : ¬ 9223372036854775807 < 1 + W2.size := by omega
        have g2 : ¬ 9223372036854775807 < P2.size + (1 + W2.size) := by omega
        have g3 : ¬ 9223372036854775807 < P2.size + ((⟨#[32]⟩ : ByteArray) ++ W2).size := by
          rw [ByteArray.size_append, show (⟨#[32]⟩ : ByteArray).size = 1 from rfl]; exact g2
        clear hs z1 z2
        go_wp2_with fail
        refine (HW2.out _).mono ?_
        rintro r wy ⟨rfl, hy⟩
        have Y := Lib.hid (below_on X2'.out hy)
        clear hy
        go_wp2_with fail
        go_meet
        exact ⟨by rw [HS.out], Y⟩
    case rest =>
    obtain ⟨rfl, X3'⟩ := hcut
    clear X2'
    go_upto_region 9 with fail
    go_cut [48] (fun x wx => x = .bool cc ∧ Hid (Below w1.heap.size w1 wx))
    case first =>
      have X := X3'
      obtain ⟨c0, c1, c2, c3, c4, c5⟩ := inscells (blk_on X.out N1.out)
      simp only at c0 c1 c2 c3 c4 c5
      go_wp2_with fail
      refine (HC.out _).mono ?_
      rintro r wy ⟨rfl, rfl⟩
      cases fC
      · obtain rfl : cc = false := hcc.out
        go_wp2_with fail
        go_meet
        exact ⟨rfl, X⟩
      · by_cases hd2 : d = 2
        · have hq : ((d : Int) == 2) = true := by simp [hd2]
          obtain rfl : cc = true := by rw [hcc.out]; simp [hd2]
          clear hd2
          go_wp2_with fail
          go_meet
          exact ⟨rfl, X⟩
        · have hq : ((d : Int) == 2) = false := by simp; omega
          have HQ := Lib.hid (show cc = !fD by rw [hcc.out]; have : decide ((d : Int) = 2) = false := by simp; omega
                                               rw [this]; rfl)
          clear hd2
          go_wp2_with fail
          refine (HD.out _).mono ?_
          rintro r wy ⟨rfl, rfl⟩
          go_wp2_with fail
          go_meet
          exact ⟨by rw [HQ.out], X⟩
    case rest =>
    obtain ⟨rfl, XX⟩ := hcut
    clear X3'
    have X3' := XX
    clear XX
    go_upto_if 48 with fail
    go_cut [4] (fun x wx => x = .string P4 ∧ Hid (Below w1.heap.size w1 wx))
    case first =>
      cases cc
      · have hs := hs3.out
        simp only [Bool.false_eq_true, if_false] at hs
        have HS := Lib.hid hs
        clear hs
        go_wp2_with fail
        go_meet
        exact ⟨by rw [HS.out], X3'⟩
      · have hs := hs3.out
        simp only [if_true] at hs
        have HS := Lib.hid hs
        obtain ⟨c0, c1, c2, c3, c4, c5⟩ := inscells (blk_on X3'.out N1.out)
        simp only at c0 c1 c2 c3 c4 c5
        obtain ⟨z1, z2⟩ := hz3.out
        have g1 : ¬ 9223372036854775807 < 1 + W3.size := by omega
        have g2 : ¬ 9223372036854775807 < P3.size + (1 + W3.size) := by omega
        have g3 : ¬ 9223372036854775807 < P3.size + ((⟨#[32]⟩ : ByteArray) ++ W3).size := by
          rw [ByteArray.size_append, show (⟨#[32]⟩ : ByteArray).size = 1 from rfl]; exact g2
        clear hs z1 z2
        go_wp2_with fail
        refine (HW3.out _).mono ?_
        rintro r wy ⟨rfl, hy⟩
        have Y := Lib.hid (below_on X3'.out hy)
        clear hy
        go_wp2_with fail
        go_meet
        exact ⟨by rw [HS.out], Y⟩
    case rest =>
    obtain ⟨rfl, X4'⟩ := hcut
    clear X3'
    go_wp2_with fail
    refine (HK.out _).mono ?_
    rintro r wy ⟨rfl, rfl⟩
    go_upto_if 56 with fail
    go_cut [4] (fun x wx => x = .string P5 ∧ Hid (Below w1.heap.size w1 wx))
    case first =>
      cases fK
      · have hs := hs4.out
        simp only [Bool.false_eq_true, if_false] at hs
        have HS := Lib.hid hs
        clear hs
        go_wp2_with fail
        go_meet
        exact ⟨by rw [HS.out], X4'⟩
      · have hs := hs4.out
        simp only [if_true] at hs
        have HS := Lib.hid hs
        obtain ⟨c0, c1, c2, c3, c4, c5⟩ := inscells (blk_on X4'.out N1.out)
        simp only at c0 c1 c2 c3 c4 c5
        obtain ⟨z1, z2⟩ := hz4.out
        have g1 : ¬ 9223372036854775807 < 1 + W4.size := by omega
        have g2 : ¬ 9223372036854775807 < P4.size + (1 + W4.size) := by omega
        have g3 : ¬ 9223372036854775807 < P4.size + ((⟨#[32]⟩ : ByteArray) ++ W4).size := by
          rw [ByteArray.size_append, show (⟨#[32]⟩ : ByteArray).size = 1 from rfl]; exact g2
        have hw64 : IntKind.u64.wrap (k : Int) = k := by rw [IntKind.wrap_u64]; omega
        clear hs z1 z2
        go_wp2_with fail
        refine (HW4.out _).mono ?_
        rintro r wy ⟨rfl, hy⟩
        have Y := Lib.hid (below_on X4'.out hy)
        clear hy
        go_wp2_with fail
        go_meet
        exact ⟨by rw [HS.out], Y⟩
    case rest =>
    obtain ⟨rfl, X5'⟩ := hcut
    clear X4'
    have HB2 := Lib.hid (below_on B1.out X5'.out)
    go_wp2
    go_ret
    exact ⟨rfl, HB2.out⟩

theorem step_text (f : Bool) (T W : List UInt8) : bytesOf (T ++ optT f W) = if f then bytesOf T ++ ((⟨#[32]⟩ : ByteArray) ++ bytesOf W) else bytesOf T := by
  cases f with
  | false => simp [optT]
  | true =>
    rw [if_pos rfl, show (⟨#[32]⟩ : ByteArray) = bytesOf [32] from rfl, bytesOf_app, bytesOf_app]
    rfl

theorem rdline_any (i : Ins) (hf : formI i = 0) (hk : i.k < 4294967296) (w : World) :
    Calls Tryd.prog 12 #[insV i] w fun r w' => r = .returned (.string (bytesOf (lineL i))) ∧ Below w.heap.size w w' := by
  have f := form_norm hf hk
  have hll := line_len f
  obtain ⟨n, hn, n1, n2⟩ := op_nat f.op
  obtain ⟨op, a, b, c, d, k⟩ := i
  simp only at hn
  subst hn
  obtain ⟨a', ha⟩ : ∃ m : Nat, a = m := ⟨a.toNat, by have := f.a.1; simp only at this; omega⟩
  obtain ⟨b', hb⟩ : ∃ m : Nat, b = m := ⟨b.toNat, by have := f.b.1; simp only at this; omega⟩
  obtain ⟨c', hc⟩ : ∃ m : Nat, c = m := ⟨c.toNat, by have := f.c.1; simp only at this; omega⟩
  obtain ⟨d', hd⟩ : ∃ m : Nat, d = m := ⟨d.toNat, by have := f.d.1; simp only at this; omega⟩
  subst ha hb hc hd
  have fa := f.a; have fb := f.b; have fc := f.c; have fd := f.d
  simp only at fa fb fc fd hk
  have hw : inameL n ++ optT (hasF 0 n) (regW a') ++ optT (hasF 1 n) (regW b') ++ optT (hasF 3 n) (modeW d') ++ optT (cHas n d') (regW c') ++ optT (hasF 4 n) (Lib.decDigits k) = lineL ⟨n, a', b', c', d', k⟩ := by
    unfold lineL wordsI
    simp only [Int.toNat_natCast]
    rw [show (inameL n :: (optW (hasF 0 n) (regW a') ++ (optW (hasF 1 n) (regW b') ++ (optW (hasF 3 n) (modeW d') ++ (optW (cHas n d') (regW c') ++ optW (hasF 4 n) (Lib.decDigits k)))))) = [inameL n] ++ optW (hasF 0 n) (regW a') ++ optW (hasF 1 n) (regW b') ++ optW (hasF 3 n) (modeW d') ++ optW (cHas n d') (regW c') ++ optW (hasF 4 n) (Lib.decDigits k) by simp]
    rw [unwords_opt _ _ _ (by simp), unwords_opt _ _ _ (by simp), unwords_opt _ _ _ (by simp), unwords_opt _ _ _ (by simp), unwords_opt _ _ _ (by simp)]
    rfl
  have hlen : (inameL n ++ optT (hasF 0 n) (regW a') ++ optT (hasF 1 n) (regW b') ++ optT (hasF 3 n) (modeW d') ++ optT (cHas n d') (regW c') ++ optT (hasF 4 n) (Lib.decDigits k)).length ≤ 1000 := by rw [hw]; omega
  have hr : ∀ m, m < 8 → (bytesOf (regW m)).size ≤ 1000 := fun m hm => by rw [bytesOf_size, regW_small hm]; simp
  obtain ⟨gA, gB, gC, gD, gK⟩ := hasL_is (n : Int)
  rw [← hw]
  refine rdline_walk n a' b' c' d' k (by omega) hk (bytesOf (hasL n)) (bytesOf (inameL n)) (bytesOf (inameL n ++ optT (hasF 0 n) (regW a'))) (bytesOf (inameL n ++ optT (hasF 0 n) (regW a') ++ optT (hasF 1 n) (regW b'))) (bytesOf (inameL n ++ optT (hasF 0 n) (regW a') ++ optT (hasF 1 n) (regW b') ++ optT (hasF 3 n) (modeW d'))) (bytesOf (inameL n ++ optT (hasF 0 n) (regW a') ++ optT (hasF 1 n) (regW b') ++ optT (hasF 3 n) (modeW d') ++ optT (cHas n d') (regW c'))) (bytesOf (inameL n ++ optT (hasF 0 n) (regW a') ++ optT (hasF 1 n) (regW b') ++ optT (hasF 3 n) (modeW d') ++ optT (cHas n d') (regW c') ++ optT (hasF 4 n) (Lib.decDigits k))) (bytesOf (regW a')) (bytesOf (regW b')) (bytesOf (modeW d')) (bytesOf (regW c')) (bytesOf (Lib.decDigits k))
    (hasF 0 n) (hasF 1 n) (hasF 2 n) (hasF 3 n) (hasF 4 n) (cHas n d') w (Lib.hid (fun w' => rihas_any n w')) (Lib.hid (fun w' => riin_has n 65 65 rfl _ gA w')) (Lib.hid (fun w' => riin_has n 66 66 rfl _ gB w')) (Lib.hid (fun w' => riin_has n 67 67 rfl _ gC w')) (Lib.hid (fun w' => riin_has n 68 68 rfl _ gD w')) (Lib.hid (fun w' => riin_has n 75 75 rfl _ gK w'))
    (Lib.hid (fun w' => rdreg_any a' (by omega) w')) (Lib.hid (fun w' => rdreg_any b' (by omega) w')) (Lib.hid (fun w' => (rdmode_any d' w').mono fun r w'' h => ⟨h.1, h.2 ▸ Below.refl _ _⟩)) (Lib.hid (fun w' => rdreg_any c' (by omega) w')) (Lib.hid (fun w' => rdigits_any k (by omega) w')) (Lib.hid ?_) (Lib.hid rfl)
    (Lib.hid (step_text _ _ _)) (Lib.hid ⟨?_, hr a' (by omega)⟩) (Lib.hid (step_text _ _ _)) (Lib.hid ⟨?_, hr b' (by omega)⟩) (Lib.hid (step_text _ _ _)) (Lib.hid ⟨?_, ?_⟩) (Lib.hid (step_text _ _ _)) (Lib.hid ⟨?_, hr c' (by omega)⟩) (Lib.hid (step_text _ _ _)) (Lib.hid ⟨?_, ?_⟩)
  · unfold cHas
    cases hasF 2 (n : Int) <;> cases hasF 3 (n : Int) <;> simp
  · rw [bytesOf_size]; simp only [List.length_append] at hlen ⊢; omega
  · rw [bytesOf_size]; simp only [List.length_append] at hlen ⊢; omega
  · rw [bytesOf_size]; simp only [List.length_append] at hlen ⊢; omega
  · rw [bytesOf_size]; have := (modeW_plain d').2.2; omega
  · rw [bytesOf_size]; simp only [List.length_append] at hlen ⊢; omega
  · rw [bytesOf_size]; simp only [List.length_append] at hlen ⊢; omega
  · rw [bytesOf_size]; have := dec32_len hk; omega

end Go.Proofs.YtlnlfeninjjkmaaDoor
