/-
  The document's own Parse of layer 5 on a line of three words and more, over this seat's translation.
-/
import Derived.Test.YtonmkmbllaahgaaDoorEvRef6
namespace Go.Proofs.YtonmkmbllaahgaaDoor
open Go.RowKit
set_option linter.unusedVariables false
set_option linter.unusedSimpArgs false

/-- And with the flags' row. -/
structure PR (w0 w : World) (g E R : Nat) (ws : List (List UInt8)) (e : Ev) (a b v : Bool) : Prop where
  ps : PS w0 w g E ws e
  m0 : w.cell? ⟨R, 0, none⟩ = some (.bool a)
  m1 : w.cell? ⟨R, 1, none⟩ = some (.bool b)
  m2 : w.cell? ⟨R, 2, none⟩ = some (.bool v)
  hR : R ≠ E
theorem PR.set {w0 w : World} {g E R : Nat} {ws : List (List UInt8)} {e e' : Ev} {a b v : Bool} (h : PR w0 w g E R ws e a b v) (j : Nat) (x : Value) (hv : (evC e).setIfInBounds j x = evC e') : PR w0 (w.setCell ⟨E, j, none⟩ x) g E R ws e' a b v := by
  have hn : ∀ i, (⟨R, i, none⟩ : Addr) ≠ ⟨E, j, none⟩ := fun i e => h.hR (congrArg Addr.block e)
  exact ⟨h.ps.set j x hv, by rw [World.cell?_setCell_other _ _ _ _ (fun e => h.hR (congrArg Addr.block e).symm)]; exact h.m0, by rw [World.cell?_setCell_other _ _ _ _ (fun e => h.hR (congrArg Addr.block e).symm)]; exact h.m1, by rw [World.cell?_setCell_other _ _ _ _ (fun e => h.hR (congrArg Addr.block e).symm)]; exact h.m2, h.hR⟩

/-- How many of the first flags stand. -/
def cc (a b v : Bool) : Nat → Nat
  | 0 => 0
  | 1 => a.toNat
  | 2 => a.toNat + b.toNat
  | _ => a.toNat + b.toNat + v.toNat

theorem cc_le (a b v : Bool) (i : Nat) : cc a b v i ≤ 3 := by
  have := Bool.toNat_le a
  have := Bool.toNat_le b
  have := Bool.toNat_le v
  unfold cc
  split <;> omega
theorem cc_0 (a b v : Bool) : cc a b v 1 = cc a b v 0 + a.toNat := by simp [cc]
theorem cc_1 (a b v : Bool) : cc a b v 2 = cc a b v 1 + b.toNat := rfl
theorem cc_2 (a b v : Bool) : cc a b v 3 = cc a b v 2 + v.toNat := rfl

theorem numW_lt (r : List (List UInt8)) (j : Nat) : (numW r j).getD 0 < 4294967296 := by
  have e32 : (2 : Nat) ^ 32 = 4294967296 := by decide
  unfold numW
  cases h : numOk 32 (r.getD j []) with
  | none => simp
  | some n =>
    have := ((num_iff 32 (by omega) _ n).1 h).2
    simp only [Option.getD_some]
    omega
theorem valW_lt (h : Bool) (r : List (List UInt8)) (j : Nat) : valW h r j < 4294967296 := by
  unfold valW
  split
  · exact numW_lt r j
  · omega
theorem some_of {o : Option Nat} {n : Nat} (h1 : o.getD 0 = n) (h2 : o.isSome = true) : o = some n := by
  cases o with
  | none => cases h2
  | some k => simp at h1; rw [h1]

/-- The event behind the first flags. -/
def stepE (K cy cx va vb vv : Nat) : Nat → Ev
  | 0 => ⟨K, cy, cx, 0, 0, 0⟩
  | 1 => ⟨K, cy, cx, va, 0, 0⟩
  | 2 => ⟨K, cy, cx, va, vb, 0⟩
  | _ => ⟨K, cy, cx, va, vb, vv⟩
def okE (a b v : Bool) (r : List (List UInt8)) : Nat → Prop
  | 0 => True
  | 1 => okW a r 0 = true
  | 2 => okW a r 0 = true ∧ okW b r a.toNat = true
  | _ => okW a r 0 = true ∧ okW b r a.toNat = true ∧ okW v r (a.toNat + b.toNat) = true

set_option maxRecDepth 100000 in
set_option maxHeartbeats 16000000 in
theorem rparse_walk (s : ByteArray) (hs : s.size ≤ 5000) (w : World) (xw y z : List UInt8) (rw_ : List (List UInt8)) (hws : words s.data.toList = xw :: y :: z :: rw_)
    (res : Ev × Int) (hres : parseW (xw :: y :: z :: rw_) = res) (cx cy K : Nat) (ox oy a b v : Bool)
    (HKind : Hid (kindOf z = K)) (HHas : Hid (∀ w', Calls Tryd.prog 13 #[.int .i64 K] w' fun r w'' => r = .returned (.agg #[.bool a, .bool b, .bool v]) ∧ Below w'.heap.size w' w''))
    (HF : Hid (hasA (kindOf z) = a ∧ hasB (kindOf z) = b ∧ hasV (kindOf z) = v))
    (HX : Hid (∀ w', Calls Tryd.prog 32 #[.string (bytesOf xw), .int .u64 18446744073709551615] w' fun r w'' => r = .returned (.tuple #[.int .u64 (cx : Int), .bool ox]) ∧ w' = w''))
    (HY : Hid (∀ w', Calls Tryd.prog 32 #[.string (bytesOf y), .int .u64 18446744073709551615] w' fun r w'' => r = .returned (.tuple #[.int .u64 (cy : Int), .bool oy]) ∧ w' = w''))
    (HNX : Hid ((numOk 64 xw).getD 0 = cx ∧ (numOk 64 xw).isSome = ox ∧ (numOk 64 y).getD 0 = cy ∧ (numOk 64 y).isSome = oy)) 
    (HN : Hid (∀ j, j < rw_.length → ∀ w', Calls Tryd.prog 32 #[.string (bytesOf (rw_.getD j [])), .int .u64 4294967295] w' fun r w'' => r = .returned (.tuple #[.int .u64 (((numW rw_ j).getD 0 : Nat) : Int), .bool (numW rw_ j).isSome]) ∧ w' = w'')) :
    Calls Tryd.prog 21 #[.string s] w fun r w' => r = .returned (.tuple #[evV res.1, .int .i64 res.2]) ∧ Below w.heap.size w w' := by
  obtain ⟨w1, e1⟩ : ∃ w1, w1 = w.alloc (evO ev0) := ⟨_, rfl⟩
  obtain ⟨-, n1, b1⟩ := new_size e1
  have HW := Lib.hid (rwords_any s hs w1)
  have hlen : (words s.data.toList).length ≤ 5001 := by have := words_len s.data.toList; rw [list_len] at this; omega
  rw [hws] at HW hlen
  have B1 := Lib.hid b1
  have N1 := Lib.hid n1
  have HRES := Lib.hid hres
  obtain ⟨n, hn⟩ : ∃ n, rw_.length = n := ⟨_, rfl⟩
  simp only [List.length_cons] at hlen
  rw [hn] at hlen
  unfold evO ev0 at e1
  rw [show ((0 : Nat) : Int) = 0 from rfl] at e1
  clear n1 b1 hws hres
  unfold evV
  go_enter Tryd.func21, Tryd.ntmps21
  go_wp2_with fail
  rw [← e1]
  clear e1
  refine HW.out.mono ?_
  rintro r w2 ⟨vv, rfl, S, h2⟩
  obtain ⟨g, cap, rfl, hg1, hg2⟩ := S.shape (by simp)
  have hcells : ∀ j (h : j < (xw :: y :: z :: rw_).length), w2.cell? ⟨g, j, none⟩ = some (.string (bytesOf (xw :: y :: z :: rw_)[j])) := fun j hj => by
    have := S.at rfl j (by simpa using hj)
    rw [this]
    simp [List.getD, List.getElem?_eq_getElem hj]
  have B2 := B1.out.trans (h2.mono B1.out.size)
  have N2 := (h2.block _ (blk_lt N1.out)).trans N1.out
  obtain ⟨w3, e3⟩ : ∃ w3, w3 = w2.alloc (evO ev0) := ⟨_, rfl⟩
  obtain ⟨-, n3, b3⟩ := new_size e3
  obtain ⟨E, hE⟩ : ∃ E, w2.heap.size = E := ⟨_, rfl⟩
  have P3 := Lib.hid (⟨fun j hj => cell_kept b3 (hcells j hj), by rw [← hE]; exact n3, (b3.block _ (blk_lt N2)).trans N2, B2.trans (b3.mono B2.size), by omega, by have := blk_lt N2; omega⟩ : PS w w3 g E (xw :: y :: z :: rw_) ev0)
  have HE := Lib.hid hE
  simp only [List.length_cons, hn]
  have hlen' : ((n + 1 + 1 + 1 : Nat) : Int) = (n : Int) + 3 := by omega
  unfold evO ev0 at e3
  rw [show ((0 : Nat) : Int) = 0 from rfl] at e3
  clear S h2 HW N1 B1 hcells B2 N2 n3 b3 hE
  go_wp2_with fail
  rw [← e3, HE.out]
  clear e3 HE
  go_loopw [6] (fun v_ wr => ∃ k : Nat, v_ = .int .i64 (k : Int) ∧ 1 ≤ k ∧ k ≤ 25 ∧ Hid (PS w wr g E (xw :: y :: z :: rw_) ⟨(kindTo z k : Nat), 0, 0, 0, 0, 0⟩)) (fun v_ _ => ((25 : Int) - intOf v_).toNat)
  case atStart => exact ⟨1, rfl, by omega, by omega, by rw [kindTo_one]; exact P3.out⟩
  case round =>
    clear P3 hg1 hg2
    obtain ⟨k, rfl, k1, k2, P⟩ := hrel
    by_cases hk : k ≤ 24
    · clear HHas HF HX HY HNX HN HRES HKind
      have hk' : decide ((k : Int) ≤ 24) = true := by simp; omega
      have hk25 : (k : Int) < 25 := by omega
      have hk0 : (0 : Int) ≤ (k : Int) := by omega
      have CZ := Lib.hid (P.out.wd 2 (by simp))
      obtain ⟨zb, hzb⟩ : ∃ zb, bytesOf z = zb := ⟨_, rfl⟩
      rw [show (xw :: y :: z :: rw_)[2] = z from rfl, hzb] at CZ
      obtain ⟨q, hq⟩ : ∃ q, ((nameB k).toList == zb.toList) = q := ⟨_, rfl⟩
      have HQ := Lib.hid hq
      have HQL := Lib.hid (show decide (nameL k = z) = q by
        rw [← hq, beq_bytes, ← hzb, bytesOf_data, show (nameB k).data.toList = nameL k from bytesOf_data _])
      have hn3 : (2 : Int) < ((n + 1 + 1 + 1 : Nat) : Int) := by omega
      clear hq hzb
      go_wp2_with fail

      refine wp_region_rel [.has (fun v u => ∃ g, v = .slice (some ⟨g, 0, none⟩) 25 25 ∧ u.cell? ⟨g, k, none⟩ = some (.string (nameB k))) (fun v u u' hb h => by obtain ⟨g, h1, h2⟩ := h; exact ⟨g, h1, cell_kept hb h2⟩), .is (.int .i64 (k : Int)), .has (fun v u => ∃ g, v = .pointer (some ⟨g, k, none⟩) ∧ u.cell? ⟨g, k, none⟩ = some (.string (nameB k))) (fun v u u' hb h => by obtain ⟨g, h1, h2⟩ := h; exact ⟨g, h1, cell_kept hb h2⟩), .is (.string (nameB k)), .is (.slice (some ⟨g, 0, none⟩) (n + 1 + 1 + 1) cap), .is (.pointer (some ⟨g, 2, none⟩)), .is (.string zb), .is (.bool q)]
        (fun w' => Below wr.heap.size wr w') [(0, 30), (1, 31), (2, 32), (3, 33), (4, 34), (5, 35), (6, 36), (7, 37)] 8 (by kernel_rfl) (by kernel_rfl) (by kernel_rfl) (by kernel_rfl) ?hC ?hs ?hf
      case hC => exact below_drew (Below.refl _ _)
      case hs =>
        refine stepsOk_succ ?s7 (stepsOk_succ ?s6 (stepsOk_succ ?s5 (stepsOk_succ ?s4 (stepsOk_succ ?s3 (stepsOk_succ ?s2 (stepsOk_succ ?s1 (stepsOk_succ ?s0 (stepsOk_zero))))))))
        case s0 =>
          refine stepOk0 rfl (by kernel_rfl) ?_
          rintro w' hC
          intro K hK
          go_simp
          refine (rnames_any w').mono ?_
          rintro e w2 ⟨rfl, h1, hc⟩
          exact hK _ _ rfl ⟨⟨w'.heap.size, rfl, hc k (by omega)⟩, hC.trans (h1.mono hC.size), h1⟩
        case s1 =>
          refine stepOk0 rfl (by kernel_rfl) ?_
          rintro w' hC
          intro K hK
          go_simp
          exact hK _ _ rfl ⟨rfl, hC, Below.refl _ _⟩
        case s2 =>
          refine stepOk2 0 30 1 31 rfl (by kernel_rfl) ?_
          rintro w' hC v1 v2 ⟨g0, rfl, hg0⟩ rfl
          intro K hK
          go_simp
          exact hK _ _ rfl ⟨⟨_, rfl, hg0⟩, hC, Below.refl _ _⟩
        case s3 =>
          refine stepOk1 2 32 rfl (by kernel_rfl) ?_
          rintro w' hC v1 ⟨g0, rfl, hg0⟩
          intro K hK
          go_simp
          exact hK _ _ rfl ⟨rfl, hC, Below.refl _ _⟩
        case s4 =>
          refine stepOk0 rfl (by kernel_rfl) ?_
          rintro w' hC
          intro K hK
          go_simp
          exact hK _ _ rfl ⟨rfl, hC, Below.refl _ _⟩
        case s5 =>
          refine stepOk1 4 34 rfl (by kernel_rfl) ?_
          rintro w' hC v1 rfl
          intro K hK
          have h31 : (2 : Int) < (n : Int) + 3 := by omega
          have h32 : (2 : Int) < (n : Int) + 1 + 1 + 1 := by omega
          have h33 : 2 < n + 1 + 1 + 1 := by omega
          go_simp
          exact hK _ _ rfl ⟨rfl, hC, Below.refl _ _⟩
        case s6 =>
          refine stepOk1 5 35 rfl (by kernel_rfl) ?_
          rintro w' hC v1 rfl
          intro K hK
          have cz := cell_kept hC CZ.out
          go_simp
          exact hK _ _ rfl ⟨rfl, hC, Below.refl _ _⟩
        case s7 =>
          refine stepOk2 3 33 6 36 rfl (by kernel_rfl) ?_
          rintro w' hC v1 v2 rfl rfl
          intro K hK
          have hq := HQ.out
          go_simp
          exact hK _ _ rfl ⟨rfl, hC, Below.refl _ _⟩
      case hf =>
        intro w' hC x hx
        have e1 : x 31 = (.int .i64 (k : Int)) := hx (1, 31) (by simp)
        have e3 : x 33 = (.string (nameB k)) := hx (3, 33) (by simp)
        have e4 : x 34 = (.slice (some ⟨g, 0, none⟩) (n + 1 + 1 + 1) cap) := hx (4, 34) (by simp)
        have e5 : x 35 = (.pointer (some ⟨g, 2, none⟩)) := hx (5, 35) (by simp)
        have e6 : x 36 = (.string zb) := hx (6, 36) (by simp)
        have e7 : x 37 = (.bool q) := hx (7, 37) (by simp)
        simp only [putAll, List.foldl_cons, List.foldl_nil, e1, e3, e4, e5, e6, e7, Act.put, List.setIfInBounds_toArray, List.set_cons_succ, List.set_cons_zero]
        clear hx e1 e3 e4 e5 e6 e7
        have P2 := Lib.hid (P.out.below hC)
        clear P hC CZ HQ
        obtain ⟨w4, e4⟩ : ∃ w4, w4 = w' := ⟨_, rfl⟩
        rw [← e4] at P2 ⊢
        clear e4
        cases q with
        | false =>
          have hne : nameL k ≠ z := of_decide_eq_false HQL.out
          have P4 := Lib.hid (show PS w w4 g E (xw :: y :: z :: rw_) ⟨(kindTo z (k + 1) : Nat), 0, 0, 0, 0, 0⟩ by rw [kindTo_miss k1 hne]; exact P2.out)
          clear hne P2 HQL
          go_wp2_with fail
          go_roundw
          case rel => exact ⟨k + 1, by go_num, by omega, by omega, P4.out⟩
          case measure => simp [intOf]; omega
        | true =>
          have hne : nameL k = z := of_decide_eq_true HQL.out
          have P4 := Lib.hid (show PS w (w4.setCell ⟨E, 0, none⟩ (.int .i64 (k : Int))) g E (xw :: y :: z :: rw_) ⟨(kindTo z (k + 1) : Nat), 0, 0, 0, 0, 0⟩ by rw [kindTo_hit k1 hk hne]; exact P2.out.set 0 _ rfl)
          obtain ⟨c0, -, -, -, -, -⟩ := evcells P2.out.ev
          obtain ⟨f0, -, -, -, -, -⟩ := evfree P2.out.ev
          clear hne P2 HQL
          go_wp2_with fail
          go_roundw
          case rel => exact ⟨k + 1, by go_num, by omega, by omega, P4.out⟩
          case measure => simp [intOf]; omega
    · have hk25 : k = 25 := by omega
      subst hk25
      rw [kindTo_all, HKind.out] at P
      have x0 := P.out.wd 0 (by simp)
      have x1 := P.out.wd 1 (by simp)
      rw [show (xw :: y :: z :: rw_)[0] = xw from rfl] at x0
      rw [show (xw :: y :: z :: rw_)[1] = y from rfl] at x1
      have h00 : (0 : Int) < (n : Int) + 3 := by omega
      have h01 : (1 : Int) < (n : Int) + 3 := by omega
      clear hk k1 k2
      go_wp2_with fail
      refine (HX.out wr).mono ?_
      rintro r w5 ⟨rfl, rfl⟩
      go_wp2_with fail
      refine (HY.out wr).mono ?_
      rintro r w5 ⟨rfl, rfl⟩
      have P5 := P.out.set (e' := ⟨K, 0, cx, 0, 0, 0⟩) 2 (.int .u64 (cx : Int)) rfl
      have P6 := Lib.hid (P5.set (e' := ⟨K, cy, cx, 0, 0, 0⟩) 1 (.int .u64 (cy : Int)) rfl)
      obtain ⟨c0, c1, c2, -, -, -⟩ := evcells P.out.ev
      obtain ⟨f0, f1, f2, -, -, -⟩ := evfree P.out.ev
      simp only at c0 c1 c2
      clear x0 x1 P P5 HX HY
      go_wp2_with fail
      refine (HHas.out _).mono ?_
      rintro r w7 ⟨rfl, h7⟩
      have P7 := P6.out.below h7
      obtain ⟨w8, e8⟩ : ∃ w8, w8 = w7.alloc (.cells #[.bool a, .bool b, .bool v] 33) := ⟨_, rfl⟩
      obtain ⟨-, n8, b8⟩ := new_size e8
      obtain ⟨R, hR⟩ : ∃ R, w7.heap.size = R := ⟨_, rfl⟩
      have P8 := Lib.hid (⟨P7.below b8, by rw [← hR]; simp [World.cell?, n8], by rw [← hR]; simp [World.cell?, n8], by rw [← hR]; simp [World.cell?, n8], by have := blk_lt P7.ev; omega⟩ : PR w w8 g E R (xw :: y :: z :: rw_) ⟨K, cy, cx, 0, 0, 0⟩ a b v)
      have HR := Lib.hid hR
      clear P6 P7 h7 n8 b8 hR c0 c1 c2 f0 f1 f2 HHas
      go_wp2_with fail
      rw [← e8, HR.out]
      clear e8 HR
      go_loopw [12, 13] (fun c_ i_ wr => wr = w8 ∧ ∃ i : Nat, i ≤ 3 ∧ i_ = .int .i64 (i : Int) ∧ c_ = .int .i64 (cc a b v i : Nat)) (fun _ i_ _ => ((3 : Int) - intOf i_).toNat)
      case atStart => exact ⟨rfl, 0, by omega, rfl, rfl⟩
      case round =>
        obtain ⟨rfl, i, hi, rfl, rfl⟩ := hrel
        have hi4 : i = 0 ∨ i = 1 ∨ i = 2 ∨ i = 3 := by omega
        rcases hi4 with rfl | rfl | rfl | rfl
        · have m := P8.out.m0
          have hle := cc_le a b v 0
          have HS := Lib.hid (cc_0 a b v)
          generalize cc a b v 0 = c at *
          clear HRES HF HNX HN P8 HKind h00 h01
          cases a
          · simp only [Bool.toNat_false, Bool.toNat_true, Nat.add_zero] at HS
            go_wp2_with fail
            go_roundw
            case rel => exact ⟨trivial, 1, by omega, by go_num, by rw [HS.out]⟩
            case measure => simp [intOf]
          · simp only [Bool.toNat_false, Bool.toNat_true, Nat.add_zero] at HS
            go_wp2_with fail
            go_roundw
            case rel => exact ⟨trivial, 1, by omega, by go_num, by rw [HS.out]; go_num⟩
            case measure => simp [intOf]
        · have m := P8.out.m1
          have hle := cc_le a b v 1
          have HS := Lib.hid (cc_1 a b v)
          generalize cc a b v 1 = c at *
          clear HRES HF HNX HN P8 HKind h00 h01
          cases b
          · simp only [Bool.toNat_false, Bool.toNat_true, Nat.add_zero] at HS
            go_wp2_with fail
            go_roundw
            case rel => exact ⟨trivial, 2, by omega, by go_num, by rw [HS.out]⟩
            case measure => simp [intOf]
          · simp only [Bool.toNat_false, Bool.toNat_true, Nat.add_zero] at HS
            go_wp2_with fail
            go_roundw
            case rel => exact ⟨trivial, 2, by omega, by go_num, by rw [HS.out]; go_num⟩
            case measure => simp [intOf]
        · have m := P8.out.m2
          have hle := cc_le a b v 2
          have HS := Lib.hid (cc_2 a b v)
          generalize cc a b v 2 = c at *
          clear HRES HF HNX HN P8 HKind h00 h01
          cases v
          · simp only [Bool.toNat_false, Bool.toNat_true, Nat.add_zero] at HS
            go_wp2_with fail
            go_roundw
            case rel => exact ⟨trivial, 3, by omega, by go_num, by rw [HS.out]⟩
            case measure => simp [intOf]
          · simp only [Bool.toNat_false, Bool.toNat_true, Nat.add_zero] at HS
            go_wp2_with fail
            go_roundw
            case rel => exact ⟨trivial, 3, by omega, by go_num, by rw [HS.out]; go_num⟩
            case measure => simp [intOf]
        · clear hi h00 h01
          have hcc : cc a b v 3 = a.toNat + b.toNat + v.toNat := rfl
          generalize cc a b v 3 = c3 at *
          have la := Bool.toNat_le a
          have lb := Bool.toNat_le b
          have lv := Bool.toNat_le v
          have hc3 : c3 ≤ 3 := by omega
          have HB := Lib.hid (show (ox = false ∨ oy = false ∨ K = 0 ∨ n ≠ c3) → res = (ev0, 3) from fun h => by
            rw [← HRES.out]
            obtain ⟨-, hx2, -, hy2⟩ := HNX.out
            obtain ⟨fa, fb, fv⟩ := HF.out
            refine parse_bad (form_bad ?_)
            rcases h with h | h | h | h
            · exact .inl (hx2.trans h)
            · exact .inr (.inl (hy2.trans h))
            · exact .inr (.inr (.inl (HKind.out.trans h)))
            · exact .inr (.inr (.inr (by rw [fa, fb, fv, hn, ← hcc]; exact h))))
          obtain ⟨d0, -, -, -, -, -⟩ := evcells P8.out.ps.ev
          simp only at d0
          obtain ⟨r0, r1, r2, r3, r4, r5⟩ := evcells P8.out.ps.rs
          obtain ⟨z0, z1, z2, z3, z4, z5⟩ := evfree P8.out.ps.rs
          simp only [ev0] at r0 r1 r2 r3 r4 r5
          have HC := Lib.hid hcc
          clear la lb lv hcc
          cases ox with
          | false =>
            have hbad := Lib.hid (HB.out (.inl rfl))
            clear HB HC HRES HF HNX HN HKind
            go_wp2_with fail
            refine bodyPost_ret (v := .tuple #[.agg #[.int .i64 0, .int .u64 0, .int .u64 0, .int .u32 0, .int .u32 0, .int .u32 0], .int .i64 3]) (by rw [results_cell_tmp rfl]; go_simp) rfl ⟨by rw [hbad.out]; rfl, ?_⟩
            exact below_grown P8.out.ps.bel (Nat.le_of_lt (blk_lt P8.out.ps.rs)) (Nat.le_refl _) (ev_stored (e := ⟨0, 0, 0, 0, 0, 0⟩) P8.out.ps.rs).2
          | true =>
          cases oy with
          | false =>
            have hbad := Lib.hid (HB.out (.inr (.inl rfl)))
            clear HB HC HRES HF HNX HN HKind
            go_wp2_with fail
            refine bodyPost_ret (v := .tuple #[.agg #[.int .i64 0, .int .u64 0, .int .u64 0, .int .u32 0, .int .u32 0, .int .u32 0], .int .i64 3]) (by rw [results_cell_tmp rfl]; go_simp) rfl ⟨by rw [hbad.out]; rfl, ?_⟩
            exact below_grown P8.out.ps.bel (Nat.le_of_lt (blk_lt P8.out.ps.rs)) (Nat.le_refl _) (ev_stored (e := ⟨0, 0, 0, 0, 0, 0⟩) P8.out.ps.rs).2
          | true =>
          by_cases hK : K = 0
          · have hbad := Lib.hid (HB.out (.inr (.inr (.inl hK))))
            have hK' : ((K : Int) == 0) = true := by simp; omega
            clear HB HC HRES HF HNX HN HKind hK
            go_wp2_with fail
            refine bodyPost_ret (v := .tuple #[.agg #[.int .i64 0, .int .u64 0, .int .u64 0, .int .u32 0, .int .u32 0, .int .u32 0], .int .i64 3]) (by rw [results_cell_tmp rfl]; go_simp) rfl ⟨by rw [hbad.out]; rfl, ?_⟩
            exact below_grown P8.out.ps.bel (Nat.le_of_lt (blk_lt P8.out.ps.rs)) (Nat.le_refl _) (ev_stored (e := ⟨0, 0, 0, 0, 0, 0⟩) P8.out.ps.rs).2
          have hK' : ((K : Int) == 0) = false := by simp; omega
          by_cases hnc : n = c3
          rotate_left
          · have hbad := Lib.hid (HB.out (.inr (.inr (.inr hnc))))
            have hne : ((n : Int) + 3 != 3 + (c3 : Int)) = true := by simp; omega
            clear HB HC HRES HF HNX HN HKind hK
            go_wp2_with fail
            refine bodyPost_ret (v := .tuple #[.agg #[.int .i64 0, .int .u64 0, .int .u64 0, .int .u32 0, .int .u32 0, .int .u32 0], .int .i64 3]) (by rw [results_cell_tmp rfl]; go_simp) rfl ⟨by rw [hbad.out]; rfl, ?_⟩
            exact below_grown P8.out.ps.bel (Nat.le_of_lt (blk_lt P8.out.ps.rs)) (Nat.le_refl _) (ev_stored (e := ⟨0, 0, 0, 0, 0, 0⟩) P8.out.ps.rs).2
          · have hne : ((n : Int) + 3 != 3 + (c3 : Int)) = false := by simp; omega
            have hva := valW_lt a rw_ 0
            have hvb := valW_lt b rw_ a.toNat
            have hvv := valW_lt v rw_ (a.toNat + b.toNat)
            obtain ⟨va, ea⟩ : ∃ va, valW a rw_ 0 = va := ⟨_, rfl⟩
            obtain ⟨vb, eb⟩ : ∃ vb, valW b rw_ a.toNat = vb := ⟨_, rfl⟩
            obtain ⟨vv, ev⟩ : ∃ vv, valW v rw_ (a.toNat + b.toNat) = vv := ⟨_, rfl⟩
            have HP := Lib.hid (show formL (xw :: y :: z :: rw_) = if (okW a rw_ 0 && okW b rw_ a.toNat && okW v rw_ (a.toNat + b.toNat)) = true then some ⟨K, cy, cx, va, vb, vv⟩ else none by
              obtain ⟨hx1, hx2, hy1, hy2⟩ := HNX.out
              obtain ⟨fa, fb, fv⟩ := HF.out
              have q1 : numOk 64 xw = some cx := some_of hx1 hx2
              have q2 : numOk 64 y = some cy := some_of hy1 hy2
              have := form_flags q1 q2 (by rw [HKind.out]; exact hK) fa fb fv (by rw [hn, hnc]; exact HC.out)
              rw [HKind.out, ea, eb, ev] at this
              exact this)
            have HBAD := Lib.hid (show (okW a rw_ 0 && okW b rw_ a.toNat && okW v rw_ (a.toNat + b.toNat)) = false → res = (ev0, 3) from fun h => by
              rw [← HRES.out]
              refine parse_bad ?_
              rw [HP.out, h]; rfl)
            have HGOOD := Lib.hid (show (okW a rw_ 0 && okW b rw_ a.toNat && okW v rw_ (a.toNat + b.toNat)) = true → res = if checkN ⟨K, cy, cx, va, vb, vv⟩ = 0 then (⟨K, cy, cx, va, vb, vv⟩, 0) else (ev0, checkN ⟨K, cy, cx, va, vb, vv⟩) from fun h => by
              rw [← HRES.out]
              unfold parseW
              rw [HP.out, h]; rfl)
            rw [ea] at hva
            rw [eb] at hvb
            rw [ev] at hvv
            have EA := Lib.hid ea
            have EB := Lib.hid eb
            have EV := Lib.hid ev
            have HNC := Lib.hid hnc
            clear HP HRES HNX HF HKind HB ea eb ev hnc
            go_wp2_with fail
            clear hne hK' hK d0 r0 r1 r2 r3 r4 r5 z0 z1 z2 z3 z4 z5
            go_loopw [14, 15, 16, 17] (fun t_ i_ x_ o_ wr => ∃ i t : Nat, i ≤ 3 ∧ i_ = .int .i64 (i : Int) ∧ t_ = .int .i64 (t : Int) ∧ t ≤ 6 ∧ Hid (t = 3 + cc a b v i) ∧ Hid (PR w wr g E R (xw :: y :: z :: rw_) (stepE K cy cx va vb vv i) a b v) ∧ Hid (okE a b v rw_ i)) (fun _ i_ _ _ _ => ((3 : Int) - intOf i_).toNat)
            case atStart => exact ⟨0, 3, by omega, rfl, rfl, by omega, rfl, P8.out, trivial⟩
            case round =>
              clear P8
              obtain ⟨i, t, hi, rfl, rfl, ht6, HT, P, OK⟩ := hrel
              have hi4 : i = 0 ∨ i = 1 ∨ i = 2 ∨ i = 3 := by omega
              rcases hi4 with rfl | rfl | rfl | rfl
              · by_cases hfl : a = true
                · have h1 : a.toNat = 1 := by rw [hfl]; rfl
                  have hJ : 0 < rw_.length := by have := HC.out; have := HNC.out; omega
                  have hcj : cc a b v 0 = 0 := rfl
                  have htj : t = 0 + 3 := by have := HT.out; omega
                  have xc : wr.cell? ⟨g, t, none⟩ = some (.string (bytesOf (rw_.getD 0 []))) := by
                    have := P.out.ps.wd (0 + 3) (by simp; omega)
                    rw [htj, this]
                    simp [List.getD, List.getElem?_eq_getElem hJ]
                  have htn : (t : Int) < (n : Int) + 3 := by omega
                  have ht0 : (0 : Int) ≤ (t : Int) := Int.natCast_nonneg _
                  have HNJ := Lib.hid (HN.out 0 hJ wr)
                  have hval : (numW rw_ 0).getD 0 = va := by rw [← EA.out]; unfold valW; rw [if_pos hfl]
                  rw [hval] at HNJ
                  obtain ⟨ok, hok⟩ : ∃ ok, (numW rw_ 0).isSome = ok := ⟨_, rfl⟩
                  rw [hok] at HNJ
                  have hk2 : okW a rw_ 0 = ok := by unfold okW; rw [hfl, hok]; rfl
                  have HTN := Lib.hid (show t + 1 = 3 + cc a b v 1 by have := HT.out; have := cc_0 a b v; omega)
                  obtain ⟨sb, hsb⟩ : ∃ sb, bytesOf (rw_.getD 0 []) = sb := ⟨_, rfl⟩
                  rw [hsb] at xc HNJ
                  have kw : IntKind.u32.wrap (va : Int) = (va : Int) := by rw [IntKind.wrap_u32]; omega
                  have m := P.out.m0
                  rw [hfl] at m
                  obtain ⟨d0, d1, d2, d3, d4, d5⟩ := evcells P.out.ps.ev
                  obtain ⟨g0, g1, g2, g3, g4, g5⟩ := evfree P.out.ps.ev
                  obtain ⟨r0, r1, r2, r3, r4, r5⟩ := evcells P.out.ps.rs
                  obtain ⟨z0, z1, z2, z3, z4, z5⟩ := evfree P.out.ps.rs
                  simp only [ev0] at r0 r1 r2 r3 r4 r5
                  simp only [stepE] at d0 d1 d2 d3 d4 d5
                  cases ok with
                  | false =>
                    have hbad := Lib.hid (HBAD.out (by rw [hk2]; rfl))
                    clear HBAD HGOOD HN HC OK EA EB EV HT HTN HNC hk2 h1 hJ hcj htj hval hok hsb hfl d0 d1 d2 d3 d4 d5 g0 g1 g2 g3 g4 g5
                    go_wp2_with fail
                    refine HNJ.out.mono ?_
                    rintro r w9 ⟨rfl, rfl⟩
                    go_wp2_with fail
                    refine bodyPost_ret (v := .tuple #[.agg #[.int .i64 0, .int .u64 0, .int .u64 0, .int .u32 0, .int .u32 0, .int .u32 0], .int .i64 3]) (by rw [results_cell_tmp rfl]; go_simp) rfl ⟨by rw [hbad.out]; rfl, ?_⟩
                    exact below_grown P.out.ps.bel (Nat.le_of_lt (blk_lt P.out.ps.rs)) (Nat.le_refl _) (ev_stored (e := ⟨0, 0, 0, 0, 0, 0⟩) P.out.ps.rs).2
                  | true =>
                    have P9 := Lib.hid (show PR w (wr.setCell ⟨E, 3, none⟩ (.int .u32 (va : Int))) g E R (xw :: y :: z :: rw_) (stepE K cy cx va vb vv 1) a b v from (P.out.set 3 (.int .u32 (va : Int)) rfl))
                    have OK9 := Lib.hid (show okE a b v rw_ 1 from hk2)
                    have ht7 : t + 1 ≤ 6 := by have := HTN.out; have := cc_le a b v 1; omega
                    clear HBAD HGOOD HN HC OK P EA EB EV HT HNC hk2 h1 hJ hcj htj hval hok hsb hfl r0 r1 r2 r3 r4 r5 z0 z1 z2 z3 z4 z5
                    go_wp2_with fail
                    refine HNJ.out.mono ?_
                    rintro r w9 ⟨rfl, rfl⟩
                    go_wp2_with fail
                    go_roundw
                    case rel =>
                      repeat apply Exists.intro
                      refine ⟨?_, rfl⟩
                      exact ⟨1, t + 1, by omega, by go_num, by go_num, ht7, HTN.out, P9.out, OK9.out⟩
                    case measure => simp [intOf]
                · have hfl2 : a = false := by cases a <;> simp_all
                  have hk2 : okW a rw_ 0 = true := by unfold okW; rw [hfl2]; rfl
                  have hval : va = 0 := by rw [← EA.out]; unfold valW; rw [if_neg hfl]
                  have P9 := Lib.hid (show PR w wr g E R (xw :: y :: z :: rw_) (stepE K cy cx va vb vv 1) a b v by have := P.out; simp only [stepE] at this ⊢; rw [hval]; exact this)
                  have OK9 := Lib.hid (show okE a b v rw_ 1 from hk2)
                  have HTN := Lib.hid (show t = 3 + cc a b v 1 by have h1 := HT.out; have h2 := cc_0 a b v; have h3 : a.toNat = 0 := (by rw [hfl2]; rfl); omega)
                  have m := P.out.m0
                  rw [hfl2] at m
                  clear HBAD HGOOD HN HC OK P EA EB EV HT HNC hk2 hval hfl hfl2
                  go_wp2_with fail
                  go_roundw
                  case rel => exact ⟨1, t, by omega, by go_num, rfl, ht6, HTN.out, P9.out, OK9.out⟩
                  case measure => simp [intOf]
              · by_cases hfl : b = true
                · have h1 : b.toNat = 1 := by rw [hfl]; rfl
                  have hJ : a.toNat < rw_.length := by have := HC.out; have := HNC.out; omega
                  have hcj : cc a b v 1 = a.toNat := rfl
                  have htj : t = a.toNat + 3 := by have := HT.out; omega
                  have xc : wr.cell? ⟨g, t, none⟩ = some (.string (bytesOf (rw_.getD a.toNat []))) := by
                    have := P.out.ps.wd (a.toNat + 3) (by simp; omega)
                    rw [htj, this]
                    simp [List.getD, List.getElem?_eq_getElem hJ]
                  have htn : (t : Int) < (n : Int) + 3 := by omega
                  have ht0 : (0 : Int) ≤ (t : Int) := Int.natCast_nonneg _
                  have HNJ := Lib.hid (HN.out a.toNat hJ wr)
                  have hval : (numW rw_ a.toNat).getD 0 = vb := by rw [← EB.out]; unfold valW; rw [if_pos hfl]
                  rw [hval] at HNJ
                  obtain ⟨ok, hok⟩ : ∃ ok, (numW rw_ a.toNat).isSome = ok := ⟨_, rfl⟩
                  rw [hok] at HNJ
                  have hk2 : okW b rw_ a.toNat = ok := by unfold okW; rw [hfl, hok]; rfl
                  have HTN := Lib.hid (show t + 1 = 3 + cc a b v 2 by have := HT.out; have := cc_1 a b v; omega)
                  obtain ⟨sb, hsb⟩ : ∃ sb, bytesOf (rw_.getD a.toNat []) = sb := ⟨_, rfl⟩
                  rw [hsb] at xc HNJ
                  have kw : IntKind.u32.wrap (vb : Int) = (vb : Int) := by rw [IntKind.wrap_u32]; omega
                  have m := P.out.m1
                  rw [hfl] at m
                  obtain ⟨d0, d1, d2, d3, d4, d5⟩ := evcells P.out.ps.ev
                  obtain ⟨g0, g1, g2, g3, g4, g5⟩ := evfree P.out.ps.ev
                  obtain ⟨r0, r1, r2, r3, r4, r5⟩ := evcells P.out.ps.rs
                  obtain ⟨z0, z1, z2, z3, z4, z5⟩ := evfree P.out.ps.rs
                  simp only [ev0] at r0 r1 r2 r3 r4 r5
                  simp only [stepE] at d0 d1 d2 d3 d4 d5
                  cases ok with
                  | false =>
                    have hbad := Lib.hid (HBAD.out (by rw [hk2]; simp))
                    clear HBAD HGOOD HN HC OK EA EB EV HT HTN HNC hk2 h1 hJ hcj htj hval hok hsb hfl d0 d1 d2 d3 d4 d5 g0 g1 g2 g3 g4 g5
                    go_wp2_with fail
                    refine HNJ.out.mono ?_
                    rintro r w9 ⟨rfl, rfl⟩
                    go_wp2_with fail
                    refine bodyPost_ret (v := .tuple #[.agg #[.int .i64 0, .int .u64 0, .int .u64 0, .int .u32 0, .int .u32 0, .int .u32 0], .int .i64 3]) (by rw [results_cell_tmp rfl]; go_simp) rfl ⟨by rw [hbad.out]; rfl, ?_⟩
                    exact below_grown P.out.ps.bel (Nat.le_of_lt (blk_lt P.out.ps.rs)) (Nat.le_refl _) (ev_stored (e := ⟨0, 0, 0, 0, 0, 0⟩) P.out.ps.rs).2
                  | true =>
                    have P9 := Lib.hid (show PR w (wr.setCell ⟨E, 4, none⟩ (.int .u32 (vb : Int))) g E R (xw :: y :: z :: rw_) (stepE K cy cx va vb vv 2) a b v from (P.out.set 4 (.int .u32 (vb : Int)) rfl))
                    have OK9 := Lib.hid (show okE a b v rw_ 2 from ⟨OK.out, hk2⟩)
                    have ht7 : t + 1 ≤ 6 := by have := HTN.out; have := cc_le a b v 2; omega
                    clear HBAD HGOOD HN HC OK P EA EB EV HT HNC hk2 h1 hJ hcj htj hval hok hsb hfl r0 r1 r2 r3 r4 r5 z0 z1 z2 z3 z4 z5
                    go_wp2_with fail
                    refine HNJ.out.mono ?_
                    rintro r w9 ⟨rfl, rfl⟩
                    go_wp2_with fail
                    go_roundw
                    case rel =>
                      repeat apply Exists.intro
                      refine ⟨?_, rfl⟩
                      exact ⟨2, t + 1, by omega, by go_num, by go_num, ht7, HTN.out, P9.out, OK9.out⟩
                    case measure => simp [intOf]
                · have hfl2 : b = false := by cases b <;> simp_all
                  have hk2 : okW b rw_ a.toNat = true := by unfold okW; rw [hfl2]; rfl
                  have hval : vb = 0 := by rw [← EB.out]; unfold valW; rw [if_neg hfl]
                  have P9 := Lib.hid (show PR w wr g E R (xw :: y :: z :: rw_) (stepE K cy cx va vb vv 2) a b v by have := P.out; simp only [stepE] at this ⊢; rw [hval]; exact this)
                  have OK9 := Lib.hid (show okE a b v rw_ 2 from ⟨OK.out, hk2⟩)
                  have HTN := Lib.hid (show t = 3 + cc a b v 2 by have h1 := HT.out; have h2 := cc_1 a b v; have h3 : b.toNat = 0 := (by rw [hfl2]; rfl); omega)
                  have m := P.out.m1
                  rw [hfl2] at m
                  clear HBAD HGOOD HN HC OK P EA EB EV HT HNC hk2 hval hfl hfl2
                  go_wp2_with fail
                  go_roundw
                  case rel => exact ⟨2, t, by omega, by go_num, rfl, ht6, HTN.out, P9.out, OK9.out⟩
                  case measure => simp [intOf]
              · by_cases hfl : v = true
                · have h1 : v.toNat = 1 := by rw [hfl]; rfl
                  have hJ : (a.toNat + b.toNat) < rw_.length := by have := HC.out; have := HNC.out; omega
                  have hcj : cc a b v 2 = (a.toNat + b.toNat) := rfl
                  have htj : t = (a.toNat + b.toNat) + 3 := by have := HT.out; omega
                  have xc : wr.cell? ⟨g, t, none⟩ = some (.string (bytesOf (rw_.getD (a.toNat + b.toNat) []))) := by
                    have := P.out.ps.wd ((a.toNat + b.toNat) + 3) (by simp; omega)
                    rw [htj, this]
                    simp [List.getD, List.getElem?_eq_getElem hJ]
                  have htn : (t : Int) < (n : Int) + 3 := by omega
                  have ht0 : (0 : Int) ≤ (t : Int) := Int.natCast_nonneg _
                  have HNJ := Lib.hid (HN.out (a.toNat + b.toNat) hJ wr)
                  have hval : (numW rw_ (a.toNat + b.toNat)).getD 0 = vv := by rw [← EV.out]; unfold valW; rw [if_pos hfl]
                  rw [hval] at HNJ
                  obtain ⟨ok, hok⟩ : ∃ ok, (numW rw_ (a.toNat + b.toNat)).isSome = ok := ⟨_, rfl⟩
                  rw [hok] at HNJ
                  have hk2 : okW v rw_ (a.toNat + b.toNat) = ok := by unfold okW; rw [hfl, hok]; rfl
                  have HTN := Lib.hid (show t + 1 = 3 + cc a b v 3 by have := HT.out; have := cc_2 a b v; omega)
                  obtain ⟨sb, hsb⟩ : ∃ sb, bytesOf (rw_.getD (a.toNat + b.toNat) []) = sb := ⟨_, rfl⟩
                  rw [hsb] at xc HNJ
                  have kw : IntKind.u32.wrap (vv : Int) = (vv : Int) := by rw [IntKind.wrap_u32]; omega
                  have m := P.out.m2
                  rw [hfl] at m
                  obtain ⟨d0, d1, d2, d3, d4, d5⟩ := evcells P.out.ps.ev
                  obtain ⟨g0, g1, g2, g3, g4, g5⟩ := evfree P.out.ps.ev
                  obtain ⟨r0, r1, r2, r3, r4, r5⟩ := evcells P.out.ps.rs
                  obtain ⟨z0, z1, z2, z3, z4, z5⟩ := evfree P.out.ps.rs
                  simp only [ev0] at r0 r1 r2 r3 r4 r5
                  simp only [stepE] at d0 d1 d2 d3 d4 d5
                  cases ok with
                  | false =>
                    have hbad := Lib.hid (HBAD.out (by rw [hk2]; simp))
                    clear HBAD HGOOD HN HC OK EA EB EV HT HTN HNC hk2 h1 hJ hcj htj hval hok hsb hfl d0 d1 d2 d3 d4 d5 g0 g1 g2 g3 g4 g5
                    go_wp2_with fail
                    refine HNJ.out.mono ?_
                    rintro r w9 ⟨rfl, rfl⟩
                    go_wp2_with fail
                    refine bodyPost_ret (v := .tuple #[.agg #[.int .i64 0, .int .u64 0, .int .u64 0, .int .u32 0, .int .u32 0, .int .u32 0], .int .i64 3]) (by rw [results_cell_tmp rfl]; go_simp) rfl ⟨by rw [hbad.out]; rfl, ?_⟩
                    exact below_grown P.out.ps.bel (Nat.le_of_lt (blk_lt P.out.ps.rs)) (Nat.le_refl _) (ev_stored (e := ⟨0, 0, 0, 0, 0, 0⟩) P.out.ps.rs).2
                  | true =>
                    have P9 := Lib.hid (show PR w (wr.setCell ⟨E, 5, none⟩ (.int .u32 (vv : Int))) g E R (xw :: y :: z :: rw_) (stepE K cy cx va vb vv 3) a b v from (P.out.set 5 (.int .u32 (vv : Int)) rfl))
                    have OK9 := Lib.hid (show okE a b v rw_ 3 from ⟨OK.out.1, OK.out.2, hk2⟩)
                    have ht7 : t + 1 ≤ 6 := by have := HTN.out; have := cc_le a b v 3; omega
                    clear HBAD HGOOD HN HC OK P EA EB EV HT HNC hk2 h1 hJ hcj htj hval hok hsb hfl r0 r1 r2 r3 r4 r5 z0 z1 z2 z3 z4 z5
                    go_wp2_with fail
                    refine HNJ.out.mono ?_
                    rintro r w9 ⟨rfl, rfl⟩
                    go_wp2_with fail
                    go_roundw
                    case rel =>
                      repeat apply Exists.intro
                      refine ⟨?_, rfl⟩
                      exact ⟨3, t + 1, by omega, by go_num, by go_num, ht7, HTN.out, P9.out, OK9.out⟩
                    case measure => simp [intOf]
                · have hfl2 : v = false := by cases v <;> simp_all
                  have hk2 : okW v rw_ (a.toNat + b.toNat) = true := by unfold okW; rw [hfl2]; rfl
                  have hval : vv = 0 := by rw [← EV.out]; unfold valW; rw [if_neg hfl]
                  have P9 := Lib.hid (show PR w wr g E R (xw :: y :: z :: rw_) (stepE K cy cx va vb vv 3) a b v by have := P.out; simp only [stepE] at this ⊢; rw [hval]; exact this)
                  have OK9 := Lib.hid (show okE a b v rw_ 3 from ⟨OK.out.1, OK.out.2, hk2⟩)
                  have HTN := Lib.hid (show t = 3 + cc a b v 3 by have h1 := HT.out; have h2 := cc_2 a b v; have h3 : v.toNat = 0 := (by rw [hfl2]; rfl); omega)
                  have m := P.out.m2
                  rw [hfl2] at m
                  clear HBAD HGOOD HN HC OK P EA EB EV HT HNC hk2 hval hfl hfl2
                  go_wp2_with fail
                  go_roundw
                  case rel => exact ⟨3, t, by omega, by go_num, rfl, ht6, HTN.out, P9.out, OK9.out⟩
                  case measure => simp [intOf]
              · have hall : (okW a rw_ 0 && okW b rw_ a.toNat && okW v rw_ (a.toNat + b.toNat)) = true := by
                  obtain ⟨o1, o2, o3⟩ := OK.out
                  rw [o1, o2, o3]; rfl
                have HR := Lib.hid (HGOOD.out hall)
                have P3 := Lib.hid (show PR w wr g E R (xw :: y :: z :: rw_) ⟨K, cy, cx, va, vb, vv⟩ a b v from P.out)
                have HK := Lib.hid (rcheck_any ⟨K, cy, cx, va, vb, vv⟩ wr)
                obtain ⟨c, hc⟩ : ∃ c, checkN ⟨K, cy, cx, va, vb, vv⟩ = c := ⟨_, rfl⟩
                rw [hc] at HK HR
                unfold evV at HK
                simp only at HK
                obtain ⟨d0, d1, d2, d3, d4, d5⟩ := evcells P3.out.ps.ev
                simp only at d0 d1 d2 d3 d4 d5
                clear P OK HN HT HGOOD HBAD HC EA EB EV HNC hall hc hi
                go_wp2_with fail
                refine HK.out.mono ?_
                rintro r w10 ⟨rfl, h10⟩
                have P10 := Lib.hid (P3.out.ps.below h10)
                clear d0 d1 d2 d3 d4 d5 P3 h10 HK
                obtain ⟨d0, d1, d2, d3, d4, d5⟩ := evcells P10.out.ev
                simp only at d0 d1 d2 d3 d4 d5
                obtain ⟨r0, r1, r2, r3, r4, r5⟩ := evcells P10.out.rs
                obtain ⟨z0, z1, z2, z3, z4, z5⟩ := evfree P10.out.rs
                simp only [ev0] at r0 r1 r2 r3 r4 r5
                by_cases hc0 : c = 0
                · subst hc0
                  rw [if_pos rfl] at HR
                  go_wp2_with fail
                  refine bodyPost_ret (v := .tuple #[.agg #[.int .i64 K, .int .u64 cy, .int .u64 cx, .int .u32 va, .int .u32 vb, .int .u32 vv], .int .i64 0]) (by rw [results_cell_tmp rfl]; go_simp) rfl ⟨by rw [HR.out], ?_⟩
                  exact below_grown P10.out.bel (Nat.le_of_lt (blk_lt P10.out.rs)) (Nat.le_refl _) (ev_stored (e := ⟨K, cy, cx, va, vb, vv⟩) P10.out.rs).2
                · rw [if_neg hc0] at HR
                  have hq : (c != 0) = true := by simp [hc0]
                  clear hc0
                  go_wp2_with fail
                  refine bodyPost_ret (v := .tuple #[.agg #[.int .i64 0, .int .u64 0, .int .u64 0, .int .u32 0, .int .u32 0, .int .u32 0], .int .i64 c]) (by rw [results_cell_tmp rfl]; go_simp) rfl ⟨by rw [HR.out]; rfl, ?_⟩
                  exact below_grown P10.out.bel (Nat.le_of_lt (blk_lt P10.out.rs)) (Nat.le_refl _) (ev_stored (e := ⟨0, 0, 0, 0, 0, 0⟩) P10.out.rs).2

end Go.Proofs.YtonmkmbllaahgaaDoor
