/-
  The document's own answers of layer 11 (taffrailref11): Parse, over this seat's translation. No condition but on sizes.
-/
import Derived.Test.YtlnlfeninjjkmaaDoorLsD
namespace Go.Proofs.YtlnlfeninjjkmaaDoor
open Go.RowKit
set_option linter.unusedVariables false
set_option linter.unusedSimpArgs false

/-- While the document's Parse runs: the words' row, the instruction's block, the result's. -/
structure PI (w0 w : World) (g E : Nat) (ws : List (List UInt8)) (i : Ins) : Prop where
  wd : ∀ j (h : j < ws.length), w.cell? ⟨g, j, none⟩ = some (.string (bytesOf ws[j]))
  ins : w.heap[E]? = some (insO i)
  rs : w.heap[w0.heap.size]? = some (insO ins0)
  bel : Below w0.heap.size w0 w
  hg : g ≠ E
  hE : w0.heap.size < E
theorem PI.below {w0 w w' : World} {g E : Nat} {ws : List (List UInt8)} {i : Ins} (h : PI w0 w g E ws i) (hb : Below w.heap.size w w') : PI w0 w' g E ws i :=
  ⟨fun j hj => cell_kept hb (h.wd j hj), blk_on hb h.ins, blk_on hb h.rs, below_on h.bel hb, h.hg, h.hE⟩
theorem PI.set {w0 w : World} {g E : Nat} {ws : List (List UInt8)} {i i' : Ins} (h : PI w0 w g E ws i) (j : Nat) (v : Value) (hv : (insC i).setIfInBounds j v = insC i') : PI w0 (w.setCell ⟨E, j, none⟩ v) g E ws i' := by
  have hE := h.hE
  have hsame := heap_setCell_same w E j (insC i) 24 v h.ins
  rw [hv] at hsame
  refine ⟨fun k hk => ?_, hsame, (heap_setCell_other w _ _ v (by simp; omega)).trans h.rs, h.bel.setCell (by simp; omega) v, h.hg, hE⟩
  rw [World.cell?_setCell_other _ _ _ _ (fun e => h.hg (congrArg Addr.block e).symm)]
  exact h.wd k hk

/-- The instruction that is found among the first ones. -/
def opTo (x : List UInt8) (k : Nat) : Nat := if opOf x < k then opOf x else 0
theorem opTo_one (x : List UInt8) : opTo x 1 = 0 := by unfold opTo; split <;> omega
theorem opTo_end (x : List UInt8) : opTo x 39 = opOf x := by unfold opTo; rw [if_pos (by have := opOf_le x; omega)]
theorem opTo_hit {x : List UInt8} {k : Nat} (h1 : 1 ≤ k) (h2 : k ≤ 38) (h : inameL k = x) : opTo x (k + 1) = k := by
  unfold opTo; rw [opOf_is h1 h2 h, if_pos (by omega)]
theorem opTo_miss {x : List UInt8} {k : Nat} (h1 : 1 ≤ k) (h : inameL k ≠ x) : opTo x (k + 1) = opTo x k := by
  unfold opTo
  have : opOf x ≠ k := fun e => by
    have := opOf_name (l := x) (by omega)
    rw [e] at this; exact h this
  by_cases hk : opOf x < k
  · rw [if_pos hk, if_pos (by omega)]
  · rw [if_neg hk, if_neg (by omega)]

/-- The fields' letters, in the words' order. -/
def lettersL : List UInt8 := [65, 66, 68, 67, 75]
def ordTo (h : List UInt8) (k : Nat) : List UInt8 := (lettersL.take k).filter (inL h)
theorem ordTo_all (op : Int) : ordTo (hasL op) 5 = orderL op := by
  obtain ⟨hA, hB, hC, hD, hK⟩ := hasL_is op
  unfold ordTo orderL lettersL oc
  simp only [List.take_succ_cons, List.take_zero, List.filter_cons, List.filter_nil, hA, hB, hC, hD, hK]
  cases hasF 0 op <;> cases hasF 1 op <;> cases hasF 2 op <;> cases hasF 3 op <;> cases hasF 4 op <;> rfl
theorem ordTo_step (h : List UInt8) {k : Nat} (hk : k < 5) {c : UInt8} (hc : lettersL[k]? = some c) : ordTo h (k + 1) = if inL h c then ordTo h k ++ [c] else ordTo h k := by
  unfold ordTo
  rw [List.take_add_one, hc, List.filter_append, Option.toList_some, List.filter_cons]
  split
  · rfl
  · simp
theorem ordTo_len (h : List UInt8) (k : Nat) : (ordTo h k).length ≤ 5 := by
  unfold ordTo
  have := List.length_filter_le (inL h) (lettersL.take k)
  have h2 : (lettersL.take k).length ≤ 5 := by rw [List.length_take]; exact Nat.min_le_right _ _
  omega

theorem ord_mem {op : Int} {c : UInt8} (h : c ∈ orderL op) : c = 65 ∨ c = 66 ∨ c = 68 ∨ c = 67 ∨ c = 75 := by
  rw [← ordTo_all] at h
  have := (List.mem_filter.1 h).1
  simpa [lettersL] using this
theorem orderL_zero : orderL 0 = [] := by decide +kernel
def modeTo (l : List UInt8) (d : Nat) : Option Nat := match modeN l with
  | some r => if r < d then some r else none
  | none => none
theorem modeTo_zero (l : List UInt8) : modeTo l 0 = none := by unfold modeTo; split <;> simp
theorem modeTo_end (l : List UInt8) : modeTo l 3 = modeN l := by
  unfold modeTo
  cases h : modeN l with
  | none => rfl
  | some r => simp only; rw [if_pos ((modeN_iff l r).1 h).2]
theorem modeTo_hit {l : List UInt8} {d : Nat} (hd : d < 3) (h : modeW d = l) : modeTo l (d + 1) = some d := by
  unfold modeTo
  rw [(modeN_iff l d).2 ⟨h.symm, hd⟩]
  simp
theorem modeTo_miss {l : List UInt8} {d : Nat} (h : modeW d ≠ l) : modeTo l (d + 1) = modeTo l d := by
  unfold modeTo
  cases hm : modeN l with
  | none => rfl
  | some r =>
    have hr := (modeN_iff l r).1 hm
    have : r ≠ d := fun e => h (by rw [← e, hr.1])
    simp only
    by_cases hk : r < d
    · rw [if_pos hk, if_pos (by omega)]
    · rw [if_neg hk, if_neg (by omega)]

set_option maxRecDepth 100000 in
set_option maxHeartbeats 8000000 in
theorem rdparse_walk (s : ByteArray) (x : List UInt8) (t : List (List UInt8)) (hws : Hid (words s.data.toList = x :: t)) (hs : s.size ≤ 5000) (op : Nat) (hop : Hid (opOf x = op)) (G : Option Ins) (hG : Hid (goP (hasF 3 op) (orderL op) t ⟨op, 0, 0, 0, 0, 0⟩ = G)) (j : Ins) (err : Int) (hres : Hid (parseO (if op = 0 then none else G) = (j, err))) (w : World) :
    Calls Tryd.prog 14 #[.string s] w fun r w' => r = .returned (.tuple #[insV j, .int .i64 err]) ∧ Below w.heap.size w w' := by
  obtain ⟨w1, e1⟩ : ∃ w1, w1 = w.alloc (insO ins0) := ⟨_, rfl⟩
  obtain ⟨-, n1, b1⟩ := new_size e1
  have HW := Lib.hid (rwords_any s hs w1)
  have B1 := Lib.hid b1
  have N1 := Lib.hid n1
  rw [hws.out] at HW
  replace e1 : w1 = w.alloc (.cells #[.int .i64 0, .int .i64 0, .int .i64 0, .int .i64 0, .int .i64 0, .int .u32 0] 24) := e1
  obtain ⟨Z, hZ⟩ : ∃ Z, w.heap.size = Z := ⟨_, rfl⟩
  have HZ := Lib.hid hZ
  have hx5 := Lib.hid (show x.length ≤ 5000 ∧ ∀ y ∈ t, y.length ≤ 5000 by
    have hsh := words_short s.data.toList
    rw [hws.out, list_len] at hsh
    exact ⟨by have := hsh x (by simp); omega, fun y hy => by have := hsh y (by simp [hy]); omega⟩)
  clear n1 b1 hZ
  go_enter Tryd.func14, Tryd.ntmps14
  go_wp2_with fail
  rw [← e1, HZ.out]
  clear e1
  refine HW.out.mono ?_
  rintro r w2 ⟨vv, rfl, S, h2⟩
  obtain ⟨g, cap, rfl, hg1, hg2, hcap⟩ := S.room (by simp)
  have hcells : ∀ j (h : j < (x :: t).length), w2.cell? ⟨g, j, none⟩ = some (.string (bytesOf (x :: t)[j])) := fun j hj => by
    have := S.at rfl j (by simpa using hj)
    rw [this]
    simp [List.getD, List.getElem?_eq_getElem hj]
  have B2 := below_on B1.out h2
  have N2 := blk_on h2 N1.out
  obtain ⟨w3, e3⟩ : ∃ w3, w3 = w2.alloc (insO ins0) := ⟨_, rfl⟩
  obtain ⟨-, n3, b3⟩ := new_size e3
  obtain ⟨E, hE⟩ : ∃ E, w2.heap.size = E := ⟨_, rfl⟩
  rw [hE] at n3
  have P3 := Lib.hid (⟨fun j hj => cell_kept b3 (hcells j hj), n3, blk_on b3 N2, below_on B2 b3, by omega, by have := blk_lt N2; omega⟩ : PI w w3 g E (x :: t) ins0)
  have HE := Lib.hid hE
  obtain ⟨n, hn⟩ : ∃ n, (x :: t).length = n := ⟨_, rfl⟩
  rw [hn]
  have hn0 : 0 < n := by rw [← hn]; simp
  have HN := Lib.hid hn
  replace e3 : w3 = w2.alloc (.cells #[.int .i64 0, .int .i64 0, .int .i64 0, .int .i64 0, .int .i64 0, .int .u32 0] 24) := e3
  have hnS : n ≤ 5001 := by
    have := words_len s.data.toList
    rw [hws.out, hn, list_len] at this
    omega
  clear S h2 HW N1 B1 hcells B2 N2 n3 b3 hE hn hcap
  go_wp2_with fail
  rw [← e3, HE.out]
  clear e3 HE
  go_loopw [6] (fun v_ wr => ∃ k : Nat, v_ = .int .i64 (k : Int) ∧ 1 ≤ k ∧ k ≤ 39 ∧ Hid (PI w wr g E (x :: t) ⟨(opTo x k : Nat), 0, 0, 0, 0, 0⟩)) (fun v_ _ => ((39 : Int) - intOf v_).toNat)
  case atStart => exact ⟨1, rfl, by omega, by omega, by rw [opTo_one]; exact P3.out⟩
  case round =>
    clear P3 hg1 hg2
    obtain ⟨k, rfl, k1, k2, P⟩ := hrel
    by_cases hk : k ≤ 38
    · have hk' : (k : Int) ≤ 38 := by omega
      have hk39 : (k : Int) < 39 := by omega
      have hk0 : (0 : Int) ≤ (k : Int) := by omega
      have CZ := Lib.hid (P.out.wd 0 (by simp))
      obtain ⟨zb, hzb⟩ : ∃ zb, bytesOf x = zb := ⟨_, rfl⟩
      rw [show (x :: t)[0] = x from rfl, hzb] at CZ
      obtain ⟨q, hq⟩ : ∃ q, ((inameB k).toList == zb.toList) = q := ⟨_, rfl⟩
      have HQ := Lib.hid hq
      have HQL := Lib.hid (show decide (inameL k = x) = q by
        rw [← hq, beq_bytes, ← hzb, bytesOf_data, show (inameB k).data.toList = inameL k from bytesOf_data _])
      clear hq hzb
      go_wp2_with fail
      refine wp_region_rel [.has (fun v u => ∃ g, v = .slice (some ⟨g, 0, none⟩) 39 39 ∧ u.cell? ⟨g, k, none⟩ = some (.string (inameB k))) (fun v u u' hb h => by obtain ⟨g, h1, h2⟩ := h; exact ⟨g, h1, cell_kept hb h2⟩), .is (.int .i64 (k : Int)), .has (fun v u => ∃ g, v = .pointer (some ⟨g, k, none⟩) ∧ u.cell? ⟨g, k, none⟩ = some (.string (inameB k))) (fun v u u' hb h => by obtain ⟨g, h1, h2⟩ := h; exact ⟨g, h1, cell_kept hb h2⟩), .is (.string (inameB k)), .is (.slice (some ⟨g, 0, none⟩) n cap), .is (.pointer (some ⟨g, 0, none⟩)), .is (.string zb), .is (.bool q)]
        (fun w' => Below wr.heap.size wr w') [(0, 26), (1, 27), (2, 28), (3, 29), (4, 30), (5, 31), (6, 32), (7, 33)] 8 (by kernel_rfl) (by kernel_rfl) (by kernel_rfl) (by kernel_rfl) ?hC ?hs ?hf
      case hC => exact below_drew (Below.refl _ _)
      case hs =>
        refine stepsOk_succ ?s7 (stepsOk_succ ?s6 (stepsOk_succ ?s5 (stepsOk_succ ?s4 (stepsOk_succ ?s3 (stepsOk_succ ?s2 (stepsOk_succ ?s1 (stepsOk_succ ?s0 (stepsOk_zero))))))))
        case s0 =>
          refine stepOk0 rfl (by kernel_rfl) ?_
          rintro w' hC
          intro K hK
          go_simp
          refine (rinames_any w').mono ?_
          rintro e w2 ⟨rfl, h1, hc⟩
          exact hK _ _ rfl ⟨⟨w'.heap.size, rfl, hc k (by omega)⟩, hC.trans (h1.mono hC.size), h1⟩
        case s1 =>
          refine stepOk0 rfl (by kernel_rfl) ?_
          rintro w' hC
          intro K hK
          go_simp
          exact hK _ _ rfl ⟨rfl, hC, Below.refl _ _⟩
        case s2 =>
          refine stepOk2 0 26 1 27 rfl (by kernel_rfl) ?_
          rintro w' hC v1 v2 ⟨g0, rfl, hg0⟩ rfl
          intro K hK
          go_simp
          exact hK _ _ rfl ⟨⟨_, rfl, hg0⟩, hC, Below.refl _ _⟩
        case s3 =>
          refine stepOk1 2 28 rfl (by kernel_rfl) ?_
          rintro w' hC v1 ⟨g0, rfl, hg0⟩
          intro K hK
          go_simp
          exact hK _ _ rfl ⟨rfl, hC, Below.refl _ _⟩
        case s4 =>
          refine stepOk0 rfl (by kernel_rfl) ?_
          rintro w' hC
          intro K hK
          go_simp
          exact hK _ _ rfl ⟨rfl, hC, Below.refl _ _⟩
        case s5 =>
          refine stepOk1 4 30 rfl (by kernel_rfl) ?_
          rintro w' hC v1 rfl
          intro K hK
          have h31 : (0 : Int) < (n : Int) := by omega
          have h32 : 0 < n := by omega
          go_simp
          exact hK _ _ rfl ⟨rfl, hC, Below.refl _ _⟩
        case s6 =>
          refine stepOk1 5 31 rfl (by kernel_rfl) ?_
          rintro w' hC v1 rfl
          intro K hK
          have cz := cell_kept hC CZ.out
          go_simp
          exact hK _ _ rfl ⟨rfl, hC, Below.refl _ _⟩
        case s7 =>
          refine stepOk2 3 29 6 32 rfl (by kernel_rfl) ?_
          rintro w' hC v1 v2 rfl rfl
          intro K hK
          have hq := HQ.out
          go_simp
          exact hK _ _ rfl ⟨rfl, hC, Below.refl _ _⟩
      case hf =>
        intro w' hC x_ hx
        have e1 : x_ 27 = (.int .i64 (k : Int)) := hx (1, 27) (by simp)
        have e3 : x_ 29 = (.string (inameB k)) := hx (3, 29) (by simp)
        have e4 : x_ 30 = (.slice (some ⟨g, 0, none⟩) n cap) := hx (4, 30) (by simp)
        have e5 : x_ 31 = (.pointer (some ⟨g, 0, none⟩)) := hx (5, 31) (by simp)
        have e6 : x_ 32 = (.string zb) := hx (6, 32) (by simp)
        have e7 : x_ 33 = (.bool q) := hx (7, 33) (by simp)
        simp only [putAll, List.foldl_cons, List.foldl_nil, e1, e3, e4, e5, e6, e7, Act.put, List.setIfInBounds_toArray, List.set_cons_succ, List.set_cons_zero]
        clear hx e1 e3 e4 e5 e6 e7
        have P2 := Lib.hid (P.out.below hC)
        clear P hC CZ HQ
        obtain ⟨w4, e4⟩ : ∃ w4, w4 = w' := ⟨_, rfl⟩
        rw [← e4] at P2 ⊢
        clear e4
        cases q
        · have HM := Lib.hid (opTo_miss k1 (of_decide_eq_false HQL.out))
          go_wp2_with fail
          go_roundw
          case rel => exact ⟨k + 1, by go_num, by omega, by omega, by rw [HM.out]; exact P2.out⟩
          case measure => simp [intOf]; omega
        · have HM := Lib.hid (opTo_hit k1 hk (of_decide_eq_true HQL.out))
          have hp := P2.out.ins
          obtain ⟨c0, c1, c2, c3, c4, c5⟩ := inscells hp
          obtain ⟨z0, z1, z2, z3, z4, z5⟩ := insfree hp
          simp only at c0 c1 c2 c3 c4 c5
          clear hp
          go_wp2_with fail
          go_roundw
          case rel => exact ⟨k + 1, by go_num, by omega, by omega, by rw [HM.out]; exact P2.out.set 0 _ rfl⟩
          case measure => simp [intOf]; omega
    · obtain rfl : k = 39 := by omega
      have hP := P.out
      rw [opTo_end, hop.out] at hP
      obtain ⟨c0, c1, c2, c3, c4, c5⟩ := inscells hP.ins
      simp only at c0 c1 c2 c3 c4 c5
      have P4 := Lib.hid hP
      have HH := Lib.hid (fun w' => rihas_any (op : Int) w')
      clear hP P hk k1 k2
      go_wp2_with fail
      refine (HH.out _).mono ?_
      rintro r w4 ⟨rfl, rfl⟩
      clear HH
      obtain ⟨S, hS⟩ : ∃ S, bytesOf (hasL (op : Int)) = S := ⟨_, rfl⟩
      obtain ⟨LT, hLT⟩ : ∃ LT, (⟨#[65, 66, 68, 67, 75]⟩ : ByteArray) = LT := ⟨_, rfl⟩
      have hLs : LT.size = 5 := by rw [← hLT]; rfl
      have HLT := Lib.hid hLT
      have hI := fun (c : UInt8) (C : Int) (hC : (c.toNat : Int) = C) w' => riin_has op c C hC _ rfl w'
      rw [hS] at hI ⊢
      have HI := Lib.hid hI
      have HS := Lib.hid hS
      clear hI hS c0 c1 c2 c3 c4 c5
      go_upto_region 11 with fail
      rw [hLT]
      clear hLT
      go_wp2_with fail
      go_loopw [8, 10] (fun y v_ wr2 => wr2 = wr ∧ ∃ k : Nat, v_ = .int .i64 (k : Int) ∧ k ≤ 5 ∧ y = .string (bytesOf (ordTo (hasL op) k))) (fun _ v_ _ => ((5 : Int) - intOf v_).toNat)
      case atStart => exact ⟨rfl, 0, rfl, by omega, rfl⟩
      case round =>
        obtain ⟨rfl, k, rfl, hk, rfl⟩ := hrel
        by_cases h5 : k < 5
        · obtain ⟨c, hc⟩ : ∃ c, lettersL[k]? = some c := ⟨_, List.getElem?_eq_getElem (show k < lettersL.length from h5)⟩
          have hkl : k < LT.size := by omega
          have hcl : LT.data.toList[k]? = some c := by rw [← HLT.out]; exact hc
          have hck : LT[k] = c := by
            rw [Array.getElem?_toList, Array.getElem?_eq_getElem (by exact hkl)] at hcl
            exact Option.some.inj hcl
          have hyx : LT.extract k (k + 1) = bytesOf [c] := by
            apply bytes_ext
            rw [bytesOf_data, Lib.extract_data, show k + 1 - k = 1 by omega, drop_at LT k hkl, hck]
            rfl
          obtain ⟨C, hC⟩ : ∃ C : Nat, (LT[k]'hkl).toNat = C := ⟨_, rfl⟩
          have HIk := Lib.hid (HI.out c (C : Int) (by rw [← hC, hck]) wr)
          have HST := Lib.hid (ordTo_step (hasL op) h5 hc)
          obtain ⟨q, hq⟩ : ∃ q, inL (hasL (op : Int)) c = q := ⟨_, rfl⟩
          rw [hq] at HIk HST
          have hol := ordTo_len (hasL op) k
          have hlt : (k : Int) < (LT.size : Int) := by omega
          have hle : (k : Int) + 1 ≤ (LT.size : Int) := by omega
          have hk5 : (k : Int) < 5 := by omega
          obtain ⟨T_, hT⟩ : ∃ T_, bytesOf (ordTo (hasL (op : Int)) k) = T_ := ⟨_, rfl⟩
          obtain ⟨V_, hV⟩ : ∃ V_, bytesOf [c] = V_ := ⟨_, rfl⟩
          have hTs : T_.size ≤ 5 := by rw [← hT, bytesOf_size]; exact hol
          have hVs : V_.size = 1 := by rw [← hV, bytesOf_size]; rfl
          have HX := Lib.hid (show bytesOf (ordTo (hasL (op : Int)) (k + 1)) = if q then T_ ++ V_ else T_ by
            rw [HST.out, ← hT, ← hV]
            cases q <;> simp [bytesOf_app])
          rw [hV] at hyx
          rw [hT]
          have hyx2 : (LT.extract k (k + 1)).size = 1 := by rw [hyx, hVs]
          have g2 : ¬ 9223372036854775807 < T_.size + V_.size := by omega
          clear hck hcl hq hol hT hV hTs hVs HST hc
          go_wp2_with fail
          refine HIk.out.mono ?_
          rintro r w5 ⟨rfl, rfl⟩
          cases q
          · have HX2 := Lib.hid (show bytesOf (ordTo (hasL (op : Int)) (k + 1)) = T_ from HX.out)
            go_wp2_with fail
            go_roundw
            case rel => exact ⟨trivial, k + 1, by go_num, by omega, by rw [HX2.out]⟩
            case measure => simp [intOf]; omega
          · have HX2 := Lib.hid (show bytesOf (ordTo (hasL (op : Int)) (k + 1)) = T_ ++ V_ from HX.out)
            go_wp2_with fail
            go_roundw
            case rel => exact ⟨trivial, k + 1, by go_num, by omega, by rw [HX2.out]⟩
            case measure => simp [intOf]; omega
        · obtain rfl : k = 5 := by omega
          rw [ordTo_all, show ((5 : Nat) : Int) = 5 from rfl]
          have hOB := bytesOf_data (orderL (op : Int))
          obtain ⟨OB, hob⟩ : ∃ OB, bytesOf (orderL (op : Int)) = OB := ⟨_, rfl⟩
          rw [hob] at hOB
          rw [hob]
          have hOs : OB.size = (orderL (op : Int)).length := by rw [← hob, bytesOf_size]
          obtain ⟨m, hm⟩ : ∃ m, OB.size = m := ⟨_, rfl⟩
          have HM := Lib.hid (hOs.symm.trans hm)
          have HOB := Lib.hid hOB
          have hm5 : m ≤ 5 := by
            rw [← hm, hOs, ← ordTo_all]; exact ordTo_len _ _
          clear hOB hOs hob hk h5 HLT
          have HI2 := Lib.hid (fun w' => HI.out 68 68 rfl w')
          rw [(hasL_is (op : Int)).2.2.2.1] at HI2
          obtain ⟨hD, hhD⟩ : ∃ hD, hasF 3 (op : Int) = hD := ⟨_, rfl⟩
          rw [hhD] at HI2 hG
          clear HI hhD
          go_wp2_with fail
          clear hLs
          go_loopw [11, 12] (fun a_ v_ wr3 => ∃ (k a : Nat) (i : Ins), v_ = .int .i64 (k : Int) ∧ a_ = .int .i64 (a : Int) ∧ k ≤ m ∧ 1 ≤ a ∧ a ≤ n ∧ Hid (i.op = op ∧ i.k < 4294967296) ∧ Hid (PI w wr3 g E (x :: t) i) ∧ Hid (goP hD ((orderL (op : Int)).drop k) ((x :: t).drop a) i = G)) (fun _ v_ _ => ((m : Int) - intOf v_).toNat)
          case atStart => exact ⟨0, 1, _, rfl, rfl, by omega, by omega, by omega, Lib.hid ⟨rfl, by show (0 : Nat) < 4294967296; omega⟩, P4, hG⟩
          case round =>
            obtain ⟨k, a, ⟨iop, ia, ib, ic, id, ik⟩, rfl, rfl, hkm, ha1, han, FI, P5, HGo⟩ := hrel
            clear P4 hG
            by_cases hlt0 : k < m
            · have hord : k < (orderL (op : Int)).length := by rw [HM.out]; exact hlt0
              have hop0 : op ≠ 0 := by
                rintro rfl
                rw [show ((0 : Nat) : Int) = 0 from rfl, orderL_zero] at hord
                simp at hord
              have hr2 := hres.out
              rw [if_neg hop0] at hr2
              obtain ⟨c, hc⟩ : ∃ c, (orderL (op : Int))[k] = c := ⟨_, rfl⟩
              have hmem := ord_mem (hc ▸ List.getElem_mem hord)
              have hkl : k < OB.size := by omega
              have hck : OB[k] = c := by
                rw [← hc]
                have h1 : OB.data.toList[k]? = some OB[k] := by rw [Array.getElem?_toList]; exact Array.getElem?_eq_getElem hkl
                rw [HOB.out, List.getElem?_eq_getElem hord] at h1
                exact (Option.some.inj h1).symm
              have hgo := HGo.out
              rw [List.drop_eq_getElem_cons hord, hc, goP.eq_def] at hgo
              simp only at hgo
              have hltI : (k : Int) < (OB.size : Int) := by omega
              have hltM : (k : Int) < (m : Int) := by omega
              have hk0I : (0 : Int) ≤ (k : Int) := Int.natCast_nonneg _
              have hCt : (OB[k]'hkl).toNat = c.toNat := by rw [hck]
              have HR2 := Lib.hid hr2
              clear hck hc HGo hr2 hres hop0
              rcases hmem with rfl | rfl | rfl | rfl | rfl
              · rw [show ((65 : UInt8)).toNat = 65 from rfl] at hCt
                rw [if_neg (by simp)] at hgo
                by_cases han2 : a < n
                · have hal : a < (x :: t).length := by rw [HN.out]; exact han2
                  have hanI : (a : Int) < (n : Int) := by omega
                  have ha0I : (0 : Int) ≤ (a : Int) := Int.natCast_nonneg _
                  have hge : ¬ n ≤ a := by omega
                  have CA := P5.out.wd a hal
                  rw [List.drop_eq_getElem_cons hal] at hgo
                  obtain ⟨y, hy⟩ : ∃ y, (x :: t)[a] = y := ⟨_, rfl⟩
                  rw [hy] at CA hgo
                  have hyl : y.length ≤ 5000 := by
                    have : y ∈ x :: t := hy ▸ List.getElem_mem hal
                    rcases List.mem_cons.1 this with rfl | h
                    · exact hx5.out.1
                    · exact hx5.out.2 y h
                  simp only at hgo
                  rw [show fieldP 65 y = regN y from by simp [fieldP]] at hgo
                  obtain ⟨Y, hY⟩ : ∃ Y, bytesOf y = Y := ⟨_, rfl⟩
                  have hYd : Y.data.toList = y := by rw [← hY, bytesOf_data]
                  rw [hY] at CA
                  have HNM := Lib.hid (rdnumber_any Y wr)
                  rw [hYd] at HNM
                  have HYD := Lib.hid hYd
                  have HYL := Lib.hid (show Y.size ≤ 5000 by rw [← hY, bytesOf_size]; exact hyl)
                  clear hy hyl hY hYd hal
                  obtain ⟨q, hq⟩ : ∃ q, numI (regN y) = q := ⟨_, rfl⟩
                  rw [hq] at HNM
                  have HQI := Lib.hid hq
                  have HGO := Lib.hid hgo
                  clear hq hgo
                  go_wp2_with fail
                  refine HNM.out.mono ?_
                  rintro r w7 ⟨rfl, h7⟩
                  have P6 := Lib.hid (P5.out.below h7)
                  clear h7 HNM CA
                  obtain ⟨c0, c1, c2, c3, c4, c5⟩ := inscells P6.out.ins
                  obtain ⟨y0, y1, y2, y3, y4, y5⟩ := insfree P6.out.ins
                  simp only at c0 c1 c2 c3 c4 c5
                  have P7 := Lib.hid (P6.out.set 1 (.int .i64 q) (i' := { (⟨iop, ia, ib, ic, id, ik⟩ : Ins) with a := q }) rfl)
                  cases hrn : regN y with
                  | none =>
                    have hg8 := HGO.out
                    rw [hrn] at hg8
                    simp only at hg8
                    have HGN := Lib.hid hg8.symm
                    obtain rfl : q = -1 := by rw [← HQI.out, hrn]; rfl
                    clear hg8 hrn HGO
                    have hrs0 := P7.out.rs
                    clear hrs0
                    have hrs_ := P7.out.rs
                    rw [HZ.out] at hrs_
                    obtain ⟨o0, o1, o2, o3, o4, o5⟩ := inscells hrs_
                    obtain ⟨z0, z1, z2, z3, z4, z5⟩ := insfree hrs_
                    simp only [ins0] at o0 o1 o2 o3 o4 o5
                    have HRE := Lib.hid (show (ins0, (3 : Int)) = (j, err) by rw [← HR2.out, HGN.out]; rfl)
                    have HBE := Lib.hid P7.out.bel
                    have hZl := Lib.hid (show w.heap.size ≤ Z by rw [HZ.out]; exact Nat.le_refl _)
                    clear hrs_
                    go_wp2_with fail
                    refine bodyPost_ret (v := .tuple #[.agg #[.int .i64 0, .int .i64 0, .int .i64 0, .int .i64 0, .int .i64 0, .int .u32 0], .int .i64 3]) (by rw [results_cell_tmp rfl]; go_simp) rfl ⟨?_, below_set6 HBE.out hZl.out _ _ _ _ _ _⟩
                    have e_ := HRE.out
                    simp only [Prod.mk.injEq] at e_
                    rw [← e_.1, ← e_.2]
                    rfl
                  | some r0 =>
                    have hg8 := HGO.out
                    rw [hrn] at hg8
                    simp only at hg8
                    have HG8 := Lib.hid hg8
                    obtain rfl : q = (r0 : Int) := by rw [← HQI.out, hrn]; rfl
                    have hq0 : decide ((r0 : Int) < 0) = false := by simp
                    have FI' := FI.out
                    clear hg8 hrn HGO HQI
                    go_wp2_with fail
                    go_roundw
                    case rel => exact ⟨k + 1, a + 1, _, by go_num, by go_num, by omega, by omega, by omega, Lib.hid FI', P7, HG8⟩
                    case measure => simp [intOf]; omega
                · have hge : n ≤ a := by omega
                  have hdn : (x :: t).drop a = [] := List.drop_eq_nil_of_le (by rw [HN.out]; omega)
                  rw [hdn] at hgo
                  simp only at hgo
                  have HGN := Lib.hid hgo.symm
                  clear hgo hdn han2
                  have hrs_ := P5.out.rs
                  rw [HZ.out] at hrs_
                  obtain ⟨o0, o1, o2, o3, o4, o5⟩ := inscells hrs_
                  obtain ⟨z0, z1, z2, z3, z4, z5⟩ := insfree hrs_
                  simp only [ins0] at o0 o1 o2 o3 o4 o5
                  have HRE := Lib.hid (show (ins0, (3 : Int)) = (j, err) by rw [← HR2.out, HGN.out]; rfl)
                  have HBE := Lib.hid P5.out.bel
                  have hZl := Lib.hid (show w.heap.size ≤ Z by rw [HZ.out]; exact Nat.le_refl _)
                  clear hrs_
                  go_wp2_with fail
                  refine bodyPost_ret (v := .tuple #[.agg #[.int .i64 0, .int .i64 0, .int .i64 0, .int .i64 0, .int .i64 0, .int .u32 0], .int .i64 3]) (by rw [results_cell_tmp rfl]; go_simp) rfl ⟨?_, below_set6 HBE.out hZl.out _ _ _ _ _ _⟩
                  have e_ := HRE.out
                  simp only [Prod.mk.injEq] at e_
                  rw [← e_.1, ← e_.2]
                  rfl
              · rw [show ((66 : UInt8)).toNat = 66 from rfl] at hCt
                rw [if_neg (by simp)] at hgo
                by_cases han2 : a < n
                · have hal : a < (x :: t).length := by rw [HN.out]; exact han2
                  have hanI : (a : Int) < (n : Int) := by omega
                  have ha0I : (0 : Int) ≤ (a : Int) := Int.natCast_nonneg _
                  have hge : ¬ n ≤ a := by omega
                  have CA := P5.out.wd a hal
                  rw [List.drop_eq_getElem_cons hal] at hgo
                  obtain ⟨y, hy⟩ : ∃ y, (x :: t)[a] = y := ⟨_, rfl⟩
                  rw [hy] at CA hgo
                  have hyl : y.length ≤ 5000 := by
                    have : y ∈ x :: t := hy ▸ List.getElem_mem hal
                    rcases List.mem_cons.1 this with rfl | h
                    · exact hx5.out.1
                    · exact hx5.out.2 y h
                  simp only at hgo
                  rw [show fieldP 66 y = regN y from by simp [fieldP]] at hgo
                  obtain ⟨Y, hY⟩ : ∃ Y, bytesOf y = Y := ⟨_, rfl⟩
                  have hYd : Y.data.toList = y := by rw [← hY, bytesOf_data]
                  rw [hY] at CA
                  have HNM := Lib.hid (rdnumber_any Y wr)
                  rw [hYd] at HNM
                  have HYD := Lib.hid hYd
                  have HYL := Lib.hid (show Y.size ≤ 5000 by rw [← hY, bytesOf_size]; exact hyl)
                  clear hy hyl hY hYd hal
                  obtain ⟨q, hq⟩ : ∃ q, numI (regN y) = q := ⟨_, rfl⟩
                  rw [hq] at HNM
                  have HQI := Lib.hid hq
                  have HGO := Lib.hid hgo
                  clear hq hgo
                  go_wp2_with fail
                  refine HNM.out.mono ?_
                  rintro r w7 ⟨rfl, h7⟩
                  have P6 := Lib.hid (P5.out.below h7)
                  clear h7 HNM CA
                  obtain ⟨c0, c1, c2, c3, c4, c5⟩ := inscells P6.out.ins
                  obtain ⟨y0, y1, y2, y3, y4, y5⟩ := insfree P6.out.ins
                  simp only at c0 c1 c2 c3 c4 c5
                  have P7 := Lib.hid (P6.out.set 2 (.int .i64 q) (i' := { (⟨iop, ia, ib, ic, id, ik⟩ : Ins) with b := q }) rfl)
                  cases hrn : regN y with
                  | none =>
                    have hg8 := HGO.out
                    rw [hrn] at hg8
                    simp only at hg8
                    have HGN := Lib.hid hg8.symm
                    obtain rfl : q = -1 := by rw [← HQI.out, hrn]; rfl
                    clear hg8 hrn HGO
                    have hrs0 := P7.out.rs
                    clear hrs0
                    have hrs_ := P7.out.rs
                    rw [HZ.out] at hrs_
                    obtain ⟨o0, o1, o2, o3, o4, o5⟩ := inscells hrs_
                    obtain ⟨z0, z1, z2, z3, z4, z5⟩ := insfree hrs_
                    simp only [ins0] at o0 o1 o2 o3 o4 o5
                    have HRE := Lib.hid (show (ins0, (3 : Int)) = (j, err) by rw [← HR2.out, HGN.out]; rfl)
                    have HBE := Lib.hid P7.out.bel
                    have hZl := Lib.hid (show w.heap.size ≤ Z by rw [HZ.out]; exact Nat.le_refl _)
                    clear hrs_
                    go_wp2_with fail
                    refine bodyPost_ret (v := .tuple #[.agg #[.int .i64 0, .int .i64 0, .int .i64 0, .int .i64 0, .int .i64 0, .int .u32 0], .int .i64 3]) (by rw [results_cell_tmp rfl]; go_simp) rfl ⟨?_, below_set6 HBE.out hZl.out _ _ _ _ _ _⟩
                    have e_ := HRE.out
                    simp only [Prod.mk.injEq] at e_
                    rw [← e_.1, ← e_.2]
                    rfl
                  | some r0 =>
                    have hg8 := HGO.out
                    rw [hrn] at hg8
                    simp only at hg8
                    have HG8 := Lib.hid hg8
                    obtain rfl : q = (r0 : Int) := by rw [← HQI.out, hrn]; rfl
                    have hq0 : decide ((r0 : Int) < 0) = false := by simp
                    have FI' := FI.out
                    clear hg8 hrn HGO HQI
                    go_wp2_with fail
                    go_roundw
                    case rel => exact ⟨k + 1, a + 1, _, by go_num, by go_num, by omega, by omega, by omega, Lib.hid FI', P7, HG8⟩
                    case measure => simp [intOf]; omega
                · have hge : n ≤ a := by omega
                  have hdn : (x :: t).drop a = [] := List.drop_eq_nil_of_le (by rw [HN.out]; omega)
                  rw [hdn] at hgo
                  simp only at hgo
                  have HGN := Lib.hid hgo.symm
                  clear hgo hdn han2
                  have hrs_ := P5.out.rs
                  rw [HZ.out] at hrs_
                  obtain ⟨o0, o1, o2, o3, o4, o5⟩ := inscells hrs_
                  obtain ⟨z0, z1, z2, z3, z4, z5⟩ := insfree hrs_
                  simp only [ins0] at o0 o1 o2 o3 o4 o5
                  have HRE := Lib.hid (show (ins0, (3 : Int)) = (j, err) by rw [← HR2.out, HGN.out]; rfl)
                  have HBE := Lib.hid P5.out.bel
                  have hZl := Lib.hid (show w.heap.size ≤ Z by rw [HZ.out]; exact Nat.le_refl _)
                  clear hrs_
                  go_wp2_with fail
                  refine bodyPost_ret (v := .tuple #[.agg #[.int .i64 0, .int .i64 0, .int .i64 0, .int .i64 0, .int .i64 0, .int .u32 0], .int .i64 3]) (by rw [results_cell_tmp rfl]; go_simp) rfl ⟨?_, below_set6 HBE.out hZl.out _ _ _ _ _ _⟩
                  have e_ := HRE.out
                  simp only [Prod.mk.injEq] at e_
                  rw [← e_.1, ← e_.2]
                  rfl
              · rw [show ((68 : UInt8)).toNat = 68 from rfl] at hCt
                rw [if_neg (by simp)] at hgo
                by_cases han2 : a < n
                · have hal : a < (x :: t).length := by rw [HN.out]; exact han2
                  have hanI : (a : Int) < (n : Int) := by omega
                  have ha0I : (0 : Int) ≤ (a : Int) := Int.natCast_nonneg _
                  have hge : ¬ n ≤ a := by omega
                  have CA := P5.out.wd a hal
                  rw [List.drop_eq_getElem_cons hal] at hgo
                  obtain ⟨y, hy⟩ : ∃ y, (x :: t)[a] = y := ⟨_, rfl⟩
                  rw [hy] at CA hgo
                  have hyl : y.length ≤ 5000 := by
                    have : y ∈ x :: t := hy ▸ List.getElem_mem hal
                    rcases List.mem_cons.1 this with rfl | h
                    · exact hx5.out.1
                    · exact hx5.out.2 y h
                  simp only at hgo
                  rw [show fieldP 68 y = modeN y from by simp [fieldP]] at hgo
                  obtain ⟨Y, hY⟩ : ∃ Y, bytesOf y = Y := ⟨_, rfl⟩
                  have hYd : Y.data.toList = y := by rw [← hY, bytesOf_data]
                  rw [hY] at CA
                  have HNM := Lib.hid (rdnumber_any Y wr)
                  rw [hYd] at HNM
                  have HYD := Lib.hid hYd
                  have HYL := Lib.hid (show Y.size ≤ 5000 by rw [← hY, bytesOf_size]; exact hyl)
                  clear hy hyl hY hYd hal
                  have HGO := Lib.hid hgo
                  clear hgo
                  go_wp2_with fail
                  refine HNM.out.mono ?_
                  rintro r w7 ⟨rfl, h7⟩
                  have P6 := Lib.hid (P5.out.below h7)
                  have CA2 := Lib.hid (cell_kept h7 CA)
                  clear h7 HNM CA P5
                  go_wp2_with fail
                  go_loopw [14, 15] (fun n_ d_ wr4 => ∃ dd : Nat, d_ = .int .i64 (dd : Int) ∧ dd ≤ 3 ∧ n_ = .int .i64 (numI (modeTo y dd)) ∧ Hid (PI w wr4 g E (x :: t) ⟨iop, ia, ib, ic, id, ik⟩ ∧ wr4.cell? ⟨g, a, none⟩ = some (.string Y))) (fun _ d_ _ => ((3 : Int) - intOf d_).toNat)
                  case atStart => exact ⟨0, rfl, by omega, by rw [modeTo_zero]; rfl, Lib.hid ⟨P6.out, CA2.out⟩⟩
                  case round =>
                    obtain ⟨dd, rfl, hdd, rfl, P7⟩ := hrel
                    clear P6 CA2
                    by_cases hd3 : dd < 3
                    · have hd3I : (dd : Int) < 3 := by omega
                      have hd0I : (0 : Int) ≤ (dd : Int) := Int.natCast_nonneg _
                      have CA3 := Lib.hid P7.out.2
                      have HMD0 := fun w' => rdmode_any dd w'
                      have hq1 := beq_bytes (bytesOf (modeW dd)) Y
                      rw [bytesOf_data, HYD.out] at hq1
                      obtain ⟨MB, hMB⟩ : ∃ MB, bytesOf (modeW dd) = MB := ⟨_, rfl⟩
                      rw [hMB] at hq1
                      obtain ⟨q, hq⟩ : ∃ q, (MB.toList == Y.toList) = q := ⟨_, rfl⟩
                      have HQ := Lib.hid hq
                      have HQL := Lib.hid (show decide (modeW dd = y) = q by rw [← hq, hq1])
                      have HMD := Lib.hid (show ∀ w', Calls Tryd.prog 31 #[.int .i64 (dd : Int)] w' fun r w'' => r = .returned (.string MB) ∧ w' = w'' from fun w' => hMB ▸ HMD0 w')
                      obtain ⟨NI, hNI⟩ : ∃ NI, numI (modeTo y dd) = NI := ⟨_, rfl⟩
                      rw [hNI]
                      have HNI := Lib.hid hNI
                      clear hq1 hMB hq HMD0 hNI
                      go_wp2_with fail
                      refine wp_region_rel [.is (.int .i64 (dd : Int)), .is (.string MB), .is (.slice (some ⟨g, 0, none⟩) n cap), .is (.int .i64 (a : Int)), .is (.pointer (some ⟨g, a, none⟩)), .is (.string Y), .is (.bool q)]
                        (fun w' => Below wr.heap.size wr w') [(0, 106), (1, 107), (2, 108), (3, 109), (4, 110), (5, 111), (6, 112)] 7 (by kernel_rfl) (by kernel_rfl) (by kernel_rfl) (by kernel_rfl) ?hC ?hs ?hf
                      case hC => exact below_drew (Below.refl _ _)
                      case hs =>
                        refine stepsOk_succ ?s6 (stepsOk_succ ?s5 (stepsOk_succ ?s4 (stepsOk_succ ?s3 (stepsOk_succ ?s2 (stepsOk_succ ?s1 (stepsOk_succ ?s0 (stepsOk_zero)))))))
                        case s0 =>
                          refine stepOk0 rfl (by kernel_rfl) ?_
                          rintro w' hC
                          intro K hK
                          go_simp
                          exact hK _ _ rfl ⟨rfl, hC, Below.refl _ _⟩
                        case s1 =>
                          refine stepOk1 0 106 rfl (by kernel_rfl) ?_
                          rintro w' hC v1 rfl
                          intro K hK
                          go_simp
                          refine (HMD.out w').mono ?_
                          rintro e w2 ⟨rfl, rfl⟩
                          exact hK _ _ rfl ⟨rfl, hC, Below.refl _ _⟩
                        case s2 =>
                          refine stepOk0 rfl (by kernel_rfl) ?_
                          rintro w' hC
                          intro K hK
                          go_simp
                          exact hK _ _ rfl ⟨rfl, hC, Below.refl _ _⟩
                        case s3 =>
                          refine stepOk0 rfl (by kernel_rfl) ?_
                          rintro w' hC
                          intro K hK
                          go_simp
                          exact hK _ _ rfl ⟨rfl, hC, Below.refl _ _⟩
                        case s4 =>
                          refine stepOk2 2 108 3 109 rfl (by kernel_rfl) ?_
                          rintro w' hC v1 v2 rfl rfl
                          intro K hK
                          have h31 := hanI
                          have h32 := han2
                          go_simp
                          exact hK _ _ rfl ⟨rfl, hC, Below.refl _ _⟩
                        case s5 =>
                          refine stepOk1 4 110 rfl (by kernel_rfl) ?_
                          rintro w' hC v1 rfl
                          intro K hK
                          have cz := cell_kept hC CA3.out
                          go_simp
                          exact hK _ _ rfl ⟨rfl, hC, Below.refl _ _⟩
                        case s6 =>
                          refine stepOk2 1 107 5 111 rfl (by kernel_rfl) ?_
                          rintro w' hC v1 v2 rfl rfl
                          intro K hK
                          have hq := HQ.out
                          go_simp
                          exact hK _ _ rfl ⟨rfl, hC, Below.refl _ _⟩
                      case hf =>
                        intro w' hC x_ hx
                        have e0 : x_ 106 = (.int .i64 (dd : Int)) := hx (0, 106) (by simp)
                        have e1 : x_ 107 = (.string MB) := hx (1, 107) (by simp)
                        have e2 : x_ 108 = (.slice (some ⟨g, 0, none⟩) n cap) := hx (2, 108) (by simp)
                        have e3 : x_ 109 = (.int .i64 (a : Int)) := hx (3, 109) (by simp)
                        have e4 : x_ 110 = (.pointer (some ⟨g, a, none⟩)) := hx (4, 110) (by simp)
                        have e5 : x_ 111 = (.string Y) := hx (5, 111) (by simp)
                        have e6 : x_ 112 = (.bool q) := hx (6, 112) (by simp)
                        simp only [putAll, List.foldl_cons, List.foldl_nil, e0, e1, e2, e3, e4, e5, e6, Act.put, List.setIfInBounds_toArray, List.set_cons_succ, List.set_cons_zero]
                        clear hx e0 e1 e2 e3 e4 e5 e6
                        have P8 : Hid (PI w w' g E (x :: t) ⟨iop, ia, ib, ic, id, ik⟩ ∧ w'.cell? ⟨g, a, none⟩ = some (.string Y)) := Lib.hid ⟨P7.out.1.below hC, cell_kept hC P7.out.2⟩
                        clear hC P7 CA3 HQ HMD
                        obtain ⟨w8, e8⟩ : ∃ w8, w8 = w' := ⟨_, rfl⟩
                        rw [← e8] at P8 ⊢
                        clear e8
                        cases q
                        · have HM8 := Lib.hid (modeTo_miss (of_decide_eq_false HQL.out))
                          go_wp2_with fail
                          go_roundw
                          case rel => exact ⟨dd + 1, by go_num, by omega, by rw [HM8.out, HNI.out], P8⟩
                          case measure => simp [intOf]; omega
                        · have HM8 := Lib.hid (modeTo_hit hd3 (of_decide_eq_true HQL.out))
                          go_wp2_with fail
                          go_roundw
                          case rel => exact ⟨dd + 1, by go_num, by omega, by rw [HM8.out]; rfl, P8⟩
                          case measure => simp [intOf]; omega
                    · obtain rfl : dd = 3 := by omega
                      rw [modeTo_end]
                      obtain ⟨q, hq⟩ : ∃ q, numI (modeN y) = q := ⟨_, rfl⟩
                      rw [hq]
                      have HQI := Lib.hid hq
                      have hp7 := P7.out.1
                      obtain ⟨c0, c1, c2, c3, c4, c5⟩ := inscells hp7.ins
                      obtain ⟨y0, y1, y2, y3, y4, y5⟩ := insfree hp7.ins
                      simp only at c0 c1 c2 c3 c4 c5
                      have P8 := Lib.hid (hp7.set 4 (.int .i64 q) (i' := { (⟨iop, ia, ib, ic, id, ik⟩ : Ins) with d := q }) rfl)
                      clear hq hp7 hd3 hdd
                      cases hrn : modeN y with
                      | none =>
                        have hg8 := HGO.out
                        rw [hrn] at hg8
                        simp only at hg8
                        have HGN := Lib.hid hg8.symm
                        obtain rfl : q = -1 := by rw [← HQI.out, hrn]; rfl
                        clear hg8 hrn HGO
                        have hrs_ := P8.out.rs
                        rw [HZ.out] at hrs_
                        obtain ⟨o0, o1, o2, o3, o4, o5⟩ := inscells hrs_
                        obtain ⟨z0, z1, z2, z3, z4, z5⟩ := insfree hrs_
                        simp only [ins0] at o0 o1 o2 o3 o4 o5
                        have HRE := Lib.hid (show (ins0, (3 : Int)) = (j, err) by rw [← HR2.out, HGN.out]; rfl)
                        have HBE := Lib.hid P8.out.bel
                        have hZl := Lib.hid (show w.heap.size ≤ Z by rw [HZ.out]; exact Nat.le_refl _)
                        clear hrs_
                        go_wp2_with fail
                        refine bodyPost_ret (v := .tuple #[.agg #[.int .i64 0, .int .i64 0, .int .i64 0, .int .i64 0, .int .i64 0, .int .u32 0], .int .i64 3]) (by rw [results_cell_tmp rfl]; go_simp) rfl ⟨?_, below_set6 HBE.out hZl.out _ _ _ _ _ _⟩
                        have e_ := HRE.out
                        simp only [Prod.mk.injEq] at e_
                        rw [← e_.1, ← e_.2]
                        rfl
                      | some r0 =>
                        have hg8 := HGO.out
                        rw [hrn] at hg8
                        simp only at hg8
                        have HG8 := Lib.hid hg8
                        obtain rfl : q = (r0 : Int) := by rw [← HQI.out, hrn]; rfl
                        have hq0 : decide ((r0 : Int) < 0) = false := by simp
                        have FI' := FI.out
                        clear hg8 hrn HGO HQI
                        go_wp2_with fail
                        go_roundw
                        case rel => exact ⟨k + 1, a + 1, _, by go_num, by go_num, by omega, by omega, by omega, Lib.hid FI', P8, HG8⟩
                        case measure => simp [intOf]; omega
                · have hge : n ≤ a := by omega
                  have hdn : (x :: t).drop a = [] := List.drop_eq_nil_of_le (by rw [HN.out]; omega)
                  rw [hdn] at hgo
                  simp only at hgo
                  have HGN := Lib.hid hgo.symm
                  clear hgo hdn han2
                  have hrs_ := P5.out.rs
                  rw [HZ.out] at hrs_
                  obtain ⟨o0, o1, o2, o3, o4, o5⟩ := inscells hrs_
                  obtain ⟨z0, z1, z2, z3, z4, z5⟩ := insfree hrs_
                  simp only [ins0] at o0 o1 o2 o3 o4 o5
                  have HRE := Lib.hid (show (ins0, (3 : Int)) = (j, err) by rw [← HR2.out, HGN.out]; rfl)
                  have HBE := Lib.hid P5.out.bel
                  have hZl := Lib.hid (show w.heap.size ≤ Z by rw [HZ.out]; exact Nat.le_refl _)
                  clear hrs_
                  go_wp2_with fail
                  refine bodyPost_ret (v := .tuple #[.agg #[.int .i64 0, .int .i64 0, .int .i64 0, .int .i64 0, .int .i64 0, .int .u32 0], .int .i64 3]) (by rw [results_cell_tmp rfl]; go_simp) rfl ⟨?_, below_set6 HBE.out hZl.out _ _ _ _ _ _⟩
                  have e_ := HRE.out
                  simp only [Prod.mk.injEq] at e_
                  rw [← e_.1, ← e_.2]
                  rfl
              · rw [show ((67 : UInt8)).toNat = 67 from rfl] at hCt
                simp only [ne_eq, decide_true, Bool.true_and] at hgo
                have P55 := P5
                obtain ⟨c0, c1, c2, c3, c4, c5⟩ := inscells P5.out.ins
                simp only at c0 c1 c2 c3 c4 c5
                go_wp2_with fail
                refine (HI2.out _).mono ?_
                rintro r w5 ⟨rfl, rfl⟩
                clear P55
                cases hD
                · rw [if_neg (by simp)] at hgo
                  by_cases han2 : a < n
                  · have hal : a < (x :: t).length := by rw [HN.out]; exact han2
                    have hanI : (a : Int) < (n : Int) := by omega
                    have ha0I : (0 : Int) ≤ (a : Int) := Int.natCast_nonneg _
                    have hge : ¬ n ≤ a := by omega
                    have CA := P5.out.wd a hal
                    rw [List.drop_eq_getElem_cons hal] at hgo
                    obtain ⟨y, hy⟩ : ∃ y, (x :: t)[a] = y := ⟨_, rfl⟩
                    rw [hy] at CA hgo
                    have hyl : y.length ≤ 5000 := by
                      have : y ∈ x :: t := hy ▸ List.getElem_mem hal
                      rcases List.mem_cons.1 this with rfl | h
                      · exact hx5.out.1
                      · exact hx5.out.2 y h
                    simp only at hgo
                    rw [show fieldP 67 y = regN y from by simp [fieldP]] at hgo
                    obtain ⟨Y, hY⟩ : ∃ Y, bytesOf y = Y := ⟨_, rfl⟩
                    have hYd : Y.data.toList = y := by rw [← hY, bytesOf_data]
                    rw [hY] at CA
                    have HNM := Lib.hid (rdnumber_any Y wr)
                    rw [hYd] at HNM
                    have HYD := Lib.hid hYd
                    have HYL := Lib.hid (show Y.size ≤ 5000 by rw [← hY, bytesOf_size]; exact hyl)
                    clear hy hyl hY hYd hal c0 c1 c2 c3 c5
                    obtain ⟨q, hq⟩ : ∃ q, numI (regN y) = q := ⟨_, rfl⟩
                    rw [hq] at HNM
                    have HQI := Lib.hid hq
                    have HGO := Lib.hid hgo
                    clear hq hgo
                    go_wp2_with fail
                    refine HNM.out.mono ?_
                    rintro r w7 ⟨rfl, h7⟩
                    have P6 := Lib.hid (P5.out.below h7)
                    clear h7 HNM CA c4
                    obtain ⟨c0, c1, c2, c3, c4, c5⟩ := inscells P6.out.ins
                    obtain ⟨y0, y1, y2, y3, y4, y5⟩ := insfree P6.out.ins
                    simp only at c0 c1 c2 c3 c4 c5
                    have P7 := Lib.hid (P6.out.set 3 (.int .i64 q) (i' := { (⟨iop, ia, ib, ic, id, ik⟩ : Ins) with c := q }) rfl)
                    cases hrn : regN y with
                    | none =>
                      have hg8 := HGO.out
                      rw [hrn] at hg8
                      simp only at hg8
                      have HGN := Lib.hid hg8.symm
                      obtain rfl : q = -1 := by rw [← HQI.out, hrn]; rfl
                      clear hg8 hrn HGO
                      have hrs0 := P7.out.rs
                      clear hrs0
                      have hrs_ := P7.out.rs
                      rw [HZ.out] at hrs_
                      obtain ⟨o0, o1, o2, o3, o4, o5⟩ := inscells hrs_
                      obtain ⟨z0, z1, z2, z3, z4, z5⟩ := insfree hrs_
                      simp only [ins0] at o0 o1 o2 o3 o4 o5
                      have HRE := Lib.hid (show (ins0, (3 : Int)) = (j, err) by rw [← HR2.out, HGN.out]; rfl)
                      have HBE := Lib.hid P7.out.bel
                      have hZl := Lib.hid (show w.heap.size ≤ Z by rw [HZ.out]; exact Nat.le_refl _)
                      clear hrs_
                      go_wp2_with fail
                      refine bodyPost_ret (v := .tuple #[.agg #[.int .i64 0, .int .i64 0, .int .i64 0, .int .i64 0, .int .i64 0, .int .u32 0], .int .i64 3]) (by rw [results_cell_tmp rfl]; go_simp) rfl ⟨?_, below_set6 HBE.out hZl.out _ _ _ _ _ _⟩
                      have e_ := HRE.out
                      simp only [Prod.mk.injEq] at e_
                      rw [← e_.1, ← e_.2]
                      rfl
                    | some r0 =>
                      have hg8 := HGO.out
                      rw [hrn] at hg8
                      simp only at hg8
                      have HG8 := Lib.hid hg8
                      obtain rfl : q = (r0 : Int) := by rw [← HQI.out, hrn]; rfl
                      have hq0 : decide ((r0 : Int) < 0) = false := by simp
                      have FI' := FI.out
                      clear hg8 hrn HGO HQI
                      go_wp2_with fail
                      go_roundw
                      case rel => exact ⟨k + 1, a + 1, _, by go_num, by go_num, by omega, by omega, by omega, Lib.hid FI', P7, HG8⟩
                      case measure => simp [intOf]; omega
                  · have hge : n ≤ a := by omega
                    have hdn : (x :: t).drop a = [] := List.drop_eq_nil_of_le (by rw [HN.out]; omega)
                    rw [hdn] at hgo
                    simp only at hgo
                    have HGN := Lib.hid hgo.symm
                    clear hgo hdn han2 c0 c1 c2 c3 c5
                    have hrs_ := P5.out.rs
                    rw [HZ.out] at hrs_
                    obtain ⟨o0, o1, o2, o3, o4, o5⟩ := inscells hrs_
                    obtain ⟨z0, z1, z2, z3, z4, z5⟩ := insfree hrs_
                    simp only [ins0] at o0 o1 o2 o3 o4 o5
                    have HRE := Lib.hid (show (ins0, (3 : Int)) = (j, err) by rw [← HR2.out, HGN.out]; rfl)
                    have HBE := Lib.hid P5.out.bel
                    have hZl := Lib.hid (show w.heap.size ≤ Z by rw [HZ.out]; exact Nat.le_refl _)
                    clear hrs_
                    go_wp2_with fail
                    refine bodyPost_ret (v := .tuple #[.agg #[.int .i64 0, .int .i64 0, .int .i64 0, .int .i64 0, .int .i64 0, .int .u32 0], .int .i64 3]) (by rw [results_cell_tmp rfl]; go_simp) rfl ⟨?_, below_set6 HBE.out hZl.out _ _ _ _ _ _⟩
                    have e_ := HRE.out
                    simp only [Prod.mk.injEq] at e_
                    rw [← e_.1, ← e_.2]
                    rfl
                · by_cases hd2 : id = 2
                  · have hd3 : (id != 2) = false := by simp [hd2]
                    rw [if_neg (by simp [hd2])] at hgo
                    clear hd2
                    by_cases han2 : a < n
                    · have hal : a < (x :: t).length := by rw [HN.out]; exact han2
                      have hanI : (a : Int) < (n : Int) := by omega
                      have ha0I : (0 : Int) ≤ (a : Int) := Int.natCast_nonneg _
                      have hge : ¬ n ≤ a := by omega
                      have CA := P5.out.wd a hal
                      rw [List.drop_eq_getElem_cons hal] at hgo
                      obtain ⟨y, hy⟩ : ∃ y, (x :: t)[a] = y := ⟨_, rfl⟩
                      rw [hy] at CA hgo
                      have hyl : y.length ≤ 5000 := by
                        have : y ∈ x :: t := hy ▸ List.getElem_mem hal
                        rcases List.mem_cons.1 this with rfl | h
                        · exact hx5.out.1
                        · exact hx5.out.2 y h
                      simp only at hgo
                      rw [show fieldP 67 y = regN y from by simp [fieldP]] at hgo
                      obtain ⟨Y, hY⟩ : ∃ Y, bytesOf y = Y := ⟨_, rfl⟩
                      have hYd : Y.data.toList = y := by rw [← hY, bytesOf_data]
                      rw [hY] at CA
                      have HNM := Lib.hid (rdnumber_any Y wr)
                      rw [hYd] at HNM
                      have HYD := Lib.hid hYd
                      have HYL := Lib.hid (show Y.size ≤ 5000 by rw [← hY, bytesOf_size]; exact hyl)
                      clear hy hyl hY hYd hal c0 c1 c2 c3 c5
                      obtain ⟨q, hq⟩ : ∃ q, numI (regN y) = q := ⟨_, rfl⟩
                      rw [hq] at HNM
                      have HQI := Lib.hid hq
                      have HGO := Lib.hid hgo
                      clear hq hgo
                      go_wp2_with fail
                      refine HNM.out.mono ?_
                      rintro r w7 ⟨rfl, h7⟩
                      have P6 := Lib.hid (P5.out.below h7)
                      clear h7 HNM CA c4
                      obtain ⟨c0, c1, c2, c3, c4, c5⟩ := inscells P6.out.ins
                      obtain ⟨y0, y1, y2, y3, y4, y5⟩ := insfree P6.out.ins
                      simp only at c0 c1 c2 c3 c4 c5
                      have P7 := Lib.hid (P6.out.set 3 (.int .i64 q) (i' := { (⟨iop, ia, ib, ic, id, ik⟩ : Ins) with c := q }) rfl)
                      cases hrn : regN y with
                      | none =>
                        have hg8 := HGO.out
                        rw [hrn] at hg8
                        simp only at hg8
                        have HGN := Lib.hid hg8.symm
                        obtain rfl : q = -1 := by rw [← HQI.out, hrn]; rfl
                        clear hg8 hrn HGO
                        have hrs0 := P7.out.rs
                        clear hrs0
                        have hrs_ := P7.out.rs
                        rw [HZ.out] at hrs_
                        obtain ⟨o0, o1, o2, o3, o4, o5⟩ := inscells hrs_
                        obtain ⟨z0, z1, z2, z3, z4, z5⟩ := insfree hrs_
                        simp only [ins0] at o0 o1 o2 o3 o4 o5
                        have HRE := Lib.hid (show (ins0, (3 : Int)) = (j, err) by rw [← HR2.out, HGN.out]; rfl)
                        have HBE := Lib.hid P7.out.bel
                        have hZl := Lib.hid (show w.heap.size ≤ Z by rw [HZ.out]; exact Nat.le_refl _)
                        clear hrs_
                        go_wp2_with fail
                        refine bodyPost_ret (v := .tuple #[.agg #[.int .i64 0, .int .i64 0, .int .i64 0, .int .i64 0, .int .i64 0, .int .u32 0], .int .i64 3]) (by rw [results_cell_tmp rfl]; go_simp) rfl ⟨?_, below_set6 HBE.out hZl.out _ _ _ _ _ _⟩
                        have e_ := HRE.out
                        simp only [Prod.mk.injEq] at e_
                        rw [← e_.1, ← e_.2]
                        rfl
                      | some r0 =>
                        have hg8 := HGO.out
                        rw [hrn] at hg8
                        simp only at hg8
                        have HG8 := Lib.hid hg8
                        obtain rfl : q = (r0 : Int) := by rw [← HQI.out, hrn]; rfl
                        have hq0 : decide ((r0 : Int) < 0) = false := by simp
                        have FI' := FI.out
                        clear hg8 hrn HGO HQI
                        go_wp2_with fail
                        go_roundw
                        case rel => exact ⟨k + 1, a + 1, _, by go_num, by go_num, by omega, by omega, by omega, Lib.hid FI', P7, HG8⟩
                        case measure => simp [intOf]; omega
                    · have hge : n ≤ a := by omega
                      have hdn : (x :: t).drop a = [] := List.drop_eq_nil_of_le (by rw [HN.out]; omega)
                      rw [hdn] at hgo
                      simp only at hgo
                      have HGN := Lib.hid hgo.symm
                      clear hgo hdn han2 c0 c1 c2 c3 c5
                      have hrs_ := P5.out.rs
                      rw [HZ.out] at hrs_
                      obtain ⟨o0, o1, o2, o3, o4, o5⟩ := inscells hrs_
                      obtain ⟨z0, z1, z2, z3, z4, z5⟩ := insfree hrs_
                      simp only [ins0] at o0 o1 o2 o3 o4 o5
                      have HRE := Lib.hid (show (ins0, (3 : Int)) = (j, err) by rw [← HR2.out, HGN.out]; rfl)
                      have HBE := Lib.hid P5.out.bel
                      have hZl := Lib.hid (show w.heap.size ≤ Z by rw [HZ.out]; exact Nat.le_refl _)
                      clear hrs_
                      go_wp2_with fail
                      refine bodyPost_ret (v := .tuple #[.agg #[.int .i64 0, .int .i64 0, .int .i64 0, .int .i64 0, .int .i64 0, .int .u32 0], .int .i64 3]) (by rw [results_cell_tmp rfl]; go_simp) rfl ⟨?_, below_set6 HBE.out hZl.out _ _ _ _ _ _⟩
                      have e_ := HRE.out
                      simp only [Prod.mk.injEq] at e_
                      rw [← e_.1, ← e_.2]
                      rfl
                  · have hd3 : (id != 2) = true := by simp [hd2]
                    rw [if_pos (by simp [hd2])] at hgo
                    have HG8 := Lib.hid hgo
                    have FI' := FI.out
                    clear hd2 hgo
                    go_wp2_with fail
                    go_roundw
                    case rel => exact ⟨k + 1, a, _, by go_num, rfl, by omega, by omega, by omega, Lib.hid FI', P5, HG8⟩
                    case measure => simp [intOf]; omega
              · rw [show ((75 : UInt8)).toNat = 75 from rfl] at hCt
                rw [if_neg (by simp)] at hgo
                by_cases han2 : a < n
                · have hal : a < (x :: t).length := by rw [HN.out]; exact han2
                  have hanI : (a : Int) < (n : Int) := by omega
                  have ha0I : (0 : Int) ≤ (a : Int) := Int.natCast_nonneg _
                  have hge : ¬ n ≤ a := by omega
                  have CA := P5.out.wd a hal
                  rw [List.drop_eq_getElem_cons hal] at hgo
                  obtain ⟨y, hy⟩ : ∃ y, (x :: t)[a] = y := ⟨_, rfl⟩
                  rw [hy] at CA hgo
                  have hyl : y.length ≤ 5000 := by
                    have : y ∈ x :: t := hy ▸ List.getElem_mem hal
                    rcases List.mem_cons.1 this with rfl | h
                    · exact hx5.out.1
                    · exact hx5.out.2 y h
                  simp only at hgo
                  rw [show fieldP 75 y = numOk 32 y from by simp [fieldP]] at hgo
                  obtain ⟨Y, hY⟩ : ∃ Y, bytesOf y = Y := ⟨_, rfl⟩
                  have hYd : Y.data.toList = y := by rw [← hY, bytesOf_data]
                  rw [hY] at CA
                  have HNM := Lib.hid (rdnumber_any Y wr)
                  rw [hYd] at HNM
                  have HYD := Lib.hid hYd
                  have HYL := Lib.hid (show Y.size ≤ 5000 by rw [← hY, bytesOf_size]; exact hyl)
                  clear hy hyl hY hYd hal
                  have HGO := Lib.hid hgo
                  clear hgo
                  have HNU := Lib.hid (fun w' => rnum_any 32 (by omega) (by omega) 4294967295 (by decide) Y HYL.out w')
                  rw [HYD.out] at HNU
                  go_wp2_with fail
                  refine HNM.out.mono ?_
                  rintro r w7 ⟨rfl, h7⟩
                  have P6 := Lib.hid (P5.out.below h7)
                  have CA2 := cell_kept h7 CA
                  clear h7 HNM CA P5
                  cases hrn : numOk 32 y with
                  | none =>
                    rw [hrn] at HNU
                    simp only [Option.getD_none, Option.isSome_none] at HNU
                    have hg8 := HGO.out
                    rw [hrn] at hg8
                    simp only at hg8
                    have HGN := Lib.hid hg8.symm
                    clear hg8 hrn HGO
                    go_wp2_with fail
                    refine (HNU.out _).mono ?_
                    rintro r w8 ⟨rfl, rfl⟩
                    obtain ⟨c0, c1, c2, c3, c4, c5⟩ := inscells P6.out.ins
                    obtain ⟨y0, y1, y2, y3, y4, y5⟩ := insfree P6.out.ins
                    simp only at c0 c1 c2 c3 c4 c5
                    have P7 := Lib.hid (P6.out.set 5 (.int .u32 0) (i' := { (⟨iop, ia, ib, ic, id, ik⟩ : Ins) with k := 0 }) rfl)
                    have hrs_ := P7.out.rs
                    rw [HZ.out] at hrs_
                    obtain ⟨o0, o1, o2, o3, o4, o5⟩ := inscells hrs_
                    obtain ⟨z0, z1, z2, z3, z4, z5⟩ := insfree hrs_
                    simp only [ins0] at o0 o1 o2 o3 o4 o5
                    have HRE := Lib.hid (show (ins0, (3 : Int)) = (j, err) by rw [← HR2.out, HGN.out]; rfl)
                    have HBE := Lib.hid P7.out.bel
                    have hZl := Lib.hid (show w.heap.size ≤ Z by rw [HZ.out]; exact Nat.le_refl _)
                    clear hrs_
                    go_wp2_with fail
                    refine bodyPost_ret (v := .tuple #[.agg #[.int .i64 0, .int .i64 0, .int .i64 0, .int .i64 0, .int .i64 0, .int .u32 0], .int .i64 3]) (by rw [results_cell_tmp rfl]; go_simp) rfl ⟨?_, below_set6 HBE.out hZl.out _ _ _ _ _ _⟩
                    have e_ := HRE.out
                    simp only [Prod.mk.injEq] at e_
                    rw [← e_.1, ← e_.2]
                    rfl
                  | some r0 =>
                    rw [hrn] at HNU
                    simp only [Option.getD_some, Option.isSome_some] at HNU
                    have hr32 : r0 < 4294967296 := num_lt (B := 32) (by omega) hrn
                    have hr32I : (r0 : Int) < 4294967296 := by omega
                    have hr0I : (0 : Int) ≤ (r0 : Int) := Int.natCast_nonneg _
                    have hw32 : IntKind.u32.wrap (r0 : Int) = r0 := by rw [IntKind.wrap_u32]; omega
                    have hg8 := HGO.out
                    rw [hrn] at hg8
                    simp only at hg8
                    have HG8 := Lib.hid hg8
                    have FI' := Lib.hid (show iop = op ∧ r0 < 4294967296 from ⟨FI.out.1, hr32⟩)
                    clear hg8 hrn HGO
                    go_wp2_with fail
                    refine (HNU.out _).mono ?_
                    rintro r w8 ⟨rfl, rfl⟩
                    obtain ⟨c0, c1, c2, c3, c4, c5⟩ := inscells P6.out.ins
                    obtain ⟨y0, y1, y2, y3, y4, y5⟩ := insfree P6.out.ins
                    simp only at c0 c1 c2 c3 c4 c5
                    have P7 := Lib.hid (P6.out.set 5 (.int .u32 (r0 : Int)) (i' := { (⟨iop, ia, ib, ic, id, ik⟩ : Ins) with k := r0 }) rfl)
                    go_wp2_with fail
                    go_roundw
                    case rel => exact ⟨k + 1, a + 1, _, by go_num, by go_num, by omega, by omega, by omega, FI', P7, HG8⟩
                    case measure => simp [intOf]; omega
                · have hge : n ≤ a := by omega
                  have hdn : (x :: t).drop a = [] := List.drop_eq_nil_of_le (by rw [HN.out]; omega)
                  rw [hdn] at hgo
                  simp only at hgo
                  have HGN := Lib.hid hgo.symm
                  clear hgo hdn han2
                  have hrs_ := P5.out.rs
                  rw [HZ.out] at hrs_
                  obtain ⟨o0, o1, o2, o3, o4, o5⟩ := inscells hrs_
                  obtain ⟨z0, z1, z2, z3, z4, z5⟩ := insfree hrs_
                  simp only [ins0] at o0 o1 o2 o3 o4 o5
                  have HRE := Lib.hid (show (ins0, (3 : Int)) = (j, err) by rw [← HR2.out, HGN.out]; rfl)
                  have HBE := Lib.hid P5.out.bel
                  have hZl := Lib.hid (show w.heap.size ≤ Z by rw [HZ.out]; exact Nat.le_refl _)
                  clear hrs_
                  go_wp2_with fail
                  refine bodyPost_ret (v := .tuple #[.agg #[.int .i64 0, .int .i64 0, .int .i64 0, .int .i64 0, .int .i64 0, .int .u32 0], .int .i64 3]) (by rw [results_cell_tmp rfl]; go_simp) rfl ⟨?_, below_set6 HBE.out hZl.out _ _ _ _ _ _⟩
                  have e_ := HRE.out
                  simp only [Prod.mk.injEq] at e_
                  rw [← e_.1, ← e_.2]
                  rfl
            · obtain rfl : k = m := by omega
              have hgo := HGo.out
              rw [List.drop_eq_nil_of_le (by rw [HM.out]; exact Nat.le_refl _), goP.eq_def] at hgo
              simp only at hgo
              obtain ⟨hio, hik⟩ := FI.out
              simp only at hio hik
              obtain rfl := hio.symm
              have HIK := Lib.hid hik
              obtain ⟨c0, c1, c2, c3, c4, c5⟩ := inscells P5.out.ins
              simp only at c0 c1 c2 c3 c4 c5
              clear HGo hio hik FI hlt0
              by_cases hop0 : op = 0
              · have h0 : ((op : Int) == 0) = true := by simp [hop0]
                have HRE := Lib.hid (show (ins0, (3 : Int)) = (j, err) by rw [← hres.out, if_pos hop0]; rfl)
                clear hop0 hgo hres
                have hrs_ := P5.out.rs
                rw [HZ.out] at hrs_
                obtain ⟨o0, o1, o2, o3, o4, o5⟩ := inscells hrs_
                obtain ⟨z0, z1, z2, z3, z4, z5⟩ := insfree hrs_
                simp only [ins0] at o0 o1 o2 o3 o4 o5
                have HBE := Lib.hid P5.out.bel
                have hZl := Lib.hid (show w.heap.size ≤ Z by rw [HZ.out]; exact Nat.le_refl _)
                clear hrs_
                go_wp2_with fail
                refine bodyPost_ret (v := .tuple #[.agg #[.int .i64 0, .int .i64 0, .int .i64 0, .int .i64 0, .int .i64 0, .int .u32 0], .int .i64 3]) (by rw [results_cell_tmp rfl]; go_simp) rfl ⟨?_, below_set6 HBE.out hZl.out _ _ _ _ _ _⟩
                have e_ := HRE.out
                simp only [Prod.mk.injEq] at e_
                rw [← e_.1, ← e_.2]
                rfl
              · have h0 : ((op : Int) == 0) = false := by simp; omega
                have hr2 := hres.out
                rw [if_neg hop0] at hr2
                have HR2 := Lib.hid hr2
                clear hop0 hr2 hres
                by_cases han3 : a = n
                · obtain rfl : a = n := han3
                  rw [if_pos (List.drop_eq_nil_of_le (by rw [HN.out]; exact Nat.le_refl _))] at hgo
                  have HGS := Lib.hid hgo
                  have HFm := Lib.hid (fun w' => riform_any ⟨op, ia, ib, ic, id, ik⟩ w')
                  obtain ⟨f, hf⟩ : ∃ f, formI ⟨op, ia, ib, ic, id, ik⟩ = f := ⟨_, rfl⟩
                  rw [hf] at HFm
                  have HFF := Lib.hid hf
                  unfold insV at HFm
                  simp only at HFm
                  clear hgo hf
                  go_wp2_with fail
                  refine (HFm.out _).mono ?_
                  rintro r w8 ⟨rfl, h8⟩
                  have P6 := Lib.hid (P5.out.below h8)
                  clear h8 HFm c0 c1 c2 c3 c4 c5
                  obtain ⟨c0, c1, c2, c3, c4, c5⟩ := inscells P6.out.ins
                  simp only at c0 c1 c2 c3 c4 c5
                  by_cases hf0 : f = 0
                  · subst hf0
                    have HRE := Lib.hid (show ((⟨op, ia, ib, ic, id, ik⟩ : Ins), (0 : Int)) = (j, err) by rw [← HR2.out, ← HGS.out, parseO, if_pos HFF.out])
                    have hrs_ := P6.out.rs
                    rw [HZ.out] at hrs_
                    obtain ⟨o0, o1, o2, o3, o4, o5⟩ := inscells hrs_
                    obtain ⟨z0, z1, z2, z3, z4, z5⟩ := insfree hrs_
                    simp only [ins0] at o0 o1 o2 o3 o4 o5
                    have HBE := Lib.hid P6.out.bel
                    have hZl := Lib.hid (show w.heap.size ≤ Z by rw [HZ.out]; exact Nat.le_refl _)
                    clear hrs_
                    go_wp2_with fail
                    refine bodyPost_ret (v := .tuple #[.agg #[.int .i64 (op : Int), .int .i64 ia, .int .i64 ib, .int .i64 ic, .int .i64 id, .int .u32 (ik : Int)], .int .i64 0]) (by rw [results_cell_tmp rfl]; go_simp) rfl ⟨?_, below_set6 HBE.out hZl.out _ _ _ _ _ _⟩
                    have e_ := HRE.out
                    simp only [Prod.mk.injEq] at e_
                    rw [← e_.1, ← e_.2]
                    rfl
                  · have hf1 : (f != 0) = true := by simp [hf0]
                    have HRE := Lib.hid (show (ins0, f) = (j, err) by rw [← HR2.out, ← HGS.out, parseO, if_neg (by rw [HFF.out]; exact hf0), HFF.out])
                    clear hf0
                    have hrs_ := P6.out.rs
                    rw [HZ.out] at hrs_
                    obtain ⟨o0, o1, o2, o3, o4, o5⟩ := inscells hrs_
                    obtain ⟨z0, z1, z2, z3, z4, z5⟩ := insfree hrs_
                    simp only [ins0] at o0 o1 o2 o3 o4 o5
                    have HBE := Lib.hid P6.out.bel
                    have hZl := Lib.hid (show w.heap.size ≤ Z by rw [HZ.out]; exact Nat.le_refl _)
                    clear hrs_
                    go_wp2_with fail
                    refine bodyPost_ret (v := .tuple #[.agg #[.int .i64 0, .int .i64 0, .int .i64 0, .int .i64 0, .int .i64 0, .int .u32 0], .int .i64 f]) (by rw [results_cell_tmp rfl]; go_simp) rfl ⟨?_, below_set6 HBE.out hZl.out _ _ _ _ _ _⟩
                    have e_ := HRE.out
                    simp only [Prod.mk.injEq] at e_
                    rw [← e_.1, ← e_.2]
                    rfl
                · have hlta : a < n := by omega
                  rw [if_neg (by
                    intro e_
                    have := List.drop_eq_nil_iff.1 e_
                    rw [HN.out] at this
                    omega)] at hgo
                  have HRE := Lib.hid (show (ins0, (3 : Int)) = (j, err) by rw [← HR2.out, ← hgo]; rfl)
                  clear hgo
                  have hrs_ := P5.out.rs
                  rw [HZ.out] at hrs_
                  obtain ⟨o0, o1, o2, o3, o4, o5⟩ := inscells hrs_
                  obtain ⟨z0, z1, z2, z3, z4, z5⟩ := insfree hrs_
                  simp only [ins0] at o0 o1 o2 o3 o4 o5
                  have HBE := Lib.hid P5.out.bel
                  have hZl := Lib.hid (show w.heap.size ≤ Z by rw [HZ.out]; exact Nat.le_refl _)
                  clear hrs_
                  go_wp2_with fail
                  refine bodyPost_ret (v := .tuple #[.agg #[.int .i64 0, .int .i64 0, .int .i64 0, .int .i64 0, .int .i64 0, .int .u32 0], .int .i64 3]) (by rw [results_cell_tmp rfl]; go_simp) rfl ⟨?_, below_set6 HBE.out hZl.out _ _ _ _ _ _⟩
                  have e_ := HRE.out
                  simp only [Prod.mk.injEq] at e_
                  rw [← e_.1, ← e_.2]
                  rfl
theorem rdparse_any (s : ByteArray) (hs : s.size ≤ 5000) (w : World) :
    Calls Tryd.prog 14 #[.string s] w fun r w' => r = .returned (.tuple #[insV (parseI s.data.toList).1, .int .i64 (parseI s.data.toList).2]) ∧ Below w.heap.size w w' := by
  obtain ⟨x, t, hw⟩ : ∃ x t, words s.data.toList = x :: t := by
    cases h : words s.data.toList with
    | nil => exact absurd h (words_ne _)
    | cons x t => exact ⟨x, t, rfl⟩
  refine rdparse_walk s x t (Lib.hid hw) hs (opOf x) (Lib.hid rfl) _ (Lib.hid rfl) _ _ (Lib.hid ?_) w
  unfold parseI
  rw [hw, ← readP_is]
  rfl

end Go.Proofs.YtlnlfeninjjkmaaDoor
