/-
  What register and Line of package listing do, over this seat's translation. Conditions: the listed variables (LsL).
-/
import Derived.Test.YtlnlfeninjjkmaaDoorLsP
import Derived.Test.YtlnlfeninjjkmaaDoorEvRef4
namespace Go.Proofs.YtlnlfeninjjkmaaDoor
open Go.RowKit
set_option linter.unusedVariables false
set_option linter.unusedSimpArgs false

set_option maxRecDepth 100000 in
theorem iregister_any (n : Nat) (hn : n < 8) (w : World) :
    Calls Tryd.prog 23 #[.int .i64 (n : Int)] w fun r w' => r = .returned (.string (bytesOf (regW n))) ∧ w = w' := by
  have H := Lib.hid (Tryd.strconv_Itoa_small n (by omega) w)
  have hs : (bytesOf (Lib.decDigits n)).size ≤ 20 := by rw [bytesOf_size]; exact dec_len n (by omega)
  have he := Lib.hid (show (⟨#[114]⟩ : ByteArray) ++ bytesOf (Lib.decDigits n) = bytesOf (regW n) by
    rw [show (⟨#[114]⟩ : ByteArray) = bytesOf [114] from rfl, bytesOf_app]; rfl)
  have e0 : (⟨(Lib.decDigits n).toArray⟩ : ByteArray) = bytesOf (Lib.decDigits n) := rfl
  rw [e0] at H
  generalize bytesOf (Lib.decDigits n) = X at *
  have h1 : ¬ 9223372036854775807 < 1 + X.size := by omega
  clear hn e0 hs
  go_enter Tryd.func23, Tryd.ntmps23
  go_wp2_with fail
  refine H.out.mono ?_
  rintro r w1 ⟨rfl, rfl⟩
  go_wp2
  go_ret
  exact ⟨by rw [← he.out]; rfl, rfl⟩

theorem join_words : ∀ ws : List (List UInt8), Lib.join ws [32] = unwords ws := by
  intro ws
  induction ws with
  | nil => rfl
  | cons x t ih =>
    cases t with
    | nil => rw [Lib.join_one]; rfl
    | cons y r =>
      have e : unwords (x :: y :: r) = x ++ 32 :: unwords (y :: r) := rfl
      rw [e, ← ih, Lib.join_cons, Lib.join_cons]
      simp [Lib.joinTail]

theorem Strs.room {w : World} {B : Nat} {v : Value} {ws : List (List UInt8)} (h : Strs w B v ws) (hne : ws ≠ []) : ∃ g cap, v = .slice (some ⟨g, 0, none⟩) ws.length cap ∧ B ≤ g ∧ g < w.heap.size ∧ ws.length ≤ cap := by
  have h' := h
  rcases h'.2 with ⟨_, hn⟩ | ⟨g, cap, cur, hv, hb, hg, hc, _⟩
  · exact absurd (List.length_eq_zero_iff.1 hn) hne
  · exact ⟨g, cap, hv, hb, blk_lt hg, hc⟩

/-- A row of words, put behind a world in which an instruction lies: nothing below is turned. -/
structure WdS (w1 w : World) (v : Value) (ws : List (List UInt8)) : Prop where
  row : Strs w w1.heap.size v ws
  bel : Below w1.heap.size w1 w

theorem WdS.put {w1 w w2 : World} {v v' : Value} {ws : List (List UInt8)} {x : List UInt8} (h : WdS w1 w v ws) (hb : Below w1.heap.size w1 w2) (hs : w1.heap.size ≤ w2.heap.size) (hv : ∀ k, v.ownBlock = some k → w1.heap.size ≤ k)
    {w3 : World} (ho : w3.ownsRow w1.heap.size 9 1 v' (ws.length + 1) (strC ws ++ [.string (bytesOf x)])) (hg : w2.grownBy w3 v.ownBlock) : WdS w1 w3 v' (ws ++ [x]) := by
  refine ⟨?_, hb.grown hg hs hv⟩
  show w3.ownsRow _ _ _ _ (ws ++ [x]).length (strC (ws ++ [x]))
  have e : strC (ws ++ [x]) = strC ws ++ [.string (bytesOf x)] := by simp [strC]
  rw [e, List.length_append]
  exact ho

theorem row_below {w w' : World} {base B : Nat} {e : TypeId} {size : Nat} {v : Value} {n : Nat} {xs : List Value} (h : w.ownsRow base e size v n xs) (hb : Below w.heap.size w w') : w'.ownsRow base e size v n xs :=
  row_only h (Only.of_below hb (fun _ => False)) (fun _ _ h => h)
theorem WdS.below {w1 w w' : World} {v : Value} {ws : List (List UInt8)} (h : WdS w1 w v ws) (hb : Below w.heap.size w w') : WdS w1 w' v ws :=
  ⟨row_below (B := 0) h.row hb, below_on h.bel hb⟩

theorem seg_one (w : World) (s : ByteArray) : ∀ j u, [Value.string s][j]? = some u → (w.alloc (.cells #[.string s] 9)).cell? ((⟨w.heap.size, 0, none⟩ : Addr).add j) = some u := by
  intro j u hj
  match j, hj with
  | 0, hj => simp at hj; subst hj; simp [Addr.add]

set_option maxRecDepth 100000 in
set_option maxHeartbeats 4000000 in
theorem iline_walk (op a b c d k : Nat) (ha : a < 8) (hb : b < 8) (hc : c < 8) (hd : d < 3) (hk : k < 4294967296) (X0 : List UInt8) (fA fB fC fD fK cc : Bool) (res : ByteArray) (w : World) (hL : LsL w)
    (HF : Hid (∀ w', IsL w' → Calls Tryd.prog 20 #[insV ⟨op, a, b, c, d, k⟩] w' fun r w'' => r = .returned (.int .i64 0) ∧ Below w'.heap.size w' w''))
    (HN : Hid (∀ w', IsL w' → Calls Tryd.prog 21 #[.int .i64 (op : Int)] w' fun r w'' => r = .returned (.string (bytesOf X0)) ∧ w' = w''))
    (HU : Hid (∀ w', IsL w' → Calls Tryd.prog 22 #[.int .i64 (op : Int)] w' fun e w'' => e = .returned (.tuple #[.bool fA, .bool fB, .bool fC, .bool fD, .bool fK]) ∧ w' = w''))
    (hcc : Hid (cc = (fC && (!fD || decide ((d : Int) = 2)))))
    (hr : Hid (bytesOf (unwords ([X0] ++ optW fA (regW a) ++ optW fB (regW b) ++ optW fD (modeW d) ++ optW cc (regW c) ++ optW fK (Lib.decDigits k))) = res)) 
    (hsz : Hid ((unwords ([X0] ++ optW fA (regW a) ++ optW fB (regW b) ++ optW fD (modeW d) ++ optW cc (regW c) ++ optW fK (Lib.decDigits k))).length ≤ 1000)) :
    Calls Tryd.prog 10 #[insV ⟨op, a, b, c, d, k⟩] w fun r w' => r = .returned (.tuple #[.string res, .int .i64 0]) ∧ Below w.heap.size w w' := by
  obtain ⟨i0, hi, hz0, hz1, hz2⟩ := info_parts Tryd.infoStr
  obtain ⟨w1, e1⟩ : ∃ w1, w1 = w.alloc (insO ⟨op, a, b, c, d, k⟩) := ⟨_, rfl⟩
  obtain ⟨s1, n1, b1⟩ := new_size e1
  have hE : w.heap.size < w1.heap.size := by omega
  obtain ⟨E, eE⟩ : ∃ E, w.heap.size = E := ⟨_, rfl⟩
  rw [eE] at n1 hE
  have N1 := Lib.hid n1
  have B1 := Lib.hid b1
  have L1 := Lib.hid (hL.below b1)
  have HE := Lib.hid eE
  obtain ⟨c0, c1, c2, c3, c4, c5⟩ := inscells n1
  simp only at c0 c1 c2 c3 c4 c5
  replace e1 : w1 = w.alloc (.cells #[.int .i64 (op : Int), .int .i64 (a : Int), .int .i64 (b : Int), .int .i64 (c : Int), .int .i64 (d : Int), .int .u32 (k : Int)] 24) := e1
  clear s1 n1 b1 hL eE
  unfold insV at *
  simp only at *
  go_enter Tryd.func10, Tryd.ntmps10
  go_wp2_with fail
  rw [← e1, HE.out]
  clear e1
  refine (HF.out w1 L1.out.is).mono ?_
  rintro r w2 ⟨rfl, h2⟩
  have B2 := Lib.hid h2
  obtain ⟨c0, c1, c2, c3, c4, c5⟩ := inscells (blk_on h2 N1.out)
  simp only at c0 c1 c2 c3 c4 c5
  clear h2 HF
  go_wp2_with fail
  refine (HN.out w2 (L1.out.below B2.out).is).mono ?_
  rintro r w3 ⟨rfl, rfl⟩
  obtain ⟨w3, e3⟩ : ∃ w3, w3 = w2.alloc (.cells #[.string (bytesOf X0)] 9) := ⟨_, rfl⟩
  have hW : WdS w1 w3 (.slice (some ⟨w2.heap.size, 0, none⟩) 1 1) [X0] := by
    rw [e3]
    exact ⟨World.ownsRow_lit w2 #[.string (bytesOf X0)] 1 B2.out.size (by decide) rfl, B2.out.alloc B2.out.size _⟩
  have X0' := Lib.hid hW
  obtain ⟨c0, c1, c2, c3, c4, c5⟩ := inscells (blk_on hW.bel N1.out)
  simp only at c0 c1 c2 c3 c4 c5
  clear hW HN
  go_upto_region 5 with fail
  rw [← e3]
  clear e3
  go_wp2_with fail
  refine (HU.out w3 (L1.out.below X0'.out.bel).is).mono ?_
  rintro r w4 ⟨rfl, rfl⟩
  clear HU c0 c1 c2 c3 c4 c5
  go_upto_if 29 with fail
  go_cut [5] (fun x wx => Hid (WdS w1 wx x ([X0] ++ optW fA (regW a))))
  case first =>
    cases fA
    · go_wp2_with fail
      go_meet
      exact Lib.hid (by rw [show optW false (regW a) = [] from rfl, List.append_nil]; exact X0'.out)
    · have hne : ([X0]) ≠ [] := by simp
      have hlen : ([X0]).length ≤ 6 := by
        simp only [List.length_append, List.length_cons, List.length_nil]
        omega
      obtain ⟨g, cap, hv, hg1, hg2⟩ := X0'.out.row.shape hne
      obtain ⟨c0, c1, c2, c3, c4, c5⟩ := inscells (blk_on X0'.out.bel N1.out)
      simp only at c0 c1 c2 c3 c4 c5
      have hbs := X0'.out.bel.size
      have HX := X0'
      obtain ⟨ws_, hws⟩ : ∃ ws_, ([X0]) = ws_ := ⟨_, rfl⟩
      have hl1 : ws_.length = 1 := by rw [← hws]; rfl
      rw [hws] at HX hlen
      have HWS := Lib.hid hws
      have HO := fun o => World.ownsRow.alloc HX.out.row o
      rw [hl1] at HO
      have HL1 := Lib.hid hl1
      clear hl1 hv
      clear X0' hne hws
      go_wp2_with fail
      refine (iregister_any a ha _).mono ?_
      rintro r wy ⟨rfl, rfl⟩
      go_wp2_with (at_builtin; refine wpList_append_own _ rfl _ _ 52 rfl w1.heap.size 9 i0 (.string ByteArray.empty) 1 16 Tryd.underlying52 hi hz0 hz1 hz2 rfl (by decide) _ _ _ rfl (HO _) _ 1 1 [Value.string (bytesOf (regW a))] rfl rfl (seg_one _ _) (by simp [Value.oneCell']) (by unfold maxLen; omega) (by omega) (by simp; omega) ?_)
      intro v' w4 hown1 hg1' hne1
      have HS := Lib.hid (WdS.put (x := regW a) HX.out (HX.out.bel.alloc (by have := HX.out.bel.size; omega) _) (by simp; omega) (fun kk hk => by simp [Value.ownBlock] at hk; have := B2.out.size; omega) (by rw [HL1.out]; exact hown1) hg1')
      clear hown1 hg1' hne1 HO
      go_wp2_with fail
      go_meet
      exact Lib.hid (by rw [HWS.out]; exact HS.out)
  case rest =>
  have X1' := hcut
  clear hcut X0'
  go_upto_if 36 with fail
  go_cut [5] (fun x wx => Hid (WdS w1 wx x ([X0] ++ optW fA (regW a) ++ optW fB (regW b))))
  case first =>
    cases fB
    · go_wp2_with fail
      go_meet
      exact Lib.hid (by rw [show optW false (regW b) = [] from rfl, List.append_nil]; exact X1'.out)
    · have hne : ([X0] ++ optW fA (regW a)) ≠ [] := by simp
      have hlen : ([X0] ++ optW fA (regW a)).length ≤ 6 := by
        simp only [List.length_append, List.length_cons, List.length_nil]
        have := optW_len fA (regW a)
        omega
      obtain ⟨g, cap, rfl, hg1, hg2⟩ := X1'.out.row.shape hne
      obtain ⟨c0, c1, c2, c3, c4, c5⟩ := inscells (blk_on X1'.out.bel N1.out)
      simp only at c0 c1 c2 c3 c4 c5
      have hbs := X1'.out.bel.size
      have HX := X1'
      obtain ⟨ws_, hws⟩ : ∃ ws_, ([X0] ++ optW fA (regW a)) = ws_ := ⟨_, rfl⟩
      rw [hws] at HX hlen
      have HWS := Lib.hid hws
      rw [hws]
      have HO := fun o => World.ownsRow.alloc HX.out.row o
      clear X1' hne hws
      go_wp2_with fail
      refine (iregister_any b hb _).mono ?_
      rintro r wy ⟨rfl, rfl⟩
      go_wp2_with (at_builtin; refine wpList_append_own _ rfl _ _ 52 rfl w1.heap.size 9 i0 (.string ByteArray.empty) 1 16 Tryd.underlying52 hi hz0 hz1 hz2 rfl (by decide) _ _ _ rfl (HO _) _ 1 1 [Value.string (bytesOf (regW b))] rfl rfl (seg_one _ _) (by simp [Value.oneCell']) (by unfold maxLen; omega) (by omega) (by simp; omega) ?_)
      intro v' w4 hown1 hg1' hne1
      have HS := Lib.hid (WdS.put (x := regW b) HX.out (HX.out.bel.alloc (by have := HX.out.bel.size; omega) _) (by simp; omega) (fun kk hk => by simp [Value.ownBlock] at hk; have := B2.out.size; omega) hown1 hg1')
      clear hown1 hg1' hne1 HO
      go_wp2_with fail
      go_meet
      exact Lib.hid (by rw [HWS.out]; exact HS.out)
  case rest =>
  have X2' := hcut
  clear hcut X1'
  go_upto_if 43 with fail
  go_cut [5] (fun x wx => Hid (WdS w1 wx x ([X0] ++ optW fA (regW a) ++ optW fB (regW b) ++ optW fD (modeW d))))
  case first =>
    cases fD
    · go_wp2_with fail
      go_meet
      exact Lib.hid (by rw [show optW false (modeW d) = [] from rfl, List.append_nil]; exact X2'.out)
    · have hne : ([X0] ++ optW fA (regW a) ++ optW fB (regW b)) ≠ [] := by simp
      have hlen : ([X0] ++ optW fA (regW a) ++ optW fB (regW b)).length ≤ 6 := by
        simp only [List.length_append, List.length_cons, List.length_nil]
        have := optW_len fA (regW a)
        have := optW_len fB (regW b)
        omega
      obtain ⟨g, cap, rfl, hg1, hg2⟩ := X2'.out.row.shape hne
      obtain ⟨c0, c1, c2, c3, c4, c5⟩ := inscells (blk_on X2'.out.bel N1.out)
      simp only at c0 c1 c2 c3 c4 c5
      have hbs := X2'.out.bel.size
      have HX := X2'
      obtain ⟨ws_, hws⟩ : ∃ ws_, ([X0] ++ optW fA (regW a) ++ optW fB (regW b)) = ws_ := ⟨_, rfl⟩
      rw [hws] at HX hlen
      have HWS := Lib.hid hws
      rw [hws]
      have HO := fun o => World.ownsRow.alloc HX.out.row o
      clear X2' hne hws
      have hm := (L1.out.below HX.out.bel).md d hd
      have hd3 : (d : Int) < 3 := by omega
      have hd0 : (0 : Int) ≤ d := Int.natCast_nonneg _
      go_wp2_with (at_builtin; refine wpList_append_own _ rfl _ _ 52 rfl w1.heap.size 9 i0 (.string ByteArray.empty) 1 16 Tryd.underlying52 hi hz0 hz1 hz2 rfl (by decide) _ _ _ rfl (HO _) _ 1 1 [Value.string (bytesOf (modeW d))] rfl rfl (seg_one _ _) (by simp [Value.oneCell']) (by unfold maxLen; omega) (by omega) (by simp; omega) ?_)
      intro v' w4 hown1 hg1' hne1
      have HS := Lib.hid (WdS.put (x := modeW d) HX.out (HX.out.bel.alloc (by have := HX.out.bel.size; omega) _) (by simp; omega) (fun kk hk => by simp [Value.ownBlock] at hk; have := B2.out.size; omega) hown1 hg1')
      clear hown1 hg1' hne1 HO
      go_wp2_with fail
      go_meet
      exact Lib.hid (by rw [HWS.out]; exact HS.out)
  case rest =>
  have X3' := hcut
  clear hcut X2'
  go_upto_region 12 with fail
  go_cut [56] (fun x wx => x = .bool cc ∧ Hid (WdS w1 wx u5 ([X0] ++ optW fA (regW a) ++ optW fB (regW b) ++ optW fD (modeW d))))
  case first =>
    cases fC
    · obtain rfl : cc = false := hcc.out
      go_wp2_with fail
      go_meet
      exact ⟨rfl, X3'⟩
    · have HD := Lib.hid (show (!fD || decide ((d : Int) = 2)) = cc by rw [hcc.out]; rfl)
      obtain ⟨c0, c1, c2, c3, c4, c5⟩ := inscells (blk_on X3'.out.bel N1.out)
      simp only at c0 c1 c2 c3 c4 c5
      go_wp2_with fail
      refine (iclocked_any ⟨op, a, b, c, d, k⟩ fD _).mono ?_
      rintro e wy ⟨rfl, hy⟩
      have hown := X3'.out.row
      have Y := Lib.hid ((X3'.out.below hy))
      clear hy c0 c1 c2 c3 c4 c5 hown
      simp only [HD.out]
      go_wp2_with fail
      go_meet
      exact ⟨rfl, Y⟩
  case rest =>
  obtain ⟨rfl, XX⟩ := hcut
  clear X3'
  have X3' := XX
  clear XX
  go_upto_if 56 with fail
  go_cut [5] (fun x wx => Hid (WdS w1 wx x ([X0] ++ optW fA (regW a) ++ optW fB (regW b) ++ optW fD (modeW d) ++ optW cc (regW c))))
  case first =>
    cases cc
    · go_wp2_with fail
      go_meet
      exact Lib.hid (by rw [show optW false (regW c) = [] from rfl, List.append_nil]; exact X3'.out)
    · have hne : ([X0] ++ optW fA (regW a) ++ optW fB (regW b) ++ optW fD (modeW d)) ≠ [] := by simp
      have hlen : ([X0] ++ optW fA (regW a) ++ optW fB (regW b) ++ optW fD (modeW d)).length ≤ 6 := by
        simp only [List.length_append, List.length_cons, List.length_nil]
        have := optW_len fA (regW a)
        have := optW_len fB (regW b)
        have := optW_len fD (modeW d)
        omega
      obtain ⟨g, cap, rfl, hg1, hg2⟩ := X3'.out.row.shape hne
      obtain ⟨c0, c1, c2, c3, c4, c5⟩ := inscells (blk_on X3'.out.bel N1.out)
      simp only at c0 c1 c2 c3 c4 c5
      have hbs := X3'.out.bel.size
      have HX := X3'
      obtain ⟨ws_, hws⟩ : ∃ ws_, ([X0] ++ optW fA (regW a) ++ optW fB (regW b) ++ optW fD (modeW d)) = ws_ := ⟨_, rfl⟩
      rw [hws] at HX hlen
      have HWS := Lib.hid hws
      rw [hws]
      have HO := fun o => World.ownsRow.alloc HX.out.row o
      clear X3' hne hws
      go_wp2_with fail
      refine (iregister_any c hc _).mono ?_
      rintro r wy ⟨rfl, rfl⟩
      go_wp2_with (at_builtin; refine wpList_append_own _ rfl _ _ 52 rfl w1.heap.size 9 i0 (.string ByteArray.empty) 1 16 Tryd.underlying52 hi hz0 hz1 hz2 rfl (by decide) _ _ _ rfl (HO _) _ 1 1 [Value.string (bytesOf (regW c))] rfl rfl (seg_one _ _) (by simp [Value.oneCell']) (by unfold maxLen; omega) (by omega) (by simp; omega) ?_)
      intro v' w4 hown1 hg1' hne1
      have HS := Lib.hid (WdS.put (x := regW c) HX.out (HX.out.bel.alloc (by have := HX.out.bel.size; omega) _) (by simp; omega) (fun kk hk => by simp [Value.ownBlock] at hk; have := B2.out.size; omega) hown1 hg1')
      clear hown1 hg1' hne1 HO
      go_wp2_with fail
      go_meet
      exact Lib.hid (by rw [HWS.out]; exact HS.out)
  case rest =>
  have X4' := hcut
  clear hcut X3'
  go_upto_if 63 with fail
  go_cut [5] (fun x wx => Hid (WdS w1 wx x ([X0] ++ optW fA (regW a) ++ optW fB (regW b) ++ optW fD (modeW d) ++ optW cc (regW c) ++ optW fK (Lib.decDigits k))))
  case first =>
    cases fK
    · go_wp2_with fail
      go_meet
      exact Lib.hid (by rw [show optW false (Lib.decDigits k) = [] from rfl, List.append_nil]; exact X4'.out)
    · have hne : ([X0] ++ optW fA (regW a) ++ optW fB (regW b) ++ optW fD (modeW d) ++ optW cc (regW c)) ≠ [] := by simp
      have hlen : ([X0] ++ optW fA (regW a) ++ optW fB (regW b) ++ optW fD (modeW d) ++ optW cc (regW c)).length ≤ 6 := by
        simp only [List.length_append, List.length_cons, List.length_nil]
        have := optW_len fA (regW a)
        have := optW_len fB (regW b)
        have := optW_len fD (modeW d)
        have := optW_len cc (regW c)
        omega
      obtain ⟨g, cap, rfl, hg1, hg2⟩ := X4'.out.row.shape hne
      obtain ⟨c0, c1, c2, c3, c4, c5⟩ := inscells (blk_on X4'.out.bel N1.out)
      simp only at c0 c1 c2 c3 c4 c5
      have hbs := X4'.out.bel.size
      have HX := X4'
      obtain ⟨ws_, hws⟩ : ∃ ws_, ([X0] ++ optW fA (regW a) ++ optW fB (regW b) ++ optW fD (modeW d) ++ optW cc (regW c)) = ws_ := ⟨_, rfl⟩
      rw [hws] at HX hlen
      have HWS := Lib.hid hws
      rw [hws]
      have HO := fun o => World.ownsRow.alloc HX.out.row o
      clear X4' hne hws
      have hw64 : IntKind.u64.wrap (k : Int) = k := by rw [IntKind.wrap_u64]; omega
      have HK := Lib.hid (fmt_any k (by omega) _ (L1.out.below HX.out.bel))
      go_wp2_with fail
      refine HK.out.mono ?_
      rintro r wy ⟨rfl, hy⟩
      have HX2 := Lib.hid (HX.out.below hy)
      have hbs2 := HX2.out.bel.size
      have HO2 := fun o => World.ownsRow.alloc HX2.out.row o
      clear hy HO HX hbs
      go_wp2_with (at_builtin; refine wpList_append_own _ rfl _ _ 52 rfl w1.heap.size 9 i0 (.string ByteArray.empty) 1 16 Tryd.underlying52 hi hz0 hz1 hz2 rfl (by decide) _ _ _ rfl (HO2 _) _ 1 1 [Value.string (bytesOf (Lib.decDigits k))] rfl rfl (seg_one _ _) (by simp [Value.oneCell']) (by unfold maxLen; omega) (by omega) (by simp; omega) ?_)
      intro v' w4 hown1 hg1' hne1
      have HS := Lib.hid (WdS.put (x := Lib.decDigits k) HX2.out (HX2.out.bel.alloc (by have := HX2.out.bel.size; omega) _) (by simp; omega) (fun kk hk => by simp [Value.ownBlock] at hk; have := B2.out.size; omega) hown1 hg1')
      clear hown1 hg1' hne1 HO2
      go_wp2_with fail
      go_meet
      exact Lib.hid (by rw [HWS.out]; exact HS.out)
  case rest =>
  have X5' := hcut
  clear hcut X4'
  have hne : ([X0] ++ optW fA (regW a) ++ optW fB (regW b) ++ optW fD (modeW d) ++ optW cc (regW c) ++ optW fK (Lib.decDigits k)) ≠ [] := by simp
  have hlen : ([X0] ++ optW fA (regW a) ++ optW fB (regW b) ++ optW fD (modeW d) ++ optW cc (regW c) ++ optW fK (Lib.decDigits k)).length ≤ 6 := by
    simp only [List.length_append, List.length_cons, List.length_nil]
    have := optW_len fA (regW a)
    have := optW_len fB (regW b)
    have := optW_len fD (modeW d)
    have := optW_len cc (regW c)
    have := optW_len fK (Lib.decDigits k)
    omega
  obtain ⟨g, cap, rfl, hg1, hg2, hcap⟩ := X5'.out.row.room hne
  have hcell := fun j hj => X5'.out.row.at rfl j hj
  obtain ⟨ws_, hws⟩ : ∃ ws_, ([X0] ++ optW fA (regW a) ++ optW fB (regW b) ++ optW fD (modeW d) ++ optW cc (regW c) ++ optW fK (Lib.decDigits k)) = ws_ := ⟨_, rfl⟩
  rw [hws] at hlen hcap hcell hr hsz hne
  have HJ := Tryd.strings_Join g 0 cap (ws_.map bytesOf) ⟨#[32]⟩ wc (fun j x hj => by
    have hj1 : j < ws_.length := by
      have := (List.getElem?_eq_some_iff.1 hj).1
      simpa using this
    rw [Nat.zero_add, hcell j hj1]
    rw [List.getElem?_map, List.getElem?_eq_getElem hj1] at hj
    simp only [Option.map_some, Option.some.injEq] at hj
    rw [← hj]
    congr 3
    simp [List.getD, hj1]) hg2 (by rw [List.length_map]; omega) (by rw [List.length_map]; exact hcap) (by
      rw [List.map_map, show ((fun x => x.data.toList) ∘ bytesOf) = (id : List UInt8 → List UInt8) from funext bytesOf_data, List.map_id, show (⟨#[32]⟩ : ByteArray).data.toList = [32] from rfl, join_words]
      have := hsz.out
      omega)
  rw [List.length_map, List.map_map, show ((fun x => x.data.toList) ∘ bytesOf) = (id : List UInt8 → List UInt8) from funext bytesOf_data, List.map_id, show (⟨#[32]⟩ : ByteArray).data.toList = [32] from rfl, join_words, show (⟨(unwords ws_).toArray⟩ : ByteArray) = bytesOf (unwords ws_) from rfl, hr.out] at HJ
  have HJ' := Lib.hid HJ
  have HB := Lib.hid (below_on B1.out X5'.out.bel)
  rw [hws]
  clear HJ hcell hr hsz hne X5' hws hcc
  go_wp2_with fail
  refine HJ'.out.mono ?_
  rintro r wy ⟨rfl, hy⟩
  have HB2 := Lib.hid (below_on HB.out hy)
  clear hy HJ' HB
  go_wp2
  go_ret2
  exact ⟨rfl, HB2.out⟩

set_option maxRecDepth 100000 in
set_option maxHeartbeats 1000000 in
theorem iline_bad (i : Ins) (f : Int) (hf : f ≠ 0) (w : World) (hL : LsL w)
    (HF : Hid (∀ w', IsL w' → Calls Tryd.prog 20 #[insV i] w' fun r w'' => r = .returned (.int .i64 f) ∧ Below w'.heap.size w' w'')) :
    Calls Tryd.prog 10 #[insV i] w fun r w' => r = .returned (.tuple #[.string ⟨#[]⟩, .int .i64 f]) ∧ Below w.heap.size w w' := by
  obtain ⟨w1, e1⟩ : ∃ w1, w1 = w.alloc (insO i) := ⟨_, rfl⟩
  obtain ⟨s1, n1, b1⟩ := new_size e1
  obtain ⟨E, eE⟩ : ∃ E, w.heap.size = E := ⟨_, rfl⟩
  rw [eE] at n1
  have B1 := Lib.hid b1
  have HE := Lib.hid eE
  have HF1 := Lib.hid (HF.out w1 (hL.below b1).is)
  have hf' : (f != 0) = true := by simp [hf]
  obtain ⟨op, a, b, c, d, k⟩ := i
  obtain ⟨c0, c1, c2, c3, c4, c5⟩ := inscells n1
  simp only at c0 c1 c2 c3 c4 c5
  unfold insO at e1
  unfold insV at *
  simp only at *
  clear s1 n1 b1 hL eE hf HF
  go_enter Tryd.func10, Tryd.ntmps10
  go_wp2_with fail
  rw [← e1, HE.out]
  clear e1
  refine HF1.out.mono ?_
  rintro r w2 ⟨rfl, h2⟩
  have B2 := Lib.hid (below_on B1.out h2)
  clear h2 HF1
  go_wp2
  go_ret2
  exact ⟨rfl, B2.out⟩

/-- The line of an instruction: the text and the error. -/
def lineBy (i : Ins) : ByteArray := if formI i = 0 then bytesOf (lineL i) else ⟨#[]⟩
theorem iline_any (i : Ins) (hk : i.k < 4294967296) (w : World) (hL : LsL w) :
    Calls Tryd.prog 10 #[insV i] w fun r w' => r = .returned (.tuple #[.string (lineBy i), .int .i64 (formI i)]) ∧ Below w.heap.size w w' := by
  unfold lineBy
  by_cases hf : formI i = 0
  · have f := form_norm hf hk
    have hll := line_len f
    rw [if_pos hf, hf]
    obtain ⟨n, hn, n1, n2⟩ := op_nat f.op
    obtain ⟨op, a, b, c, d, k⟩ := i
    simp only at hn
    subst hn
    obtain ⟨a', ha⟩ : ∃ m : Nat, a = m := ⟨a.toNat, by have := f.a.1; simp only at this; omega⟩
    obtain ⟨b', hb⟩ : ∃ m : Nat, b = m := ⟨b.toNat, by have := f.b.1; simp only at this; omega⟩
    obtain ⟨c', hc⟩ : ∃ m : Nat, c = m := ⟨c.toNat, by have := f.c.1; simp only at this; omega⟩
    obtain ⟨d', hd⟩ : ∃ m : Nat, d = m := ⟨d.toNat, by have := f.d.1; simp only at this; omega⟩
    subst ha hb hc hd
    have fa := f.a; have fb := f.b; have fc := f.c; have fd := f.d
    simp only at fa fb fc fd hk
    have hw : ([inameL n] ++ optW (hasF 0 n) (regW a') ++ optW (hasF 1 n) (regW b') ++ optW (hasF 3 n) (modeW d') ++ optW (cHas n d') (regW c') ++ optW (hasF 4 n) (Lib.decDigits k)) = wordsI ⟨n, a', b', c', d', k⟩ := by
      unfold wordsI
      simp only [Int.toNat_natCast]
      simp
    refine iline_walk n a' b' c' d' k (by omega) (by omega) (by omega) (by omega) hk (inameL n) (hasF 0 n) (hasF 1 n) (hasF 2 n) (hasF 3 n) (hasF 4 n) (cHas n d') _ w hL (Lib.hid (fun w' h' => ?_)) (Lib.hid (fun w' h' => ?_)) (Lib.hid (fun w' h' => iuses_any _ w' h')) (Lib.hid rfl) (Lib.hid (by rw [hw]; rfl)) (Lib.hid (by rw [hw]; show (lineL _).length ≤ 1000; omega))
    · have := iform_any ⟨n, a', b', c', d', k⟩ w' h'
      rwa [hf] at this
    · have := iname_any (n : Int) w' h'
      rw [opB_nat n1 n2, if_pos rfl, Int.toNat_natCast] at this
      exact this
  · rw [if_neg hf]
    exact iline_bad i (formI i) hf w hL (Lib.hid (fun w' h' => iform_any i w' h'))

end Go.Proofs.YtlnlfeninjjkmaaDoor
