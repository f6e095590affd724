/-
  ListingLong: for every number and instruction the statement's function answers true: a program has as many lines as it may, and no more: the line behind them is told (numbers beyond 300 are let go by the statement itself). Conditions: none beyond the card's own: the listed package variables start as the program's text lays them, which the card ties to that text.
-/
import Derived.Test.YtlnlfeninjjkmaaDoorLsH
import Derived.Test.YtlnlfeninjjkmaaDoorLsY
import Derived.Test.YtlnlfeninjjkmaaDoorLsG
import Derived.Test.YtlnlfeninjjkmaaDoorLsAw
import Derived.Test.YtlnlfeninjjkmaaDoorTie
import Derived.Test.YtlnlfeninjjkmaaDoorCards
import Derived.ProofKit
import Derived.OpenShut
import Derived.ShutString
import Derived.LaidMore
import Derived.Lay
import Derived.SevenTiedAt
import Derived.Stop.Joined
import Derived.Deep.DeepHandedRow
import Derived.BigRegion
import Derived.Deep.RegionWith
import Derived.Deep.DeepCutAuto
namespace Go.Proofs.YtlnlfeninjjkmaaDoor.ListingLong
open Go.ChangeShapes Go.WideShapes Go.ChangeAt Go.RowKit
open Go.ChangeMaps (open_string shut_string)
set_option linter.unusedVariables false
set_option linter.unusedSimpArgs false

set_option maxRecDepth 100000 in
set_option maxHeartbeats 4000000 in
theorem walk_at (N : Int) (i : Ins) (L : ByteArray) (f : Int) (T : Nat → ByteArray) (C : Nat → Nat) (A : Nat → Nat) (X : Nat → Int) {w : World} (hL : LsL w)
    (HA : Hid (∀ w', LsL w' → Calls Tryd.prog 10 #[insV i] w' fun r w'' => r = .returned (.tuple #[.string L, .int .i64 f]) ∧ Below w'.heap.size w' w''))
    (HT0 : Hid (T 0 = ⟨#[]⟩)) (HT : Hid (f = 0 → ∀ k, k < 300 → T k ++ (L ++ (⟨#[10]⟩ : ByteArray)) = T (k + 1) ∧ (T k).size + L.size + 1 ≤ 100000))
    (HR : Hid (f = 0 → ∀ k w', k ≤ 300 → LsL w' → Calls Tryd.prog 15 #[.string (T k)] w' fun r w'' => ∃ ao cap, r = .returned (.tuple #[.slice ao (C k) cap, .int .i64 (A k : Int), .int .i64 (X k)]) ∧ Below w'.heap.size w' w''))
    (HX : Hid (∀ k, (256 < k → X k = 4 ∧ A k = 257 ∧ C k = 0) ∧ (k ≤ 256 → X k = 0 ∧ A k = 0 ∧ C k = k))) :
    Calls Tryd.prog 8 #[.int .i64 N, insV i] w fun r w' => r = .returned (.bool true) ∧ Below w.heap.size w w' := by
  have AW := Lib.hid (fun w' (h' : LsL w') => awake11_any w' h')
  have HL := Lib.hid hL
  obtain ⟨w1, e1⟩ : ∃ w1, w1 = w.alloc (insO i) := ⟨_, rfl⟩
  obtain ⟨s1, n1, b1⟩ := new_size e1
  obtain ⟨E, eE⟩ : ∃ E, w.heap.size = E := ⟨_, rfl⟩
  rw [eE] at n1
  have B1 := Lib.hid b1
  have HE := Lib.hid eE
  obtain ⟨op, a, b, c, d, k⟩ := i
  obtain ⟨c0, c1, c2, c3, c4, c5⟩ := inscells n1
  simp only at c0 c1 c2 c3 c4 c5
  unfold insO at e1
  unfold insV at *
  simp only at *
  clear s1 n1 b1 eE hL
  go_enter Tryd.func8, Tryd.ntmps8
  go_wp2_with fail
  rw [← e1, HE.out]
  clear e1
  refine (HA.out w1 (HL.out.below B1.out)).mono ?_
  rintro r w0 ⟨rfl, h0⟩
  have B0 := Lib.hid (below_on B1.out h0)
  clear h0 HA c0 c1 c2 c3 c4 c5 B1
  go_wp2_with fail
  refine (AW.out _ (HL.out.below B0.out)).mono ?_
  rintro r w2 ⟨rfl, h2⟩
  have B2 := Lib.hid (below_on B0.out h2)
  clear h2 B0
  by_cases hn : N < 0
  · have d0 : decide (N < 0) = true := by simp [hn]
    clear hn
    go_wp2_with fail
    refine (AW.out w2 (HL.out.below B2.out)).mono ?_
    rintro r wz ⟨rfl, hz⟩
    have BZ := Lib.hid (below_on B2.out hz)
    clear hz
    go_wp2
    go_ret
    exact ⟨rfl, BZ.out⟩
  have d0 : decide (N < 0) = false := by simp; omega
  by_cases hn3 : 300 < N
  · have d1 : decide ((300 : Int) < N) = true := by simp [hn3]
    clear hn hn3
    go_wp2_with fail
    refine (AW.out w2 (HL.out.below B2.out)).mono ?_
    rintro r wz ⟨rfl, hz⟩
    have BZ := Lib.hid (below_on B2.out hz)
    clear hz
    go_wp2
    go_ret
    exact ⟨rfl, BZ.out⟩
  have d1 : decide ((300 : Int) < N) = false := by simp; omega
  by_cases hf : f = 0
  case neg =>
    have d2 : (f != 0) = true := by simp [hf]
    clear hn hn3 hf
    go_wp2_with fail
    refine (AW.out w2 (HL.out.below B2.out)).mono ?_
    rintro r wz ⟨rfl, hz⟩
    have BZ := Lib.hid (below_on B2.out hz)
    clear hz
    go_wp2
    go_ret
    exact ⟨rfl, BZ.out⟩
  have HT1 := Lib.hid (HT.out hf)
  have HR1 := Lib.hid (HR.out hf)
  subst hf
  obtain ⟨M, rfl⟩ : ∃ M : Nat, N = M := ⟨N.toNat, by omega⟩
  have hM : M ≤ 300 := by omega
  clear hn hn3 HT HR AW
  go_wp2_with fail
  go_loopw [7, 32] (fun x y wr => ∃ k : Nat, y = .int .i64 (k : Int) ∧ x = .string (T k) ∧ k ≤ M ∧ wr = w2) (fun _ y _ => M - (intOf y).toNat)
  case atStart => exact ⟨0, rfl, by rw [HT0.out], Nat.zero_le _, rfl⟩
  case round =>
    obtain ⟨k, rfl, rfl, hk, rfl⟩ := hrel
    by_cases hlt : k < M
    · obtain ⟨t1, t2⟩ := HT1.out k (by omega)
      obtain ⟨P, hP⟩ : ∃ P, T k = P := ⟨_, rfl⟩
      rw [hP] at t1 t2 ⊢
      have g1 : ¬ 9223372036854775807 < L.size + 1 := by omega
      have g2 : ¬ 9223372036854775807 < P.size + (L.size + 1) := by omega
      have g3 : ¬ 9223372036854775807 < P.size + (L ++ (⟨#[10]⟩ : ByteArray)).size := by
        rw [ByteArray.size_append, show (⟨#[10]⟩ : ByteArray).size = 1 from rfl]; exact g2
      have H1 := Lib.hid t1
      clear t1 t2 hP
      go_wp2_with fail
      go_roundw
      case rel => exact ⟨k + 1, by go_num, by rw [H1.out], hlt, trivial⟩
      case measure => simp [intOf]; omega
    · obtain rfl : k = M := by omega
      have HRM := Lib.hid (HR1.out k wr hM (HL.out.below B2.out))
      obtain ⟨x1, x2⟩ := HX.out k
      clear HR1 HT1 HT0
      generalize T k = S at *
      go_wp2_with fail
      refine HRM.out.mono ?_
      rintro r w3 ⟨ao, cap, rfl, h3⟩
      have B3 := Lib.hid (below_on B2.out h3)
      clear h3 HRM
      by_cases h6 : 256 < k
      · have d6 : decide ((256 : Int) < (k : Int)) = true := by simp; omega
        obtain ⟨y1, y2, y3⟩ := x1 h6
        rw [y1, y2, y3]
        clear x1 x2 y1 y2 y3 h6 hlt
        go_wp2
        go_ret
        exact ⟨rfl, B3.out⟩
      · have d6 : decide ((256 : Int) < (k : Int)) = false := by simp; omega
        obtain ⟨y1, y2, y3⟩ := x2 (by omega)
        rw [y1, y2, y3]
        clear x1 x2 y1 y2 y3 h6 hlt
        go_wp2
        go_ret
        exact ⟨by simp, B3.out⟩

theorem walk {w : World} (N : Int) (wN : (Lit.int .i64 N).wf = true) (i : Ins) (fi : InsFits i) (hL : LsL w) :
    Calls Tryd.prog 8 #[.int .i64 N, insV i] w fun r w' => r = .returned (.bool true) ∧ Below w.heap.size w w' := by
  refine walk_at N i (lineBy i) (formI i) (fun k => bytesOf (textL (List.replicate k i))) (fun k => if 256 < k then 0 else k) (fun k => if 256 < k then 257 else 0) (fun k => if 256 < k then 4 else 0) hL (Lib.hid (fun w' h' => iline_any i fi.k w' h')) (Lib.hid rfl) (Lib.hid (fun h k hk => ?_)) (Lib.hid (fun h k w' hk h' => ?_)) (Lib.hid (fun k => ⟨fun h => by simp only [if_pos h]; exact ⟨trivial, trivial, trivial⟩, fun h => by simp only [if_neg (Nat.not_lt.2 h)]; exact ⟨trivial, trivial, trivial⟩⟩))
  · have hall : ∀ j ∈ List.replicate k i, FineI j := fun j hj => by rw [(List.mem_replicate.1 hj).2]; exact ⟨h, fi.k⟩
    have hl := text_len _ hall
    have hll := line_len (form_norm h fi.k)
    rw [List.length_replicate] at hl
    unfold lineBy
    rw [if_pos h]
    refine ⟨?_, by rw [bytesOf_size, bytesOf_size]; omega⟩
    rw [show (⟨#[10]⟩ : ByteArray) = bytesOf [10] from rfl, bytesOf_app, bytesOf_app, List.replicate_succ', textL_app]
    simp [textL]
  · have hall : ∀ j ∈ List.replicate k i, FineI j := fun j hj => by rw [(List.mem_replicate.1 hj).2]; exact ⟨h, fi.k⟩
    have hl := text_len _ hall
    rw [List.length_replicate] at hl
    have hr := readt_any (bytesOf (textL (List.replicate k i))) (by rw [bytesOf_size]; omega) w' h'
    rw [bytesOf_data, read_many ⟨h, fi.k⟩] at hr
    refine hr.mono fun r w'' ⟨v, h1, h2, h3⟩ => ?_
    obtain ⟨ao, cap, rfl, -⟩ := h2.open
    by_cases h6 : 256 < k
    · simp only [if_pos h6] at h1 ⊢
      exact ⟨ao, cap, h1, h3⟩
    · simp only [if_neg h6] at h1 ⊢
      rw [List.length_replicate] at h1
      exact ⟨ao, cap, h1, h3⟩

theorem own : ownKnob Tryd.prog.godebug = none := by kernel_rfl
theorem laidOut : laidOutB Tryd.prog = true := by kernel_rfl

set_option maxRecDepth 100000 in
theorem lifted (os : Os) (started : os.Started) (H : Type) (enc : TypeId × Value → H) :
    ReturnsInHanded {} Tryd.checked os 8 .any (fun w args => (Rows.listingLongSpec.pre enc Tryd.prog Tryd.f8 Rows.listingLongRow.domain false w args ∧ laidMetH Tryd.prog laidL w) ∧ sizedMet enc Tryd.prog Tryd.f8 (OpenSpec.ofChange Rows.listingLongSpec) false w args) (Rows.listingLongSpec.post enc Tryd.prog Tryd.f8 false true false false) := by
  refine returnsInHanded_of_row (s := OpenSpec.ofChange Rows.listingLongSpec) (F := fun _ _ _ => 0) (laid := laidL) (C := Tryd.checked) own started (by kernel_rfl) Tryd.func8
    (ChangeSpec.witness_shaped (enc := enc) (C := Tryd.checked) (os := os) (s := Rows.listingLongSpec) (X := fun w _ => laidMetH Tryd.prog laidL w) false (World.laidAll Tryd.prog os laidL) #[.int .i64 0, .agg #[.int .i64 0, .int .i64 0, .int .i64 0, .int .i64 0, .int .i64 0, .int .u32 0]] 8 (World.laidAll_os _ _ _)
      (World.shaped_of_ZipB (by kernel_rfl) (by kernel_rfl)) (by kernel_rfl) (by kernel_rfl) (by kernel_rfl)
      (by rw [MakeChecks.laidMetH_plain _ _ _ (by kernel_rfl)]; exact laidMet_laidAll _ (by kernel_rfl) (by kernel_rfl))) ?_
  intro W base args ds gs before hval0 hW hcnd _ hsz0 hL hsh _
  have hval : ∀ (j : Nat) t v, Tryd.f8.params[j]? = some t → args[j]? = some v → Value.okWide Tryd.prog W .any base t v := hval0
  have hW' := hW
  obtain ⟨p, q, hA0, hV, rfl, hfz, hnd⟩ := hW
  have hA : DataW.TrodAll enc Tryd.prog W 0 (fun _ => true) true Tryd.f8.params.toList args.toList ds p := hA0
  rw [Tryd.params8] at hA hval
  obtain ⟨v0, vs0, d0, ds0, p0, q0, hargs, rfl, rfl, h0, r0⟩ := trodAll_cons hA
  obtain ⟨v1, vs1, d1, ds1, p1, q1, rfl, rfl, rfl, h1, r1⟩ := trodAll_cons r0
  obtain ⟨rfl, rfl, rfl⟩ := trodAll_nil r1
  obtain rfl : args = #[v0, v1] := by cases args; simp_all
  obtain ⟨rfl, rfl⟩ := trodVars_none hV
  have k0 := h0
  have lt0 : ∀ x ∈ p0, x.block < W.heap.size := by obtain ⟨m, hm⟩ := k0; exact DataW.trod_lt m _ _ _ hm
  have k1 := h1
  have lt1 : ∀ x ∈ p1, x.block < W.heap.size := by obtain ⟨m, hm⟩ := k1; exact DataW.trod_lt m _ _ _ hm
  obtain ⟨a0, rfl, rfl, rfl, w0⟩ := open_int Tryd.underlying3 (hval 0 3 v0 rfl rfl) h0
  obtain ⟨a1, rfl, w1⟩ := open_ins (hval 1 24 v1 rfl rfl) h1
  clear hA0 hval0
  refine (walk a0 w0 a1 w1 (of_laid hL hsh)).mono fun e W' ⟨he, bel⟩ => ?_
  subst he
  exact ⟨_, rfl, _, _, _, [], _, [], hW', trodAll_mk1 (shut_bool Tryd.underlying4 _), (trodAll_cons_mk (Below.trod laidOut (by kernel_rfl) (of_decide_eq_true (by kernel_rfl)) k0 bel lt0) (trodAll_cons_mk (Below.trod laidOut (by kernel_rfl) (of_decide_eq_true (by kernel_rfl)) k1 bel lt1) trodAll_mk0)), rfl, bel.frame _, fun h => by cases h⟩

theorem over : Rows.ListingLongSaid :=
  OpenClaim.holds_of_wide 8 Tryd.f8 rfl rfl rfl rfl rfl rfl rfl ⟨rfl, rfl, rfl, rfl, rfl⟩ rfl rfl rfl rfl rfl (by kernel_rfl) Tryd.func8 (by kernel_rfl)
    (of_decide_eq_true (by kernel_rfl)) (by unfold Func.isWrapper; first | (rw [if_pos (by decide +kernel)]; kernel_rfl) | (rw [if_neg (by decide +kernel)]; exact ⟨rfl, rfl⟩))
    (fun os started H enc _ => lifted os started H enc)

theorem proved : Rows.ListingLongCardSaid :=
  Claim7.holds_tied_plain_at .later [] _ true _ true over (fun _ h => by cases h) (by kernel_rfl) (fun _ h => by cases h) listingLong_row_tie rfl ⟨rfl, rfl⟩ (by kernel_rfl) rfl
    (fun f fn hf hfn => by
      obtain rfl : f = 8 := Option.some.inj ((show Tryd.prog.funcNamed "taffrail/taffraillaw11.ListingLong" = some 8 by kernel_rfl).symm.trans hf) |>.symm
      obtain rfl : fn = Tryd.f8 := (Option.some.inj (Tryd.func8.symm.trans hfn)).symm
      refine ⟨by kernel_rfl, fun j t ht => ?_⟩
      rw [Tryd.params8] at ht
      have hm : t ∈ [3, 24] := by simpa using Array.mem_of_getElem? ht
      have hall : ([3, 24].all fun u => !Tryd.prog.wantsStandIn u) = true := by kernel_rfl
      exact (show Tryd.prog.wantsStandIn t = false by simpa using List.all_eq_true.1 hall t hm))
    (by kernel_rfl)
#print axioms proved

end Go.Proofs.YtlnlfeninjjkmaaDoor.ListingLong
