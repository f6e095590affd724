/-
  CoilSize: for all two events the statement's function answers true: Size answers by how much the bytes of both are more. Conditions: none beyond the card's own: the listed package variables start as the program's text lays them, which the card ties to that text.
-/
import Derived.Test.YtobljhgiibpmkaaDoorCoilAwake
import Derived.Test.YtobljhgiibpmkaaDoorCoilM
import Derived.Test.YtobljhgiibpmkaaDoorEvRef2
import Derived.Test.YtobljhgiibpmkaaDoorTie
import Derived.Test.YtobljhgiibpmkaaDoorCards
import Derived.ProofKit
import Derived.OpenShut
import Derived.ShutString
import Derived.LaidMore
import Derived.Lay
import Derived.SevenTiedAt
import Derived.Stop.Joined
import Derived.Deep.DeepHandedRow
namespace Go.Proofs.YtobljhgiibpmkaaDoor.CoilSize
open Go.ChangeShapes Go.WideShapes Go.ChangeAt Go.RowKit
open Go.ChangeMaps (open_string shut_string)
set_option linter.unusedVariables false
set_option linter.unusedSimpArgs false

/-- Both events, in their blocks, and the table. -/
structure St (w0 w : World) (A : Nat) (a b : Ev) : Prop where
  bel : Below w0.heap.size w0 w
  na : w.heap[A]? = some (evO a)
  nb : w.heap[A + 1]? = some (evO b)
theorem St.next {w0 w w' : World} {A : Nat} {a b : Ev} (h : St w0 w A a b) (hb : Below w.heap.size w w') : St w0 w' A a b :=
  ⟨h.bel.trans (hb.mono h.bel.size), (hb.block _ (blk_lt h.na)).trans h.na, (hb.block _ (blk_lt h.nb)).trans h.nb⟩

set_option maxRecDepth 100000 in
set_option maxHeartbeats 4000000 in
theorem walk_bad (a b : Ev) (w : World) (hL : EvL w) (hc : checkN a ≠ 0) :
    Calls Tryd.prog 7 #[evV a, evV b] w fun r w' => r = .returned (.bool true) ∧ Below w.heap.size w w' := by
  obtain ⟨w2, e2⟩ : ∃ w2, w2 = (w.alloc (evO a)).alloc (evO b) := ⟨_, rfl⟩
  have b2 : Below w.heap.size w w2 := by rw [e2]; exact box_two w _ _
  have hD : w2.heap[w.heap.size]? = some (evO a) := by rw [e2, Below.heap_alloc _ _ _ (by simp)]; exact heap_alloc_new w _
  have hE : w2.heap[w.heap.size + 1]? = some (evO b) := by
    have := heap_alloc_new (w.alloc (evO a)) (evO b)
    rw [show (w.alloc (evO a)).heap.size = w.heap.size + 1 by simp] at this
    rw [e2]; exact this
  have HS := Lib.hid (show St w w2 w.heap.size a b from ⟨b2, hD, hE⟩)
  have HA := Lib.hid (fun w' h => awake6_any w' h)
  have HL := Lib.hid hL
  have HC := Lib.hid (fun w' => rcheck_any a w')
  obtain ⟨ck, hck⟩ : ∃ ck, ck = checkN a := ⟨_, rfl⟩
  rw [← hck] at HC hc
  have hcb : (ck != 0) = true := by rw [bne_iff_ne]; exact hc
  obtain ⟨A, hA⟩ : ∃ A, w.heap.size = A := ⟨_, rfl⟩
  have HD := Lib.hid hA
  rw [hA] at HS
  clear hL b2 hD hE hck hc hA
  unfold evO at e2
  unfold evV at *
  go_enter Tryd.func7, Tryd.ntmps7
  go_wp2_with fail
  rw [← e2, HD.out]
  clear e2
  refine (HA.out w2 (HL.out.below HS.out.bel)).mono ?_
  rintro r w3 ⟨rfl, h3⟩
  have S3 := Lib.hid (HS.out.next h3)
  obtain ⟨c0, c1, c2, c3, c4, c5⟩ := evcells S3.out.na
  clear h3 HS
  go_wp2_with fail
  refine (HC.out w3).mono ?_
  rintro r w4 ⟨rfl, h4⟩
  have S4 := Lib.hid (S3.out.next h4)
  clear h4 S3 HC c0 c1 c2 c3 c4 c5
  go_wp2_with fail
  refine (HA.out w4 (HL.out.below S4.out.bel)).mono ?_
  rintro r w5 ⟨rfl, h5⟩
  have S5 := Lib.hid (S4.out.next h5)
  clear h5
  go_wp2_with fail
  go_ret
  exact ⟨rfl, S5.out.bel⟩

set_option maxRecDepth 100000 in
set_option maxHeartbeats 8000000 in
theorem walk_told (a b : Ev) (fa : EvFits a) (fb : EvFits b) (w : World) (hL : EvL w) (hc : checkN a = 0) (S T : ByteArray) (c : Int) (n : Nat)
    (h1 : coilL [a] = (S.data.toList, 0)) (h2 : coilL [a, b] = (T.data.toList, c)) (h3 : (addB a b).length = n) (hok : c = 0 → (n : Int) = (T.size : Int) - (S.size : Int) ∧ 3 ≤ n ∧ n ≤ 20) (hno : c ≠ 0 → n = 0) :
    Calls Tryd.prog 7 #[evV a, evV b] w fun r w' => r = .returned (.bool true) ∧ Below w.heap.size w w' := by
  obtain ⟨w2, e2⟩ : ∃ w2, w2 = (w.alloc (evO a)).alloc (evO b) := ⟨_, rfl⟩
  have b2 : Below w.heap.size w w2 := by rw [e2]; exact box_two w _ _
  have hD : w2.heap[w.heap.size]? = some (evO a) := by rw [e2, Below.heap_alloc _ _ _ (by simp)]; exact heap_alloc_new w _
  have hE : w2.heap[w.heap.size + 1]? = some (evO b) := by
    have := heap_alloc_new (w.alloc (evO a)) (evO b)
    rw [show (w.alloc (evO a)).heap.size = w.heap.size + 1 by simp] at this
    rw [e2]; exact this
  have HS := Lib.hid (show St w w2 w.heap.size a b from ⟨b2, hD, hE⟩)
  have HA := Lib.hid (fun w' h => awake6_any w' h)
  have HL := Lib.hid hL
  have HC := Lib.hid (fun w' => rcheck_any a w')
  rw [hc] at HC
  have f1 : ∀ e ∈ [a], EvFits e := fun e he => by simp at he; rw [he]; exact fa
  have f2 : ∀ e ∈ [a, b], EvFits e := fun e he => by simp at he; rcases he with rfl | rfl <;> assumption
  have HP1 : Hid (∀ ao cap w', SeenE w' ao cap [a] → EvL w' → Calls Tryd.prog 10 #[.slice ao 1 cap] w' fun r w'' => r = .returned (.tuple #[.string S, .int .i64 0]) ∧ Below w'.heap.size w' w'') :=
    Lib.hid fun ao cap w' q1 q2 => by
      have := print_any ao cap [a] w' q1 q2 f1 (by simp)
      rw [h1] at this
      exact this
  have HP2 : Hid (∀ ao cap w', SeenE w' ao cap [a, b] → EvL w' → Calls Tryd.prog 10 #[.slice ao 2 cap] w' fun r w'' => r = .returned (.tuple #[.string T, .int .i64 c]) ∧ Below w'.heap.size w' w'') :=
    Lib.hid fun ao cap w' q1 q2 => by
      have := print_any ao cap [a, b] w' q1 q2 f2 (by simp)
      rw [h2] at this
      exact this
  have HZ := Lib.hid (fun w' h => size_any' a b fb w' h)
  rw [h3] at HZ
  have Hok := Lib.hid hok
  have Hno := Lib.hid hno
  have S1 : ∀ w' B, w'.heap[B]? = some (.cells #[.int .i64 a.kind, .int .u64 (a.cyc : Int), .int .u64 (a.cnt : Int), .int .u32 (a.a : Int), .int .u32 (a.b : Int), .int .u32 (a.v : Int)] 39 (0, 0)) → SeenE w' (some ⟨B, 0, none⟩) 1 [a] :=
    fun w' B h => seen_lit (l := [a]) (by rw [h]; rfl) (by simp [maxLen])
  have S2 : ∀ w' B, w'.heap[B]? = some (.cells #[.int .i64 a.kind, .int .u64 (a.cyc : Int), .int .u64 (a.cnt : Int), .int .u32 (a.a : Int), .int .u32 (a.b : Int), .int .u32 (a.v : Int), .int .i64 b.kind, .int .u64 (b.cyc : Int), .int .u64 (b.cnt : Int), .int .u32 (b.a : Int), .int .u32 (b.b : Int), .int .u32 (b.v : Int)] 39 (0, 0)) → SeenE w' (some ⟨B, 0, none⟩) 2 [a, b] :=
    fun w' B h => seen_lit (l := [a, b]) (by rw [h]; rfl) (by simp [maxLen])
  have HS1 := Lib.hid S1
  have HS2 := Lib.hid S2
  obtain ⟨A, hA⟩ : ∃ A, w.heap.size = A := ⟨_, rfl⟩
  have HD := Lib.hid hA
  rw [hA] at HS
  clear hL b2 hD hE hc hA h1 h2 h3 hok hno f1 f2 fa fb S1 S2
  unfold evO at e2
  unfold evV at *
  go_enter Tryd.func7, Tryd.ntmps7
  go_wp2_with fail
  rw [← e2, HD.out]
  clear e2
  refine (HA.out w2 (HL.out.below HS.out.bel)).mono ?_
  rintro r w3 ⟨rfl, h3⟩
  have S3 := Lib.hid (HS.out.next h3)
  obtain ⟨c0, c1, c2, c3, c4, c5⟩ := evcells S3.out.na
  clear h3 HS
  go_wp2_with fail
  refine (HC.out w3).mono ?_
  rintro r w4 ⟨rfl, h4⟩
  have S4 := Lib.hid (S3.out.next h4)
  clear h4 S3 HC c0 c1 c2 c3 c4 c5
  obtain ⟨c0, c1, c2, c3, c4, c5⟩ := evcells S4.out.na
  obtain ⟨w5, e5⟩ : ∃ w5, w5 = w4.alloc (.cells #[.int .i64 a.kind, .int .u64 (a.cyc : Int), .int .u64 (a.cnt : Int), .int .u32 (a.a : Int), .int .u32 (a.b : Int), .int .u32 (a.v : Int)] 39) := ⟨_, rfl⟩
  obtain ⟨-, n5, b5⟩ := new_size e5
  have S5 := Lib.hid (S4.out.next b5)
  have P5 := Lib.hid (HP1.out _ _ w5 (HS1.out w5 _ n5) (HL.out.below S5.out.bel))
  clear n5 b5 S4
  go_wp2_with fail
  rw [← e5]
  clear e5 c0 c1 c2 c3 c4 c5
  refine P5.out.mono ?_
  rintro r w6 ⟨rfl, h6⟩
  have S6 := Lib.hid (S5.out.next h6)
  clear h6 S5 P5 HP1 HS1
  obtain ⟨c0, c1, c2, c3, c4, c5⟩ := evcells S6.out.na
  obtain ⟨d0, d1, d2, d3, d4, d5⟩ := evcells S6.out.nb
  obtain ⟨w7, e7⟩ : ∃ w7, w7 = w6.alloc (.cells #[.int .i64 a.kind, .int .u64 (a.cyc : Int), .int .u64 (a.cnt : Int), .int .u32 (a.a : Int), .int .u32 (a.b : Int), .int .u32 (a.v : Int), .int .i64 b.kind, .int .u64 (b.cyc : Int), .int .u64 (b.cnt : Int), .int .u32 (b.a : Int), .int .u32 (b.b : Int), .int .u32 (b.v : Int)] 39) := ⟨_, rfl⟩
  obtain ⟨-, n7, b7⟩ := new_size e7
  have S7 := Lib.hid (S6.out.next b7)
  have P7 := Lib.hid (HP2.out _ _ w7 (HS2.out w7 _ n7) (HL.out.below S7.out.bel))
  clear n7 b7 S6
  go_wp2_with fail
  rw [← e7]
  clear e7 c0 c1 c2 c3 c4 c5 d0 d1 d2 d3 d4 d5
  refine P7.out.mono ?_
  rintro r w8 ⟨rfl, h8⟩
  have S8 := Lib.hid (S7.out.next h8)
  clear h8 S7 P7 HP2 HS2
  obtain ⟨c0, c1, c2, c3, c4, c5⟩ := evcells S8.out.na
  obtain ⟨d0, d1, d2, d3, d4, d5⟩ := evcells S8.out.nb
  have Z8 := Lib.hid (HZ.out w8 (HL.out.below S8.out.bel))
  clear HZ
  go_wp2_with fail
  refine Z8.out.mono ?_
  rintro r w9 ⟨rfl, h9⟩
  have B9 := Lib.hid (S8.out.next h9).bel
  clear h9 S8 Z8 c0 c1 c2 c3 c4 c5 d0 d1 d2 d3 d4 d5
  by_cases hc0 : c = 0
  · have hcb : (c != 0) = false := by rw [hc0]; rfl
    obtain ⟨q1, q2, q3⟩ := Hok.out hc0
    have g1 : (T.size : Int) - (S.size : Int) = (n : Int) := q1.symm
    have hw : wrap64 (n : Int) = (n : Int) := by unfold wrap64; omega
    have g2 : decide ((3 : Int) ≤ (n : Int)) = true := by rw [decide_eq_true_iff]; omega
    have g3 : decide ((n : Int) ≤ 20) = true := by rw [decide_eq_true_iff]; omega
    clear q1 q2 q3 hc0
    go_wp2_with fail
    go_ret
    exact ⟨by simp, B9.out⟩
  · have hcb : (c != 0) = true := by rw [bne_iff_ne]; exact hc0
    have hn0 := Hno.out hc0
    subst hn0
    clear hc0
    go_wp2_with fail
    go_ret
    exact ⟨by simp, B9.out⟩

theorem walk (a : Ev) (fa : EvFits a) (b : Ev) (fb : EvFits b) (w : World) (hL : EvL w) :
    Calls Tryd.prog 7 #[evV a, evV b] w fun r w' => r = .returned (.bool true) ∧ Below w.heap.size w w' := by
  by_cases hc : checkN a = 0
  · by_cases hp : putE a b = 0
    · have hb := size_bounds fb hp
      refine walk_told a b fa fb w hL hc ⟨(evBytes a a).toArray⟩ ⟨(evBytes a a ++ evBytes a b).toArray⟩ 0 (evBytes a b).length (coil_alone hc) (by rw [coil_two hc, if_pos hp]) (by unfold addB; rw [if_pos hp]) (fun _ => ⟨?_, hb⟩) (fun h => absurd rfl h)
      show _ = (((evBytes a a ++ evBytes a b).toArray.size : Nat) : Int) - (((evBytes a a).toArray.size : Nat) : Int)
      rw [List.size_toArray, List.size_toArray, List.length_append]
      omega
    · exact walk_told a b fa fb w hL hc ⟨(evBytes a a).toArray⟩ ⟨#[]⟩ (putE a b) 0 (coil_alone hc) (by rw [coil_two hc, if_neg hp]) (by unfold addB; rw [if_neg hp]; rfl) (fun h => absurd h hp) (fun _ => rfl)
  · exact walk_bad a b w hL hc

theorem own : ownKnob Tryd.prog.godebug = none := by kernel_rfl
theorem laidOut : laidOutB Tryd.prog = true := by kernel_rfl

set_option maxRecDepth 100000 in
theorem lifted (os : Os) (started : os.Started) (H : Type) (enc : TypeId × Value → H) :
    ReturnsInHanded {} Tryd.checked os 7 .any (fun w args => (Rows.coilSizeSpec.pre enc Tryd.prog Tryd.f7 Rows.coilSizeRow.domain false w args ∧ laidMetH Tryd.prog laidL w) ∧ sizedMet enc Tryd.prog Tryd.f7 (OpenSpec.ofChange Rows.coilSizeSpec) false w args) (Rows.coilSizeSpec.post enc Tryd.prog Tryd.f7 false true false false) := by
  refine returnsInHanded_of_row (s := OpenSpec.ofChange Rows.coilSizeSpec) (F := fun _ _ _ => 0) (laid := laidL) (C := Tryd.checked) own started (by kernel_rfl) Tryd.func7
    (ChangeSpec.witness_shaped (enc := enc) (C := Tryd.checked) (os := os) (s := Rows.coilSizeSpec) (X := fun w _ => laidMetH Tryd.prog laidL w) false (World.laidAll Tryd.prog os laidL) #[.agg #[.int .i64 0, .int .u64 0, .int .u64 0, .int .u32 0, .int .u32 0, .int .u32 0], .agg #[.int .i64 0, .int .u64 0, .int .u64 0, .int .u32 0, .int .u32 0, .int .u32 0]] 8 (World.laidAll_os _ _ _)
      (World.shaped_of_ZipB (by kernel_rfl) (by kernel_rfl)) (by kernel_rfl) (by kernel_rfl) (by kernel_rfl)
      (by rw [MakeChecks.laidMetH_plain _ _ _ (by kernel_rfl)]; exact laidMet_laidAll _ (by kernel_rfl) (by kernel_rfl))) ?_
  intro W base args ds gs before hval0 hW hcnd _ hsz0 hL hsh _
  have hval : ∀ (j : Nat) t v, Tryd.f7.params[j]? = some t → args[j]? = some v → Value.okWide Tryd.prog W .any base t v := hval0
  have hW' := hW
  obtain ⟨p, q, hA0, hV, rfl, hfz, hnd⟩ := hW
  have hA : DataW.TrodAll enc Tryd.prog W 0 (fun _ => true) true Tryd.f7.params.toList args.toList ds p := hA0
  rw [Tryd.params7] at hA hval
  obtain ⟨v0, vs0, d0, ds0, p0, q0, hargs, rfl, rfl, h0, r0⟩ := trodAll_cons hA
  obtain ⟨v1, vs1, d1, ds1, p1, q1, rfl, rfl, rfl, h1, r1⟩ := trodAll_cons r0
  obtain ⟨rfl, rfl, rfl⟩ := trodAll_nil r1
  obtain rfl : args = #[v0, v1] := by cases args; simp_all
  obtain ⟨rfl, rfl⟩ := trodVars_none hV
  have k0 := h0
  have lt0 : ∀ x ∈ p0, x.block < W.heap.size := by obtain ⟨m, hm⟩ := k0; exact DataW.trod_lt m _ _ _ hm
  have k1 := h1
  have lt1 : ∀ x ∈ p1, x.block < W.heap.size := by obtain ⟨m, hm⟩ := k1; exact DataW.trod_lt m _ _ _ hm
  obtain ⟨a0, rfl, w0⟩ := open_ev (hval 0 39 v0 rfl rfl) h0
  obtain ⟨a1, rfl, w1⟩ := open_ev (hval 1 39 v1 rfl rfl) h1
  clear hA0 hval0
  refine (walk a0 w0 a1 w1 W (of_laid hL hsh)).mono fun e W' ⟨he, bel⟩ => ?_
  subst he
  exact ⟨_, rfl, _, _, _, [], _, [], hW', trodAll_mk1 (shut_bool Tryd.underlying4 _), (trodAll_cons_mk (Below.trod laidOut (by kernel_rfl) (of_decide_eq_true (by kernel_rfl)) k0 bel lt0) (trodAll_cons_mk (Below.trod laidOut (by kernel_rfl) (of_decide_eq_true (by kernel_rfl)) k1 bel lt1) trodAll_mk0)), rfl, bel.frame _, fun h => by cases h⟩

theorem over : Rows.CoilSizeSaid :=
  OpenClaim.holds_of_wide 7 Tryd.f7 rfl rfl rfl rfl rfl rfl rfl ⟨rfl, rfl, rfl, rfl, rfl⟩ rfl rfl rfl rfl rfl (by kernel_rfl) Tryd.func7 (by kernel_rfl)
    (of_decide_eq_true (by kernel_rfl)) (by unfold Func.isWrapper; first | (rw [if_pos (by decide +kernel)]; kernel_rfl) | (rw [if_neg (by decide +kernel)]; exact ⟨rfl, rfl⟩))
    (fun os started H enc _ => lifted os started H enc)

theorem proved : Rows.CoilSizeCardSaid :=
  Claim7.holds_tied_plain_at .later [] _ true _ false over (fun _ h => by cases h) (by kernel_rfl) (fun _ h => by cases h) coilSize_row_tie rfl ⟨rfl, rfl⟩ (by kernel_rfl) rfl
    (fun f fn hf hfn => by
      obtain rfl : f = 7 := Option.some.inj ((show Tryd.prog.funcNamed "taffrail/taffraillaw06.CoilSize" = some 7 by kernel_rfl).symm.trans hf) |>.symm
      obtain rfl : fn = Tryd.f7 := (Option.some.inj (Tryd.func7.symm.trans hfn)).symm
      refine ⟨by kernel_rfl, fun j t ht => ?_⟩
      rw [Tryd.params7] at ht
      have hm : t ∈ [39, 39] := by simpa using Array.mem_of_getElem? ht
      have hall : ([39, 39].all fun u => !Tryd.prog.wantsStandIn u) = true := by kernel_rfl
      exact (show Tryd.prog.wantsStandIn t = false by simpa using List.all_eq_true.1 hall t hm))
    (by kernel_rfl)
#print axioms proved

end Go.Proofs.YtobljhgiibpmkaaDoor.CoilSize
