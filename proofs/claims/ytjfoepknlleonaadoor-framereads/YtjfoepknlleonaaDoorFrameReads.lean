/-
  FrameReads: for every text and place the statement's function answers true: Read answers as the document's own does. Conditions: none beyond the card's own: the listed package variables start as the program's text lays them, which the card ties to that text.
-/
import Derived.Test.YtjfoepknlleonaaDoorFrZ
import Derived.Test.YtjfoepknlleonaaDoorFrR
import Derived.Test.YtjfoepknlleonaaDoorTie
import Derived.Test.YtjfoepknlleonaaDoorCards
import Derived.ProofKit
import Derived.OpenShut
import Derived.ShutString
import Derived.LaidMore
import Derived.Lay
import Derived.SevenTiedAt
import Derived.Stop.Joined
import Derived.Deep.DeepHandedRow
namespace Go.Proofs.YtjfoepknlleonaaDoor.FrameReads
open Go.ChangeShapes Go.WideShapes Go.ChangeAt Go.RowKit
open Go.ChangeMaps (open_string shut_string)
set_option linter.unusedVariables false
set_option linter.unusedSimpArgs false

/-- Read at any place, and the document's own: the same. -/
theorem read_both (s : ByteArray) (hs : s.size ≤ 1000000) (k : Int) : ∃ (q : Nat) (l : List Ev) (nx : Nat) (c : Int),
    (∀ t w', TabK w' t 256 → EvL w' → Calls Tryd.prog 16 #[.pointer (some ⟨t, 0, none⟩), .string s, .int .i64 k] w' fun r w'' => ∃ ao cap, r = .returned (.tuple #[.agg #[.int .u32 (q : Int), .slice ao l.length cap], .int .i64 (nx : Int), .int .i64 c]) ∧ SeenE w'' ao cap l ∧ Below w'.heap.size w' w'') ∧
    (∀ w', Calls Tryd.prog 17 #[.string s, .int .i64 k] w' fun r w'' => ∃ ao cap, r = .returned (.tuple #[.agg #[.int .u32 (q : Int), .slice ao l.length cap], .int .i64 (nx : Int), .int .i64 c]) ∧ SeenE w'' ao cap l ∧ Below w'.heap.size w' w'') := by
  have hm : s.size ≤ maxLen := by unfold maxLen; omega
  by_cases hk : k < 0 ∨ (s.size : Int) < k
  · refine ⟨0, [], 0, 1, fun t w' h1 h2 => (fread_bad t s hm k hk w').mono ?_, fun w' => (rfread_bad s hm k hk w').mono ?_⟩
    · rintro r w'' ⟨rfl, b⟩; exact ⟨none, 0, rfl, seenE_none _, b⟩
    · rintro r w'' ⟨rfl, b⟩; exact ⟨none, 0, rfl, seenE_none _, b⟩
  · obtain ⟨n, rfl⟩ := Int.eq_ofNat_of_zero_le (show 0 ≤ k by omega)
    exact ⟨_, _, _, _, fun t w' h1 h2 => fread_any t s hs n (by omega) w' h1 h2, fun w' => rfread_any s hs n (by omega) w'⟩

set_option maxRecDepth 100000 in
set_option maxHeartbeats 2000000 in
theorem walk_long (s : ByteArray) (k : Int) (hl : (1000 : Int) < (s.size : Int)) (w : World) (hL : EvL w) :
    Calls Tryd.prog 4 #[.string s, .int .i64 k] w fun r w' => r = .returned (.bool true) ∧ Below w.heap.size w w' := by
  have HA := Lib.hid (awake7_any w hL)
  have HL := Lib.hid hL
  clear hL
  go_enter Tryd.func4, Tryd.ntmps4
  go_wp2_with fail
  refine HA.out.mono ?_
  rintro r w2 ⟨rfl, h2⟩
  have L2 := Lib.hid (HL.out.below h2)
  have B2 := Lib.hid h2
  clear h2 HA HL
  go_wp2_with fail
  refine (awake7_any w2 L2.out).mono ?_
  rintro r w3 ⟨rfl, h3⟩
  have B3 := Lib.hid (B2.out.trans (h3.mono B2.out.size))
  clear h3
  go_wp2_with fail
  go_ret
  exact ⟨rfl, B3.out⟩

set_option maxRecDepth 100000 in
set_option maxHeartbeats 4000000 in
theorem walk_few (s : ByteArray) (k : Int) (hl : decide ((1000 : Int) < (s.size : Int)) = false) (w : World) (hL : EvL w) :
    Calls Tryd.prog 4 #[.string s, .int .i64 k] w fun r w' => r = .returned (.bool true) ∧ Below w.heap.size w w' := by
  have hn : s.size ≤ 1000000 := by simp at hl; omega
  have HA := Lib.hid (awake7_any w hL)
  have HL := Lib.hid hL
  obtain ⟨q, l, nx, c, r1, r2⟩ := read_both s hn k
  have R1 := Lib.hid r1
  have R2 := Lib.hid r2
  clear r1 r2 hL hn
  go_enter Tryd.func4, Tryd.ntmps4
  go_wp2_with fail
  refine HA.out.mono ?_
  rintro r w2 ⟨rfl, h2⟩
  have B2 := Lib.hid h2
  clear h2 HA
  go_wp2_with fail
  refine (make_any w2).mono ?_
  rintro r w3 ⟨rfl, t3, h3⟩
  have B3 := Lib.hid (B2.out.trans (h3.mono B2.out.size))
  have T3 := Lib.hid t3
  generalize w2.heap.size = t at *
  clear h3 t3 B2
  go_wp2_with fail
  refine (R1.out t w3 T3.out (HL.out.below B3.out)).mono ?_
  rintro r w4 ⟨ao, cap, rfl, s4, h4⟩
  obtain ⟨w5, x5⟩ : ∃ w5, w5 = w4.alloc (frO q ao l.length cap) := ⟨_, rfl⟩
  obtain ⟨z5, n5, c5⟩ := new_size x5
  have b5 := h4.trans (c5.mono h4.size)
  have B5 := Lib.hid (B3.out.trans (b5.mono B3.out.size))
  have S5 := Lib.hid (s4.below c5)
  have N5 := Lib.hid n5
  obtain ⟨G, hG⟩ : ∃ G, w4.heap.size = G := ⟨_, rfl⟩
  rw [hG] at N5
  have HG := Lib.hid hG
  unfold frO at x5
  clear s4 h4 z5 n5 c5 b5 B3 T3 hG R1
  go_wp2_with fail
  rw [HG.out, ← x5]
  clear x5
  refine (R2.out w5).mono ?_
  rintro r w6 ⟨bo, cbp, rfl, s6, h6⟩
  obtain ⟨w7, x7⟩ : ∃ w7, w7 = w6.alloc (frO q bo l.length cbp) := ⟨_, rfl⟩
  obtain ⟨z7, n7, c7⟩ := new_size x7
  have b7 := h6.trans (c7.mono h6.size)
  have B7 := Lib.hid (B5.out.trans (b7.mono B5.out.size))
  have S7 := Lib.hid (S5.out.below b7)
  have U7 := Lib.hid (s6.below c7)
  have N7 := Lib.hid ((b7.block _ (blk_lt N5.out)).trans N5.out)
  have M7 := Lib.hid n7
  have HSm := Lib.hid (fsame_any q ao bo cap cbp l w7 S7.out U7.out)
  obtain ⟨c0, c1, -, -⟩ := frcells N7.out
  obtain ⟨d0, d1, -, -⟩ := frcells M7.out
  unfold frO at x7
  rw [x7] at c0 c1 d0 d1
  clear s6 h6 z7 n7 c7 b7 B5 S5 N5 R2
  go_wp2_with fail
  rw [← x7]
  clear x7 c0 c1 d0 d1
  refine HSm.out.mono ?_
  rintro r w8 ⟨rfl, h8⟩
  have B8 := Lib.hid (B7.out.trans (h8.mono B7.out.size))
  clear h8
  go_wp2_with fail
  go_ret
  exact ⟨by simp, B8.out⟩

theorem walk (s : ByteArray) (h0 : s.size ≤ maxLen) (k : Int) (h1 : (Lit.int .i64 k).wf = true) (w : World) (hL : EvL w) :
    Calls Tryd.prog 4 #[.string s, .int .i64 k] w fun r w' => r = .returned (.bool true) ∧ Below w.heap.size w w' := by
  by_cases hl : (1000 : Int) < (s.size : Int)
  · exact walk_long s k hl w hL
  · exact walk_few s k (by simp; omega) w hL

theorem own : ownKnob Tryd.prog.godebug = none := by kernel_rfl
theorem laidOut : laidOutB Tryd.prog = true := by kernel_rfl

set_option maxRecDepth 100000 in
theorem lifted (os : Os) (started : os.Started) (H : Type) (enc : TypeId × Value → H) :
    ReturnsInHanded {} Tryd.checked os 4 .any (fun w args => (Rows.frameReadsSpec.pre enc Tryd.prog Tryd.f4 Rows.frameReadsRow.domain false w args ∧ laidMetH Tryd.prog laidL w) ∧ sizedMet enc Tryd.prog Tryd.f4 (OpenSpec.ofChange Rows.frameReadsSpec) false w args) (Rows.frameReadsSpec.post enc Tryd.prog Tryd.f4 false true false false) := by
  refine returnsInHanded_of_row (s := OpenSpec.ofChange Rows.frameReadsSpec) (F := fun _ _ _ => 0) (laid := laidL) (C := Tryd.checked) own started (by kernel_rfl) Tryd.func4
    (ChangeSpec.witness_shaped (enc := enc) (C := Tryd.checked) (os := os) (s := Rows.frameReadsSpec) (X := fun w _ => laidMetH Tryd.prog laidL w) false (World.laidAll Tryd.prog os laidL) #[.string ByteArray.empty, .int .i64 0] 8 (World.laidAll_os _ _ _)
      (World.shaped_of_ZipB (by kernel_rfl) (by kernel_rfl)) (by kernel_rfl) (by kernel_rfl) (by kernel_rfl)
      (by rw [MakeChecks.laidMetH_plain _ _ _ (by kernel_rfl)]; exact laidMet_laidAll _ (by kernel_rfl) (by kernel_rfl))) ?_
  intro W base args ds gs before hval0 hW hcnd _ hsz0 hL hsh _
  have hval : ∀ (j : Nat) t v, Tryd.f4.params[j]? = some t → args[j]? = some v → Value.okWide Tryd.prog W .any base t v := hval0
  have hW' := hW
  obtain ⟨p, q, hA0, hV, rfl, hfz, hnd⟩ := hW
  have hA : DataW.TrodAll enc Tryd.prog W 0 (fun _ => true) true Tryd.f4.params.toList args.toList ds p := hA0
  rw [Tryd.params4] at hA hval
  obtain ⟨v0, vs0, d0, ds0, p0, q0, hargs, rfl, rfl, h0, r0⟩ := trodAll_cons hA
  obtain ⟨v1, vs1, d1, ds1, p1, q1, rfl, rfl, rfl, h1, r1⟩ := trodAll_cons r0
  obtain ⟨rfl, rfl, rfl⟩ := trodAll_nil r1
  obtain rfl : args = #[v0, v1] := by cases args; simp_all
  obtain ⟨rfl, rfl⟩ := trodVars_none hV
  have k0 := h0
  have lt0 : ∀ x ∈ p0, x.block < W.heap.size := by obtain ⟨m, hm⟩ := k0; exact DataW.trod_lt m _ _ _ hm
  have k1 := h1
  have lt1 : ∀ x ∈ p1, x.block < W.heap.size := by obtain ⟨m, hm⟩ := k1; exact DataW.trod_lt m _ _ _ hm
  obtain ⟨a0, rfl, rfl, rfl, w0⟩ := open_string Tryd.underlying9 (hval 0 9 v0 rfl rfl) h0
  obtain ⟨a1, rfl, rfl, rfl, w1⟩ := open_int Tryd.underlying3 (hval 1 3 v1 rfl rfl) h1
  clear hA0 hval0
  refine (walk a0 w0 a1 w1 W (of_laid hL hsh)).mono fun e W' ⟨he, bel⟩ => ?_
  subst he
  exact ⟨_, rfl, _, _, _, [], _, [], hW', trodAll_mk1 (shut_bool Tryd.underlying4 _), (trodAll_cons_mk (Below.trod laidOut (by kernel_rfl) (of_decide_eq_true (by kernel_rfl)) k0 bel lt0) (trodAll_cons_mk (Below.trod laidOut (by kernel_rfl) (of_decide_eq_true (by kernel_rfl)) k1 bel lt1) trodAll_mk0)), rfl, bel.frame _, fun h => by cases h⟩

theorem over : Rows.FrameReadsSaid :=
  OpenClaim.holds_of_wide 4 Tryd.f4 rfl rfl rfl rfl rfl rfl rfl ⟨rfl, rfl, rfl, rfl, rfl⟩ rfl rfl rfl rfl rfl (by kernel_rfl) Tryd.func4 (by kernel_rfl)
    (of_decide_eq_true (by kernel_rfl)) (by unfold Func.isWrapper; first | (rw [if_pos (by decide +kernel)]; kernel_rfl) | (rw [if_neg (by decide +kernel)]; exact ⟨rfl, rfl⟩))
    (fun os started H enc _ => lifted os started H enc)

theorem proved : Rows.FrameReadsCardSaid :=
  Claim7.holds_tied_plain_at .later [] _ true _ false over (fun _ h => by cases h) (by kernel_rfl) (fun _ h => by cases h) frameReads_row_tie rfl ⟨rfl, rfl⟩ (by kernel_rfl) rfl
    (fun f fn hf hfn => by
      obtain rfl : f = 4 := Option.some.inj ((show Tryd.prog.funcNamed "taffrail/taffraillaw07.FrameReads" = some 4 by kernel_rfl).symm.trans hf) |>.symm
      obtain rfl : fn = Tryd.f4 := (Option.some.inj (Tryd.func4.symm.trans hfn)).symm
      refine ⟨by kernel_rfl, fun j t ht => ?_⟩
      rw [Tryd.params4] at ht
      have hm : t ∈ [9, 3] := by simpa using Array.mem_of_getElem? ht
      have hall : ([9, 3].all fun u => !Tryd.prog.wantsStandIn u) = true := by kernel_rfl
      exact (show Tryd.prog.wantsStandIn t = false by simpa using List.all_eq_true.1 hall t hm))
    (by kernel_rfl)
#print axioms proved

end Go.Proofs.YtjfoepknlleonaaDoor.FrameReads
