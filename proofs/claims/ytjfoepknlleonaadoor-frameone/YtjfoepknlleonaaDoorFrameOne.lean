/-
  FrameOne: for every text and place the statement's function answers true: bytes that are read as a frame are printed again as they were. Conditions: none beyond the card's own: the listed package variables start as the program's text lays them, which the card ties to that text.
-/
import Derived.Test.YtjfoepknlleonaaDoorFrZ
import Derived.Test.YtjfoepknlleonaaDoorTie
import Derived.Test.YtjfoepknlleonaaDoorCards
import Derived.ProofKit
import Derived.OpenShut
import Derived.ShutString
import Derived.LaidMore
import Derived.Lay
import Derived.SevenTiedAt
import Derived.Stop.Joined
import Derived.Deep.DeepHandedRow
namespace Go.Proofs.YtjfoepknlleonaaDoor.FrameOne
open Go.ChangeShapes Go.WideShapes Go.ChangeAt Go.RowKit
open Go.ChangeMaps (open_string shut_string)
set_option linter.unusedVariables false
set_option linter.unusedSimpArgs false

/-- What is read at a place: nothing, or a frame that is printed as the bytes there. -/
theorem read_ways (s : ByteArray) (hs : s.size ≤ 1000000) (k : Int) :
    (∃ c : Int, c ≠ 0 ∧ ∀ t w', TabK w' t 256 → EvL w' → Calls Tryd.prog 16 #[.pointer (some ⟨t, 0, none⟩), .string s, .int .i64 k] w' fun r w'' => ∃ ao cap, r = .returned (.tuple #[.agg #[.int .u32 0, .slice ao 0 cap], .int .i64 0, .int .i64 c]) ∧ Below w'.heap.size w' w'') ∨
    (∃ (m n q : Nat) (l : List Ev), k = (m : Int) ∧ m + n ≤ s.size ∧
      (∀ t w', TabK w' t 256 → EvL w' → Calls Tryd.prog 16 #[.pointer (some ⟨t, 0, none⟩), .string s, .int .i64 (m : Int)] w' fun r w'' => ∃ ao cap, r = .returned (.tuple #[.agg #[.int .u32 (q : Int), .slice ao l.length cap], .int .i64 ((m + n : Nat) : Int), .int .i64 0]) ∧ SeenE w'' ao cap l ∧ Below w'.heap.size w' w'') ∧
      (∀ t ao cap w', TabK w' t 256 → SeenE w' ao cap l → EvL w' → Calls Tryd.prog 12 #[.pointer (some ⟨t, 0, none⟩), .agg #[.int .u32 (q : Int), .slice ao l.length cap]] w' fun r w'' => r = .returned (.tuple #[.string (s.extract m (m + n)), .int .i64 0]) ∧ Below w'.heap.size w' w'')) := by
  have hm : s.size ≤ maxLen := by unfold maxLen; omega
  by_cases hk : k < 0 ∨ (s.size : Int) < k
  · refine .inl ⟨1, by decide, fun t w' h1 h2 => (fread_bad t s hm k hk w').mono ?_⟩
    rintro r w'' ⟨rfl, b⟩
    exact ⟨none, 0, rfl, b⟩
  · obtain ⟨m, rfl⟩ := Int.eq_ofNat_of_zero_le (show 0 ≤ k by omega)
    have hR := fun t w' h1 h2 => fread_any t s hs m (by omega) w' h1 h2
    obtain ⟨L, hL⟩ : ∃ L, L = s.data.toList.drop m := ⟨_, rfl⟩
    rw [← hL] at hR
    by_cases hc : (frameR L).2.2.2 = 0
    · right
      obtain ⟨q, hq⟩ : ∃ q, q = (frameR L).1 := ⟨_, rfl⟩
      obtain ⟨l, hl⟩ : ∃ l, l = (frameR L).2.1 := ⟨_, rfl⟩
      obtain ⟨n, hn⟩ : ∃ n, n = (frameR L).2.2.1 := ⟨_, rfl⟩
      have e0 : frameR L = (q, l, n, 0) := by rw [hq, hl, hn, ← hc]
      obtain ⟨cyc, cnt, p, rest, e1, e2, e3, -, -, -, e7, -, e9, e10⟩ := frame_one e0
      have hlen : L.length = s.size - m := by rw [hL, List.length_drop]; rfl
      have hLl : L.length = n + rest.length := by rw [e1, List.length_append, frameB_len, e2]
      have hln : l.length ≤ 1000000 := by
        have := print_ok (q := q) (l := l) (by rw [e9])
        have h1 := readL_len (l.getD 0 ev0).cyc (l.getD 0 ev0).cnt (coilL l).1
        rw [coil_back (getD0 this.1) e10 this.2.1] at h1
        simp only at h1
        omega
      have hx : s.extract m (m + n) = ⟨(frameB q cyc cnt p).toArray⟩ := by
        rw [← mk_self (s.extract m (m + n)), extract_part s m (m + n) (by omega), ← hL, e1, show m + n - m = n by omega, take_app (by rw [frameB_len, e2])]
      refine ⟨m, n, q, l, rfl, by omega, fun t w' h1 h2 => ?_, fun t ao cap w' h1 h2 h3 => ?_⟩
      · have := hR t w' h1 h2
        rw [e0] at this
        exact this
      · have := fprint_any t q e3 ao cap l w' h1 h2 h3 e10 hln
        rw [e9] at this
        rw [hx]
        exact this
    · refine .inl ⟨(frameR L).2.2.2, hc, fun t w' h1 h2 => ?_⟩
      have := hR t w' h1 h2
      rw [fr_err rfl hc] at this
      rw [nextP_err m _ hc] at this
      refine this.mono ?_
      rintro r w'' ⟨ao, cap, rfl, -, b⟩
      exact ⟨ao, cap, rfl, b⟩

set_option maxRecDepth 100000 in
set_option maxHeartbeats 4000000 in
theorem walk_long (s : ByteArray) (k : Int) (hl : (1000 : Int) < (s.size : Int)) (w : World) (hL : EvL w) :
    Calls Tryd.prog 6 #[.string s, .int .i64 k] w fun r w' => r = .returned (.bool true) ∧ Below w.heap.size w w' := by
  have HA := Lib.hid (awake7_any w hL)
  have HL := Lib.hid hL
  clear hL
  go_enter Tryd.func6, Tryd.ntmps6
  go_wp2_with fail
  refine HA.out.mono ?_
  rintro r w2 ⟨rfl, h2⟩
  have L2 := Lib.hid (HL.out.below h2)
  have B2 := Lib.hid h2
  clear h2 HA HL
  go_wp2_with fail
  refine (awake7_any w2 L2.out).mono ?_
  rintro r w3 ⟨rfl, h3⟩
  have B3 := Lib.hid (B2.out.trans (h3.mono B2.out.size))
  clear h3
  go_wp2_with fail
  go_ret
  exact ⟨rfl, B3.out⟩

set_option maxRecDepth 100000 in
set_option maxHeartbeats 4000000 in
theorem walk_none (s : ByteArray) (k : Int) (hl : decide ((1000 : Int) < (s.size : Int)) = false) (c : Int) (hc : c ≠ 0)
    (HR : Hid (∀ t w', TabK w' t 256 → EvL w' → Calls Tryd.prog 16 #[.pointer (some ⟨t, 0, none⟩), .string s, .int .i64 k] w' fun r w'' => ∃ ao cap, r = .returned (.tuple #[.agg #[.int .u32 0, .slice ao 0 cap], .int .i64 0, .int .i64 c]) ∧ Below w'.heap.size w' w'')) (w : World) (hL : EvL w) :
    Calls Tryd.prog 6 #[.string s, .int .i64 k] w fun r w' => r = .returned (.bool true) ∧ Below w.heap.size w w' := by
  have hcb : (c != 0) = true := by rw [bne_iff_ne]; exact hc
  clear hc
  have HA := Lib.hid (awake7_any w hL)
  have HL := Lib.hid hL
  clear hL
  go_enter Tryd.func6, Tryd.ntmps6
  go_wp2_with fail
  refine HA.out.mono ?_
  rintro r w2 ⟨rfl, h2⟩
  have B2 := Lib.hid h2
  clear h2 HA
  go_wp2_with fail
  refine (make_any w2).mono ?_
  rintro r w3 ⟨rfl, t3, h3⟩
  have B3 := Lib.hid (B2.out.trans (h3.mono B2.out.size))
  have T3 := Lib.hid t3
  obtain ⟨t, ht⟩ : ∃ t, w2.heap.size = t := ⟨_, rfl⟩
  rw [ht] at T3 ⊢
  clear h3 t3 B2 ht
  go_wp2_with fail
  refine (HR.out t w3 T3.out (HL.out.below B3.out)).mono ?_
  rintro r w4 ⟨ao, cap, rfl, h4⟩
  have B4 := Lib.hid ((B3.out.trans (h4.mono B3.out.size)).alloc (Nat.le_trans B3.out.size h4.size) (.cells #[.int .u32 0, .slice ao 0 cap] 25))
  clear h4 HR B3 T3
  go_wp2_with fail
  go_ret
  exact ⟨rfl, B4.out⟩

set_option maxRecDepth 100000 in
set_option maxHeartbeats 4000000 in
theorem walk_some (s : ByteArray) (m n q : Nat) (l : List Ev) (hl : decide ((1000 : Int) < (s.size : Int)) = false) (hmn : m + n ≤ s.size)
    (HR : Hid (∀ t w', TabK w' t 256 → EvL w' → Calls Tryd.prog 16 #[.pointer (some ⟨t, 0, none⟩), .string s, .int .i64 (m : Int)] w' fun r w'' => ∃ ao cap, r = .returned (.tuple #[.agg #[.int .u32 (q : Int), .slice ao l.length cap], .int .i64 ((m + n : Nat) : Int), .int .i64 0]) ∧ SeenE w'' ao cap l ∧ Below w'.heap.size w' w''))
    (HP : Hid (∀ t ao cap w', TabK w' t 256 → SeenE w' ao cap l → EvL w' → Calls Tryd.prog 12 #[.pointer (some ⟨t, 0, none⟩), .agg #[.int .u32 (q : Int), .slice ao l.length cap]] w' fun r w'' => r = .returned (.tuple #[.string (s.extract m (m + n)), .int .i64 0]) ∧ Below w'.heap.size w' w'')) (w : World) (hL : EvL w) :
    Calls Tryd.prog 6 #[.string s, .int .i64 (m : Int)] w fun r w' => r = .returned (.bool true) ∧ Below w.heap.size w w' := by
  obtain ⟨e, he⟩ : ∃ e, e = m + n := ⟨_, rfl⟩
  rw [← he] at HR HP hmn
  have hme : m ≤ e := by omega
  have d1 : decide ((0 : Int) ≤ (m : Int)) = true := by rw [decide_eq_true_iff]; omega
  have d2 : decide ((e : Int) ≤ (s.size : Int)) = true := by rw [decide_eq_true_iff]; omega
  have d3 : decide ((m : Int) ≤ (e : Int)) = true := by rw [decide_eq_true_iff]; omega
  clear he
  have HA := Lib.hid (awake7_any w hL)
  have HL := Lib.hid hL
  clear hL
  go_enter Tryd.func6, Tryd.ntmps6
  go_wp2_with fail
  refine HA.out.mono ?_
  rintro r w2 ⟨rfl, h2⟩
  have B2 := Lib.hid h2
  clear h2 HA
  go_wp2_with fail
  refine (make_any w2).mono ?_
  rintro r w3 ⟨rfl, t3, h3⟩
  have B3 := Lib.hid (B2.out.trans (h3.mono B2.out.size))
  have T3 := Lib.hid t3
  obtain ⟨t, ht⟩ : ∃ t, w2.heap.size = t := ⟨_, rfl⟩
  rw [ht] at T3 ⊢
  clear h3 t3 B2 ht
  go_wp2_with fail
  refine (HR.out t w3 T3.out (HL.out.below B3.out)).mono ?_
  rintro r w4 ⟨ao, cap, rfl, s4, h4⟩
  obtain ⟨w5, x5⟩ : ∃ w5, w5 = w4.alloc (frO q ao l.length cap) := ⟨_, rfl⟩
  obtain ⟨z5, n5, c5⟩ := new_size x5
  have b5 := h4.trans (c5.mono h4.size)
  have B5 := Lib.hid (B3.out.trans (b5.mono B3.out.size))
  have S5 := Lib.hid (s4.below c5)
  have T5 := Lib.hid (T3.out.below b5 T3.out.lt)
  obtain ⟨c0, c1, -, -⟩ := frcells n5
  unfold frO at x5
  rw [x5] at c0 c1
  clear s4 h4 z5 n5 c5 b5 B3 T3 HR
  go_wp2_with fail
  rw [← x5]
  clear x5 c0 c1
  refine (HP.out t ao cap w5 T5.out S5.out (HL.out.below B5.out)).mono ?_
  rintro r w6 ⟨rfl, h6⟩
  have B6 := Lib.hid (B5.out.trans (h6.mono B5.out.size))
  clear h6 HP B5 S5 T5
  go_wp2_with fail
  go_ret
  exact ⟨by simp, B6.out⟩

theorem walk (s : ByteArray) (h0 : s.size ≤ maxLen) (k : Int) (h1 : (Lit.int .i64 k).wf = true) (w : World) (hL : EvL w) :
    Calls Tryd.prog 6 #[.string s, .int .i64 k] w fun r w' => r = .returned (.bool true) ∧ Below w.heap.size w w' := by
  by_cases hl : (1000 : Int) < (s.size : Int)
  · exact walk_long s k hl w hL
  · have hl' : decide ((1000 : Int) < (s.size : Int)) = false := by rw [decide_eq_false_iff_not]; exact hl
    rcases read_ways s (by omega) k with ⟨c, hc, hr⟩ | ⟨m, n, q, l, rfl, hmn, hr, hp⟩
    · exact walk_none s k hl' c hc (Lib.hid hr) w hL
    · exact walk_some s m n q l hl' hmn (Lib.hid hr) (Lib.hid hp) w hL

theorem own : ownKnob Tryd.prog.godebug = none := by kernel_rfl
theorem laidOut : laidOutB Tryd.prog = true := by kernel_rfl

set_option maxRecDepth 100000 in
theorem lifted (os : Os) (started : os.Started) (H : Type) (enc : TypeId × Value → H) :
    ReturnsInHanded {} Tryd.checked os 6 .any (fun w args => (Rows.frameOneSpec.pre enc Tryd.prog Tryd.f6 Rows.frameOneRow.domain false w args ∧ laidMetH Tryd.prog laidL w) ∧ sizedMet enc Tryd.prog Tryd.f6 (OpenSpec.ofChange Rows.frameOneSpec) false w args) (Rows.frameOneSpec.post enc Tryd.prog Tryd.f6 false true false false) := by
  refine returnsInHanded_of_row (s := OpenSpec.ofChange Rows.frameOneSpec) (F := fun _ _ _ => 0) (laid := laidL) (C := Tryd.checked) own started (by kernel_rfl) Tryd.func6
    (ChangeSpec.witness_shaped (enc := enc) (C := Tryd.checked) (os := os) (s := Rows.frameOneSpec) (X := fun w _ => laidMetH Tryd.prog laidL w) false (World.laidAll Tryd.prog os laidL) #[.string ByteArray.empty, .int .i64 0] 8 (World.laidAll_os _ _ _)
      (World.shaped_of_ZipB (by kernel_rfl) (by kernel_rfl)) (by kernel_rfl) (by kernel_rfl) (by kernel_rfl)
      (by rw [MakeChecks.laidMetH_plain _ _ _ (by kernel_rfl)]; exact laidMet_laidAll _ (by kernel_rfl) (by kernel_rfl))) ?_
  intro W base args ds gs before hval0 hW hcnd _ hsz0 hL hsh _
  have hval : ∀ (j : Nat) t v, Tryd.f6.params[j]? = some t → args[j]? = some v → Value.okWide Tryd.prog W .any base t v := hval0
  have hW' := hW
  obtain ⟨p, q, hA0, hV, rfl, hfz, hnd⟩ := hW
  have hA : DataW.TrodAll enc Tryd.prog W 0 (fun _ => true) true Tryd.f6.params.toList args.toList ds p := hA0
  rw [Tryd.params6] at hA hval
  obtain ⟨v0, vs0, d0, ds0, p0, q0, hargs, rfl, rfl, h0, r0⟩ := trodAll_cons hA
  obtain ⟨v1, vs1, d1, ds1, p1, q1, rfl, rfl, rfl, h1, r1⟩ := trodAll_cons r0
  obtain ⟨rfl, rfl, rfl⟩ := trodAll_nil r1
  obtain rfl : args = #[v0, v1] := by cases args; simp_all
  obtain ⟨rfl, rfl⟩ := trodVars_none hV
  have k0 := h0
  have lt0 : ∀ x ∈ p0, x.block < W.heap.size := by obtain ⟨m, hm⟩ := k0; exact DataW.trod_lt m _ _ _ hm
  have k1 := h1
  have lt1 : ∀ x ∈ p1, x.block < W.heap.size := by obtain ⟨m, hm⟩ := k1; exact DataW.trod_lt m _ _ _ hm
  obtain ⟨a0, rfl, rfl, rfl, w0⟩ := open_string Tryd.underlying9 (hval 0 9 v0 rfl rfl) h0
  obtain ⟨a1, rfl, rfl, rfl, w1⟩ := open_int Tryd.underlying3 (hval 1 3 v1 rfl rfl) h1
  clear hA0 hval0
  refine (walk a0 w0 a1 w1 W (of_laid hL hsh)).mono fun e W' ⟨he, bel⟩ => ?_
  subst he
  exact ⟨_, rfl, _, _, _, [], _, [], hW', trodAll_mk1 (shut_bool Tryd.underlying4 _), (trodAll_cons_mk (Below.trod laidOut (by kernel_rfl) (of_decide_eq_true (by kernel_rfl)) k0 bel lt0) (trodAll_cons_mk (Below.trod laidOut (by kernel_rfl) (of_decide_eq_true (by kernel_rfl)) k1 bel lt1) trodAll_mk0)), rfl, bel.frame _, fun h => by cases h⟩

theorem over : Rows.FrameOneSaid :=
  OpenClaim.holds_of_wide 6 Tryd.f6 rfl rfl rfl rfl rfl rfl rfl ⟨rfl, rfl, rfl, rfl, rfl⟩ rfl rfl rfl rfl rfl (by kernel_rfl) Tryd.func6 (by kernel_rfl)
    (of_decide_eq_true (by kernel_rfl)) (by unfold Func.isWrapper; first | (rw [if_pos (by decide +kernel)]; kernel_rfl) | (rw [if_neg (by decide +kernel)]; exact ⟨rfl, rfl⟩))
    (fun os started H enc _ => lifted os started H enc)

theorem proved : Rows.FrameOneCardSaid :=
  Claim7.holds_tied_plain_at .later [] _ true _ false over (fun _ h => by cases h) (by kernel_rfl) (fun _ h => by cases h) frameOne_row_tie rfl ⟨rfl, rfl⟩ (by kernel_rfl) rfl
    (fun f fn hf hfn => by
      obtain rfl : f = 6 := Option.some.inj ((show Tryd.prog.funcNamed "taffrail/taffraillaw07.FrameOne" = some 6 by kernel_rfl).symm.trans hf) |>.symm
      obtain rfl : fn = Tryd.f6 := (Option.some.inj (Tryd.func6.symm.trans hfn)).symm
      refine ⟨by kernel_rfl, fun j t ht => ?_⟩
      rw [Tryd.params6] at ht
      have hm : t ∈ [9, 3] := by simpa using Array.mem_of_getElem? ht
      have hall : ([9, 3].all fun u => !Tryd.prog.wantsStandIn u) = true := by kernel_rfl
      exact (show Tryd.prog.wantsStandIn t = false by simpa using List.all_eq_true.1 hall t hm))
    (by kernel_rfl)
#print axioms proved

end Go.Proofs.YtjfoepknlleonaaDoor.FrameOne
