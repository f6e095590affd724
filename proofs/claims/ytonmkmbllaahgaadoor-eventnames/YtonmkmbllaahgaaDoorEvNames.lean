/-
  EventNames: for every kind and text the statement's function answers true: names are those that the document says; a kind's name leads back to it, and no other text to any. Conditions: none beyond the card's own: the listed package variables start as the program's text lays them, which the card ties to that text.
-/
import Derived.Test.YtonmkmbllaahgaaDoorEvOpen
import Derived.Test.YtonmkmbllaahgaaDoorEvRef2
import Derived.Test.YtonmkmbllaahgaaDoorTie
import Derived.Test.YtonmkmbllaahgaaDoorCards
import Derived.ProofKit
import Derived.OpenShut
import Derived.ShutString
import Derived.LaidMore
import Derived.Lay
import Derived.SevenTiedAt
import Derived.Stop.Joined
import Derived.Deep.DeepHandedRow
namespace Go.Proofs.YtonmkmbllaahgaaDoor.EvNames
open Go.ChangeShapes Go.WideShapes Go.ChangeAt Go.RowKit
open Go.ChangeMaps (open_string shut_string)
set_option linter.unusedVariables false
set_option linter.unusedSimpArgs false

/-- Ahead of the test: the name that is wanted, in whatever world. -/
theorem name_w (kind : Int) (w : World) (hL : EvL w) : Calls Tryd.prog 15 #[.int .i64 kind] w fun e w' => e = .returned (.string (if knownB kind = true then nameB kind.toNat else ⟨#[]⟩)) ∧ w = w' := name_any kind w hL

set_option maxRecDepth 100000 in
set_option maxHeartbeats 4000000 in
theorem walk_known (n : Nat) (n1 : 1 ≤ n) (n2 : n ≤ 24) (S s : ByteArray) (kn : Nat) (w : World) (hL : EvL w) (hS : Hid (nameB n = S)) (hne : ¬ S.toList = [])
    (HN : Hid (∀ w', EvL w' → Calls Tryd.prog 15 #[.int .i64 (n : Int)] w' fun r w'' => r = .returned (.string S) ∧ w' = w''))
    (HK : Hid (∀ w', EvL w' → Calls Tryd.prog 16 #[.string S] w' fun r w'' => r = .returned (.int .i64 (n : Int)) ∧ w' = w''))
    (HQ : Hid (∀ w', EvL w' → Calls Tryd.prog 16 #[.string s] w' fun r w'' => r = .returned (.int .i64 (kn : Int)) ∧ w' = w''))
    (hkn : kn ≤ 24) (hs : Hid (kn ≠ 0 → nameB kn = s)) :
    Calls Tryd.prog 5 #[.int .i64 (n : Int), .string s] w fun r w' => r = .returned (.bool true) ∧ Below w.heap.size w w' := by
  have d1 : (1 : Int) ≤ n := by omega
  have d2 : (n : Int) ≤ 24 := by omega
  have d0 : (0 : Int) ≤ n := by omega
  have d3 : (n : Int) < 25 := by omega
  have HL := Lib.hid hL
  clear hL n1 n2
  go_enter Tryd.func5, Tryd.ntmps5
  go_wp2_with fail
  refine (rnames_any w).mono ?_
  rintro r w1 ⟨rfl, h1, hc⟩
  have cn := hc n (by omega)
  rw [hS.out] at cn
  have L1 := Lib.hid (HL.out.below h1)
  have B1 := Lib.hid h1
  clear h1 hc
  go_wp2_with fail
  refine (awake_any w1 L1.out).mono ?_
  rintro r w2 ⟨rfl, h2⟩
  have L2 := Lib.hid (L1.out.below h2)
  have B2 := Lib.hid (B1.out.trans (h2.mono B1.out.size))
  clear h2 cn L1 B1
  by_cases hl : (100 : Int) < (s.size : Int)
  · go_wp2_with fail
    refine (awake_any w2 L2.out).mono ?_
    rintro r w3 ⟨rfl, h3⟩
    have B3 := Lib.hid (B2.out.trans (h3.mono B2.out.size))
    clear h3
    go_wp2_with fail
    go_ret
    exact ⟨rfl, B3.out⟩
  · have hl' : decide ((100 : Int) < (s.size : Int)) = false := by simp; omega
    go_wp2_with fail
    refine (HN.out w2 L2.out).mono ?_
    rintro r w3 ⟨rfl, rfl⟩
    go_wp2_with fail
    refine (HK.out w2 L2.out).mono ?_
    rintro r w3 ⟨rfl, rfl⟩
    go_wp2_with fail
    refine (HQ.out w2 L2.out).mono ?_
    rintro r w3 ⟨rfl, rfl⟩
    have k0 : (0 : Int) ≤ kn := by omega
    have k1 : (kn : Int) ≤ 24 := by omega
    by_cases hz : kn = 0
    · have hz1 : ((kn : Int) == 0) = true := by simp [hz]
      have hz2 : ((kn : Int) != 0) = false := by simp [hz]
      go_wp2_with fail
      refine (HQ.out w2 L2.out).mono ?_
      rintro r w3 ⟨rfl, rfl⟩
      go_wp2_with fail
      go_ret
      exact ⟨rfl, B2.out⟩
    · have hz1 : ((kn : Int) == 0) = false := by simp; omega
      have hz2 : ((kn : Int) != 0) = true := by simp; omega
      have k3 : (kn : Int) < 25 := by omega
      have hs' := hs.out hz
      go_wp2_with fail
      refine (rnames_any w2).mono ?_
      rintro r w4 ⟨rfl, h4, hc⟩
      have cn := hc kn (by omega)
      rw [hs'] at cn
      have B4 := Lib.hid (B2.out.trans (h4.mono B2.out.size))
      clear h4 hc hs'
      go_wp2_with fail
      go_ret
      exact ⟨rfl, B4.out⟩

set_option maxRecDepth 100000 in
set_option maxHeartbeats 4000000 in
theorem walk_not (kind : Int) (hk : kind < 1 ∨ 24 < kind) (s : ByteArray) (kn : Nat) (w : World) (hL : EvL w)
    (HN : Hid (∀ w', EvL w' → Calls Tryd.prog 15 #[.int .i64 kind] w' fun r w'' => r = .returned (.string ⟨#[]⟩) ∧ w' = w''))
    (HQ : Hid (∀ w', EvL w' → Calls Tryd.prog 16 #[.string s] w' fun r w'' => r = .returned (.int .i64 (kn : Int)) ∧ w' = w''))
    (hkn : kn ≤ 24) (hs : Hid (kn ≠ 0 → nameB kn = s)) :
    Calls Tryd.prog 5 #[.int .i64 kind, .string s] w fun r w' => r = .returned (.bool true) ∧ Below w.heap.size w w' := by
  have L2 := Lib.hid hL
  have B2 := Lib.hid (Below.refl w.heap.size w)
  have AW := Lib.hid (fun w' (h' : EvL w') => awake_any w' h')
  clear hL
  obtain ⟨q, hq1, hq2⟩ : ∃ q : Bool, decide ((1 : Int) ≤ kind) = q ∧ (q = true → decide (kind ≤ 24) = false) := ⟨_, rfl, fun h => by simp at h ⊢; omega⟩
  clear hk
  go_enter Tryd.func5, Tryd.ntmps5
  cases q
  · clear hq2
    go_wp2_with fail
    refine (AW.out w L2.out).mono ?_
    rintro r w2 ⟨rfl, h2⟩
    have L3 := Lib.hid (L2.out.below h2)
    have B3 := Lib.hid (B2.out.trans (h2.mono B2.out.size))
    clear h2
    by_cases hl : (100 : Int) < (s.size : Int)
    · go_wp2_with fail
      refine (AW.out w2 L3.out).mono ?_
      rintro r w3 ⟨rfl, h3⟩
      have B4 := Lib.hid (B3.out.trans (h3.mono B3.out.size))
      clear h3
      go_wp2_with fail
      go_ret
      exact ⟨rfl, B4.out⟩
    · have hl' : decide ((100 : Int) < (s.size : Int)) = false := by simp; omega
      go_wp2_with fail
      refine (HN.out w2 L3.out).mono ?_
      rintro r w3 ⟨rfl, rfl⟩
      go_wp2_with fail
      refine (HQ.out w2 L3.out).mono ?_
      rintro r w3 ⟨rfl, rfl⟩
      have k0 : (0 : Int) ≤ kn := by omega
      have k1 : (kn : Int) ≤ 24 := by omega
      by_cases hz : kn = 0
      · have hz1 : ((kn : Int) == 0) = true := by simp [hz]
        have hz2 : ((kn : Int) != 0) = false := by simp [hz]
        go_wp2_with fail
        refine (HQ.out w2 L3.out).mono ?_
        rintro r w3 ⟨rfl, rfl⟩
        go_wp2_with fail
        go_ret
        exact ⟨rfl, B3.out⟩
      · have hz1 : ((kn : Int) == 0) = false := by simp; omega
        have hz2 : ((kn : Int) != 0) = true := by simp; omega
        have k3 : (kn : Int) < 25 := by omega
        have hs' := hs.out hz
        go_wp2_with fail
        refine (rnames_any w2).mono ?_
        rintro r w4 ⟨rfl, h4, hc⟩
        have cn := hc kn (by omega)
        rw [hs'] at cn
        have B4 := Lib.hid (B3.out.trans (h4.mono B3.out.size))
        clear h4 hc hs'
        go_wp2_with fail
        go_ret
        exact ⟨rfl, B4.out⟩
  · have hq3 := hq2 rfl
    clear hq2
    go_wp2_with fail
    refine (AW.out w L2.out).mono ?_
    rintro r w2 ⟨rfl, h2⟩
    have L3 := Lib.hid (L2.out.below h2)
    have B3 := Lib.hid (B2.out.trans (h2.mono B2.out.size))
    clear h2
    by_cases hl : (100 : Int) < (s.size : Int)
    · go_wp2_with fail
      refine (AW.out w2 L3.out).mono ?_
      rintro r w3 ⟨rfl, h3⟩
      have B4 := Lib.hid (B3.out.trans (h3.mono B3.out.size))
      clear h3
      go_wp2_with fail
      go_ret
      exact ⟨rfl, B4.out⟩
    · have hl' : decide ((100 : Int) < (s.size : Int)) = false := by simp; omega
      go_wp2_with fail
      refine (HN.out w2 L3.out).mono ?_
      rintro r w3 ⟨rfl, rfl⟩
      go_wp2_with fail
      refine (HQ.out w2 L3.out).mono ?_
      rintro r w3 ⟨rfl, rfl⟩
      have k0 : (0 : Int) ≤ kn := by omega
      have k1 : (kn : Int) ≤ 24 := by omega
      by_cases hz : kn = 0
      · have hz1 : ((kn : Int) == 0) = true := by simp [hz]
        have hz2 : ((kn : Int) != 0) = false := by simp [hz]
        go_wp2_with fail
        refine (HQ.out w2 L3.out).mono ?_
        rintro r w3 ⟨rfl, rfl⟩
        go_wp2_with fail
        go_ret
        exact ⟨rfl, B3.out⟩
      · have hz1 : ((kn : Int) == 0) = false := by simp; omega
        have hz2 : ((kn : Int) != 0) = true := by simp; omega
        have k3 : (kn : Int) < 25 := by omega
        have hs' := hs.out hz
        go_wp2_with fail
        refine (rnames_any w2).mono ?_
        rintro r w4 ⟨rfl, h4, hc⟩
        have cn := hc kn (by omega)
        rw [hs'] at cn
        have B4 := Lib.hid (B3.out.trans (h4.mono B3.out.size))
        clear h4 hc hs'
        go_wp2_with fail
        go_ret
        exact ⟨rfl, B4.out⟩

theorem walk (kind : Int) (w0 : (Lit.int .i64 kind).wf = true) (s : ByteArray) (w1 : s.size ≤ maxLen) (w : World) (hL : EvL w) :
    Calls Tryd.prog 5 #[.int .i64 kind, .string s] w fun r w' => r = .returned (.bool true) ∧ Below w.heap.size w w' := by
  have hs : kindOf s.data.toList ≠ 0 → nameB (kindOf s.data.toList) = s := fun h => by unfold nameB; rw [kindOf_name h, bytesOf_list]
  cases hk : knownB kind with
  | true =>
    obtain ⟨n, rfl, n1, n2⟩ := known_nat hk
    refine walk_known n n1 n2 (nameB n) s (kindOf s.data.toList) w hL rfl ?_ (fun w' h' => ?_) (fun w' h' => ?_) (fun w' h' => kind_any s w' h') (kindOf_le _) hs
    · have := names_some ⟨n - 1, by omega⟩
      simp only [show n - 1 + 1 = n by omega] at this
      rw [ByteArray.toList_eq, show (nameB n).data.toList = nameL n from bytesOf_data _]
      exact this
    · have := name_any (n : Int) w' h'
      rw [if_pos hk] at this
      exact this
    · have := kind_any (nameB n) w' h'
      rw [show kindOf (nameB n).data.toList = n from kindOf_is n1 n2 (bytesOf_data _).symm] at this
      exact this
  | false =>
    refine walk_not kind (by simp [knownB] at hk; omega) s (kindOf s.data.toList) w hL (fun w' h' => ?_) (fun w' h' => kind_any s w' h') (kindOf_le _) hs
    have := name_any kind w' h'
    rw [hk] at this
    exact this

theorem own : ownKnob Tryd.prog.godebug = none := by kernel_rfl
theorem laidOut : laidOutB Tryd.prog = true := by kernel_rfl

set_option maxRecDepth 100000 in
theorem lifted (os : Os) (started : os.Started) (H : Type) (enc : TypeId × Value → H) :
    ReturnsInHanded {} Tryd.checked os 5 .any (fun w args => (Rows.eventNamesSpec.pre enc Tryd.prog Tryd.f5 Rows.eventNamesRow.domain false w args ∧ laidMetH Tryd.prog laidL w) ∧ sizedMet enc Tryd.prog Tryd.f5 (OpenSpec.ofChange Rows.eventNamesSpec) false w args) (Rows.eventNamesSpec.post enc Tryd.prog Tryd.f5 false true false false) := by
  refine returnsInHanded_of_row (s := OpenSpec.ofChange Rows.eventNamesSpec) (F := fun _ _ _ => 0) (laid := laidL) (C := Tryd.checked) own started (by kernel_rfl) Tryd.func5
    (ChangeSpec.witness_shaped (enc := enc) (C := Tryd.checked) (os := os) (s := Rows.eventNamesSpec) (X := fun w _ => laidMetH Tryd.prog laidL w) false (World.laidAll Tryd.prog os laidL) #[.int .i64 0, .string ByteArray.empty] 8 (World.laidAll_os _ _ _)
      (World.shaped_of_ZipB (by kernel_rfl) (by kernel_rfl)) (by kernel_rfl) (by kernel_rfl) (by kernel_rfl)
      (by rw [MakeChecks.laidMetH_plain _ _ _ (by kernel_rfl)]; exact laidMet_laidAll _ (by kernel_rfl) (by kernel_rfl))) ?_
  intro W base args ds gs before hval0 hW hcnd _ hsz0 hL hsh _
  have hval : ∀ (j : Nat) t v, Tryd.f5.params[j]? = some t → args[j]? = some v → Value.okWide Tryd.prog W .any base t v := hval0
  have hW' := hW
  obtain ⟨p, q, hA0, hV, rfl, hfz, hnd⟩ := hW
  have hA : DataW.TrodAll enc Tryd.prog W 0 (fun _ => true) true Tryd.f5.params.toList args.toList ds p := hA0
  rw [Tryd.params5] at hA hval
  obtain ⟨v0, vs0, d0, ds0, p0, q0, hargs, rfl, rfl, h0, r0⟩ := trodAll_cons hA
  obtain ⟨v1, vs1, d1, ds1, p1, q1, rfl, rfl, rfl, h1, r1⟩ := trodAll_cons r0
  obtain ⟨rfl, rfl, rfl⟩ := trodAll_nil r1
  obtain rfl : args = #[v0, v1] := by cases args; simp_all
  obtain ⟨rfl, rfl⟩ := trodVars_none hV
  have k0 := h0
  have lt0 : ∀ x ∈ p0, x.block < W.heap.size := by obtain ⟨m, hm⟩ := k0; exact DataW.trod_lt m _ _ _ hm
  have k1 := h1
  have lt1 : ∀ x ∈ p1, x.block < W.heap.size := by obtain ⟨m, hm⟩ := k1; exact DataW.trod_lt m _ _ _ hm
  obtain ⟨a0, rfl, rfl, rfl, w0⟩ := open_int Tryd.underlying3 (hval 0 3 v0 rfl rfl) h0
  obtain ⟨a1, rfl, rfl, rfl, w1⟩ := open_string Tryd.underlying9 (hval 1 9 v1 rfl rfl) h1
  clear hA0 hval0
  refine (walk a0 w0 a1 w1 W (of_laid hL hsh)).mono fun e W' ⟨he, bel⟩ => ?_
  subst he
  exact ⟨_, rfl, _, _, _, [], _, [], hW', trodAll_mk1 (shut_bool Tryd.underlying4 _), (trodAll_cons_mk (Below.trod laidOut (by kernel_rfl) (of_decide_eq_true (by kernel_rfl)) k0 bel lt0) (trodAll_cons_mk (Below.trod laidOut (by kernel_rfl) (of_decide_eq_true (by kernel_rfl)) k1 bel lt1) trodAll_mk0)), rfl, bel.frame _, fun h => by cases h⟩

theorem over : Rows.EventNamesSaid :=
  OpenClaim.holds_of_wide 5 Tryd.f5 rfl rfl rfl rfl rfl rfl rfl ⟨rfl, rfl, rfl, rfl, rfl⟩ rfl rfl rfl rfl rfl (by kernel_rfl) Tryd.func5 (by kernel_rfl)
    (of_decide_eq_true (by kernel_rfl)) (by unfold Func.isWrapper; first | (rw [if_pos (by decide +kernel)]; kernel_rfl) | (rw [if_neg (by decide +kernel)]; exact ⟨rfl, rfl⟩))
    (fun os started H enc _ => lifted os started H enc)

theorem proved : Rows.EventNamesCardSaid :=
  Claim7.holds_tied_plain_at .later [] _ true _ true over (fun _ h => by cases h) (by kernel_rfl) (fun _ h => by cases h) eventNames_row_tie rfl ⟨rfl, rfl⟩ (by kernel_rfl) rfl
    (fun f fn hf hfn => by
      obtain rfl : f = 5 := Option.some.inj ((show Tryd.prog.funcNamed "taffrail/taffraillaw05.EventNames" = some 5 by kernel_rfl).symm.trans hf) |>.symm
      obtain rfl : fn = Tryd.f5 := (Option.some.inj (Tryd.func5.symm.trans hfn)).symm
      refine ⟨by kernel_rfl, fun j t ht => ?_⟩
      rw [Tryd.params5] at ht
      have hm : t ∈ [3, 9] := by simpa using Array.mem_of_getElem? ht
      have hall : ([3, 9].all fun u => !Tryd.prog.wantsStandIn u) = true := by kernel_rfl
      exact (show Tryd.prog.wantsStandIn t = false by simpa using List.all_eq_true.1 hall t hm))
    (by kernel_rfl)
#print axioms proved
end Go.Proofs.YtonmkmbllaahgaaDoor.EvNames
