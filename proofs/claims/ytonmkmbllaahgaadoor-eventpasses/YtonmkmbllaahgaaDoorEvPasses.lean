/-
  EventPasses: for every filter and kind the statement's function answers true: a filter lets those kinds pass whose bit is 1, and the last one always. Conditions: none beyond the card's own: the listed package variables start as the program's text lays them, which the card ties to that text.
-/
import Derived.Test.YtonmkmbllaahgaaDoorEvOpen
import Derived.Test.YtonmkmbllaahgaaDoorTie
import Derived.Test.YtonmkmbllaahgaaDoorCards
import Derived.ProofKit
import Derived.OpenShut
import Derived.ShutString
import Derived.LaidMore
import Derived.Lay
import Derived.SevenTiedAt
import Derived.Stop.Joined
import Derived.Deep.DeepHandedRow
namespace Go.Proofs.YtonmkmbllaahgaaDoor.EvPasses
open Go.ChangeShapes Go.WideShapes Go.ChangeAt Go.RowKit
open Go.ChangeMaps (open_string shut_string)
set_option linter.unusedVariables false
set_option linter.unusedSimpArgs false

/-- What the loop has found behind k bits. -/
def found (f : Nat) (kind : Int) (k : Nat) : Bool := decide (kind = 24) || (decide (1 ≤ kind) && decide (kind ≤ 24) && decide (kind < k) && decide (f / 2 ^ kind.toNat % 2 = 1))

theorem found_zero (f : Nat) (kind : Int) : found f kind 0 = decide (kind = 24) := by
  unfold found
  by_cases h : kind = 24
  · simp [h]
  · have : (decide (1 ≤ kind) && decide (kind < ((0 : Nat) : Int))) = false := by simp; omega
    refine bool_eq ?_
    simp [h]
    omega

theorem found_end (f : Nat) (kind : Int) : found f kind 32 = passB f kind := by
  refine bool_eq ?_
  unfold found passB knownB
  simp only [Bool.or_eq_true, Bool.and_eq_true, decide_eq_true_eq]
  omega

theorem found_hit (f : Nat) (k : Nat) (h1 : 1 ≤ k) (h2 : k ≤ 24) (hb : f / 2 ^ k % 2 = 1) : found f (k : Int) (k + 1) = true := by
  unfold found
  rw [Int.toNat_natCast, decide_eq_true hb, decide_eq_true (show (1 : Int) ≤ k by omega), decide_eq_true (show (k : Int) ≤ 24 by omega), decide_eq_true (show (k : Int) < ((k + 1 : Nat) : Int) by omega)]
  simp

theorem found_miss (f : Nat) (kind : Int) (k : Nat) (h : ¬ (f / 2 ^ k % 2 = 1 ∧ (k : Int) = kind ∧ 1 ≤ kind ∧ kind ≤ 24)) : found f kind (k + 1) = found f kind k := by
  refine bool_eq ?_
  unfold found
  simp only [Bool.or_eq_true, Bool.and_eq_true, decide_eq_true_eq]
  by_cases hk : (k : Int) = kind
  · subst hk
    rw [Int.toNat_natCast]
    omega
  · omega

set_option maxRecDepth 100000 in
set_option maxHeartbeats 2000000 in
theorem walk (a0 : Int) (w0 : (Lit.int .u32 a0).wf = true) (kind : Int) (w1 : (Lit.int .i64 kind).wf = true) (w : World) (hL : EvL w) :
    Calls Tryd.prog 6 #[.int .u32 a0, .int .i64 kind] w fun e w' => e = .returned (.bool true) ∧ Below w.heap.size w w' := by
  obtain ⟨f, rfl, hf⟩ := wf_u32 w0
  have HA := Lib.hid (awake_any w hL)
  have HL := Lib.hid hL
  have Hf := Lib.hid hf
  clear w0 w1 hL hf
  go_enter Tryd.func6, Tryd.ntmps6
  go_wp2_with fail
  go_loopw [5, 6, 7] (fun x y z wr => wr = w ∧ ∃ k g : Nat, x = .bool (found f kind k) ∧ y = .int .u32 (g : Int) ∧ z = .int .i64 (k : Int) ∧ k ≤ 32 ∧ Hid (g = f / 2 ^ k) ∧ g < 4294967296) (fun _ _ z _ => ((32 : Int) - intOf z).toNat)
  case atStart => exact ⟨rfl, 0, f, by rw [found_zero]; rfl, rfl, rfl, by omega, by show f = f / 2 ^ 0; simp, Hf.out⟩
  case round =>
    obtain ⟨rfl, k, g, rfl, rfl, rfl, k1, G, hg⟩ := hrel
    by_cases hk : k = 32
    · subst hk
      have hfe := found_end f kind
      generalize found f kind 32 = q at *
      subst hfe
      have HP := Lib.hid (fun u => pass_any f Hf.out kind u)
      clear G hg k1
      go_wp2_with fail
      refine HA.out.mono ?_
      rintro r w2 ⟨rfl, h2⟩
      have B2 := Lib.hid h2
      clear h2
      go_wp2_with fail
      refine (HP.out _).mono ?_
      rintro r w3 ⟨rfl, rfl⟩
      go_wp2_with fail
      go_ret
      exact ⟨rfl, B2.out⟩
    · have hlt : (k : Int) < 32 := by omega
      have h0 : (0 : Int) ≤ k := Int.natCast_nonneg _
      have hg0 : (0 : Int) ≤ g := Int.natCast_nonneg _
      have hgl : (g : Int) < 4294967296 := by omega
      have gn : Hid (g / 2 = f / 2 ^ (k + 1)) := by show g / 2 = _; rw [G.out, Nat.pow_succ, Nat.div_div_eq_div_mul]
      by_cases c1 : g % 2 = 1
      · have d1 : ((g : Int) % 2 == 1) = true := by simp; omega
        by_cases c2 : (k : Int) = kind
        · subst c2
          by_cases c3 : 1 ≤ k
          · have d3 : (1 : Int) ≤ k := by omega
            by_cases c4 : k ≤ 24
            · have d4 : (k : Int) ≤ 24 := by omega
              have hh := Lib.hid (found_hit f k c3 c4 (by rw [← G.out]; exact c1))
              go_wp2
              exact ⟨⟨trivial, k + 1, g / 2, by rw [hh.out], by simp, by simp, by omega, gn, by omega⟩, by simp [intOf]; omega⟩
            · have d4 : decide ((k : Int) ≤ 24) = false := by simp; omega
              have hm := Lib.hid (found_miss f (k : Int) k (by rw [← G.out]; omega))
              go_wp2
              exact ⟨⟨trivial, k + 1, g / 2, by rw [hm.out], by simp, by simp, by omega, gn, by omega⟩, by simp [intOf]; omega⟩
          · have d3 : decide ((1 : Int) ≤ k) = false := by simp; omega
            have hm := Lib.hid (found_miss f (k : Int) k (by rw [← G.out]; omega))
            go_wp2
            exact ⟨⟨trivial, k + 1, g / 2, by rw [hm.out], by simp, by simp, by omega, gn, by omega⟩, by simp [intOf]; omega⟩
        · have d2 : ((k : Int) == kind) = false := by simp; omega
          have hm := Lib.hid (found_miss f kind k (by rw [← G.out]; omega))
          go_wp2
          exact ⟨⟨trivial, k + 1, g / 2, by rw [hm.out], by simp, by simp, by omega, gn, by omega⟩, by simp [intOf]; omega⟩
      · have d1 : ((g : Int) % 2 == 1) = false := by simp; omega
        have hm := Lib.hid (found_miss f kind k (by rw [← G.out]; omega))
        go_wp2
        exact ⟨⟨trivial, k + 1, g / 2, by rw [hm.out], by simp, by simp, by omega, gn, by omega⟩, by simp [intOf]; omega⟩

theorem own : ownKnob Tryd.prog.godebug = none := by kernel_rfl
theorem laidOut : laidOutB Tryd.prog = true := by kernel_rfl

set_option maxRecDepth 100000 in
theorem lifted (os : Os) (started : os.Started) (H : Type) (enc : TypeId × Value → H) :
    ReturnsInHanded {} Tryd.checked os 6 .any (fun w args => (Rows.eventPassesSpec.pre enc Tryd.prog Tryd.f6 Rows.eventPassesRow.domain false w args ∧ laidMetH Tryd.prog laidL w) ∧ sizedMet enc Tryd.prog Tryd.f6 (OpenSpec.ofChange Rows.eventPassesSpec) false w args) (Rows.eventPassesSpec.post enc Tryd.prog Tryd.f6 false true false false) := by
  refine returnsInHanded_of_row (s := OpenSpec.ofChange Rows.eventPassesSpec) (F := fun _ _ _ => 0) (laid := laidL) (C := Tryd.checked) own started (by kernel_rfl) Tryd.func6
    (ChangeSpec.witness_shaped (enc := enc) (C := Tryd.checked) (os := os) (s := Rows.eventPassesSpec) (X := fun w _ => laidMetH Tryd.prog laidL w) false (World.laidAll Tryd.prog os laidL) #[.int .u32 0, .int .i64 0] 8 (World.laidAll_os _ _ _)
      (World.shaped_of_ZipB (by kernel_rfl) (by kernel_rfl)) (by kernel_rfl) (by kernel_rfl) (by kernel_rfl)
      (by rw [MakeChecks.laidMetH_plain _ _ _ (by kernel_rfl)]; exact laidMet_laidAll _ (by kernel_rfl) (by kernel_rfl))) ?_
  intro W base args ds gs before hval0 hW hcnd _ hsz0 hL hsh _
  have hval : ∀ (j : Nat) t v, Tryd.f6.params[j]? = some t → args[j]? = some v → Value.okWide Tryd.prog W .any base t v := hval0
  have hW' := hW
  obtain ⟨p, q, hA0, hV, rfl, hfz, hnd⟩ := hW
  have hA : DataW.TrodAll enc Tryd.prog W 0 (fun _ => true) true Tryd.f6.params.toList args.toList ds p := hA0
  rw [Tryd.params6] at hA hval
  obtain ⟨v0, vs0, d0, ds0, p0, q0, hargs, rfl, rfl, h0, r0⟩ := trodAll_cons hA
  obtain ⟨v1, vs1, d1, ds1, p1, q1, rfl, rfl, rfl, h1, r1⟩ := trodAll_cons r0
  obtain ⟨rfl, rfl, rfl⟩ := trodAll_nil r1
  obtain rfl : args = #[v0, v1] := by cases args; simp_all
  obtain ⟨rfl, rfl⟩ := trodVars_none hV
  have k0 := h0
  have lt0 : ∀ x ∈ p0, x.block < W.heap.size := by obtain ⟨m, hm⟩ := k0; exact DataW.trod_lt m _ _ _ hm
  have k1 := h1
  have lt1 : ∀ x ∈ p1, x.block < W.heap.size := by obtain ⟨m, hm⟩ := k1; exact DataW.trod_lt m _ _ _ hm
  obtain ⟨a0, rfl, rfl, rfl, w0⟩ := open_int Tryd.underlying23 (hval 0 23 v0 rfl rfl) h0
  obtain ⟨a1, rfl, rfl, rfl, w1⟩ := open_int Tryd.underlying3 (hval 1 3 v1 rfl rfl) h1
  clear hA0 hval0
  refine (walk a0 w0 a1 w1 W (of_laid hL hsh)).mono fun e W' ⟨he, bel⟩ => ?_
  subst he
  exact ⟨_, rfl, _, _, _, [], _, [], hW', trodAll_mk1 (shut_bool Tryd.underlying4 _), (trodAll_cons_mk (Below.trod laidOut (by kernel_rfl) (of_decide_eq_true (by kernel_rfl)) k0 bel lt0) (trodAll_cons_mk (Below.trod laidOut (by kernel_rfl) (of_decide_eq_true (by kernel_rfl)) k1 bel lt1) trodAll_mk0)), rfl, bel.frame _, fun h => by cases h⟩

theorem over : Rows.EventPassesSaid :=
  OpenClaim.holds_of_wide 6 Tryd.f6 rfl rfl rfl rfl rfl rfl rfl ⟨rfl, rfl, rfl, rfl, rfl⟩ rfl rfl rfl rfl rfl (by kernel_rfl) Tryd.func6 (by kernel_rfl)
    (of_decide_eq_true (by kernel_rfl)) (by unfold Func.isWrapper; first | (rw [if_pos (by decide +kernel)]; kernel_rfl) | (rw [if_neg (by decide +kernel)]; exact ⟨rfl, rfl⟩))
    (fun os started H enc _ => lifted os started H enc)

theorem proved : Rows.EventPassesCardSaid :=
  Claim7.holds_tied_plain_at .later [] _ true _ true over (fun _ h => by cases h) (by kernel_rfl) (fun _ h => by cases h) eventPasses_row_tie rfl ⟨rfl, rfl⟩ (by kernel_rfl) rfl
    (fun f fn hf hfn => by
      obtain rfl : f = 6 := Option.some.inj ((show Tryd.prog.funcNamed "taffrail/taffraillaw05.EventPasses" = some 6 by kernel_rfl).symm.trans hf) |>.symm
      obtain rfl : fn = Tryd.f6 := (Option.some.inj (Tryd.func6.symm.trans hfn)).symm
      refine ⟨by kernel_rfl, fun j t ht => ?_⟩
      rw [Tryd.params6] at ht
      have hm : t ∈ [23, 3] := by simpa using Array.mem_of_getElem? ht
      have hall : ([23, 3].all fun u => !Tryd.prog.wantsStandIn u) = true := by kernel_rfl
      exact (show Tryd.prog.wantsStandIn t = false by simpa using List.all_eq_true.1 hall t hm))
    (by kernel_rfl)
#print axioms proved
end Go.Proofs.YtonmkmbllaahgaaDoor.EvPasses
