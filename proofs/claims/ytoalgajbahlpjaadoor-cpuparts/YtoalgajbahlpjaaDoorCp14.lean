/-
  What the document's Do answers, whatever the instruction. Conditions: a context in memory.
-/
import Derived.Test.YtoalgajbahlpjaaDoorCp13
import Derived.Test.YtoalgajbahlpjaaDoorCp5
namespace Go.Proofs.YtoalgajbahlpjaaDoor
open Go Go.RowKit
set_option linter.unusedVariables false
set_option linter.unusedSimpArgs false

theorem do_jump {x : Ctx} {i : Ins} (hp : plainB i = true) (hj : jumpB i.op = true) : doE x i = 0 ∧ doC x i = jumpC x i := by
  have hpn : ¬ plainB i = false := by rw [hp]; simp
  constructor
  · unfold doE; rw [if_neg hpn, if_pos hj]
  · unfold doC; rw [if_neg hpn, if_pos hj]
theorem do_acc {x : Ctx} {i : Ins} (hp : plainB i = true) (ha : i.op = 15 ∨ i.op = 16) : doE x i = accE x i ∧ (accE x i = 0 → doC x i = { accC x i with pl := onward x.pl }) ∧ (accE x i ≠ 0 → doC x i = x) := by
  have hpn : ¬ plainB i = false := by rw [hp]; simp
  have hj : ¬ jumpB i.op = true := by unfold jumpB; rcases ha with h | h <;> rw [h] <;> decide
  have ha' : accB i.op = true := by unfold accB; rcases ha with h | h <;> rw [h] <;> decide
  have hE : doE x i = accE x i := by unfold doE; rw [if_neg hpn, if_neg hj, if_pos ha']
  refine ⟨hE, fun h => ?_, fun h => doC_bad (by rw [hE]; exact h)⟩
  unfold doC
  rw [if_neg hpn, if_neg hj, hE, if_pos h]
  unfold doM
  rw [if_pos ha']
theorem do_work {x : Ctx} {i : Ins} (hp : plainB i = true) (ha : i.op = 20) : doE x i = 0 ∧ doC x i = { x with pl := onward x.pl } := by
  have hpn : ¬ plainB i = false := by rw [hp]; simp
  have hj : ¬ jumpB i.op = true := by unfold jumpB; rw [ha]; decide
  have ha' : ¬ accB i.op = true := by unfold accB; rw [ha]; decide
  have hE : doE x i = 0 := by unfold doE; rw [if_neg hpn, if_neg hj, if_neg ha', if_pos ha]
  refine ⟨hE, ?_⟩
  unfold doC
  rw [if_neg hpn, if_neg hj, if_pos hE]
  unfold doM
  rw [if_neg ha', if_pos ha]
theorem do_rec {x : Ctx} {i : Ins} (hp : plainB i = true) (ha : i.op ≤ 14) : doE x i = recE x i ∧ (recE x i = 0 → doC x i = { recC x i with pl := onward x.pl }) ∧ (recE x i ≠ 0 → doC x i = x) := by
  have hpn : ¬ plainB i = false := by rw [hp]; simp
  have hj : ¬ jumpB i.op = true := by unfold jumpB; simp; omega
  have ha' : ¬ accB i.op = true := by unfold accB; simp; omega
  have h20 : ¬ i.op = 20 := by omega
  have hE : doE x i = recE x i := by unfold doE; rw [if_neg hpn, if_neg hj, if_neg ha', if_neg h20]
  refine ⟨hE, fun h => ?_, fun h => doC_bad (by rw [hE]; exact h)⟩
  unfold doC
  rw [if_neg hpn, if_neg hj, hE, if_pos h]
  unfold doM
  rw [if_neg ha', if_neg h20]

/-- What is owed of the document's Do. -/
def RDo (x : Ctx) (i : Ins) (ao : Option Addr) (cap : Nat) (w : World) : Prop :=
  Calls Tryd.prog 12 #[cxV x (.slice ao x.mem.length cap), insV i] w fun r w' => ∃ bo bc, r = .returned (.tuple #[cxV (doC x i) (.slice bo (doC x i).mem.length bc), .int .i64 (doE x i)]) ∧ SeenW w' bo bc (doC x i).mem ∧ Below w.heap.size w w' ∧ (bo = ao ∨ RowW w' bo)

theorem rdo_as {x : Ctx} {i : Ins} {ao : Option Addr} {cap : Nat} {w : World} {e : Int} (Y : Ctx) (hr : Y.regs.length = 8) (hC : doC x i = Y) (hE : doE x i = e)
    (h : ∀ (yp : Int) (q0 q1 q2 q3 q4 q5 q6 q7 : Nat) (ym : List Nat), (⟨yp, [q0, q1, q2, q3, q4, q5, q6, q7], ym⟩ : Ctx) = Y →
      Calls Tryd.prog 12 #[cxV x (.slice ao x.mem.length cap), insV i] w fun r w' => ∃ bo bc, r = .returned (.tuple #[.agg (cx10 yp q0 q1 q2 q3 q4 q5 q6 q7 (.slice bo ym.length bc)), .int .i64 e]) ∧ SeenW w' bo bc ym ∧ Below w.heap.size w w' ∧ (bo = ao ∨ RowW w' bo)) : RDo x i ao cap w := by
  unfold RDo
  rw [hC, hE]
  obtain ⟨yp, yr, ym⟩ := Y
  obtain ⟨q0, q1, q2, q3, q4, q5, q6, q7, rfl⟩ := eight hr
  exact h yp q0 q1 q2 q3 q4 q5 q6 q7 ym rfl

set_option maxHeartbeats 1000000 in
theorem rdo_any (x : Ctx) (i : Ins) (hk : i.k < 4294967296) (ao : Option Addr) (cap : Nat) (w : World) (hs : SeenW w ao cap x.mem) (hn : x.mem.length ≤ 1000000) (hfit : CtxFits x) : RDo x i ao cap w := by
  have hY := (hfit.does (i := i) hk).rl
  obtain ⟨p, regs, l⟩ := x
  obtain ⟨r0, r1, r2, r3, r4, r5, r6, r7, rfl⟩ := eight hfit.rl
  cases hp : plainB i with
  | false =>
    have hE : doE ⟨p, [r0, r1, r2, r3, r4, r5, r6, r7], l⟩ i = 14 := by unfold doE; rw [if_pos hp]
    have hC : doC ⟨p, [r0, r1, r2, r3, r4, r5, r6, r7], l⟩ i = ⟨p, [r0, r1, r2, r3, r4, r5, r6, r7], l⟩ := doC_bad (by rw [hE]; decide)
    unfold RDo
    rw [hC, hE]
    obtain ⟨op, a, b, c, d, k⟩ := i
    by_cases h20 : 20 < op
    · exact rdo_high p r0 r1 r2 r3 r4 r5 r6 r7 ao cap l op a b c d k w hs hn hfit h20
    · refine rdo_form p r0 r1 r2 r3 r4 r5 r6 r7 ao cap l op a b c d _ k w hs hn hfit (by omega) ?_ rfl
      intro h0
      have : plainB ⟨op, a, b, c, d, k⟩ = true := by unfold plainB; rw [h0]; simp; omega
      rw [hp] at this
      cases this
  | true =>
    obtain ⟨p1, p2, ha, hb, hc⟩ := plain_ok hp
    have hf : formI i = 0 := by
      unfold plainB at hp
      simp only [Bool.and_eq_true, decide_eq_true_eq] at hp
      exact hp.2
    obtain ⟨op, a, b, c, d, k⟩ := i
    simp only at p1 p2 ha hb hc hk
    obtain ⟨a, ea, ka⟩ := nat8 ha
    clear ha
    subst ea
    have ha := ka
    obtain ⟨b, eb, kb⟩ := nat8 hb
    clear hb
    subst eb
    have hb := kb
    obtain ⟨c, ec, kc⟩ := nat8 hc
    clear hc
    subst ec
    have hc := kc
    have hlen : ∀ (j v : Nat), ([r0, r1, r2, r3, r4, r5, r6, r7].set j v).length = 8 := fun j v => by simp
    by_cases hj : op = 17 ∨ op = 18 ∨ op = 19
    · have hj' : jumpB op = true := by unfold jumpB; rcases hj with rfl | rfl | rfl <;> decide
      obtain ⟨hE, hC⟩ := do_jump (x := ⟨p, [r0, r1, r2, r3, r4, r5, r6, r7], l⟩) hp hj'
      rcases hj with rfl | rfl | rfl
      · exact rdo_as ⟨k, [r0, r1, r2, r3, r4, r5, r6, r7], l⟩ rfl (by rw [hC]; simp [jumpC, leapB]) hE (fun yp q0 q1 q2 q3 q4 q5 q6 q7 ym h => rdo_jmp p r0 r1 r2 r3 r4 r5 r6 r7 ao cap l a b c d k w hs hn hfit hk hf yp q0 q1 q2 q3 q4 q5 q6 q7 ym h)
      · by_cases hz : [r0, r1, r2, r3, r4, r5, r6, r7].getD a 0 = 0
        · have hz' : reg ⟨p, [r0, r1, r2, r3, r4, r5, r6, r7], l⟩ (a : Int) = 0 := hz
          exact rdo_as ⟨k, [r0, r1, r2, r3, r4, r5, r6, r7], l⟩ rfl (by rw [hC]; simp [jumpC, leapB, hz']) hE (fun yp q0 q1 q2 q3 q4 q5 q6 q7 ym h => rdo_jz_z p r0 r1 r2 r3 r4 r5 r6 r7 ao cap l a b c d k w hs hn hfit ha hk (decide_eq_true hz) hf yp q0 q1 q2 q3 q4 q5 q6 q7 ym h)
        · have hz' : ¬ reg ⟨p, [r0, r1, r2, r3, r4, r5, r6, r7], l⟩ (a : Int) = 0 := hz
          exact rdo_as ⟨onward p, [r0, r1, r2, r3, r4, r5, r6, r7], l⟩ rfl (by rw [hC]; simp [jumpC, leapB, hz']) hE (fun yp q0 q1 q2 q3 q4 q5 q6 q7 ym h => rdo_jz_n p r0 r1 r2 r3 r4 r5 r6 r7 ao cap l a b c d k w hs hn hfit ha hk (decide_eq_false hz) hf yp q0 q1 q2 q3 q4 q5 q6 q7 ym h)
      · by_cases hz : [r0, r1, r2, r3, r4, r5, r6, r7].getD a 0 = 0
        · have hz' : reg ⟨p, [r0, r1, r2, r3, r4, r5, r6, r7], l⟩ (a : Int) = 0 := hz
          exact rdo_as ⟨onward p, [r0, r1, r2, r3, r4, r5, r6, r7], l⟩ rfl (by rw [hC]; simp [jumpC, leapB, hz']) hE (fun yp q0 q1 q2 q3 q4 q5 q6 q7 ym h => rdo_jnz_z p r0 r1 r2 r3 r4 r5 r6 r7 ao cap l a b c d k w hs hn hfit ha hk (decide_eq_true hz) hf yp q0 q1 q2 q3 q4 q5 q6 q7 ym h)
        · have hz' : ¬ reg ⟨p, [r0, r1, r2, r3, r4, r5, r6, r7], l⟩ (a : Int) = 0 := hz
          exact rdo_as ⟨k, [r0, r1, r2, r3, r4, r5, r6, r7], l⟩ rfl (by rw [hC]; simp [jumpC, leapB, hz']) hE (fun yp q0 q1 q2 q3 q4 q5 q6 q7 ym h => rdo_jnz_n p r0 r1 r2 r3 r4 r5 r6 r7 ao cap l a b c d k w hs hn hfit ha hk (decide_eq_false hz) hf yp q0 q1 q2 q3 q4 q5 q6 q7 ym h)
    by_cases hw : op = 20
    · subst hw
      obtain ⟨hE, hC⟩ := do_work (x := ⟨p, [r0, r1, r2, r3, r4, r5, r6, r7], l⟩) hp rfl
      exact rdo_as ⟨onward p, [r0, r1, r2, r3, r4, r5, r6, r7], l⟩ rfl hC hE (fun yp q0 q1 q2 q3 q4 q5 q6 q7 ym h => rdo_work p r0 r1 r2 r3 r4 r5 r6 r7 ao cap l a b c d k w hs hn hfit hf yp q0 q1 q2 q3 q4 q5 q6 q7 ym h)
    by_cases hm : op = 15 ∨ op = 16
    · obtain ⟨hE, hC, hB⟩ := do_acc (x := ⟨p, [r0, r1, r2, r3, r4, r5, r6, r7], l⟩) hp hm
      have hadr : adr ⟨p, [r0, r1, r2, r3, r4, r5, r6, r7], l⟩ ⟨op, a, b, c, d, k⟩ = ([r0, r1, r2, r3, r4, r5, r6, r7].getD b 0 + k) % 4294967296 := rfl
      by_cases hlt : ([r0, r1, r2, r3, r4, r5, r6, r7].getD b 0 + k) % 4294967296 < l.length
      · have h0 : accE ⟨p, [r0, r1, r2, r3, r4, r5, r6, r7], l⟩ ⟨op, a, b, c, d, k⟩ = 0 := by unfold accE; rw [hadr]; exact if_pos hlt
        have hC := hC h0
        rw [h0] at hE
        rcases hm with rfl | rfl
        · exact rdo_as ⟨onward p, [r0, r1, r2, r3, r4, r5, r6, r7].set a (l.getD (([r0, r1, r2, r3, r4, r5, r6, r7].getD b 0 + k) % 4294967296) 0), l⟩ (hlen _ _) (by rw [hC]; unfold accC; rw [hadr, if_pos hlt]; rfl) hE (fun yp q0 q1 q2 q3 q4 q5 q6 q7 ym h => rdo_load p r0 r1 r2 r3 r4 r5 r6 r7 ao cap l a b c d k w hs hn hfit ha hb hlt hf yp q0 q1 q2 q3 q4 q5 q6 q7 ym h)
        · exact rdo_as ⟨onward p, [r0, r1, r2, r3, r4, r5, r6, r7], l.set (([r0, r1, r2, r3, r4, r5, r6, r7].getD b 0 + k) % 4294967296) ([r0, r1, r2, r3, r4, r5, r6, r7].getD a 0)⟩ rfl (by rw [hC]; unfold accC; rw [hadr, if_pos hlt]; rfl) hE (fun yp q0 q1 q2 q3 q4 q5 q6 q7 ym h => rdo_store p r0 r1 r2 r3 r4 r5 r6 r7 ao cap l a b c d k w hs hn hfit ha hb hlt hf yp q0 q1 q2 q3 q4 q5 q6 q7 ym h)
      · have h0 : accE ⟨p, [r0, r1, r2, r3, r4, r5, r6, r7], l⟩ ⟨op, a, b, c, d, k⟩ = 12 := by unfold accE; rw [hadr]; exact if_neg hlt
        have hC := hB (by rw [h0]; decide)
        rw [h0] at hE
        unfold RDo
        rw [hC, hE]
        rcases hm with rfl | rfl
        · exact rdo_load_bad p r0 r1 r2 r3 r4 r5 r6 r7 ao cap l a b c d k w hs hn hfit ha hb hlt hf
        · exact rdo_store_bad p r0 r1 r2 r3 r4 r5 r6 r7 ao cap l a b c d k w hs hn hfit ha hb hlt hf
    have h14 : op ≤ 14 := by omega
    obtain ⟨hE, hC, hB⟩ := do_rec (x := ⟨p, [r0, r1, r2, r3, r4, r5, r6, r7], l⟩) hp h14
    have hrb : reg ⟨p, [r0, r1, r2, r3, r4, r5, r6, r7], l⟩ (b : Int) = [r0, r1, r2, r3, r4, r5, r6, r7].getD b 0 := rfl
    have hrc : reg ⟨p, [r0, r1, r2, r3, r4, r5, r6, r7], l⟩ (c : Int) = [r0, r1, r2, r3, r4, r5, r6, r7].getD c 0 := rfl
    have lb : [r0, r1, r2, r3, r4, r5, r6, r7].getD b 0 < 4294967296 := hfit.reg (b : Int)
    have lc : [r0, r1, r2, r3, r4, r5, r6, r7].getD c 0 < 4294967296 := hfit.reg (c : Int)
    have hdiv : divB ⟨p, [r0, r1, r2, r3, r4, r5, r6, r7], l⟩ ⟨op, a, b, c, d, k⟩ = (decide ([r0, r1, r2, r3, r4, r5, r6, r7].getD c 0 = 0) && (decide (op = 6) || decide (op = 7))) := rfl
    have hrec : divB ⟨p, [r0, r1, r2, r3, r4, r5, r6, r7], l⟩ ⟨op, a, b, c, d, k⟩ = false → recE ⟨p, [r0, r1, r2, r3, r4, r5, r6, r7], l⟩ ⟨op, a, b, c, d, k⟩ = 0 ∧ recC ⟨p, [r0, r1, r2, r3, r4, r5, r6, r7], l⟩ ⟨op, a, b, c, d, k⟩ = ⟨p, [r0, r1, r2, r3, r4, r5, r6, r7].set a (valC op k ([r0, r1, r2, r3, r4, r5, r6, r7].getD b 0) ([r0, r1, r2, r3, r4, r5, r6, r7].getD c 0)), l⟩ := fun h => by
      constructor
      · unfold recE; rw [h]; rfl
      · unfold recC; rw [h]; rfl
    by_cases h1 : op = 1
    · subst h1
      obtain ⟨h0, hq⟩ := hrec (by rw [hdiv]; simp)
      rw [h0] at hE
      exact rdo_as ⟨onward p, [r0, r1, r2, r3, r4, r5, r6, r7].set a k, l⟩ (hlen _ _) (by rw [hC h0, hq]; rfl) hE (fun yp q0 q1 q2 q3 q4 q5 q6 q7 ym h => rdo_set p r0 r1 r2 r3 r4 r5 r6 r7 ao cap l a b c d k w hs hn hfit ha hk hf yp q0 q1 q2 q3 q4 q5 q6 q7 ym h)
    by_cases h2 : op = 2
    · subst h2
      obtain ⟨h0, hq⟩ := hrec (by rw [hdiv]; simp)
      rw [h0] at hE
      exact rdo_as ⟨onward p, [r0, r1, r2, r3, r4, r5, r6, r7].set a ([r0, r1, r2, r3, r4, r5, r6, r7].getD b 0), l⟩ (hlen _ _) (by rw [hC h0, hq]; rfl) hE (fun yp q0 q1 q2 q3 q4 q5 q6 q7 ym h => rdo_mov p r0 r1 r2 r3 r4 r5 r6 r7 ao cap l a b c d k w hs hn hfit ha hb hf yp q0 q1 q2 q3 q4 q5 q6 q7 ym h)
    cases hdv : divB ⟨p, [r0, r1, r2, r3, r4, r5, r6, r7], l⟩ ⟨op, a, b, c, d, k⟩ with
    | true =>
      have h0 : recE ⟨p, [r0, r1, r2, r3, r4, r5, r6, r7], l⟩ ⟨op, a, b, c, d, k⟩ = 13 := by unfold recE; rw [hdv]; rfl
      have hC := hB (by rw [h0]; decide)
      rw [h0] at hE
      unfold RDo
      rw [hC, hE]
      rw [hdiv] at hdv
      simp only [Bool.and_eq_true, Bool.or_eq_true, decide_eq_true_eq] at hdv
      exact rdo_div p r0 r1 r2 r3 r4 r5 r6 r7 ao cap l op a b c d k w hs hn hfit ha hb hc (by omega) h14 0 (by decide) (fun W => by rw [hdv.1]; exact (rvalue_bad op hdv.2 _ W).mono fun e w' h => ⟨h.1, h.2.symm⟩) hf
    | false =>
      obtain ⟨h0, hq⟩ := hrec hdv
      rw [h0] at hE
      refine rdo_as ⟨onward p, [r0, r1, r2, r3, r4, r5, r6, r7].set a (valC op k ([r0, r1, r2, r3, r4, r5, r6, r7].getD b 0) ([r0, r1, r2, r3, r4, r5, r6, r7].getD c 0)), l⟩ (hlen _ _) (by rw [hC h0, hq]) hE (fun yp q0 q1 q2 q3 q4 q5 q6 q7 ym h => rdo_reckon p r0 r1 r2 r3 r4 r5 r6 r7 ao cap l op a b c d k w hs hn hfit ha hb hc (by omega) h14 (valC op k ([r0, r1, r2, r3, r4, r5, r6, r7].getD b 0) ([r0, r1, r2, r3, r4, r5, r6, r7].getD c 0)) (valC_lt _ hk lb lc) (fun W => ?_) hf yp q0 q1 q2 q3 q4 q5 q6 q7 ym h)
      rw [valC_k (by omega)]
      refine (rvalue_any op (by omega) h14 _ _ lb lc ?_ W).mono fun e w' h => ⟨h.1, h.2.symm⟩
      intro h67 hz
      rw [hdiv, hz] at hdv
      rcases h67 with rfl | rfl <;> simp at hdv

end Go.Proofs.YtoalgajbahlpjaaDoor
