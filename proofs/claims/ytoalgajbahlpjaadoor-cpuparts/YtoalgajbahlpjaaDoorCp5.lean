/-
  What Do of package cpu does to a context of one's own, whatever the instruction. Conditions: the table's cells (IsL).
-/
import Derived.Test.YtoalgajbahlpjaaDoorCp4
namespace Go.Proofs.YtoalgajbahlpjaaDoor
open Go Go.RowKit
set_option linter.unusedVariables false
set_option linter.unusedSimpArgs false

set_option maxRecDepth 100000 in
set_option maxHeartbeats 4000000 in
theorem cdo_reckon (i : Ins) (hp : plainB i = true) (hj : i.op ≤ 14) (hk : i.k < 4294967296) (w : World) (hL : IsL w) (B b cap : Nat) (ao : Option Addr) (x : Ctx) (h : Cx w B b ao cap x) :
    Calls Tryd.prog 11 #[.pointer (some ⟨b, 0, none⟩), insV i] w fun e w' => e = .returned (.int .i64 (recE x i)) ∧ Cx w' B b ao cap (if recE x i = 0 then { recC x i with pl := onward x.pl } else recC x i) ∧ Only w w' (cxS b ao) := by
  obtain ⟨w1, e1⟩ : ∃ w1, w1 = w.alloc (insO i) := ⟨_, rfl⟩
  obtain ⟨-, n1, b1⟩ := new_size e1
  obtain ⟨c0, c1, c2, c3, c4, c5⟩ := inscells n1
  have HS := Lib.hid (fun w2 h2 => cdo_start h e1 (w2 := w2) h2)
  obtain ⟨E, hE⟩ : ∃ E, w.heap.size = E := ⟨_, rfl⟩
  rw [hE] at c0 c1 c2 c3 c4 c5 HS
  have HE := Lib.hid hE
  have HP := Lib.hid (hp ▸ cplain_any i w1 (hL.below b1))
  have HJ := Lib.hid (fun w2 h2 => creckon_any i hp hj hk w2 B b cap ao x h2)
  have hpl : (recC x i).pl = x.pl := by unfold recC; split
                                        all_goals rfl
  obtain ⟨y, hy⟩ : ∃ y, recC x i = y := ⟨_, rfl⟩
  obtain ⟨f, hf⟩ : ∃ f, recE x i = f := ⟨_, rfl⟩
  rw [hy] at HJ hpl
  rw [hf] at HJ
  rw [hf, hy, ← hpl]
  clear n1 b1 hE hL hp h hk hy hf hpl
  obtain ⟨op, a, b', c', d, k⟩ := i
  unfold insO at *
  unfold insV at *
  simp only at *
  have o1 : (op == 17) = false := by simp; omega
  have o2 : (op == 18) = false := by simp; omega
  have o3 : (op == 19) = false := by simp; omega
  have o4 : (op == 15) = false := by simp; omega
  have o5 : (op == 16) = false := by simp; omega
  have o6 : (op == 20) = false := by simp; omega
  clear hj
  all_goals
    by_cases h0 : f = 0
    · rw [if_pos h0]
      subst h0
      go_enter Tryd.func11, Tryd.ntmps11
      go_wp2_with fail
      rw [← e1, HE.out]
      clear e1
      refine HP.out.mono ?_
      rintro r w2 ⟨rfl, h2⟩
      obtain ⟨X2, O2, n2⟩ := HS.out w2 h2
      have X2 := Lib.hid X2
      have O2 := Lib.hid O2
      clear h2 HS c0 c1 c2 c3 c4 c5 HP
      obtain ⟨c0, c1, c2, c3, c4, c5⟩ := inscells (i := ⟨_, a, b', c', d, k⟩) n2
      simp only at c0 c1 c2 c3 c4 c5
      clear n2
      go_wp2_with fail
      refine (HJ.out w2 X2.out).mono ?_
      rintro r w3 ⟨rfl, h3, h4⟩
      have X3 := Lib.hid h3
      have O3 := Lib.hid (O2.out.trans h4 (fun _ _ h => h))
      have xp := h3.at.pl
      have fz := froz10 h3.box 0
      clear h3 h4 c0 c1 c2 c3 c4 c5
      go_wp2_with fail
      go_ret
      rw [onward_w]
      exact ⟨rfl, onward_on X3.out O3.out⟩
    · rw [if_neg h0]
      have h0' : (f == 0) = false := by simp [h0]
      clear h0
      go_enter Tryd.func11, Tryd.ntmps11
      go_wp2_with fail
      rw [← e1, HE.out]
      clear e1
      refine HP.out.mono ?_
      rintro r w2 ⟨rfl, h2⟩
      obtain ⟨X2, O2, n2⟩ := HS.out w2 h2
      have X2 := Lib.hid X2
      have O2 := Lib.hid O2
      clear h2 HS c0 c1 c2 c3 c4 c5 HP
      obtain ⟨c0, c1, c2, c3, c4, c5⟩ := inscells (i := ⟨_, a, b', c', d, k⟩) n2
      simp only at c0 c1 c2 c3 c4 c5
      clear n2
      go_wp2_with fail
      refine (HJ.out w2 X2.out).mono ?_
      rintro r w3 ⟨rfl, h3, h4⟩
      have X3 := Lib.hid h3
      have O3 := Lib.hid (O2.out.trans h4 (fun _ _ h => h))
      clear h3 h4 c0 c1 c2 c3 c4 c5
      go_wp2_with fail
      go_ret
      exact ⟨rfl, X3.out, O3.out⟩

set_option maxRecDepth 100000 in
set_option maxHeartbeats 4000000 in
theorem cdo_work (i : Ins) (hp : plainB i = true) (hj : i.op = 20) (w : World) (hL : IsL w) (B b cap : Nat) (ao : Option Addr) (x : Ctx) (h : Cx w B b ao cap x) :
    Calls Tryd.prog 11 #[.pointer (some ⟨b, 0, none⟩), insV i] w fun e w' => e = .returned (.int .i64 0) ∧ Cx w' B b ao cap { x with pl := onward x.pl } ∧ Only w w' (cxS b ao) := by
  obtain ⟨w1, e1⟩ : ∃ w1, w1 = w.alloc (insO i) := ⟨_, rfl⟩
  obtain ⟨-, n1, b1⟩ := new_size e1
  obtain ⟨c0, c1, c2, c3, c4, c5⟩ := inscells n1
  have HS := Lib.hid (fun w2 h2 => cdo_start h e1 (w2 := w2) h2)
  obtain ⟨E, hE⟩ : ∃ E, w.heap.size = E := ⟨_, rfl⟩
  rw [hE] at c0 c1 c2 c3 c4 c5 HS
  have HE := Lib.hid hE
  have HP := Lib.hid (hp ▸ cplain_any i w1 (hL.below b1))
  clear n1 b1 hE hL hp h
  obtain ⟨op, a, b', c', d, k⟩ := i
  unfold insO at *
  unfold insV at *
  simp only at *
  subst hj
  go_enter Tryd.func11, Tryd.ntmps11
  go_wp2_with fail
  rw [← e1, HE.out]
  clear e1
  refine HP.out.mono ?_
  rintro r w2 ⟨rfl, h2⟩
  obtain ⟨X2, O2, n2⟩ := HS.out w2 h2
  have xp := X2.at.pl
  have fz := froz10 X2.box 0
  have X2 := Lib.hid X2
  have O2 := Lib.hid O2
  clear h2 HS c0 c1 c2 c3 c4 c5 HP
  obtain ⟨c0, c1, c2, c3, c4, c5⟩ := inscells (i := ⟨_, a, b', c', d, k⟩) n2
  simp only at c0 c1 c2 c3 c4 c5
  clear n2
  go_wp2_with fail
  go_ret
  rw [onward_w]
  exact ⟨rfl, onward_on X2.out O2.out⟩

theorem recC_pl (x : Ctx) (i : Ins) : (recC x i).pl = x.pl := by unfold recC; split <;> rfl
theorem recC_bad {x : Ctx} {i : Ins} (h : recE x i ≠ 0) : recC x i = x := by
  unfold recE at h
  unfold recC
  split
  · rfl
  · rename_i h1
    rw [if_neg h1] at h
    exact absurd rfl h
theorem accC_bad {x : Ctx} {i : Ins} (h : accE x i ≠ 0) : accC x i = x := by
  unfold accE at h
  unfold accC
  split
  · rename_i h1
    rw [if_pos h1] at h
    exact absurd rfl h
  · rfl

/-- Do, whatever the instruction. -/
theorem cdo_any (i : Ins) (hk : i.k < 4294967296) (w : World) (hL : IsL w) (B b cap : Nat) (ao : Option Addr) (x : Ctx) (h : Cx w B b ao cap x) :
    Calls Tryd.prog 11 #[.pointer (some ⟨b, 0, none⟩), insV i] w fun e w' => e = .returned (.int .i64 (doE x i)) ∧ Cx w' B b ao cap (doC x i) ∧ Only w w' (cxS b ao) := by
  cases hp : plainB i with
  | false =>
    refine (cdo_bad i hp w hL b).mono fun e w' ⟨h1, h2⟩ => ⟨?_, ?_, Only.of_below h2 _⟩
    · rw [h1]; unfold doE; rw [if_pos hp]
    · unfold doC; rw [if_pos hp]; exact h.below h2
  | true =>
    have hpn : ¬ plainB i = false := by rw [hp]; simp
    obtain ⟨p1, p2, -⟩ := plain_ok hp
    by_cases hj : jumpB i.op = true
    · have hj' : i.op = 17 ∨ i.op = 18 ∨ i.op = 19 := by simpa [jumpB, or_assoc] using hj
      refine (cdo_jump i hp hj' hk w hL B b cap ao x h).mono fun e w' ⟨h1, h2, h3⟩ => ⟨?_, ?_, h3⟩
      · rw [h1]; unfold doE; rw [if_neg hpn, if_pos hj]
      · unfold doC; rw [if_neg hpn, if_pos hj]; exact h2
    have hjn : ¬ (i.op = 17 ∨ i.op = 18 ∨ i.op = 19) := by simpa [jumpB, or_assoc] using hj
    by_cases ha : accB i.op = true
    · have ha' : i.op = 15 ∨ i.op = 16 := by simpa [accB] using ha
      have hE : doE x i = accE x i := by unfold doE; rw [if_neg hpn, if_neg hj, if_pos ha]
      have hM : doM x i = accC x i := by unfold doM; rw [if_pos ha]
      refine (cdo_access i hp ha' hk w hL B b cap ao x h).mono fun e w' ⟨h1, h2, h3⟩ => ⟨by rw [h1, hE], ?_, h3⟩
      unfold doC
      rw [if_neg hpn, if_neg hj, hE, hM]
      by_cases h0 : accE x i = 0
      · rw [if_pos h0] at h2 ⊢; exact h2
      · rw [if_neg h0] at h2 ⊢; rw [accC_bad h0] at h2; exact h2
    have han : ¬ (i.op = 15 ∨ i.op = 16) := by simpa [accB] using ha
    by_cases hw : i.op = 20
    · have hE : doE x i = 0 := by unfold doE; rw [if_neg hpn, if_neg hj, if_neg ha, if_pos hw]
      have hM : doM x i = x := by unfold doM; rw [if_neg ha, if_pos hw]
      refine (cdo_work i hp hw w hL B b cap ao x h).mono fun e w' ⟨h1, h2, h3⟩ => ⟨by rw [h1, hE], ?_, h3⟩
      unfold doC
      rw [if_neg hpn, if_neg hj, hE, hM, if_pos rfl]
      exact h2
    · have hE : doE x i = recE x i := by unfold doE; rw [if_neg hpn, if_neg hj, if_neg ha, if_neg hw]
      have hM : doM x i = recC x i := by unfold doM; rw [if_neg ha, if_neg hw]
      refine (cdo_reckon i hp (by omega) hk w hL B b cap ao x h).mono fun e w' ⟨h1, h2, h3⟩ => ⟨by rw [h1, hE], ?_, h3⟩
      unfold doC
      rw [if_neg hpn, if_neg hj, hE, hM]
      by_cases h0 : recE x i = 0
      · rw [if_pos h0] at h2 ⊢; exact h2
      · rw [if_neg h0] at h2 ⊢; rw [recC_bad h0] at h2; exact h2

end Go.Proofs.YtoalgajbahlpjaaDoor
