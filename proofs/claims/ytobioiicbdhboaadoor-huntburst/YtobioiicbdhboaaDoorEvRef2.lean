/-
  The document's own answers of layer 5 (taffrailref05), Check, Has and Names, over this seat's translation. No condition.
-/
import Derived.Test.YtobioiicbdhboaaDoorEvRef1
namespace Go.Proofs.YtobioiicbdhboaaDoor
open Go.RowKit
set_option linter.unusedVariables false
set_option linter.unusedSimpArgs false

theorem kinds24 {n : Nat} (h1 : 1 ≤ n) (h2 : n ≤ 24) : n = 1 ∨ n = 2 ∨ n = 3 ∨ n = 4 ∨ n = 5 ∨ n = 6 ∨ n = 7 ∨ n = 8 ∨ n = 9 ∨ n = 10 ∨ n = 11 ∨ n = 12 ∨ n = 13 ∨ n = 14 ∨ n = 15 ∨ n = 16 ∨ n = 17 ∨ n = 18 ∨ n = 19 ∨ n = 20 ∨ n = 21 ∨ n = 22 ∨ n = 23 ∨ n = 24 := by omega

theorem first_eq (n a : Nat) (h1 : 1 ≤ n) (h2 : n ≤ 24) : firstT (n : Int) (a : Int) = withinB (spanA n) a := by
  refine bool_eq ?_
  rcases kinds24 h1 h2 with rfl | rfl | rfl | rfl | rfl | rfl | rfl | rfl | rfl | rfl | rfl | rfl | rfl | rfl | rfl | rfl | rfl | rfl | rfl | rfl | rfl | rfl | rfl | rfl
  all_goals (simp [firstT, inB, withinB, mostN, spanA, rowT, rowsT]; try omega)

theorem second_eq (n a b : Nat) (h1 : 1 ≤ n) (h2 : n ≤ 24) : secondT (n : Int) (a : Int) (b : Int) = (withinB (spanB n) b && !(decide (n = 5) && decide (a = b))) := by
  refine bool_eq ?_
  rcases kinds24 h1 h2 with rfl | rfl | rfl | rfl | rfl | rfl | rfl | rfl | rfl | rfl | rfl | rfl | rfl | rfl | rfl | rfl | rfl | rfl | rfl | rfl | rfl | rfl | rfl | rfl
  all_goals (simp [secondT, inB, withinB, mostN, spanB, rowT, rowsT]; try omega)

theorem third_eq (n v : Nat) (h1 : 1 ≤ n) (h2 : n ≤ 24) : thirdT (n : Int) (v : Int) = withinB (spanV n) v := by
  refine bool_eq ?_
  rcases kinds24 h1 h2 with rfl | rfl | rfl | rfl | rfl | rfl | rfl | rfl | rfl | rfl | rfl | rfl | rfl | rfl | rfl | rfl | rfl | rfl | rfl | rfl | rfl | rfl | rfl | rfl
  all_goals (simp [thirdT, inB, withinB, mostN, spanV, rowT, rowsT]; try omega)

theorem has_eq (k : Int) : hasT k = (hasA k, hasB k, hasV k) := by
  by_cases hk : 1 ≤ k ∧ k ≤ 24
  · obtain ⟨n, rfl⟩ : ∃ n : Nat, k = n := ⟨k.toNat, by omega⟩
    rcases kinds24 (n := n) (by omega) (by omega) with rfl | rfl | rfl | rfl | rfl | rfl | rfl | rfl | rfl | rfl | rfl | rfl | rfl | rfl | rfl | rfl | rfl | rfl | rfl | rfl | rfl | rfl | rfl | rfl
    all_goals rfl
  · have hn : knownB k = false := by simp [knownB]; omega
    rw [show hasA k = false by simp [hasA, hn], show hasB k = false by simp [hasB, hn], show hasV k = false by simp [hasV, hn]]
    unfold hasT
    repeat rw [if_neg (by omega)]

set_option maxRecDepth 100000 in
set_option maxHeartbeats 2000000 in
theorem rcheck_walk (e : Ev) (hk1 : decide (e.kind < 1) = false) (hk2 : decide (24 < e.kind) = false) (q1 q2 q3 : Bool) (res : Int) (w : World)
    (H1 : Hid (∀ w', Calls Tryd.prog 53 #[evV e] w' fun r w'' => r = .returned (.bool q1) ∧ Below w'.heap.size w' w''))
    (H2 : Hid (∀ w', Calls Tryd.prog 54 #[evV e] w' fun r w'' => r = .returned (.bool q2) ∧ Below w'.heap.size w' w''))
    (H3 : Hid (∀ w', Calls Tryd.prog 55 #[evV e] w' fun r w'' => r = .returned (.bool q3) ∧ Below w'.heap.size w' w''))
    (hr : res = if (q1 && (q2 && q3)) = true then 0 else 5) :
    Calls Tryd.prog 41 #[evV e] w fun r w' => r = .returned (.int .i64 res) ∧ Below w.heap.size w w' := by
  obtain ⟨w1, e1⟩ : ∃ w1, w1 = w.alloc (evO e) := ⟨_, rfl⟩
  obtain ⟨-, n1, b1⟩ := new_size e1
  obtain ⟨c0, c1, c2, c3, c4, c5⟩ := evcells n1
  have B1 := Lib.hid b1
  have N1 := Lib.hid n1
  clear n1 b1
  obtain ⟨k, cyc, cnt, a, b, v⟩ := e
  unfold evO at e1
  unfold evV at *
  simp only at *
  subst e1
  cases q1
  · obtain rfl : res = 5 := hr
    go_enter Tryd.func41, Tryd.ntmps41
    go_wp2_with fail
    refine (H1.out _).mono ?_
    rintro r w2 ⟨rfl, h2⟩
    have B2 := Lib.hid (B1.out.trans (h2.mono B1.out.size))
    clear h2
    go_wp2_with fail
    go_ret
    exact ⟨rfl, B2.out⟩
  · go_enter Tryd.func41, Tryd.ntmps41
    go_wp2_with fail
    refine (H1.out _).mono ?_
    rintro r w2 ⟨rfl, h2⟩
    have B2 := Lib.hid (B1.out.trans (h2.mono B1.out.size))
    have N2 := (h2.block _ (blk_lt N1.out)).trans N1.out
    obtain ⟨c0, c1, c2, c3, c4, c5⟩ := evcells N2
    have HN2 := Lib.hid N2
    simp only at c0 c1 c2 c3 c4 c5
    clear h2 N2
    go_wp2_with fail
    refine (H2.out _).mono ?_
    rintro r w3 ⟨rfl, h3⟩
    have B3 := Lib.hid (B2.out.trans (h3.mono B2.out.size))
    have N3 := (h3.block _ (blk_lt HN2.out)).trans HN2.out
    cases q2
    · obtain rfl : res = 5 := hr
      clear h3 N3
      go_wp2_with fail
      go_ret
      exact ⟨rfl, B3.out⟩
    · obtain ⟨c0, c1, c2, c3, c4, c5⟩ := evcells N3
      simp only at c0 c1 c2 c3 c4 c5
      clear h3 N3
      go_wp2_with fail
      refine (H3.out _).mono ?_
      rintro r w4 ⟨rfl, h4⟩
      have B4 := Lib.hid (B3.out.trans (h4.mono B3.out.size))
      clear h4
      cases q3
      · obtain rfl : res = 5 := hr
        go_wp2_with fail
        go_ret
        exact ⟨rfl, B4.out⟩
      · obtain rfl : res = 0 := hr
        go_wp2_with fail
        go_ret
        exact ⟨rfl, B4.out⟩

set_option maxRecDepth 100000 in
set_option maxHeartbeats 2000000 in
theorem rcheck_not (e : Ev) (hk : e.kind < 1 ∨ 24 < e.kind) (w : World) :
    Calls Tryd.prog 41 #[evV e] w fun r w' => r = .returned (.int .i64 1) ∧ Below w.heap.size w w' := by
  obtain ⟨k, cyc, cnt, a, b, v⟩ := e
  unfold evV
  simp only at hk
  by_cases h : k < 1
  · clear hk
    go_enter Tryd.func41, Tryd.ntmps41
    go_wp2
    go_ret
    exact ⟨rfl, below_box _⟩
  · have h' : decide (k < 1) = false := by simp; omega
    have h2 : 24 < k := by omega
    clear hk h
    go_enter Tryd.func41, Tryd.ntmps41
    go_wp2
    go_ret
    exact ⟨rfl, below_box _⟩

theorem rcheck_any (e : Ev) (w : World) :
    Calls Tryd.prog 41 #[evV e] w fun r w' => r = .returned (.int .i64 (checkN e)) ∧ Below w.heap.size w w' := by
  cases hk : knownB e.kind with
  | false =>
    rw [show checkN e = 1 by simp [checkN, hk]]
    exact rcheck_not e (by simp [knownB] at hk; omega) w
  | true =>
    obtain ⟨n, hn, n1, n2⟩ := known_nat hk
    refine rcheck_walk e (by simp; omega) (by simp; omega) _ _ _ _ w (fun w' => rfirst_any e w') (fun w' => rsecond_any e w') (fun w' => rthird_any e w') ?_
    rw [hn, first_eq n e.a n1 n2, second_eq n e.a e.b n1 n2, third_eq n e.v n1 n2]
    unfold checkN allIn
    rw [hk, hn, Int.toNat_natCast, if_neg (by decide)]
    cases withinB (spanA n) e.a <;> cases withinB (spanB n) e.b <;> cases withinB (spanV n) e.v <;> simp
    by_cases h5 : n = 5
    · by_cases hab : e.a = e.b
      · simp [h5, hab]
      · simp [h5, hab]
    · have : ¬ (n : Int) = 5 := by omega
      simp [h5, this]

set_option maxRecDepth 100000 in
set_option maxHeartbeats 4000000 in
theorem rhas_any (k : Int) (w : World) :
    Calls Tryd.prog 51 #[.int .i64 k] w fun r w' => r = .returned (.agg #[.bool (hasT k).1, .bool (hasT k).2.1, .bool (hasT k).2.2]) ∧ Below w.heap.size w w' := by
  have hi : (Tryd.prog.info? 104).map (·.size) = some 3 := by kernel_rfl
  have HI := Lib.hid hi
  clear hi
  go_enter Tryd.func51, Tryd.ntmps51
  go_wp2
  all_goals (refine bodyPost_ret (results_cell_row rfl _ _ w.heap.size 104 #[_, _, _] (0, 0) _ rfl (heap_alloc_new w _) Tryd.underlying104 rfl HI.out) rfl ⟨?_, below_box _⟩; go_light; simp only [beq_iff_eq, beq_eq_false_iff_ne, ne_eq] at *; simp [hasT, *])

theorem rhas_is (k : Int) (w : World) :
    Calls Tryd.prog 51 #[.int .i64 k] w fun r w' => r = .returned (.agg #[.bool (hasA k), .bool (hasB k), .bool (hasV k)]) ∧ Below w.heap.size w w' := by
  have := rhas_any k w
  rw [has_eq k] at this
  exact this

/-- The names' row, as it is laid. -/
def namesC : Array Value := #[.string ⟨#[]⟩, .string (nameB 1), .string (nameB 2), .string (nameB 3), .string (nameB 4), .string (nameB 5), .string (nameB 6), .string (nameB 7), .string (nameB 8), .string (nameB 9), .string (nameB 10), .string (nameB 11), .string (nameB 12), .string (nameB 13), .string (nameB 14), .string (nameB 15), .string (nameB 16), .string (nameB 17), .string (nameB 18), .string (nameB 19), .string (nameB 20), .string (nameB 21), .string (nameB 22), .string (nameB 23), .string (nameB 24)]
theorem namesC_at : ∀ k, k < 25 → namesC[k]? = some (.string (nameB k)) := by
  intro k hk
  have : k = 0 ∨ (1 ≤ k ∧ k ≤ 24) := by omega
  rcases this with rfl | ⟨h1, h2⟩
  · rfl
  · rcases kinds24 h1 h2 with rfl | rfl | rfl | rfl | rfl | rfl | rfl | rfl | rfl | rfl | rfl | rfl | rfl | rfl | rfl | rfl | rfl | rfl | rfl | rfl | rfl | rfl | rfl | rfl
    all_goals rfl


end Go.Proofs.YtobioiicbdhboaaDoor
