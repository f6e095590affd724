/-
  The document's own answers of layer 5 (taffrailref05), Parse, over this seat's translation. No condition but on the line's size.
-/
import Derived.Test.YtonmkmbllaahgaaDoorEvRef5
namespace Go.Proofs.YtonmkmbllaahgaaDoor
open Go.RowKit
set_option linter.unusedVariables false
set_option linter.unusedSimpArgs false

theorem rtext_any (e : Ev) (f : Fine e) (w : World) :
    Calls Tryd.prog 19 #[evV e] w fun r w' => r = .returned (.string (bytesOf (textL e))) ∧ Below w.heap.size w w' := by
  obtain ⟨k, cyc, cnt, a, b, v⟩ := e
  have f1 := f.k1
  have f2 := f.k2
  obtain ⟨n, rfl⟩ : ∃ n : Nat, k = n := ⟨k.toNat, by simp only at f1; omega⟩
  simp only at f1 f2
  have l1 := dec_len _ f.cnt
  have l2 := dec_len _ f.cyc
  have l3 := names_short ⟨n, by omega⟩
  have fa := f.a
  have fb := f.b
  have fv := f.v
  simp only at l1 l2 l3 fa fb fv
  have l4 := dec_len a (by omega)
  have l5 := dec_len b (by omega)
  have l6 := dec_len v (by omega)
  refine rtext_walk n cyc cnt a b v (hasA n) (hasB n) (hasV n) (bytesOf (Lib.decDigits cnt)) (bytesOf (Lib.decDigits cyc)) (nameB n) (bytesOf (Lib.decDigits a)) (bytesOf (Lib.decDigits b)) (bytesOf (Lib.decDigits v)) _ _ _ _ _ w (by omega) fa fb fv
    ?_ (by rw [bytesOf_size]; exact l4) (by rw [bytesOf_size]; exact l5) (by rw [bytesOf_size]; exact l6)
    (fun w' => rdigits_any cnt f.cnt w') (fun w' => rdigits_any cyc f.cyc w') rfl (fun w' => rhas_is n w') (fun w' => rdigits_any a (by omega) w') (fun w' => rdigits_any b (by omega) w') (fun w' => rdigits_any v (by omega) w')
    (show _ ++ bytesOf [32] = _ from bytesOf_app _ _) (bytesOf_app _ _) (show _ ++ bytesOf [32] = _ from bytesOf_app _ _) (show _ ++ bytesOf (nameL n) = _ from bytesOf_app _ _)
    (by show ¬ _; simp only [bytesOf_size, List.length_append, List.length_singleton]; omega) (by show ¬ _; simp only [bytesOf_size, List.length_append, List.length_singleton]; omega) (by show ¬ _; simp only [bytesOf_size, List.length_append, List.length_singleton]; omega) (by show ¬ _; simp only [nameB, bytesOf_size, List.length_append, List.length_singleton]; omega) ?_
  · simp only [bytesOf_size, List.length_append, List.length_singleton]; omega
  · show _ = _
    rw [textL_eq]
    unfold appB optT
    simp only [Int.toNat_natCast, show ({ data := #[32] } : ByteArray) = bytesOf [32] from rfl]
    cases hasA n <;> cases hasB n <;> cases hasV n <;> simp [bytesOf_app]

/-- While the document reads a line: the words' row, the event, the result. -/
structure PS (w0 w : World) (g E : Nat) (ws : List (List UInt8)) (e : Ev) : Prop where
  wd : ∀ j (h : j < ws.length), w.cell? ⟨g, j, none⟩ = some (.string (bytesOf ws[j]))
  ev : w.heap[E]? = some (evO e)
  rs : w.heap[w0.heap.size]? = some (evO ev0)
  bel : Below w0.heap.size w0 w
  hg : g ≠ E
  hE : w0.heap.size < E

theorem PS.below {w0 w w' : World} {g E : Nat} {ws : List (List UInt8)} {e : Ev} (h : PS w0 w g E ws e) (hb : Below w.heap.size w w') : PS w0 w' g E ws e :=
  ⟨fun j hj => cell_kept hb (h.wd j hj), (hb.block _ (blk_lt h.ev)).trans h.ev, (hb.block _ (blk_lt h.rs)).trans h.rs, h.bel.trans (hb.mono h.bel.size), h.hg, h.hE⟩
theorem PS.set {w0 w : World} {g E : Nat} {ws : List (List UInt8)} {e e' : Ev} (h : PS w0 w g E ws e) (j : Nat) (v : Value) (hv : (evC e).setIfInBounds j v = evC e') : PS w0 (w.setCell ⟨E, j, none⟩ v) g E ws e' := by
  have hE := h.hE
  have hsame := heap_setCell_same w E j (evC e) 25 v h.ev
  rw [hv] at hsame
  refine ⟨fun i hi => ?_, hsame, (heap_setCell_other w _ _ v (by simp; omega)).trans h.rs, h.bel.setCell (by simp; omega) v, h.hg, hE⟩
  rw [World.cell?_setCell_other _ _ _ _ (fun e => h.hg (congrArg Addr.block e).symm)]
  exact h.wd i hi

/-- The kind that is found among the first ones. -/
def kindTo (z : List UInt8) (k : Nat) : Nat := if kindOf z < k then kindOf z else 0
theorem kindTo_hit {z : List UInt8} {k : Nat} (h1 : 1 ≤ k) (h2 : k ≤ 24) (h : nameL k = z) : kindTo z (k + 1) = k := by
  unfold kindTo; rw [kindOf_is h1 h2 h, if_pos (by omega)]
theorem kindTo_miss {z : List UInt8} {k : Nat} (h1 : 1 ≤ k) (h : nameL k ≠ z) : kindTo z (k + 1) = kindTo z k := by
  unfold kindTo
  have : kindOf z ≠ k := fun e => by
    have := kindOf_name (l := z) (by omega)
    rw [e] at this; exact h this
  by_cases hk : kindOf z < k
  · rw [if_pos hk, if_pos (by omega)]
  · rw [if_neg hk, if_neg (by omega)]

set_option maxRecDepth 100000 in
set_option maxHeartbeats 2000000 in
theorem rparse_few (s : ByteArray) (hs : s.size ≤ 5000) (w : World) (hf : (words s.data.toList).length < 3) :
    Calls Tryd.prog 21 #[.string s] w fun r w' => r = .returned (.tuple #[evV ev0, .int .i64 3]) ∧ Below w.heap.size w w' := by
  obtain ⟨w1, e1⟩ : ∃ w1, w1 = w.alloc (evO ev0) := ⟨_, rfl⟩
  obtain ⟨-, n1, b1⟩ := new_size e1
  have HW := Lib.hid (rwords_any s hs w1)
  have B1 := Lib.hid b1
  have N1 := Lib.hid n1
  have hwne := words_ne s.data.toList
  generalize words s.data.toList = ws at *
  unfold evO ev0 at e1
  rw [show ((0 : Nat) : Int) = 0 from rfl] at e1
  clear n1 b1
  unfold evV ev0
  go_enter Tryd.func21, Tryd.ntmps21
  go_wp2_with fail
  rw [← e1]
  clear e1
  refine HW.out.mono ?_
  rintro r w2 ⟨v, rfl, S, h2⟩
  obtain ⟨g, cap, rfl, -, -⟩ := S.shape hwne
  have B2 := Lib.hid (B1.out.trans (h2.mono B1.out.size))
  have N2 := Lib.hid ((h2.block _ (blk_lt N1.out)).trans N1.out)
  obtain ⟨r0, r1, r2, r3, r4, r5⟩ := evcells N2.out
  obtain ⟨z0, z1, z2, z3, z4, z5⟩ := evfree N2.out
  simp only [ev0] at r0 r1 r2 r3 r4 r5
  have hf' : (ws.length : Int) < 3 := by omega
  clear h2 S N1 B1 HW
  go_wp2_with fail
  refine bodyPost_ret (v := .tuple #[.agg #[.int .i64 0, .int .u64 0, .int .u64 0, .int .u32 0, .int .u32 0, .int .u32 0], .int .i64 3]) (by rw [results_cell_tmp rfl]; go_simp) rfl ⟨rfl, ?_⟩
  exact below_grown B2.out (Nat.le_of_lt (blk_lt N2.out)) (Nat.le_refl _) (ev_stored (e := ⟨0, 0, 0, 0, 0, 0⟩) N2.out).2

theorem kindTo_one (z : List UInt8) : kindTo z 1 = 0 := by unfold kindTo; split <;> omega
theorem kindTo_all (z : List UInt8) : kindTo z 25 = kindOf z := by
  unfold kindTo; rw [if_pos (by have := kindOf_le z; omega)]

def numW (r : List (List UInt8)) (j : Nat) : Option Nat := numOk 32 (r.getD j [])
def okW (h : Bool) (r : List (List UInt8)) (j : Nat) : Bool := !h || (numW r j).isSome
def valW (h : Bool) (r : List (List UInt8)) (j : Nat) : Nat := if h = true then (numW r j).getD 0 else 0

theorem form_flags {x y z : List UInt8} {r : List (List UInt8)} {cnt cyc : Nat} (hx : numOk 64 x = some cnt) (hy : numOk 64 y = some cyc) (hz : kindOf z ≠ 0) {a b v : Bool} (ha : hasA (kindOf z) = a) (hb : hasB (kindOf z) = b) (hv : hasV (kindOf z) = v)
    (hl : r.length = a.toNat + b.toNat + v.toNat) :
    formL (x :: y :: z :: r) = if (okW a r 0 && okW b r a.toNat && okW v r (a.toNat + b.toNat)) = true then some ⟨(kindOf z : Int), cyc, cnt, valW a r 0, valW b r a.toNat, valW v r (a.toNat + b.toNat)⟩ else none := by
  unfold formL
  simp only [hx, hy, Option.bind_some, if_neg hz, ha, hb, hv]
  unfold okW valW numW takeF
  obtain ⟨P, hP⟩ : ∃ P, numOk 32 (r.getD 0 []) = P := ⟨_, rfl⟩
  obtain ⟨Q, hQ⟩ : ∃ Q, numOk 32 (r.getD 1 []) = Q := ⟨_, rfl⟩
  obtain ⟨S, hS⟩ : ∃ S, numOk 32 (r.getD 2 []) = S := ⟨_, rfl⟩
  cases a <;> cases b <;> cases v <;> (rcases r with _ | ⟨p, _ | ⟨q, _ | ⟨s, _ | ⟨t, r⟩⟩⟩⟩ <;> simp at hl hP hQ hS ⊢)
  all_goals (cases P <;> cases Q <;> cases S <;> simp [hP, hQ, hS])

theorem form_bad {x y z : List UInt8} {r : List (List UInt8)} (h : (numOk 64 x).isSome = false ∨ (numOk 64 y).isSome = false ∨ kindOf z = 0 ∨ r.length ≠ (hasA (kindOf z)).toNat + (hasB (kindOf z)).toNat + (hasV (kindOf z)).toNat) : formL (x :: y :: z :: r) = none := by
  cases hf : formL (x :: y :: z :: r) with
  | none => rfl
  | some e =>
    unfold formL at hf
    simp only [Option.bind_eq_some_iff] at hf
    obtain ⟨cnt, h1, cyc, h2, h3⟩ := hf
    split at h3
    · cases h3
    · rename_i hk
      simp only [Option.bind_eq_some_iff] at h3
      obtain ⟨⟨a, p⟩, h4, ⟨b, q⟩, h5, ⟨v, t⟩, h6, h7⟩ := h3
      split at h7
      · rename_i ht
        rw [h1, h2] at h
        simp only [Option.isSome_some, Bool.true_eq_false, false_or, hk] at h
        rw [takeF_iff] at h4 h5 h6
        simp only at h4 h5 h6 ht
        rw [h4.1, h5.1, h6.1, ht] at h
        unfold opt at h
        refine absurd ?_ h
        cases hasA (kindOf z) <;> cases hasB (kindOf z) <;> cases hasV (kindOf z) <;> rfl
      · cases h7

theorem parse_bad {ws : List (List UInt8)} (h : formL ws = none) : parseW ws = (ev0, 3) := by unfold parseW; rw [h]

end Go.Proofs.YtonmkmbllaahgaaDoor
