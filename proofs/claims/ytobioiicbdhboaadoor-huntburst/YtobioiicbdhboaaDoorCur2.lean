/-
  Agree and Find of package cursor and of the document's own answer (taffrailref01), over this seat's translation: what each returns, as plain functions on lists of bytes.
-/
import Derived.Test.YtobioiicbdhboaaDoorCur
import Derived.Lib.IndexMore
import Derived.Lib.IndexBytes
namespace Go.Proofs.YtobioiicbdhboaaDoor
open Go.RowKit
set_option linter.unusedVariables false

/-- How many bytes two lists have in common at their heads. -/
def agr : List UInt8 → List UInt8 → Nat
  | a :: l, c :: t => if a = c then agr l t + 1 else 0
  | _, _ => 0

theorem agr_eq : ∀ (l t : List UInt8) (j : Nat), j ≤ l.length → j ≤ t.length → (∀ i, i < j → l[i]? = t[i]?) →
    (j = l.length ∨ j = t.length ∨ l[j]? ≠ t[j]?) → agr l t = j
  | [], t, j, h1, _, _, _ => by cases t <;> simp [agr] at h1 ⊢ <;> omega
  | a :: l, [], j, _, h2, _, _ => by simp [agr] at h2 ⊢; omega
  | a :: l, c :: t, 0, _, _, _, h => by
    have : a ≠ c := by rcases h with h | h | h <;> simp_all
    simp [agr, this]
  | a :: l, c :: t, j + 1, h1, h2, h3, h => by
    have e : a = c := by simpa using h3 0 (by omega)
    simp only [agr, e, if_true]
    rw [agr_eq l t j (by simpa using h1) (by simpa using h2) (fun i hi => by simpa using h3 (i + 1) (by omega)) (by simpa using h)]

theorem agr_le : ∀ (l t : List UInt8), agr l t ≤ l.length ∧ agr l t ≤ t.length
  | [], t => by cases t <;> simp [agr]
  | a :: l, [] => by simp [agr]
  | a :: l, c :: t => by
    have := agr_le l t
    simp only [agr, List.length_cons]
    split <;> omega

/-- The first j bytes of r and t are the same. -/
def Alike8 (r t : ByteArray) (j : Nat) : Prop := ∀ i, i < j → r.data.toList[i]? = t.data.toList[i]?

theorem get_some (r : ByteArray) (j : Nat) (h : j < r.size) : r.data.toList[j]? = some r[j] := by
  rw [Array.getElem?_toList]; exact Array.getElem?_eq_getElem h
theorem len_toList (r : ByteArray) : r.data.toList.length = r.size := rfl

theorem alike_succ {r t : ByteArray} {j : Nat} (h : Alike8 r t j) (hr : j < r.size) (ht : j < t.size) (he : t[j] = r[j]) : Alike8 r t (j + 1) := by
  intro i hi
  by_cases e : i = j
  · subst e; rw [get_some r i hr, get_some t i ht, he]
  · exact h i (by omega)

theorem alike_end {r t : ByteArray} {j : Nat} (h : Alike8 r t j) (hr : j ≤ r.size) (ht : j ≤ t.size)
    (hend : j = r.size ∨ j = t.size ∨ (∃ (a : j < r.size) (c : j < t.size), t[j] ≠ r[j])) : agr r.data.toList t.data.toList = j := by
  refine agr_eq _ _ j hr ht h ?_
  rcases hend with e | e | ⟨a, c, e⟩
  · exact .inl e
  · exact .inr (.inl e)
  · right; right; rw [get_some r j a, get_some t j c]; intro x; exact e (by simpa using x.symm)

theorem byte_ne {a c : UInt8} (h : a ≠ c) : (((a.toNat : Nat) : Int) == ((c.toNat : Nat) : Int)) = false := by
  rw [beq_eq_false_iff_ne]
  intro e
  exact h (UInt8.toNat_inj.1 (by omega))

theorem extract_list (s : ByteArray) (k : Nat) : (s.extract k s.size).data.toList = s.data.toList.drop k := by
  rw [Lib.extract_to_end]

set_option maxHeartbeats 1000000 in
theorem agree_loop (w : World) (p : Value) (r t : ByteArray) (hr : r.size ≤ maxLen) (ht : t.size ≤ maxLen)
    (hrest : Calls Tryd.prog 70 #[p] w fun e w' => e = .returned (.string r) ∧ ∃ n, w' = w.drewN n) :
    Calls Tryd.prog 66 #[p, .string t] w fun e w' => e = .returned (.int .i64 (agr r.data.toList t.data.toList)) ∧ ∃ n, w' = w.drewN n := by
  unfold maxLen at hr ht
  have Hr := Lib.hid hrest
  clear hrest
  go_enter Tryd.func66, Tryd.ntmps66
  go_wp2_with fail
  refine Hr.out.mono ?_
  clear Hr
  rintro e w' ⟨rfl, n0, rfl⟩
  go_wp2
  go_loopw [6] (fun i wr => ∃ j : Nat, i = .int .i64 j ∧ j ≤ r.size ∧ j ≤ t.size ∧ Alike8 r t j ∧ ∃ n, wr = w.drewN n) (fun i _ => r.size - (intOf i).toNat)
  case atStart => exact ⟨0, rfl, Nat.zero_le _, Nat.zero_le _, fun i hi => absurd hi (by omega), _, rfl⟩
  case round =>
    obtain ⟨j, rfl, hjr, hjt, hal, n, rfl⟩ := hrel
    by_cases h1 : j < t.size
    · by_cases h2 : j < r.size
      · have h1I : (j : Int) < (t.size : Int) := by omega
        have h2I : (j : Int) < (r.size : Int) := by omega
        by_cases hc : t[j] = r[j]
        · have Ha := Lib.hid (alike_succ hal h2 h1 hc)
          have hb : (((t[j].toNat : Nat) : Int) == ((r[j].toNat : Nat) : Int)) = true := by rw [hc]; simp
          have Hc := Lib.hid hc
          clear hc hal
          go_wp2
          go_quiet (fail)
          go_wp2
          go_roundw
          case rel => exact ⟨j + 1, by go_num, by omega, by omega, Ha.out, _, rfl⟩
          case measure => simp [intOf]; omega
        · have hb := byte_ne hc
          have Ha := Lib.hid (alike_end hal hjr hjt (.inr (.inr ⟨h2, h1, hc⟩)))
          clear hc hal
          go_wp2
          go_quiet (fail)
          go_wp2
          go_ret
          rw [Ha.out]
          exact ⟨rfl, n + nq, by simp⟩
      · have Ha := Lib.hid (alike_end hal hjr hjt (.inl (by omega)))
        have hd1 : decide (j < t.size) = true := by simpa using h1
        have hd2 : decide (j < r.size) = false := by simpa using h2
        clear hal
        go_wp2
        go_quiet (fail)
        go_wp2
        go_ret
        rw [Ha.out]
        exact ⟨rfl, n + nq, by simp⟩
    · have Ha := Lib.hid (alike_end hal hjr hjt (.inr (.inl (by omega))))
      have hd1 : decide (j < t.size) = false := by simpa using h1
      clear hal
      go_wp2
      go_quiet (fail)
      go_wp2
      go_ret
      rw [Ha.out]
      exact ⟨rfl, n + nq, by simp⟩

theorem agree_any (w : World) (b : Nat) (s : ByteArray) (k : Nat) (h : Rd w b s k) (t : ByteArray) (ht : t.size ≤ maxLen) :
    Calls Tryd.prog 66 #[.pointer (some ⟨b, 0, none⟩), .string t] w fun e w' => e = .returned (.int .i64 (agr (s.data.toList.drop k) t.data.toList)) ∧ ∃ n, w' = w.drewN n := by
  have := agree_loop w _ _ t (by have := h.mx; simp; omega) ht (rest_any w b s k h)
  rwa [extract_list] at this

theorem agree_nil (w : World) (t : ByteArray) (ht : t.size ≤ maxLen) :
    Calls Tryd.prog 66 #[.pointer none, .string t] w fun e w' => e = .returned (.int .i64 0) ∧ ∃ n, w' = w.drewN n := by
  have := agree_loop w _ ⟨#[]⟩ t (by simp [ByteArray.size]) ht ((rest_nil w).mono fun e w' ⟨he, hw⟩ => ⟨he, 0, hw.symm⟩)
  have e : agr (⟨#[]⟩ : ByteArray).data.toList t.data.toList = 0 := by cases t.data.toList <;> rfl
  rwa [e] at this

end Go.Proofs.YtobioiicbdhboaaDoor
