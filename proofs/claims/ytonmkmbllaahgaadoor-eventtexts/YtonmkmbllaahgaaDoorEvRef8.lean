/-
  The document's own Parse of layer 5, any line, over this seat's translation.
-/
import Derived.Test.YtonmkmbllaahgaaDoorEvRef7
namespace Go.Proofs.YtonmkmbllaahgaaDoor
open Go.RowKit
set_option linter.unusedVariables false
set_option linter.unusedSimpArgs false

theorem rparse_any (s : ByteArray) (hs : s.size ≤ 5000) (w : World) :
    Calls Tryd.prog 21 #[.string s] w fun r w' => r = .returned (.tuple #[evV (parseL s.data.toList).1, .int .i64 (parseL s.data.toList).2]) ∧ Below w.heap.size w w' := by
  have hsh := words_short s.data.toList
  rw [list_len] at hsh
  unfold parseL
  rcases hw : words s.data.toList with _ | ⟨x, _ | ⟨y, _ | ⟨z, r⟩⟩⟩
  · exact rparse_few s hs w (by rw [hw]; simp)
  · exact rparse_few s hs w (by rw [hw]; simp)
  · exact rparse_few s hs w (by rw [hw]; simp)
  · rw [hw] at hsh
    have num64 : ∀ q : List UInt8, q ∈ (x :: y :: z :: r) → ∀ w', Calls Tryd.prog 32 #[.string (bytesOf q), .int .u64 18446744073709551615] w' fun r w'' => r = .returned (.tuple #[.int .u64 (((numOk 64 q).getD 0 : Nat) : Int), .bool (numOk 64 q).isSome]) ∧ w' = w'' := fun q hq w' => by
      have := rnum_any 64 (by omega) (by omega) 18446744073709551615 (by decide) (bytesOf q) (by rw [bytesOf_size]; have := hsh q hq; omega) w'
      rw [bytesOf_data] at this
      exact this
    refine rparse_walk s hs w x y z r hw _ rfl _ _ _ _ _ _ _ _ rfl (fun w' => rhas_is _ w') ⟨rfl, rfl, rfl⟩ (fun w' => num64 x (by simp) w') (fun w' => num64 y (by simp) w') ⟨rfl, rfl, rfl, rfl⟩ ?_
    intro j hj w'
    have hm : r.getD j [] ∈ (x :: y :: z :: r) := by
      have : r.getD j [] = r[j] := by simp [List.getD, List.getElem?_eq_getElem hj]
      rw [this]
      simp
    have := rnum_any 32 (by omega) (by omega) 4294967295 (by decide) (bytesOf (r.getD j [])) (by rw [bytesOf_size]; have := hsh _ hm; omega) w'
    rw [bytesOf_data] at this
    exact this

end Go.Proofs.YtonmkmbllaahgaaDoor
