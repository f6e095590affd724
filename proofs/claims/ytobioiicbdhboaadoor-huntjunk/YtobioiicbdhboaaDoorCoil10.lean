/-
  The document's own answers of layer 6 (taffrailref06), Same, where both lists are the same, over this seat's translation. No condition.
-/
import Derived.Test.YtobioiicbdhboaaDoorEvS
import Derived.Laws.StructEq
namespace Go.Proofs.YtobioiicbdhboaaDoor
open Go.RowKit
set_option linter.unusedVariables false
set_option linter.unusedSimpArgs false

theorem At6.drewN {w : World} {b o : Nat} {e : Ev} (h : At6 w b o e) (n : Nat) : At6 (w.drewN n) b o e := ⟨h.c0, h.c1, h.c2, h.c3, h.c4, h.c5⟩
theorem SeenE.drewN {w : World} {ao : Option Addr} {cap : Nat} {l : List Ev} (h : SeenE w ao cap l) (n : Nat) : SeenE (w.drewN n) ao cap l := ⟨h.mx, h.lc, h.nn, fun i hi => by
  obtain ⟨b, off, h1, h2, h3⟩ := h.row i hi
  exact ⟨b, off, h1, h2, fun j hj => (h3 j hj).drewN n⟩⟩
theorem drewN_drewN (w : World) (a b : Nat) : (w.drewN a).drewN b = w.drewN (a + b) := by simp

set_option maxRecDepth 100000 in
set_option maxHeartbeats 4000000 in
theorem same_any (ao bo : Option Addr) (cap cbp : Nat) (l : List Ev) (w : World) (h1 : SeenE w ao cap l) (h2 : SeenE w bo cbp l) :
    Calls Tryd.prog 27 #[.slice ao l.length cap, .slice bo l.length cbp] w fun r w' => r = .returned (.bool true) ∧ ∃ n, w' = w.drewN n := by
  have H1 := Lib.hid h1
  have H2 := Lib.hid h2
  have hmx := h1.mx
  unfold maxLen at hmx
  clear h1 h2
  go_enter Tryd.func27, Tryd.ntmps27
  go_wp2_with fail
  go_loopw [5] (fun x wr => ∃ (k n : Nat), x = .int .i64 k ∧ k ≤ l.length ∧ Hid (wr = w.drewN n)) (fun x _ => l.length - (intOf x).toNat)
  case atStart => exact ⟨0, 0, rfl, Nat.zero_le _, Lib.hid rfl⟩
  case round =>
    obtain ⟨k, n, rfl, hk, hw⟩ := hrel
    by_cases hlt : k < l.length
    · obtain ⟨b, off, rfl, -, a6⟩ := H1.out.at k hlt
      obtain ⟨b', off', rfl, -, b6⟩ := H2.out.at k hlt
      have a6 := a6.drewN n
      have b6 := b6.drewN n
      rw [← hw.out] at a6 b6
      obtain ⟨c0, c1, c2, c3, c4, c5⟩ := a6
      obtain ⟨d0, d1, d2, d3, d4, d5⟩ := b6
      have hk0I : (0 : Int) ≤ (k : Int) := Int.natCast_nonneg _
      have hk1I : (k : Int) < (l.length : Int) := by omega
      generalize l[k] = e at *
      go_wp2_with fail
      go_quiet (fail)
      go_wp2_with fail
      go_roundw
      case rel => exact ⟨k + 1, _, by go_num, hlt, Lib.hid (by rw [hw.out]; exact drewN_drewN _ _ _)⟩
      case measure => simp [intOf]; omega
    · go_wp2_with fail
      go_ret
      exact ⟨rfl, n, hw.out⟩

end Go.Proofs.YtobioiicbdhboaaDoor
