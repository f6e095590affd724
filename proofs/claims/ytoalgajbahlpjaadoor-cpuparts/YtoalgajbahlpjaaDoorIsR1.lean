/-
  The document's own answers of layer 10 (taffrailref10): Has, In, Names, over this seat's translation. No condition.
-/
import Derived.Test.YtoalgajbahlpjaaDoorIs2
import Derived.Deep.DeepCutAuto
namespace Go.Proofs.YtoalgajbahlpjaaDoor
open Go.RowKit
set_option linter.unusedVariables false
set_option linter.unusedSimpArgs false

set_option maxRecDepth 100000 in
set_option maxHeartbeats 4000000 in
theorem rihas_any (op : Int) (w : World) :
    Calls Tryd.prog 23 #[.int .i64 op] w fun e w' => e = .returned (.string (bytesOf (hasL op))) ∧ w = w' := by
  go_enter Tryd.func23, Tryd.ntmps23
  go_wp2
  all_goals (go_ret; refine ⟨?_, rfl⟩; go_light; simp only [beq_iff_eq, beq_eq_false_iff_ne, ne_eq] at *; simp [hasL, bytesOf, *])

theorem iat_list (s : ByteArray) (j : Nat) (h : j < s.size) : s.data.toList[j]? = some s[j] := by
  rw [Array.getElem?_toList]; exact Array.getElem?_eq_getElem h

set_option maxRecDepth 100000 in
set_option maxHeartbeats 1000000 in
theorem riin_any (s : ByteArray) (hs : s.size ≤ 100) (c : UInt8) (w : World) :
    Calls Tryd.prog 24 #[.string s, .int .u8 (c.toNat : Int)] w fun e w' => e = .returned (.bool (inL s.data.toList c)) ∧ w = w' := by
  obtain ⟨C, hC⟩ : ∃ C : Nat, c.toNat = C := ⟨_, rfl⟩
  rw [hC]
  have HC := Lib.hid hC
  clear hC
  go_enter Tryd.func24, Tryd.ntmps24
  go_wp2_with fail
  go_loopw [5] (fun x wr => wr = w ∧ ∃ k : Nat, x = .int .i64 (k : Int) ∧ k ≤ s.size ∧ Hid (∀ j (h : j < s.size), j < k → s[j].toNat ≠ C)) (fun x _ => ((s.size : Int) - intOf x).toNat)
  case atStart => exact ⟨rfl, 0, rfl, by omega, fun j h h2 => by omega⟩
  case round =>
    obtain ⟨rfl, k, rfl, hk, K⟩ := hrel
    by_cases hlt : k < s.size
    · have hlt' : (k : Int) < (s.size : Int) := by omega
      obtain ⟨x, hx⟩ : ∃ x : Nat, s[k].toNat = x := ⟨_, rfl⟩
      by_cases hq : x = C
      · have hb : ((x : Int) == (C : Int)) = true := by simp [hq]
        have hin : inL s.data.toList c = true := by
          unfold inL
          rw [List.contains_iff_mem]
          have e : s[k] = c := UInt8.toNat_inj.1 (by rw [hx, hq, HC.out])
          rw [← e]
          exact List.mem_of_getElem? (iat_list s k hlt)
        have HI := Lib.hid hin
        clear hq hin K
        go_wp2
        go_ret
        exact ⟨by rw [HI.out]; rfl, rfl⟩
      · have hb : ((x : Int) == (C : Int)) = false := by simp; omega
        have HK : Hid (∀ j (h : j < s.size), j < k + 1 → s[j].toNat ≠ C) := Lib.hid (fun j h h2 => by
          by_cases hj : j = k
          · subst hj; rw [hx]; exact hq
          · exact K.out j h (by omega))
        clear hq K
        go_wp2
        go_roundw
        case rel => exact ⟨trivial, k + 1, by go_num, by omega, HK.out⟩
        case measure => simp [intOf]; omega
    · have hlt' : decide ((k : Int) < (s.size : Int)) = false := by simp; omega
      have hin : inL s.data.toList c = false := by
        unfold inL
        rw [← Bool.not_eq_true, List.contains_iff_mem]
        intro hm
        obtain ⟨j, hj⟩ := List.mem_iff_getElem?.1 hm
        have hj1 : j < s.size := by
          have h1 : j < s.data.toList.length := (List.getElem?_eq_some_iff.1 hj).1
          rw [Array.length_toList] at h1
          exact h1
        rw [iat_list s j hj1] at hj
        have := K.out j hj1 (by omega)
        rw [Option.some.inj hj, HC.out] at this
        exact this rfl
      have HI := Lib.hid hin
      clear hin K
      go_wp2
      go_ret
      exact ⟨by rw [HI.out]; rfl, rfl⟩

def inamesC : Array Value := #[.string ⟨#[]⟩, .string (inameB 1), .string (inameB 2), .string (inameB 3), .string (inameB 4), .string (inameB 5), .string (inameB 6), .string (inameB 7), .string (inameB 8), .string (inameB 9), .string (inameB 10), .string (inameB 11), .string (inameB 12), .string (inameB 13), .string (inameB 14), .string (inameB 15), .string (inameB 16), .string (inameB 17), .string (inameB 18), .string (inameB 19), .string (inameB 20), .string (inameB 21), .string (inameB 22), .string (inameB 23), .string (inameB 24), .string (inameB 25), .string (inameB 26), .string (inameB 27), .string (inameB 28), .string (inameB 29), .string (inameB 30), .string (inameB 31), .string (inameB 32), .string (inameB 33), .string (inameB 34), .string (inameB 35), .string (inameB 36), .string (inameB 37), .string (inameB 38)]
theorem inamesC_at : ∀ k, k < 39 → inamesC[k]? = some (.string (inameB k)) := by
  intro k hk
  by_cases h0 : k = 0
  · subst h0; rfl
  · rcases ops38 (show 1 ≤ k by omega) (show k ≤ 38 by omega) with rfl | rfl | rfl | rfl | rfl | rfl | rfl | rfl | rfl | rfl | rfl | rfl | rfl | rfl | rfl | rfl | rfl | rfl | rfl | rfl | rfl | rfl | rfl | rfl | rfl | rfl | rfl | rfl | rfl | rfl | rfl | rfl | rfl | rfl | rfl | rfl | rfl | rfl
    all_goals rfl


end Go.Proofs.YtoalgajbahlpjaaDoor
