/-
  The document's own answers for layer 3 (taffrailref03: Turn, Sum, Noughts), over this seat's translation.
-/
import Derived.Test.YtobioiicbdhboaaDoorCrc4
namespace Go.Proofs.YtobioiicbdhboaaDoor
open Go.RowKit
set_option linter.unusedVariables false

set_option maxRecDepth 100000 in
set_option maxHeartbeats 1000000 in
theorem turn_any (x : Nat) (hx : x < 4294967296) (s : ByteArray) (hs : s.size ≤ maxLen) (w : World) :
    Calls Tryd.prog 44 #[.int .u32 x, .string s] w fun e w' => e = .returned (.int .u32 (turnL x s.data.toList : Nat)) ∧ w = w' := by
  have Hx := Lib.hid hx
  have hsz : s.size < 9223372036854775808 := Nat.lt_of_le_of_lt hs (by decide)
  clear hx hs
  go_enter Tryd.func44, Tryd.ntmps44
  go_wp2_with fail
  go_loopw [0, 5] (fun a i wr => ∃ R k : Nat, a = .int .u32 R ∧ i = .int .i64 k ∧ k ≤ s.size ∧ R = turnL x (s.data.toList.take k) ∧ w = wr) (fun _ i _ => s.size - (intOf i).toNat)
  case atStart => exact ⟨x, 0, rfl, rfl, Nat.zero_le _, rfl, rfl⟩
  case round =>
    obtain ⟨R, k, rfl, rfl, hk, hR, rfl⟩ := hrel
    have HR := Lib.hid hR
    have HRl := Lib.hid (show R < 4294967296 from by rw [hR]; exact turnL_lt _ Hx.out)
    clear hR
    by_cases h : k < s.size
    · obtain ⟨c, hc⟩ : ∃ c, s[k] = c := ⟨_, rfl⟩
      have hxr := u32_xor_nat R c.toNat HRl.out (by have := byte_lt c; omega)
      obtain ⟨q, hq⟩ : ∃ q, q = R ^^^ c.toNat := ⟨_, rfl⟩
      rw [← hq] at hxr
      have Hql := Lib.hid (show q < 4294967296 from by rw [hq]; exact Nat.xor_lt_two_pow (n := 32) HRl.out (by have := byte_lt c; omega))
      have HN := Lib.hid (show shn 8 q = turnL x (s.data.toList.take (k + 1)) from by
        rw [take_next s k h, turnL_append, ← HR.out, hc, hq]; rfl)
      have hcl := byte_lt c
      clear hq
      go_wp2_with fail
      go_loopw [0, 6] (fun a i wr => ∃ T j : Nat, a = .int .u32 T ∧ i = .int .i64 j ∧ j ≤ 8 ∧ T < 4294967296 ∧ shn (8 - j) T = shn 8 q ∧ w = wr) (fun _ i _ => 8 - (intOf i).toNat)
      case atStart => exact ⟨q, 0, rfl, rfl, by decide, Hql.out, rfl, rfl⟩
      case round =>
        obtain ⟨T, j, rfl, rfl, hj, hT, he, rfl⟩ := hrel
        have HT := Lib.hid hT
        have He := Lib.hid he
        clear hT he hxr
        by_cases h8 : j < 8
        · have hd8 : decide ((j : Int) < 8) = true := by simp; omega
          have He2 := Lib.hid (show shn (8 - (j + 1)) (sh T) = shn 8 q from by rw [← He.out, show 8 - j = (8 - (j + 1)) + 1 from by omega]; rfl)
          have hsh := Lib.hid (sh_lt HT.out)
          have hTl := HT.out
          by_cases h1 : T % 2 = 1
          · have hxx := Lib.hid (u32_xor_nat (T / 2) 3988292384 (by omega) (by decide))
            have hf := Lib.hid (show sh T = T / 2 ^^^ 3988292384 from by unfold sh; rw [if_pos h1])
            have hb : ((T : Int) % 2 == 1) = true := by rw [beq_iff_eq]; omega
            have H1 := Lib.hid h1
            clear h1
            go_wp2_with fail
            go_roundw
            case rel => exact ⟨sh T, j + 1, by rw [hf.out, ← hxx.out]; rfl, by go_num, by omega, hsh.out, He2.out, trivial⟩
            case measure => simp [intOf]; omega
          · have hf := Lib.hid (show sh T = T / 2 from by unfold sh; rw [if_neg h1])
            have hb : ((T : Int) % 2 == 1) = false := by rw [beq_eq_false_iff_ne]; omega
            have H1 := Lib.hid h1
            clear h1
            go_wp2_with fail
            go_roundw
            case rel => exact ⟨sh T, j + 1, by rw [hf.out]; rfl, by go_num, by omega, hsh.out, He2.out, trivial⟩
            case measure => simp [intOf]; omega
        · have hd8 : decide ((j : Int) < 8) = false := by simp; omega
          have hq := Lib.hid (show T = shn 8 q from by rw [← He.out, show 8 - j = 0 from by omega]; rfl)
          clear h8 hj
          go_wp2_with fail
          go_roundw
          case rel => exact ⟨T, k + 1, rfl, by go_num, by omega, by rw [hq.out, HN.out], trivial⟩
          case measure => simp [intOf]; omega
    · obtain rfl : k = s.size := by omega
      have Hf := Lib.hid (show turnL x s.data.toList = R from by rw [HR.out, List.take_of_length_le (by simp)])
      go_wp2_with fail
      go_ret
      rw [Hf.out]
      exact ⟨rfl, rfl⟩

set_option maxRecDepth 100000 in
set_option maxHeartbeats 1000000 in
theorem rsum_any (s : ByteArray) (hs : s.size ≤ maxLen) (w : World) :
    Calls Tryd.prog 34 #[.string s] w fun e w' => e = .returned (.int .u32 (sumL s.data.toList : Nat)) ∧ w = w' := by
  have H := Lib.hid (turn_any ones (by decide) s hs)
  have hx := Lib.hid (u32_xor_nat (turnL ones s.data.toList) ones (turnL_lt _ (by decide)) (by decide))
  have hf := Lib.hid (show sumL s.data.toList = turnL ones s.data.toList ^^^ ones from rfl)
  clear hs
  go_enter Tryd.func34, Tryd.ntmps34
  go_wp2_with fail
  refine (H.out _).mono ?_
  rintro e w1 ⟨rfl, rfl⟩
  go_wp2
  go_ret
  rw [hf.out, ← hx.out]
  exact ⟨rfl, rfl⟩


end Go.Proofs.YtobioiicbdhboaaDoor
