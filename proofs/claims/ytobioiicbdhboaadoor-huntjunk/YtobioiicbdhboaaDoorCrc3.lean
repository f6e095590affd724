/-
  Sums by the table, over this seat's translation: Sum, Bytes, Holds of package crc.
-/
import Derived.Test.YtobioiicbdhboaaDoorCrc2
import Derived.Test.YtobioiicbdhboaaDoorView
namespace Go.Proofs.YtobioiicbdhboaaDoor
open Go.RowKit
set_option linter.unusedVariables false

/-- The first strings of a list, one behind the other. -/
def catL (ss : List ByteArray) : Nat → List UInt8
  | 0 => []
  | k + 1 => catL ss k ++ (ss.getD k ByteArray.empty).data.toList

theorem Seen.drewN {w : World} {ao : Option Addr} {len cap : Nat} {f : Nat → Value} (h : Seen w ao len cap f) (n : Nat) : Seen (w.drewN n) ao len cap f := ⟨h.mx, h.lc, h.row⟩

theorem take_next (s : ByteArray) (k : Nat) (h : k < s.size) : s.data.toList.take (k + 1) = s.data.toList.take k ++ [s[k]] := by
  rw [List.take_add_one]
  congr 1
  rw [List.getElem?_eq_getElem (by simpa using h)]
  rfl

theorem step_sum (S q : Nat) (c : UInt8) (hq : q = S % 256 ^^^ c.toNat) : S / 256 ^^^ shn 8 q = stepB S c := by
  rw [hq, stepB, step_table S c.toNat (byte_lt c)]

set_option maxRecDepth 100000 in
set_option maxHeartbeats 1000000 in
theorem sum_any (w : World) (b : Nat) (ht : TabK w b 256) (ao : Option Addr) (len cap : Nat) (ss : List ByteArray) (hs : Seen w ao len cap (fun i => .string (ss.getD i ByteArray.empty))) (hmx : ∀ i, (ss.getD i ByteArray.empty).size ≤ maxLen) :
    Calls Tryd.prog 60 #[.pointer (some ⟨b, 0, none⟩), .slice ao len cap] w fun e w' => e = .returned (.int .u32 (sumL (catL ss len) : Nat)) ∧ ∃ n, w' = w.drewN n := by
  have Hs := Lib.hid hs
  have Ht := Lib.hid ht
  have Hmx := Lib.hid hmx
  have hlm := hs.mx
  clear hs ht hmx
  go_enter Tryd.func60, Tryd.ntmps60
  go_wp2_with fail
  go_loopw [5, 13] (fun x y wr => ∃ S k : Nat, x = .int .u32 S ∧ y = .int .i64 k ∧ k ≤ len ∧ S = turnL ones (catL ss k) ∧ ∃ n, wr = w.drewN n) (fun _ y _ => len - (intOf y).toNat)
  case atStart => exact ⟨ones, 0, rfl, rfl, Nat.zero_le _, rfl, 0, rfl⟩
  case round =>
    obtain ⟨S, k, rfl, rfl, hk, hS, n, rfl⟩ := hrel
    have HS := Lib.hid hS
    have Hlm := Lib.hid hlm
    have Hl := Lib.hid (show S < 4294967296 from by rw [hS]; exact turnL_lt _ (by decide))
    clear hS hlm
    by_cases h : k < len
    · obtain ⟨g, off, rfl, hg, hcell⟩ := Hs.out.row k h
      have hc := hcell k h
      obtain ⟨s, hs⟩ : ∃ s, s = ss.getD k ByteArray.empty := ⟨_, rfl⟩
      rw [← hs] at hc
      have hsz : s.size ≤ maxLen := by rw [hs]; exact Hmx.out k
      have Hsz := Lib.hid hsz
      have Hss := Lib.hid hs
      have hc' : (w.drewN n).cell? ⟨g, off + k, none⟩ = some (.string s) := hc
      clear hs hcell hg hc hsz
      go_wp2_with fail
      go_loopw [5, 19] (fun x y wr => ∃ R j : Nat, x = .int .u32 R ∧ y = .int .i64 j ∧ j ≤ s.size ∧ R = turnL S (s.data.toList.take j) ∧ ∃ n, wr = w.drewN n) (fun _ y _ => s.size - (intOf y).toNat)
      case atStart => exact ⟨S, 0, rfl, rfl, Nat.zero_le _, rfl, n, rfl⟩
      case round =>
        obtain ⟨R, j, rfl, rfl, hj, hR, m, rfl⟩ := hrel
        have HR := Lib.hid hR
        have HRl := Lib.hid (show R < 4294967296 from by rw [hR]; exact turnL_lt _ Hl.out)
        clear hR
        by_cases hjs : j < s.size
        · obtain ⟨c, hcj⟩ : ∃ c, s[j] = c := ⟨_, rfl⟩
          obtain ⟨q, hq⟩ : ∃ q, q = R % 256 ^^^ c.toNat := ⟨_, rfl⟩
          have hq256 : q < 256 := by rw [hq]; exact Nat.xor_lt_two_pow (n := 8) (Nat.mod_lt _ (by decide)) (byte_lt c)
          have hx : bits .xor .u8 (IntKind.u8.wrap (R : Int)) (c.toNat : Int) = (q : Int) := by
            rw [IntKind.wrap_u8', hq, ← u8_xor_nat _ _ (Nat.mod_lt _ (by decide)) (byte_lt c)]
            rfl
          have hqc : w.cell? ⟨b, q, none⟩ = some (.int .u32 (shn 8 q : Nat)) := Ht.out.cell q hq256
          have HX := Lib.hid (u32_xor_nat (R / 256) (shn 8 q) (by have := HRl.out; omega) (shn_lt 8 (by omega)))
          have HN := Lib.hid (show R / 256 ^^^ shn 8 q = turnL S (s.data.toList.take (j + 1)) from by
            rw [step_sum R q c hq, take_next s j hjs, turnL_append, ← HR.out, hcj]; rfl)
          have Hq := Lib.hid hq
          have hRl := HRl.out
          have hq1 : (q : Int) < 256 := by omega
          have hq0 : (0 : Int) ≤ (q : Int) := by omega
          have hsz : s.size < 9223372036854775808 := Nat.lt_of_le_of_lt Hsz.out (by decide)
          clear hq hc'
          go_wp2_with fail
          go_quiet (fail)
          go_wp2
          exact ⟨⟨R / 256 ^^^ shn 8 q, j + 1, by rw [← HX.out]; rfl, by go_num, by omega, HN.out, _, rfl⟩, by simp [intOf]; omega⟩
        · obtain rfl : j = s.size := by omega
          have hlm : len < 9223372036854775808 := Nat.lt_of_le_of_lt Hlm.out (by decide)
          go_wp2_with fail
          go_roundw
          case rel =>
            refine ⟨R, k + 1, rfl, by go_num, by omega, ?_, m, rfl⟩
            rw [HR.out, HS.out, ← turnL_append, catL, ← Hss.out, List.take_of_length_le (by simp)]
          case measure => simp [intOf]; omega
    · obtain rfl : k = len := by omega
      have hsg : IntKind.u32.signed = false := rfl
      have Hf := Lib.hid (show bits .xor .u32 IntKind.u32.max (S : Int) = (sumL (catL ss k) : Nat) from by
        rw [sumL, ← HS.out, Nat.xor_comm, ← u32_xor_nat _ _ (by decide) Hl.out]; rfl)
      go_wp2_with fail
      go_ret
      rw [← Hf.out]
      exact ⟨rfl, n, rfl⟩

/-- Without a table there is no sum. -/
theorem sum_nil (v : Value) (w : World) :
    Calls Tryd.prog 60 #[.pointer none, v] w fun e w' => e = .returned (.int .u32 0) ∧ w = w' := by
  go_enter Tryd.func60, Tryd.ntmps60
  go_wp2
  go_ret
  exact ⟨rfl, rfl⟩

theorem conv4 (w : World) (a b c d : Int) :
    (convert 58 9 (.slice (some ⟨w.heap.size, 0, none⟩) 4 4)).run Tryd.prog (w.alloc (.cells #[.int .u8 a, .int .u8 b, .int .u8 c, .int .u8 d] 5))
      = .ok (.string (strOfNums [a, b, c, d])) (w.alloc (.cells #[.int .u8 a, .int .u8 b, .int .u8 c, .int .u8 d] 5)) := by
  refine run_convert_bytes_arg _ 58 5 Tryd.underlying58 Tryd.underlying5 w.heap.size 0 4 4 [a, b, c, d] rfl ?_ 9 Tryd.underlying9
  intro i hi
  have hb := heap_alloc_new w (.cells #[.int .u8 a, .int .u8 b, .int .u8 c, .int .u8 d] 5)
  rw [Nat.zero_add, cell_of_row _ _ i _ _ (0, 0) hb]
  rcases i with _ | _ | _ | _ | i
  · rfl
  · rfl
  · rfl
  · rfl
  · omega

theorem str4 (n : Nat) (h : n < 4294967296) : strOfNums [(n : Int) % 256, (n : Int) / 256 % 256, (n : Int) / 65536 % 256, (n : Int) / 16777216] = ⟨(bytesL n).toArray⟩ := by
  unfold strOfNums bytesL
  simp only [List.map_cons, List.map_nil]
  rw [show ((n : Int) % 256).toNat = n % 256 from by omega, show ((n : Int) / 256 % 256).toNat = n / 256 % 256 from by omega, show ((n : Int) / 65536 % 256).toNat = n / 65536 % 256 from by omega, show ((n : Int) / 16777216).toNat = n / 16777216 % 256 from by omega]


end Go.Proofs.YtobioiicbdhboaaDoor
