/-
  What strconv.FormatUint in base 10, and event's field, do, over this seat's translation. Conditions: the table of powers of ten (EvL).
-/
import Derived.Test.YtonmkmbllaahgaaDoorEv2
import Derived.Lib.ItoaMem
import Derived.Lib.ItoaWalk
import Derived.Lib.AppendIntMem
namespace Go.Proofs.YtonmkmbllaahgaaDoor
open Go.RowKit Go.Sort
set_option linter.unusedVariables false
set_option linter.unusedSimpArgs false

theorem bytes_ext {a b : ByteArray} (h : a.data.toList = b.data.toList) : a = b := by
  cases a; cases b; simp at h; rw [h]
theorem bytesOf_app (a b : List UInt8) : bytesOf a ++ bytesOf b = bytesOf (a ++ b) := by
  apply bytes_ext
  rw [bytesOf_data, ByteArray.data_append, Array.toList_append, bytesOf_data, bytesOf_data]

set_option maxRecDepth 100000 in
set_option maxHeartbeats 1000000 in
theorem fmt_small (u : Nat) (h : u < 100) (w : World) :
    Calls Tryd.prog 35 #[.int .u64 u, .int .i64 10] w fun e w' => e = .returned (.string (bytesOf (Lib.decDigits u))) ∧ Below w.heap.size w w' := by
  have H := Lib.hid (Tryd.internal_strconv_small u h w)
  have hl : (u : Int) < 100 := by omega
  have h0 : (0 : Int) ≤ u := Int.natCast_nonneg _
  go_enter Tryd.func35, Tryd.ntmps35
  go_wp2_with fail
  refine H.out.mono ?_
  rintro e w1 ⟨rfl, rfl⟩
  go_wp2
  go_ret
  exact ⟨rfl, Below.refl _ _⟩

set_option maxRecDepth 100000 in
set_option maxHeartbeats 2000000 in
theorem fmt_great (u : Nat) (h : 100 ≤ u) (h64 : u < 18446744073709551616) (w : World) (hL : EvL w) :
    Calls Tryd.prog 35 #[.int .u64 u, .int .i64 10] w fun e w' => e = .returned (.string (bytesOf (Lib.decDigits u))) ∧ Below w.heap.size w w' := by
  have hl : ¬ (u : Int) < 100 := by omega
  have h0 : (0 : Int) ≤ u := Int.natCast_nonneg _
  have hnd := Lib.nDigits_le20 u h64
  have hal : Tryd.prog.arrayLen 73 = 24 := by kernel_rfl
  have hsl : ∀ W, (Instr.sliceAt 73 (.pointer (some ⟨w.heap.size, 0, none⟩)) none (some (.int .i64 (Lib.nDigits u : Int))) none).run Tryd.prog W = .ok (.slice (some ⟨w.heap.size, 0, none⟩) (Lib.nDigits u) 24) W := fun W => by
    rw [run_sliceAt_array_h W 73 ⟨w.heap.size, 0, none⟩ (by simp [Program.arrayLen, Program.elem, Tryd.underlying73]) .i64 (Lib.nDigits u : Int) (by omega) (by rw [hal]; omega)]
    go_simp
  have hz := Lib.holds_zero0 w 73 (Lib.nDigits u) (by omega)
  have hfmt := Tryd.internal_strconv_formatBase10 w.heap.size 0 24 u (Array.replicate (Lib.nDigits u) 0) (w.alloc (.cells Lib.zeros24 73)) hz (by rw [Array.size_replicate]; exact Lib.lt_pow_nDigits u) h64 (by rw [Array.size_replicate]; omega)
  rw [Array.size_replicate] at hfmt
  have HZ := Lib.hid hz
  have HF := Lib.hid hfmt
  have HN := Lib.hid (Tryd.internal_strconv_numDigits u (by omega) h64 (w.alloc (.cells Lib.zeros24 73)) (Lib.tabIs_alloc hL.pow _))
  clear hz hfmt hal hL
  go_enter Tryd.func35, Tryd.ntmps35
  go_wp2_with fail
  refine HN.out.mono ?_
  rintro e w1 ⟨rfl, hw⟩
  subst hw
  go_wp2_with fail
  refine HF.out.mono ?_
  rintro e w1 ⟨rfl, k, v', dk, rfl, hI⟩
  obtain ⟨os, eo⟩ := Lib.fin_at w (.cells Lib.zeros24 73) dk k 0
  have hbl := Lib.below_grow w.heap.size w (Nat.le_refl _) k os
  rw [← eo] at hbl
  have hcv : (convert 66 9 (.slice (some ⟨w.heap.size, 0, none⟩) (Lib.nDigits u) 24)).run Tryd.prog ((putRow (fun (b : UInt8) => Value.int .u8 (b.toNat : Int)) (w.alloc (.cells Lib.zeros24 73)) w.heap.size 0 dk).drewN k) = .ok (.string ⟨(Lib.decDigits u).toArray⟩) ((putRow (fun (b : UInt8) => Value.int .u8 (b.toNat : Int)) (w.alloc (.cells Lib.zeros24 73)) w.heap.size 0 dk).drewN k) := by
    have hc := run_convert_bytes_back (P := Tryd.prog) ((putRow (fun (b : UInt8) => Value.int .u8 (b.toNat : Int)) (w.alloc (.cells Lib.zeros24 73)) w.heap.size 0 dk).drewN k) 66 9 5 ⟨w.heap.size, 0, none⟩ 24 (Lib.decDigits u) Tryd.underlying66 Tryd.underlying5 Tryd.underlying9 (fun j hj => by
      rw [Lib.row_is_numeral hI j hj, Lib.add_plain, World.cell?_drewN]
      exact cell?_putRow (fun (b : UInt8) => Value.int .u8 (b.toNat : Int)) _ w.heap.size 0 _ dk HZ.out (by rw [hI.size, Array.size_replicate]) j (by rw [hI.size]; rw [Lib.decDigits_length] at hj; exact hj))
    rw [Lib.decDigits_length] at hc
    exact hc
  generalize ((putRow (fun (b : UInt8) => Value.int .u8 (b.toNat : Int)) (w.alloc (.cells Lib.zeros24 73)) w.heap.size 0 dk).drewN k) = W2 at *
  have HB := Lib.hid hbl
  clear hbl eo hI HF HN HZ
  go_wp2
  go_ret
  exact ⟨rfl, HB.out⟩

set_option maxRecDepth 100000 in
set_option maxHeartbeats 1000000 in
theorem fmt_any (u : Nat) (h64 : u < 18446744073709551616) (w : World) (hL : EvL w) :
    Calls Tryd.prog 27 #[.int .u64 u, .int .i64 10] w fun e w' => e = .returned (.string (bytesOf (Lib.decDigits u))) ∧ Below w.heap.size w w' := by
  have H : Calls Tryd.prog 35 #[.int .u64 u, .int .i64 10] w fun e w' => e = .returned (.string (bytesOf (Lib.decDigits u))) ∧ Below w.heap.size w w' := by
    by_cases h : u < 100
    · exact fmt_small u h w
    · exact fmt_great u (by omega) h64 w hL
  have HH := Lib.hid H
  clear H hL
  go_enter Tryd.func27, Tryd.ntmps27
  go_wp2_with fail
  refine HH.out.mono ?_
  rintro e w1 ⟨rfl, hb⟩
  have HB := Lib.hid hb
  clear hb
  go_wp2
  go_ret
  exact ⟨rfl, HB.out⟩

set_option maxRecDepth 100000 in
set_option maxHeartbeats 1000000 in
theorem field_any (h : Bool) (n : Nat) (hn : n < 4294967296) (w : World) (hL : EvL w) :
    Calls Tryd.prog 28 #[.bool h, .int .u32 n] w fun e w' => e = .returned (.string (bytesOf (optT h n))) ∧ Below w.heap.size w w' := by
  have H := Lib.hid (fmt_any n (by omega) w hL)
  clear hL
  cases h with
  | false =>
    go_enter Tryd.func28, Tryd.ntmps28
    go_wp2
    go_ret
    exact ⟨rfl, Below.refl _ _⟩
  | true =>
    have hw : IntKind.u64.wrap (n : Int) = n := by rw [IntKind.wrap_u64]; omega
    have hsz : ¬ 9223372036854775807 < 1 + (bytesOf (Lib.decDigits n)).size := by have := dec_len n (by omega); rw [bytesOf_size]; omega
    go_enter Tryd.func28, Tryd.ntmps28
    go_wp2_with fail
    refine H.out.mono ?_
    rintro e w1 ⟨rfl, hb⟩
    have HB := Lib.hid hb
    clear hb
    go_wp2
    go_ret
    refine ⟨congrArg (fun x => Ending.returned (Value.string x)) ?_, HB.out⟩
    rw [show ({ data := #[32] } : ByteArray) = bytesOf [32] from rfl, bytesOf_app]
    rfl

end Go.Proofs.YtonmkmbllaahgaaDoor
