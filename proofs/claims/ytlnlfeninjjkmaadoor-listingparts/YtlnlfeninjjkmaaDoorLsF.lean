/-
  What strconv's FormatUint and ParseUint in base 10, and listing's register and clocked, do, over this seat's translation. Conditions: the listed variables (LsL).
-/
import Derived.Test.YtlnlfeninjjkmaaDoorLsL
import Derived.Test.YtlnlfeninjjkmaaDoorIs2
import Derived.Lib.ItoaMem
import Derived.Lib.ItoaWalk
import Derived.Lib.AppendIntMem
namespace Go.Proofs.YtlnlfeninjjkmaaDoor
open Go.RowKit Go.Sort
set_option linter.unusedVariables false
set_option linter.unusedSimpArgs false

theorem bytes_ext {a b : ByteArray} (h : a.data.toList = b.data.toList) : a = b := by
  cases a; cases b; simp at h; rw [h]
theorem bytesOf_app (a b : List UInt8) : bytesOf a ++ bytesOf b = bytesOf (a ++ b) := by
  apply bytes_ext
  rw [bytesOf_data, ByteArray.data_append, Array.toList_append, bytesOf_data, bytesOf_data]

set_option maxRecDepth 100000 in
set_option maxHeartbeats 1000000 in
theorem fmt_small (u : Nat) (h : u < 100) (w : World) :
    Calls Tryd.prog 45 #[.int .u64 u, .int .i64 10] w fun e w' => e = .returned (.string (bytesOf (Lib.decDigits u))) ∧ Below w.heap.size w w' := by
  have H := Lib.hid (Tryd.internal_strconv_small u h w)
  have hl : (u : Int) < 100 := by omega
  have h0 : (0 : Int) ≤ u := Int.natCast_nonneg _
  go_enter Tryd.func45, Tryd.ntmps45
  go_wp2_with fail
  refine H.out.mono ?_
  rintro e w1 ⟨rfl, rfl⟩
  go_wp2
  go_ret
  exact ⟨rfl, Below.refl _ _⟩

set_option maxRecDepth 100000 in
set_option maxHeartbeats 2000000 in
theorem fmt_great (u : Nat) (h : 100 ≤ u) (h64 : u < 18446744073709551616) (w : World) (hL : LsL w) :
    Calls Tryd.prog 45 #[.int .u64 u, .int .i64 10] w fun e w' => e = .returned (.string (bytesOf (Lib.decDigits u))) ∧ Below w.heap.size w w' := by
  have hl : ¬ (u : Int) < 100 := by omega
  have h0 : (0 : Int) ≤ u := Int.natCast_nonneg _
  have hnd := Lib.nDigits_le20 u h64
  have hal : Tryd.prog.arrayLen 93 = 24 := by kernel_rfl
  have hsl : ∀ W, (Instr.sliceAt 93 (.pointer (some ⟨w.heap.size, 0, none⟩)) none (some (.int .i64 (Lib.nDigits u : Int))) none).run Tryd.prog W = .ok (.slice (some ⟨w.heap.size, 0, none⟩) (Lib.nDigits u) 24) W := fun W => by
    rw [run_sliceAt_array_h W 93 ⟨w.heap.size, 0, none⟩ (by simp [Program.arrayLen, Program.elem, Tryd.underlying93]) .i64 (Lib.nDigits u : Int) (by omega) (by rw [hal]; omega)]
    go_simp
  have hz := Lib.holds_zero0 w 93 (Lib.nDigits u) (by omega)
  have hfmt := Tryd.internal_strconv_formatBase10 w.heap.size 0 24 u (Array.replicate (Lib.nDigits u) 0) (w.alloc (.cells Lib.zeros24 93)) hz (by rw [Array.size_replicate]; exact Lib.lt_pow_nDigits u) h64 (by rw [Array.size_replicate]; omega)
  rw [Array.size_replicate] at hfmt
  have HZ := Lib.hid hz
  have HF := Lib.hid hfmt
  have HN := Lib.hid (Tryd.internal_strconv_numDigits u (by omega) h64 (w.alloc (.cells Lib.zeros24 93)) (Lib.tabIs_alloc hL.pow _))
  clear hz hfmt hal hL
  go_enter Tryd.func45, Tryd.ntmps45
  go_wp2_with fail
  refine HN.out.mono ?_
  rintro e w1 ⟨rfl, hw⟩
  subst hw
  go_wp2_with fail
  refine HF.out.mono ?_
  rintro e w1 ⟨rfl, k, v', dk, rfl, hI⟩
  obtain ⟨os, eo⟩ := Lib.fin_at w (.cells Lib.zeros24 93) dk k 0
  have hbl := Lib.below_grow w.heap.size w (Nat.le_refl _) k os
  rw [← eo] at hbl
  have hcv : (convert 72 9 (.slice (some ⟨w.heap.size, 0, none⟩) (Lib.nDigits u) 24)).run Tryd.prog ((putRow (fun (b : UInt8) => Value.int .u8 (b.toNat : Int)) (w.alloc (.cells Lib.zeros24 93)) w.heap.size 0 dk).drewN k) = .ok (.string ⟨(Lib.decDigits u).toArray⟩) ((putRow (fun (b : UInt8) => Value.int .u8 (b.toNat : Int)) (w.alloc (.cells Lib.zeros24 93)) w.heap.size 0 dk).drewN k) := by
    have hc := run_convert_bytes_back (P := Tryd.prog) ((putRow (fun (b : UInt8) => Value.int .u8 (b.toNat : Int)) (w.alloc (.cells Lib.zeros24 93)) w.heap.size 0 dk).drewN k) 72 9 5 ⟨w.heap.size, 0, none⟩ 24 (Lib.decDigits u) Tryd.underlying72 Tryd.underlying5 Tryd.underlying9 (fun j hj => by
      rw [Lib.row_is_numeral hI j hj, Lib.add_plain, World.cell?_drewN]
      exact cell?_putRow (fun (b : UInt8) => Value.int .u8 (b.toNat : Int)) _ w.heap.size 0 _ dk HZ.out (by rw [hI.size, Array.size_replicate]) j (by rw [hI.size]; rw [Lib.decDigits_length] at hj; exact hj))
    rw [Lib.decDigits_length] at hc
    exact hc
  generalize ((putRow (fun (b : UInt8) => Value.int .u8 (b.toNat : Int)) (w.alloc (.cells Lib.zeros24 93)) w.heap.size 0 dk).drewN k) = W2 at *
  have HB := Lib.hid hbl
  clear hbl eo hI HF HN HZ
  go_wp2
  go_ret
  exact ⟨rfl, HB.out⟩

set_option maxRecDepth 100000 in
set_option maxHeartbeats 1000000 in
theorem fmt_any (u : Nat) (h64 : u < 18446744073709551616) (w : World) (hL : LsL w) :
    Calls Tryd.prog 25 #[.int .u64 u, .int .i64 10] w fun e w' => e = .returned (.string (bytesOf (Lib.decDigits u))) ∧ Below w.heap.size w w' := by
  have H : Calls Tryd.prog 45 #[.int .u64 u, .int .i64 10] w fun e w' => e = .returned (.string (bytesOf (Lib.decDigits u))) ∧ Below w.heap.size w w' := by
    by_cases h : u < 100
    · exact fmt_small u h w
    · exact fmt_great u (by omega) h64 w hL
  have HH := Lib.hid H
  clear H hL
  go_enter Tryd.func25, Tryd.ntmps25
  go_wp2_with fail
  refine HH.out.mono ?_
  rintro e w1 ⟨rfl, hb⟩
  have HB := Lib.hid hb
  clear hb
  go_wp2
  go_ret
  exact ⟨rfl, HB.out⟩

theorem parse_yes (B : Nat) (hB : B = 64 ∨ B = 32) (x : ByteArray) (hx : x.size ≤ 4294967296) (u : Nat) (h : Lib.parseUintB B x.data.toList = .ok u) (w : World) :
    Calls Tryd.prog 61 #[.string x, .int .i64 10, .int .i64 (B : Int)] w fun e w2 => e = .returned (.tuple #[.int .u64 (u : Int), .nilIface]) ∧ Below w.heap.size w w2 := by
  rcases hB with rfl | rfl
  · refine (Tryd.strconv_ParseUint_10_at64_ok x (by omega) u h w).mono fun e w2 he => ⟨he.1, ?_⟩
    rcases he.2 with rfl | rfl
    · exact Below.refl _ _
    · exact Lib.bytesWorld_below _ _ _
  · refine (Tryd.strconv_ParseUint_10_at32_ok x (by omega) u h w).mono fun e w2 he => ⟨he.1, ?_⟩
    rcases he.2 with rfl | rfl
    · exact Below.refl _ _
    · exact Lib.bytesWorld_below _ _ _

theorem parse_no (B : Nat) (hB : B = 64 ∨ B = 32) (x : ByteArray) (hx : x.size ≤ 4294967296) (h : ∀ u, Lib.parseUintB B x.data.toList ≠ .ok u) (w : World) (hL : LsL w) :
    Calls Tryd.prog 61 #[.string x, .int .i64 10, .int .i64 (B : Int)] w fun e w2 => ∃ (m : Int) (t : TypeId) (p : Addr), e = .returned (.tuple #[.int .u64 m, .iface t (.pointer (some p))]) ∧ Below w.heap.size w w2 := by
  obtain ⟨ts, ps, hs⟩ := hL.syn
  obtain ⟨tr, pr, hr⟩ := hL.rng
  cases hp : Lib.parseUintB B x.data.toList
  case ok u => exact absurd hp (h u)
  case range =>
    rcases hB with rfl | rfl
    · refine (Tryd.strconv_ParseUint_10_at64_range x (by omega) hp _ w hr (.inr ⟨_, _, rfl⟩)).mono fun e w2 he => ?_
      obtain ⟨N, h1, _, _, h2⟩ := he
      exact ⟨_, _, _, h1, h2⟩
    · refine (Tryd.strconv_ParseUint_10_at32_range x (by omega) hp _ w hr (.inr ⟨_, _, rfl⟩)).mono fun e w2 he => ?_
      obtain ⟨N, h1, _, _, h2⟩ := he
      exact ⟨_, _, _, h1, h2⟩
  · rcases hB with rfl | rfl
    · refine (Any.strconv_ParseUint_10_at64_syntax Tryd.laysPu14 x (by omega) hp _ w hs (.inr ⟨_, _, rfl⟩)).mono fun e w2 he => ?_
      obtain ⟨N, h1, _, _, h2⟩ := he
      exact ⟨_, _, _, h1, h2⟩
    · refine (Any.strconv_ParseUint_10_at32_syntax Tryd.laysPu14 x (by omega) hp _ w hs (.inr ⟨_, _, rfl⟩)).mono fun e w2 he => ?_
      obtain ⟨N, h1, _, _, h2⟩ := he
      exact ⟨_, _, _, h1, h2⟩

theorem list_len (x : ByteArray) : x.data.toList.length = x.size := by rw [Array.length_toList]; rfl

theorem head_is (x : ByteArray) (h : 0 < x.size) : x.data.toList.head? = some 48 ↔ (((x[0]'h).toNat : Int) == 48) = true := by
  have e : x.data.toList.head? = some (x[0]'h) := by
    rw [List.head?_eq_getElem?, Array.getElem?_toList, Array.getElem?_eq_getElem (by exact h)]
    rfl
  rw [e]
  simp only [Option.some.injEq, beq_iff_eq]
  constructor
  · intro h; rw [h]; rfl
  · intro h
    apply UInt8.toNat_inj.1
    have : (48 : UInt8).toNat = 48 := rfl
    omega

theorem dec_len (n : Nat) (h : n < 18446744073709551616) : (Lib.decDigits n).length ≤ 20 := by rw [Lib.decDigits_length]; exact Lib.nDigits_le20 n h

theorem words_len : ∀ l : List UInt8, (words l).length ≤ l.length + 1
  | [] => by simp [words]
  | c :: r => by
    have ih := words_len r
    unfold words
    split
    · simp; omega
    · split
      · simp
      · rename_i w t h; rw [h] at ih; simp at ih ⊢; omega

theorem below_grown {w0 w w1 : World} {B b : Nat} (h : Below B w0 w) (hB : B ≤ w.heap.size) (hb : B ≤ b) (k : w.grownBy w1 (some b)) : Below B w0 w1 :=
  h.grown k hB (fun i hi => by cases hi; exact hb)

/-- A cut at one byte. -/
theorem index_one (c : UInt8) (l : List UInt8) : (Lib.index l [c] = -1 ∧ c ∉ l) ∨ ∃ a r : List UInt8, l = a ++ c :: r ∧ c ∉ a ∧ Lib.index l [c] = (a.length : Int) := by
  induction l with
  | nil => left; exact ⟨rfl, by simp⟩
  | cons d t ih =>
    by_cases hc : d = c
    · subst hc
      right
      exact ⟨[], t, rfl, by simp, by simp [Lib.index, List.isPrefixOf]⟩
    · have hp : List.isPrefixOf [c] (d :: t) = false := by
        simp [List.isPrefixOf]
        exact fun e => hc e.symm
      rcases ih with ⟨h1, h2⟩ | ⟨a, r, rfl, h2, h3⟩
      · left
        refine ⟨?_, by simp; exact ⟨fun e => hc e.symm, h2⟩⟩
        simp [Lib.index, hp, h1]
      · right
        refine ⟨d :: a, r, rfl, by simp; exact ⟨fun e => hc e.symm, h2⟩, ?_⟩
        simp only [Lib.index, hp, h3]
        have : ¬ ((a.length : Int) == -1) = true := fun e => by have := beq_iff_eq.1 e; omega
        simp only [Bool.false_eq_true, if_false, this, List.length_cons]
        omega
theorem cut_none {c : UInt8} {l : List UInt8} (h : c ∉ l) : Lib.cut l [c] = (l, [], false) := by
  rcases index_one c l with ⟨h1, h2⟩ | ⟨a, r, rfl, h2, h3⟩
  · unfold Lib.cut
    rw [h1]
    rfl
  · exact absurd (by simp) h
theorem cut_some {c : UInt8} {a r : List UInt8} (h : c ∉ a) : Lib.cut (a ++ c :: r) [c] = (a, r, true) := by
  rcases index_one c (a ++ c :: r) with ⟨h1, h2⟩ | ⟨a', r', e, h2, h3⟩
  · exact absurd (by simp) h2
  · have key : ∀ (x y x' y' : List UInt8), x ++ c :: y = x' ++ c :: y' → c ∉ x → c ∉ x' → x = x' ∧ y = y' := by
      intro x
      induction x with
      | nil =>
        intro y x' y' e h1 h2
        cases x' with
        | nil => simp at e; exact ⟨rfl, e⟩
        | cons d t => simp at e; exact absurd e.1 (by simp at h2; exact h2.1)
      | cons d t ih =>
        intro y x' y' e h1 h2
        cases x' with
        | nil => simp at e; exact absurd e.1.symm (by simp at h1; exact h1.1)
        | cons d' t' =>
          simp only [List.cons_append, List.cons.injEq] at e
          obtain ⟨p, q⟩ := ih y t' y' e.2 (fun m => h1 (List.mem_cons_of_mem _ m)) (fun m => h2 (List.mem_cons_of_mem _ m))
          exact ⟨by rw [e.1, p], q⟩
    obtain ⟨rfl, rfl⟩ := key _ _ _ _ e h h2
    unfold Lib.cut
    rw [h3]
    simp

end Go.Proofs.YtlnlfeninjjkmaaDoor
