/-
  The statements' own test of answers that the document fixes (awake), over this seat's translation. Conditions: the listed variables (LsL).
-/
import Derived.Test.YtlnlfeninjjkmaaDoorLsX
namespace Go.Proofs.YtlnlfeninjjkmaaDoor
open Go.RowKit
set_option linter.unusedVariables false
set_option linter.unusedSimpArgs false

theorem ins_ext {i : Ins} {a b c d e : Int} {k : Nat} (h0 : i.op = a) (h1 : i.a = b) (h2 : i.b = c) (h3 : i.c = d) (h4 : i.d = e) (h5 : i.k = k) : i = ⟨a, b, c, d, e, k⟩ := by
  obtain ⟨p, q, r, s, t, u⟩ := i
  simp only at h0 h1 h2 h3 h4 h5
  rw [h0, h1, h2, h3, h4, h5]

def aw11s : List UInt8 := [115, 101, 110, 100, 32, 114, 49, 32, 114, 50, 32, 116, 105, 109, 101, 100, 32, 114, 51, 32, 48]
def aw11p : List UInt8 := [115, 108, 101, 101, 112, 32, 114, 48, 32, 114, 49]
def aw11r : List UInt8 := [119, 111, 114, 107, 32, 53, 10, 104, 97, 108, 116]
theorem aw11_line : lineBy ⟨27, 1, 2, 3, 2, 0⟩ = bytesOf aw11s := by
  have h : parseI aw11s = (⟨27, 1, 2, 3, 2, 0⟩, 0) := Prod.ext (ins_ext (by decide +kernel) (by decide +kernel) (by decide +kernel) (by decide +kernel) (by decide +kernel) (by decide +kernel)) (by decide +kernel)
  obtain ⟨h1, h2, -⟩ := line_parse h
  unfold lineBy
  rw [if_pos h2, h1]
theorem aw11_parse : (parseI aw11p).1 = ⟨34, 0, 0, 1, 0, 0⟩ := ins_ext (by decide +kernel) (by decide +kernel) (by decide +kernel) (by decide +kernel) (by decide +kernel) (by decide +kernel)

set_option maxRecDepth 100000 in
set_option maxHeartbeats 2000000 in
theorem awake11_any (w : World) (hL : LsL w) :
    Calls Tryd.prog 9 #[] w fun r w' => r = .returned (.bool true) ∧ Below w.heap.size w w' := by
  have HLn : Hid (∀ w', LsL w' → Calls Tryd.prog 10 #[.agg #[.int .i64 27, .int .i64 1, .int .i64 2, .int .i64 3, .int .i64 2, .int .u32 0]] w' fun r w'' => r = .returned (.tuple #[.string ⟨#[115, 101, 110, 100, 32, 114, 49, 32, 114, 50, 32, 116, 105, 109, 101, 100, 32, 114, 51, 32, 48]⟩, .int .i64 0]) ∧ Below w'.heap.size w' w'') := Lib.hid (fun w' h' => by
    have := iline_any ⟨27, 1, 2, 3, 2, 0⟩ (by show (0 : Nat) < 4294967296; omega) w' h'
    rw [aw11_line, show formI ⟨27, 1, 2, 3, 2, 0⟩ = 0 by decide +kernel] at this
    exact this)
  have HPa : Hid (∀ w', LsL w' → Calls Tryd.prog 13 #[.string ⟨#[115, 108, 101, 101, 112, 32, 114, 48, 32, 114, 49]⟩] w' fun r w'' => r = .returned (.tuple #[.agg #[.int .i64 34, .int .i64 0, .int .i64 0, .int .i64 1, .int .i64 0, .int .u32 0], .int .i64 0]) ∧ Below w'.heap.size w' w'') := Lib.hid (fun w' h' => by
    have := iparse_any (bytesOf aw11p) (by rw [bytesOf_size]; decide) w' h'
    rw [bytesOf_data, aw11_parse, show (parseI aw11p).2 = 0 by decide +kernel] at this
    exact this)
  have HR1 : Hid (∀ w', LsL w' → Calls Tryd.prog 15 #[.string ⟨#[119, 111, 114, 107, 32, 53, 10, 104, 97, 108, 116]⟩] w' fun r w'' => ∃ v, r = .returned (.tuple #[v, .int .i64 2, .int .i64 3]) ∧ Below w'.heap.size w' w'') := Lib.hid (fun w' h' => by
    have := readt_any (bytesOf aw11r) (by rw [bytesOf_size]; decide) w' h'
    rw [bytesOf_data, show (readT aw11r).2.1 = 2 by decide +kernel, show (readT aw11r).2.2 = 3 by decide +kernel] at this
    exact this.mono fun r w'' ⟨v, h1, h2, h3⟩ => ⟨v, h1, h3⟩)
  have HR2 : Hid (∀ w', LsL w' → Calls Tryd.prog 15 #[.string ⟨#[119, 111, 114, 107, 32, 53, 10, 104, 97, 108, 116, 10]⟩] w' fun r w'' => ∃ ao cap, r = .returned (.tuple #[.slice ao 2 cap, .int .i64 0, .int .i64 0]) ∧ Below w'.heap.size w' w'') := Lib.hid (fun w' h' => by
    have := readt_any (bytesOf (aw11r ++ [10])) (by rw [bytesOf_size]; decide) w' h'
    rw [bytesOf_data, show (readT (aw11r ++ [10])).2.1 = 0 by decide +kernel, show (readT (aw11r ++ [10])).2.2 = 0 by decide +kernel] at this
    exact this.mono fun r w'' ⟨v, h1, h2, h3⟩ => by
      obtain ⟨ao, cap, rfl, -⟩ := h2.open
      rw [show (readT (aw11r ++ [10])).1.length = 2 by decide +kernel] at h1
      exact ⟨ao, cap, h1, h3⟩)
  have HL := Lib.hid hL
  clear hL
  go_enter Tryd.func9, Tryd.ntmps9
  go_wp2_with fail
  refine (HLn.out w HL.out).mono ?_
  rintro r w1 ⟨rfl, h1⟩
  have B1 := Lib.hid h1
  clear h1 HLn
  go_wp2_with fail
  refine (HPa.out w1 (HL.out.below B1.out)).mono ?_
  rintro r w2 ⟨rfl, h2⟩
  have B2 := Lib.hid (below_on B1.out h2)
  obtain ⟨w3, e3⟩ : ∃ w3, w3 = w2.alloc (insO ⟨34, 0, 0, 1, 0, 0⟩) := ⟨_, rfl⟩
  obtain ⟨s3, n3, b3⟩ := new_size e3
  obtain ⟨E, hE⟩ : ∃ E, w2.heap.size = E := ⟨_, rfl⟩
  rw [hE] at n3
  have HE := Lib.hid hE
  have N3 := Lib.hid n3
  have B3 := Lib.hid (below_on B2.out b3)
  replace e3 : w3 = w2.alloc (.cells #[.int .i64 34, .int .i64 0, .int .i64 0, .int .i64 1, .int .i64 0, .int .u32 0] 24) := e3
  clear h2 HPa hE n3 s3 b3
  go_wp2_with fail
  rw [← e3, HE.out]
  clear e3
  refine (HR1.out w3 (HL.out.below B3.out)).mono ?_
  rintro r w4 ⟨v1, rfl, h4⟩
  have B4 := Lib.hid (below_on B3.out h4)
  have N4 := Lib.hid (blk_on h4 N3.out)
  clear h4 HR1 B3 N3
  go_wp2_with fail
  refine (HR2.out w4 (HL.out.below B4.out)).mono ?_
  rintro r w5 ⟨ao, cap, rfl, h5⟩
  have B5 := Lib.hid (below_on B4.out h5)
  obtain ⟨c0, c1, c2, c3, c4, c5⟩ := inscells (blk_on h5 N4.out)
  simp only [Int.ofNat_zero, Int.cast_ofNat_Int] at c0 c1 c2 c3 c4 c5
  clear h5 HR2 B4 N4
  go_wp2
  go_ret
  exact ⟨rfl, B5.out⟩

end Go.Proofs.YtlnlfeninjjkmaaDoor
