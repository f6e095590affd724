/-
  What the reader's numbers and fields in package event do, over this seat's translation. Conditions: a reader in a block of its own (RdS), the listed variables (EvL).
-/
import Derived.Test.YtonmkmbllaahgaaDoorEv5
namespace Go.Proofs.YtonmkmbllaahgaaDoor
open Go.RowKit
set_option linter.unusedVariables false
set_option linter.unusedSimpArgs false

theorem parse_yes (B : Nat) (hB : B = 64 ∨ B = 32) (x : ByteArray) (hx : x.size ≤ 4294967296) (u : Nat) (h : Lib.parseUintB B x.data.toList = .ok u) (w : World) :
    Calls Tryd.prog 45 #[.string x, .int .i64 10, .int .i64 (B : Int)] w fun e w2 => e = .returned (.tuple #[.int .u64 (u : Int), .nilIface]) ∧ Below w.heap.size w w2 := by
  rcases hB with rfl | rfl
  · refine (Tryd.strconv_ParseUint_10_at64_ok x (by omega) u h w).mono fun e w2 he => ⟨he.1, ?_⟩
    rcases he.2 with rfl | rfl
    · exact Below.refl _ _
    · exact Lib.bytesWorld_below _ _ _
  · refine (Tryd.strconv_ParseUint_10_at32_ok x (by omega) u h w).mono fun e w2 he => ⟨he.1, ?_⟩
    rcases he.2 with rfl | rfl
    · exact Below.refl _ _
    · exact Lib.bytesWorld_below _ _ _

theorem parse_no (B : Nat) (hB : B = 64 ∨ B = 32) (x : ByteArray) (hx : x.size ≤ 4294967296) (h : ∀ u, Lib.parseUintB B x.data.toList ≠ .ok u) (w : World) (hL : EvL w) :
    Calls Tryd.prog 45 #[.string x, .int .i64 10, .int .i64 (B : Int)] w fun e w2 => ∃ (m : Int) (t : TypeId) (p : Addr), e = .returned (.tuple #[.int .u64 m, .iface t (.pointer (some p))]) ∧ Below w.heap.size w w2 := by
  obtain ⟨ts, ps, hs⟩ := hL.syn
  obtain ⟨tr, pr, hr⟩ := hL.rng
  cases hp : Lib.parseUintB B x.data.toList
  case ok u => exact absurd hp (h u)
  case range =>
    rcases hB with rfl | rfl
    · refine (Tryd.strconv_ParseUint_10_at64_range x (by omega) hp _ w hr (.inr ⟨_, _, rfl⟩)).mono fun e w2 he => ?_
      obtain ⟨N, h1, _, _, h2⟩ := he
      exact ⟨_, _, _, h1, h2⟩
    · refine (Tryd.strconv_ParseUint_10_at32_range x (by omega) hp _ w hr (.inr ⟨_, _, rfl⟩)).mono fun e w2 he => ?_
      obtain ⟨N, h1, _, _, h2⟩ := he
      exact ⟨_, _, _, h1, h2⟩
  · rcases hB with rfl | rfl
    · refine (Any.strconv_ParseUint_10_at64_syntax Tryd.laysPu14 x (by omega) hp _ w hs (.inr ⟨_, _, rfl⟩)).mono fun e w2 he => ?_
      obtain ⟨N, h1, _, _, h2⟩ := he
      exact ⟨_, _, _, h1, h2⟩
    · refine (Any.strconv_ParseUint_10_at32_syntax Tryd.laysPu14 x (by omega) hp _ w hs (.inr ⟨_, _, rfl⟩)).mono fun e w2 he => ?_
      obtain ⟨N, h1, _, _, h2⟩ := he
      exact ⟨_, _, _, h1, h2⟩

theorem list_len (x : ByteArray) : x.data.toList.length = x.size := by rw [Array.length_toList]; rfl

theorem head_is (x : ByteArray) (h : 0 < x.size) : x.data.toList.head? = some 48 ↔ (((x[0]'h).toNat : Int) == 48) = true := by
  have e : x.data.toList.head? = some (x[0]'h) := by
    rw [List.head?_eq_getElem?, Array.getElem?_toList, Array.getElem?_eq_getElem (by exact h)]
    rfl
  rw [e]
  simp only [Option.some.injEq, beq_iff_eq]
  constructor
  · intro h; rw [h]; rfl
  · intro h
    apply UInt8.toNat_inj.1
    have : (48 : UInt8).toNat = 48 := rfl
    omega

theorem number_any (B : Nat) (hB : B = 64 ∨ B = 32) (w : World) (b : Nat) (ws : List ByteArray) (ok : Bool) (h : RdS w b ws ok) (hf : wordsFit ws) (hL : EvL w) (hb : evTop < b) :
    Calls Tryd.prog 37 #[.pointer (some ⟨b, 0, none⟩), .int .i64 (B : Int)] w fun e w' => e = .returned (.int .u64 ((numR B ws ok).1 : Int)) ∧ RdS w' b (numR B ws ok).2.1 (numR B ws ok).2.2 ∧ w.grownBy w' (some b) := by
  obtain ⟨hx, _⟩ := next_fit (ok := ok) hf
  have HN := next_any w b ws ok h
  unfold numR
  generalize hr : nextR ws ok = r at *
  obtain ⟨x, ws', ok'⟩ := r
  simp only at *
  have hlen := list_len x
  by_cases hp : ∃ u, Lib.parseUintB B x.data.toList = .ok u
  · obtain ⟨u, hp⟩ := hp
    have hne : x.data.toList ≠ [] := ((parse_iff B (by omega) _ _).1 hp).1
    have h0 : 0 < x.size := by
      rcases Nat.eq_zero_or_pos x.size with e | e
      · rw [e] at hlen; exact absurd (List.length_eq_zero_iff.1 hlen) hne
      · exact e
    by_cases hz : x.data.toList.head? = some 48 ∧ 1 < x.data.toList.length
    · rw [show numOk B x.data.toList = none by unfold numOk; rw [if_pos hz]]
      exact number_nought B w b x ws' ok' (by omega) (fun h' => (head_is x h').1 hz.1) HN (fun w1 hg => (parse_yes B hB x hx u hp w1).mono fun e w2 he => ⟨_, he⟩)
    · rw [show numOk B x.data.toList = some u by unfold numOk; rw [if_neg hz, hp]]
      refine number_ok B w b u x ws' ok' h0 ?_ HN (fun w1 hg => parse_yes B hB x hx u hp w1)
      by_cases hh : x.data.toList.head? = some 48
      · right
        have : ¬ 1 < x.data.toList.length := fun e => hz ⟨hh, e⟩
        omega
      · left
        intro h'
        have := mt (head_is x h').2 hh
        simpa using this
  · have hp' : ∀ u, Lib.parseUintB B x.data.toList ≠ .ok u := fun u e => hp ⟨u, e⟩
    rw [show numOk B x.data.toList = none by
      unfold numOk
      split
      · rfl
      · split
        · rename_i u hu; exact absurd hu (hp' u)
        · rfl]
    exact number_err B w b x ws' ok' HN (fun w1 hg => parse_no B hB x hx hp' w1 (hL.kept hg hb))

/-- The next field, if the kind has it. -/
def fieldR (h : Bool) (ws : List ByteArray) (ok : Bool) : Nat × List ByteArray × Bool := if h = true then numR 32 ws ok else (0, ws, ok)

theorem numR_lt (B : Nat) (hB : B ≤ 64) (ws : List ByteArray) (ok : Bool) : (numR B ws ok).1 < 2 ^ B := by
  unfold numR
  split
  · rename_i n hn; exact num_lt hB hn
  · exact Nat.pos_of_ne_zero (by simp)

set_option maxRecDepth 100000 in
set_option maxHeartbeats 1000000 in
theorem fieldr_any (h : Bool) (w : World) (b : Nat) (ws : List ByteArray) (ok : Bool) (hr : RdS w b ws ok) (hf : wordsFit ws) (hL : EvL w) (hb : evTop < b) :
    Calls Tryd.prog 39 #[.pointer (some ⟨b, 0, none⟩), .bool h] w fun e w' => e = .returned (.int .u32 ((fieldR h ws ok).1 : Int)) ∧ RdS w' b (fieldR h ws ok).2.1 (fieldR h ws ok).2.2 ∧ w.grownBy w' (some b) := by
  cases h with
  | false =>
    have HR := Lib.hid hr
    clear hr hf hL
    go_enter Tryd.func39, Tryd.ntmps39
    go_wp2
    go_ret
    exact ⟨rfl, HR.out, grown_below _ (Below.refl _ _)⟩
  | true =>
    have H := Lib.hid (number_any 32 (.inr rfl) w b ws ok hr hf hL hb)
    have hlt := numR_lt 32 (by omega) ws ok
    rw [show fieldR true ws ok = numR 32 ws ok from rfl]
    generalize numR 32 ws ok = r at *
    obtain ⟨n, ws', ok'⟩ := r
    simp only at *
    have hn : (n : Int) < 4294967296 := by omega
    have h0 : (0 : Int) ≤ n := Int.natCast_nonneg _
    clear hr hf hL hlt
    go_enter Tryd.func39, Tryd.ntmps39
    go_wp2_with fail
    refine H.out.mono ?_
    rintro e w1 ⟨rfl, h1, h2⟩
    have R1 := Lib.hid h1
    have G1 := Lib.hid h2
    clear h1 h2 H
    go_wp2
    go_ret
    refine ⟨?_, R1.out, G1.out⟩
    rfl

end Go.Proofs.YtonmkmbllaahgaaDoor
