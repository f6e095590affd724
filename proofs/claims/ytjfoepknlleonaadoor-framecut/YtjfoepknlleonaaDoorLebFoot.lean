/-
  Put of package leb with its footprint, over this seat's translation.
-/
import Derived.Test.YtjfoepknlleonaaDoorCurFoot
import Derived.Test.YtjfoepknlleonaaDoorLebAwake
namespace Go.Proofs.YtjfoepknlleonaaDoor
open Go.RowKit
set_option linter.unusedVariables false

set_option maxRecDepth 100000 in
set_option maxHeartbeats 1000000 in
theorem lput_foot (w : World) (b : Nat) (v : Value) (l : List UInt8) (h : WrF w b v l) (n : Nat) (hn : n < 18446744073709551616) (hsz : l.length + 10 ≤ 140737488355328) :
    Calls Tryd.prog 62 #[.pointer (some ⟨b, 0, none⟩), .int .u64 n] w fun e w' => e = .returned (.tuple #[]) ∧ Wrote w w' b v (l ++ lebL n) := by
  have h10 := lebL_len10 n hn
  have Hn := Lib.hid hn
  have Hsz := Lib.hid hsz
  clear hn hsz
  go_enter Tryd.func62, Tryd.ntmps62
  go_wp2_with fail
  go_loopw [1] (fun x wr => ∃ (m : Nat) (l' : List UInt8), x = .int .u64 m ∧ m < 18446744073709551616 ∧ Wrote w wr b v l' ∧ l' ++ lebL m = l ++ lebL n) (fun x _ => (intOf x).toNat)
  case atStart => exact ⟨n, l, rfl, Hn.out, Wrote.refl h, rfl⟩
  case round =>
    obtain ⟨m, l', rfl, hm, hW, he⟩ := hrel
    obtain ⟨v1, h1, o1, f1⟩ := hW
    have hlen : l'.length + (lebL m).length ≤ l.length + 10 := by
      have := congrArg List.length he
      simp only [List.length_append] at this
      omega
    have hp := lebL_pos m
    have hroom : l'.length + 1 ≤ 140737488355328 := by have := Hsz.out; omega
    have Hroom := Lib.hid hroom
    have Hm := Lib.hid hm
    have Ho := Lib.hid o1
    have Hf := Lib.hid f1
    clear hroom hm o1 f1 h
    by_cases hlt : m < 128
    · rw [lebL_lt hlt] at he
      have Hh := Lib.hid he
      clear he
      go_wp2_with fail
      refine (put_one_foot _ b v1 l' h1 (UInt8.ofNat m) _ (by simp; omega) _ Hroom.out).mono ?_
      rintro e w1 ⟨rfl, h2⟩
      go_wp2
      go_end0
      exact ⟨rfl, by rw [← Hh.out]; exact h2.trans Ho.out Hf.out⟩
    · have hL := lebL_ge (n := m) (by omega)
      rw [hL] at he
      have Hh := Lib.hid he
      clear he hL
      go_wp2_with fail
      refine (put_one_foot _ b v1 l' h1 (UInt8.ofNat (m % 128 + 128)) _ (by simp; omega) _ Hroom.out).mono ?_
      rintro e w1 ⟨rfl, h2⟩
      go_wp2
      go_roundw
      case rel => exact ⟨m / 128, l' ++ [UInt8.ofNat (m % 128 + 128)], by go_num, by have := Hm.out; omega, h2.trans Ho.out Hf.out, by rw [← Hh.out]; simp⟩
      case measure => simp [intOf]; omega

end Go.Proofs.YtjfoepknlleonaaDoor
