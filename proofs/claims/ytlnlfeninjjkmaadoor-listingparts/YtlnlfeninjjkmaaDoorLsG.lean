/-
  The document's own answers of layer 11 (taffrailref11): Print, over this seat's translation. No condition but on sizes.
-/
import Derived.Test.YtlnlfeninjjkmaaDoorLsD
import Derived.Test.YtlnlfeninjjkmaaDoorInS
namespace Go.Proofs.YtlnlfeninjjkmaaDoor
open Go.RowKit
set_option linter.unusedVariables false
set_option linter.unusedSimpArgs false

structure PrG (w wr : World) (R : List UInt8 × Int) (l : List Ins) (k : Nat) (acc : List UInt8) : Prop where
  bel : Below w.heap.size w wr
  got : printG acc (l.drop k) = R
  few : acc.length ≤ k * 67

set_option maxRecDepth 100000 in
set_option maxHeartbeats 4000000 in
theorem rdprint_any (ao : Option Addr) (cap : Nat) (l : List Ins) (hk : ∀ i ∈ l, i.k < 4294967296) (hl : l.length ≤ 1000) (w : World) (hS : SeenI w ao cap l) :
    Calls Tryd.prog 19 #[.slice ao l.length cap] w fun r w' => r = .returned (.tuple #[.string (bytesOf (printT l).1), .int .i64 (printT l).2]) ∧ Below w.heap.size w w' := by
  by_cases h256 : 256 < l.length
  · have hd : decide ((256 : Int) < (l.length : Int)) = true := by simp; omega
    rw [show printT l = ([], 4) from by unfold printT; rw [if_pos h256]]
    clear h256 hS hk
    go_enter Tryd.func19, Tryd.ntmps19
    go_wp2
    go_ret2
    exact ⟨rfl, Below.refl _ _⟩
  · obtain ⟨R, hR⟩ : ∃ R, printT l = R := ⟨_, rfl⟩
    rw [hR]
    unfold printT at hR
    rw [if_neg h256] at hR
    have hd : decide ((256 : Int) < (l.length : Int)) = false := by simp; omega
    have HS := Lib.hid hS
    have HK := Lib.hid hk
    have P0 : Hid (PrG w w R l 0 []) := Lib.hid ⟨Below.refl _ _, hR, by simp⟩
    clear hR hS hk h256
    go_enter Tryd.func19, Tryd.ntmps19
    go_wp2_with fail
    go_loopw [4, 5] (fun s_ x wr => ∃ (k : Nat) (acc : List UInt8), x = .int .i64 (k : Int) ∧ s_ = .string (bytesOf acc) ∧ k ≤ l.length ∧ Hid (PrG w wr R l k acc)) (fun _ x _ => l.length - (intOf x).toNat)
    case atStart => exact ⟨0, [], rfl, rfl, Nat.zero_le _, P0⟩
    case round =>
      obtain ⟨k, acc, rfl, rfl, hk, S⟩ := hrel
      by_cases hlt : k < l.length
      · obtain ⟨b, off, rfl, hbl, a6⟩ := (HS.out.below S.out.bel).at k hlt
        obtain ⟨c0, c1, c2, c3, c4, c5⟩ := a6
        have hk0I : (0 : Int) ≤ (k : Int) := Int.natCast_nonneg _
        have hk1I : (k : Int) < (l.length : Int) := by omega
        have hG := S.out.got
        rw [List.drop_eq_getElem_cons hlt, printG] at hG
        have hkk := HK.out l[k] (List.getElem_mem hlt)
        obtain ⟨e, he⟩ : ∃ e, l[k] = e := ⟨_, rfl⟩
        rw [he] at hG hkk c0 c1 c2 c3 c4 c5
        have HFm := Lib.hid (fun w' => riform_any e w')
        have HG := Lib.hid hG
        have hfew := S.out.few
        by_cases hf : formI e = 0
        · rw [hf] at HFm
          have HG2 := Lib.hid (show printG (acc ++ lineL e ++ [10]) (l.drop (k + 1)) = R by rw [← HG.out, if_neg (by simp [hf])])
          have hll := line_len (form_norm hf hkk)
          have HLi := Lib.hid (fun w' => rdline_any e hf hkk w')
          have hs1 := Lib.hid (show bytesOf acc ++ (bytesOf (lineL e) ++ (⟨#[10]⟩ : ByteArray)) = bytesOf (acc ++ lineL e ++ [10]) by
            rw [show (⟨#[10]⟩ : ByteArray) = bytesOf [10] from rfl, bytesOf_app, bytesOf_app, List.append_assoc])
          have HFW := Lib.hid (show (acc ++ lineL e ++ [10]).length ≤ (k + 1) * 67 by
            simp only [List.length_append, List.length_cons, List.length_nil]; omega)
          obtain ⟨P, hP⟩ : ∃ P, bytesOf acc = P := ⟨_, rfl⟩
          obtain ⟨L, hL⟩ : ∃ L, bytesOf (lineL e) = L := ⟨_, rfl⟩
          have hPs : P.size ≤ 67000 := by rw [← hP, bytesOf_size]; omega
          have hLs : L.size ≤ 66 := by rw [← hL, bytesOf_size]; exact hll
          rw [hP] at hs1 ⊢
          rw [hL] at hs1 HLi
          have g1 : ¬ 9223372036854775807 < L.size + 1 := by omega
          have g2 : ¬ 9223372036854775807 < P.size + (L.size + 1) := by omega
          have g3 : ¬ 9223372036854775807 < P.size + (L ++ (⟨#[10]⟩ : ByteArray)).size := by
            rw [ByteArray.size_append, show (⟨#[10]⟩ : ByteArray).size = 1 from rfl]; exact g2
          obtain ⟨AC, hAC⟩ : ∃ AC, acc ++ lineL e ++ [10] = AC := ⟨_, rfl⟩
          rw [hAC] at hs1 HFW HG2
          obtain ⟨op, ia, ib, ic, id, ik⟩ := e
          unfold insV at HFm HLi
          simp only at HFm HLi c0 c1 c2 c3 c4 c5
          clear hf hll hP hL hPs hLs HG hG hkk hfew he hAC
          go_wp2_with fail
          refine (HFm.out _).mono ?_
          rintro r w2 ⟨rfl, h2⟩
          have B2 := Lib.hid (below_on S.out.bel h2)
          have d0 := cell_kept h2 c0
          have d1 := cell_kept h2 c1
          have d2 := cell_kept h2 c2
          have d3 := cell_kept h2 c3
          have d4 := cell_kept h2 c4
          have d5 := cell_kept h2 c5
          clear h2 c0 c1 c2 c3 c4 c5 HFm
          go_wp2_with fail
          refine (HLi.out _).mono ?_
          rintro r w3 ⟨rfl, h3⟩
          have B3 := Lib.hid (below_on B2.out h3)
          clear h3 d0 d1 d2 d3 d4 d5 HLi
          go_wp2_with fail
          go_roundw
          case rel => exact ⟨k + 1, AC, by go_num, by rw [← hs1.out], hlt, Lib.hid ⟨B3.out, HG2.out, HFW.out⟩⟩
          case measure => simp [intOf]; omega
        · have HG2 := Lib.hid (show ([], formI e) = R by rw [← HG.out, if_pos hf])
          obtain ⟨f, hf1⟩ : ∃ f, formI e = f := ⟨_, rfl⟩
          rw [hf1] at HFm HG2 hf
          have hf' : (f != 0) = true := by simp [hf]
          obtain ⟨op, ia, ib, ic, id, ik⟩ := e
          unfold insV at HFm
          simp only at HFm c0 c1 c2 c3 c4 c5
          clear hf HG hG hkk hfew he hf1
          go_wp2_with fail
          refine (HFm.out _).mono ?_
          rintro r w2 ⟨rfl, h2⟩
          have B2 := Lib.hid (below_on S.out.bel h2)
          clear h2 c0 c1 c2 c3 c4 c5 HFm
          go_wp2
          go_ret2
          exact ⟨by rw [← HG2.out]; rfl, B2.out⟩
      · have hke : k = l.length := by omega
        have HG2 := Lib.hid (show (acc, 0) = R by have := S.out.got; rw [hke, List.drop_length, printG] at this; exact this)
        have B3 := Lib.hid S.out.bel
        clear hke
        go_wp2_with fail
        go_ret2
        exact ⟨by rw [← HG2.out]; rfl, B3.out⟩

end Go.Proofs.YtlnlfeninjjkmaaDoor
