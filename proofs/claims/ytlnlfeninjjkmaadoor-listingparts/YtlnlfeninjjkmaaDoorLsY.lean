/-
  What Print of package listing does, over this seat's translation. Conditions: the listed variables (LsL); programs of at most 1000 instructions.
-/
import Derived.Test.YtlnlfeninjjkmaaDoorLsW
import Derived.Test.YtlnlfeninjjkmaaDoorLsB
import Derived.Test.YtlnlfeninjjkmaaDoorInS
namespace Go.Proofs.YtlnlfeninjjkmaaDoor
open Go.RowKit
set_option linter.unusedVariables false
set_option linter.unusedSimpArgs false

/-- Printing has come to here: the bytes that were written, behind k instructions. -/
structure PrT (w wr : World) (R : List UInt8 × Int) (l : List Ins) (k : Nat) (acc : List UInt8) : Prop where
  bd : Lib.IsBuilder 74 5 w.heap.size w.heap.size (Lib.byteCells acc) wr
  bel : Below w.heap.size w wr
  got : printG acc (l.drop k) = R
  few : acc.length ≤ k * 67

theorem bytes_app (a : List UInt8) (s : ByteArray) : Lib.byteCells a ++ Lib.strCells s = Lib.byteCells (a ++ s.data.toList) := by rw [Lib.strCells_eq, ← Lib.byteCells_append]

set_option maxRecDepth 100000 in
set_option maxHeartbeats 4000000 in
theorem printt_any (ao : Option Addr) (cap : Nat) (l : List Ins) (hk : ∀ i ∈ l, i.k < 4294967296) (hl : l.length ≤ 1000) (w : World) (hL : LsL w) (hS : SeenI w ao cap l) :
    Calls Tryd.prog 18 #[.slice ao l.length cap] w fun r w' => r = .returned (.tuple #[.string (bytesOf (printT l).1), .int .i64 (printT l).2]) ∧ Below w.heap.size w w' := by
  by_cases h256 : 256 < l.length
  · have hd : decide ((256 : Int) < (l.length : Int)) = true := by simp; omega
    rw [show printT l = ([], 4) from by unfold printT; rw [if_pos h256]]
    clear h256 hS hL hk
    go_enter Tryd.func18, Tryd.ntmps18
    go_wp2
    go_ret2
    exact ⟨rfl, Below.refl _ _⟩
  · obtain ⟨R, hR⟩ : ∃ R, printT l = R := ⟨_, rfl⟩
    rw [hR]
    unfold printT at hR
    rw [if_neg h256] at hR
    have hd : decide ((256 : Int) < (l.length : Int)) = false := by simp; omega
    have HL := Lib.hid hL
    have HS := Lib.hid hS
    have HK := Lib.hid hk
    obtain ⟨w1, e1⟩ : ∃ w1, w1 = w.alloc (.cells #[.pointer none, .slice none 0 0] 74) := ⟨_, rfl⟩
    have hP : PrT w w1 R l 0 [] := by
      rw [e1]
      exact ⟨Lib.fresh_isBuilder _ _ w, below_box _, hR, by simp⟩
    have P0 := Lib.hid hP
    obtain ⟨B, hB⟩ : ∃ B, w.heap.size = B := ⟨_, rfl⟩
    have HB := Lib.hid hB
    clear hP hR hL hS hk hB h256
    go_enter Tryd.func18, Tryd.ntmps18
    go_wp2_with fail
    rw [← e1, HB.out]
    clear e1
    go_loopw [14] (fun x wr => ∃ (k : Nat) (acc : List UInt8), x = .int .i64 k ∧ k ≤ l.length ∧ Hid (PrT w wr R l k acc)) (fun x _ => l.length - (intOf x).toNat)
    case atStart => exact ⟨0, [], rfl, Nat.zero_le _, P0⟩
    case round =>
      obtain ⟨k, acc, rfl, hk, S⟩ := hrel
      have hBw : B ≤ wr.heap.size := by rw [← HB.out]; exact S.out.bel.size
      by_cases hlt : k < l.length
      · obtain ⟨b, off, rfl, hbl, a6⟩ := (HS.out.below S.out.bel).at k hlt
        obtain ⟨c0, c1, c2, c3, c4, c5⟩ := a6
        have hk0I : (0 : Int) ≤ (k : Int) := Int.natCast_nonneg _
        have hk1I : (k : Int) < (l.length : Int) := by omega
        have hG := S.out.got
        rw [List.drop_eq_getElem_cons hlt, printG] at hG
        have hkk := HK.out l[k] (List.getElem_mem hlt)
        have hline := fun w' (h' : LsL w') => iline_any l[k] hkk w' h'
        obtain ⟨e, he⟩ : ∃ e, l[k] = e := ⟨_, rfl⟩
        rw [he] at hG hkk hline c0 c1 c2 c3 c4 c5
        have HLi := Lib.hid hline
        have HG := Lib.hid hG
        have HKK := Lib.hid hkk
        obtain ⟨w2, e2⟩ : ∃ w2, w2 = wr.alloc (insO e) := ⟨_, rfl⟩
        obtain ⟨s2, n2, b2⟩ := new_size e2
        have B2 := Lib.hid (below_on S.out.bel b2)
        have D2 := Lib.hid (builder_below S.out.bd b2)
        obtain ⟨E, hE⟩ : ∃ E, wr.heap.size = E := ⟨_, rfl⟩
        rw [hE] at n2
        have HE := Lib.hid hE
        have N2 := Lib.hid n2
        have hfew := S.out.few
        clear hG hkk hline he b2 s2 hE n2
        obtain ⟨op, ia, ib, ic, id, ik⟩ := e
        simp only at c0 c1 c2 c3 c4 c5
        unfold insV at HLi
        simp only at HLi
        replace e2 : w2 = wr.alloc (.cells #[.int .i64 op, .int .i64 ia, .int .i64 ib, .int .i64 ic, .int .i64 id, .int .u32 (ik : Int)] 24) := e2
        go_upto_region 7 with fail
        rw [← e2, HE.out]
        clear e2 c0 c1 c2 c3 c4 c5
        obtain ⟨c0, c1, c2, c3, c4, c5⟩ := inscells N2.out
        simp only at c0 c1 c2 c3 c4 c5
        go_wp2_with fail
        refine (HLi.out _ (HL.out.below B2.out)).mono ?_
        rintro r w3 ⟨rfl, h3⟩
        have B3 := Lib.hid (below_on B2.out h3)
        have D3 := Lib.hid (builder_below D2.out h3)
        clear h3 c0 c1 c2 c3 c4 c5 HLi
        by_cases hf : formI ⟨op, ia, ib, ic, id, ik⟩ = 0
        · have HG2 := Lib.hid (show printG (acc ++ lineL ⟨op, ia, ib, ic, id, ik⟩ ++ [10]) (l.drop (k + 1)) = R by rw [← HG.out, if_neg (by simp [hf])])
          have hll := line_len (form_norm hf HKK.out)
          have hlb : lineBy ⟨op, ia, ib, ic, id, ik⟩ = bytesOf (lineL ⟨op, ia, ib, ic, id, ik⟩) := by unfold lineBy; rw [if_pos hf]
          rw [hf, hlb]
          obtain ⟨X, hX⟩ : ∃ X, lineL ⟨op, ia, ib, ic, id, ik⟩ = X := ⟨_, rfl⟩
          rw [hX] at hll HG2 ⊢
          have HLL := Lib.hid hll
          have HW := bd_write w.heap.size w.heap.size (Lib.byteCells acc) (bytesOf X) w3 D3.out (by rw [Lib.byteCells_length, bytesOf_size]; omega) B3.out.size
          rw [bytes_app, bytesOf_data, HB.out] at HW
          have HW' := Lib.hid HW
          have HFW := Lib.hid hfew
          clear hf hlb HW hX hll HG hfew
          go_wp2_with fail
          refine HW'.out.mono ?_
          rintro r w4 ⟨rfl, h4, b4⟩
          have B4 := Lib.hid (B3.out.trans (by rw [HB.out]; exact b4))
          have HY := bd_byte B B (Lib.byteCells (acc ++ X)) 10 (by omega) w4 (.inr h4) (by rw [Lib.byteCells_length, List.length_append]; have := HFW.out; have := HLL.out; omega) (by rw [← HB.out]; exact B4.out.size)
          have HY' := Lib.hid HY
          clear HY h4 b4 HW'
          go_wp2_with fail
          refine HY'.out.mono ?_
          rintro r w5 ⟨rfl, h5, b5⟩
          have HS5 : Hid (PrT w w5 R l (k + 1) (acc ++ X ++ [10])) := Lib.hid (by
            refine ⟨?_, B4.out.trans (by rw [HB.out]; exact b5), HG2.out, ?_⟩
            · rw [HB.out]
              right
              have e10 : [Value.int .u8 ((10 : Nat) : Int)] = Lib.byteCells [10] := rfl
              rw [e10, ← Lib.byteCells_append] at h5
              exact h5
            · have := HFW.out; have := HLL.out
              simp only [List.length_append, List.length_cons, List.length_nil]
              omega)
          clear h5 b5 HY'
          go_wp2_with fail
          go_roundw
          case rel => exact ⟨k + 1, _, by go_num, hlt, HS5⟩
          case measure => simp [intOf]; omega
        · have HG2 := Lib.hid (show ([], formI ⟨op, ia, ib, ic, id, ik⟩) = R by rw [← HG.out, if_pos hf])
          generalize formI ⟨op, ia, ib, ic, id, ik⟩ = f at *
          have hf' : (f != 0) = true := by simp [hf]
          clear hf HG hfew
          go_wp2
          go_ret2
          exact ⟨by rw [← HG2.out]; rfl, B3.out⟩
      · have hke : k = l.length := by omega
        have HG2 := Lib.hid (show (acc, 0) = R by have := S.out.got; rw [hke, List.drop_length, printG] at this; exact this)
        have HQ := Tryd.Builder_String_any w.heap.size w.heap.size acc wr S.out.bd S.out.bel.size
        rw [HB.out] at HQ
        have HQ' := Lib.hid HQ
        have B3 := Lib.hid S.out.bel
        clear HQ hke
        go_wp2_with fail
        refine HQ'.out.mono ?_
        rintro r w3 ⟨rfl, h3⟩
        have B4 := Lib.hid (B3.out.trans (by rw [HB.out]; exact h3))
        clear h3 HQ'
        go_wp2
        go_ret2
        exact ⟨by rw [← HG2.out]; rfl, B4.out⟩

end Go.Proofs.YtlnlfeninjjkmaaDoor
