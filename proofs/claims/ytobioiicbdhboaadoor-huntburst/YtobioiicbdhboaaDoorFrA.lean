/-
  Frames: the mathematics, and package frame (Fr0 to Fr4 in one text).
-/
import Derived.Test.YtobioiicbdhboaaDoorCoilM
import Derived.Test.YtobioiicbdhboaaDoorSept0
import Derived.Test.YtobioiicbdhboaaDoorCrc0
import Derived.Test.YtobioiicbdhboaaDoorCur2
import Derived.Test.YtobioiicbdhboaaDoorSept
import Derived.Test.YtobioiicbdhboaaDoorCrc4
import Derived.Test.YtobioiicbdhboaaDoorEvS
import Derived.Test.YtobioiicbdhboaaDoorCoil7
import Derived.Test.YtobioiicbdhboaaDoorFoot
import Derived.Laws.ResultCell
import Derived.BigRegion
import Derived.Test.YtobioiicbdhboaaDoorCoil10
import Derived.Test.YtobioiicbdhboaaDoorRel2
namespace Go.Proofs.YtobioiicbdhboaaDoor
open Go
set_option linter.unusedVariables false

/-! ### Printing -/

def onesL : List UInt8 := [255, 255, 255, 255, 255, 255, 255, 255, 255, 255, 255, 255, 255, 255, 255, 255]
def tafL : List UInt8 := [84, 65, 70, 82, 73, 76]
def markL : List UInt8 := [255, 255, 255, 255, 255, 255, 255, 255, 255, 255, 255, 255, 255, 255, 255, 255, 84, 65, 70, 82, 73, 76]
/-- The header's bytes that its sum is for. -/
def headL (q cyc cnt z : Nat) : List UInt8 := tafL ++ (septL q 5 ++ (septL cyc 10 ++ (septL cnt 10 ++ septL z 2)))
/-- Bytes with their sum behind. -/
def sumd (l : List UInt8) : List UInt8 := l ++ septL (sumL l) 5
def frameB (q cyc cnt : Nat) (p : List UInt8) : List UInt8 := onesL ++ (sumd (headL q cyc cnt p.length) ++ sumd p)
/-- A frame's bytes, and the error. -/
def frameP (q : Nat) (l : List Ev) : List UInt8 × Int :=
  if l.length = 0 then ([], 8) else if (coilL l).2 = 0 then (if (coilL l).1.length ≤ 120 then (frameB q (l.getD 0 ev0).cyc (l.getD 0 ev0).cnt (coilL l).1, 0) else ([], 4)) else ([], (coilL l).2)

theorem head_len (q cyc cnt z : Nat) : (headL q cyc cnt z).length = 33 := by simp [headL, tafL, septL_len]
theorem sumd_len (l : List UInt8) : (sumd l).length = l.length + 5 := by simp [sumd, septL_len]
theorem frameB_len (q cyc cnt : Nat) (p : List UInt8) : (frameB q cyc cnt p).length = 59 + p.length := by
  simp only [frameB, List.length_append, sumd_len, head_len, onesL, List.length_cons, List.length_nil]; omega

/-! ### Reading -/

/-- A number of 32 bits by five bytes; the error. -/
def wordG (L : List UInt8) : Nat × Nat :=
  if (septGet L 5).2.1 = 0 then (if (septGet L 5).1 ≤ 4294967295 then ((septGet L 5).1, 0) else (0, 5)) else (0, (septGet L 5).2.1)
def sumG (L : List UInt8) (want : Nat) : Nat := if (wordG L).2 = 0 then (if (wordG L).1 = want then 0 else 6) else (wordG L).2
structure Hd where
  seq : Nat
  cyc : Nat
  cnt : Nat
  size : Nat
def hd0 : Hd := ⟨0, 0, 0, 0⟩
def numsG (L : List UInt8) : Hd × Nat :=
  if (wordG L).2 = 0 then
    if (septGet (L.drop 5) 10).2.1 = 0 then
      if (septGet (L.drop 15) 10).2.1 = 0 then
        if (septGet (L.drop 25) 2).2.1 = 0 then
          if 1 ≤ (septGet (L.drop 25) 2).1 ∧ (septGet (L.drop 25) 2).1 ≤ 120 then (⟨(wordG L).1, (septGet (L.drop 5) 10).1, (septGet (L.drop 15) 10).1, (septGet (L.drop 25) 2).1⟩, 0) else (hd0, 4)
        else (hd0, (septGet (L.drop 25) 2).2.1)
      else (hd0, (septGet (L.drop 15) 10).2.1)
    else (hd0, (septGet (L.drop 5) 10).2.1)
  else (hd0, (wordG L).2)
def markG (L : List UInt8) : Nat := if agr L markL < 22 then (if agr L markL < L.length then 3 else 2) else 0
def headG (L : List UInt8) : Hd × Nat :=
  if markG L = 0 then
    if (numsG (L.drop 22)).2 = 0 then
      if sumG (L.drop 49) (sumL ((L.drop 16).take 33)) = 0 then ((numsG (L.drop 22)).1, 0) else (hd0, sumG (L.drop 49) (sumL ((L.drop 16).take 33)))
    else (hd0, (numsG (L.drop 22)).2)
  else (hd0, markG L)
def payG (L : List UInt8) (z : Nat) : List UInt8 × Nat :=
  if z ≤ L.length then (if sumG (L.drop z) (sumL (L.take z)) = 0 then (L.take z, 0) else ([], sumG (L.drop z) (sumL (L.take z)))) else ([], 2)
def evsG (cyc cnt : Nat) (p : List UInt8) : List Ev × Int :=
  if (readL cyc cnt p).2 = 0 then (if ((readL cyc cnt p).1.getD 0 ev0).cyc = cyc ∧ ((readL cyc cnt p).1.getD 0 ev0).cnt = cnt then ((readL cyc cnt p).1, 0) else ([], 3)) else ([], (readL cyc cnt p).2)
/-- The frame that bytes begin with: its number and events, how many bytes, the error. -/
def frameR (L : List UInt8) : Nat × List Ev × Nat × Int :=
  if (headG L).2 = 0 then
    if (payG (L.drop 54) (headG L).1.size).2 = 0 then
      if (evsG (headG L).1.cyc (headG L).1.cnt (payG (L.drop 54) (headG L).1.size).1).2 = 0 then
        ((headG L).1.seq, (evsG (headG L).1.cyc (headG L).1.cnt (payG (L.drop 54) (headG L).1.size).1).1, 59 + (headG L).1.size, 0)
      else (0, [], 0, (evsG (headG L).1.cyc (headG L).1.cnt (payG (L.drop 54) (headG L).1.size).1).2)
    else (0, [], 0, ((payG (L.drop 54) (headG L).1.size).2 : Nat))
  else (0, [], 0, ((headG L).2 : Nat))

theorem septGet_step {L : List UInt8} {c : Nat} (h : (septGet L c).2.1 = 0) : (septGet L c).2.2 = c ∧ c ≤ L.length := by
  have := septScan_ok c L 0 0 (by simpa [septGet, septAt, val] using h)
  have e : septGet L c = septScan 0 0 c L := by simp [septGet, septAt, val]
  rw [e]
  exact ⟨by rw [this.2.2.2]; omega, this.1⟩
theorem septGet_code (L : List UInt8) (c : Nat) : (septGet L c).2.1 ≤ 3 := septScan_code _ _ _ _
theorem wordG_lt (L : List UInt8) : (wordG L).1 < 4294967296 := by
  unfold wordG; split
  · split
    · show (septGet L 5).1 < _; omega
    · show 0 < _; omega
  · show 0 < _; omega
theorem word_step {L : List UInt8} (h : (wordG L).2 = 0) : (septGet L 5).2.1 = 0 ∧ (septGet L 5).1 ≤ 4294967295 ∧ (wordG L).1 = (septGet L 5).1 ∧ 5 ≤ L.length := by
  unfold wordG at h ⊢
  by_cases h0 : (septGet L 5).2.1 = 0
  · rw [if_pos h0] at h ⊢
    by_cases h1 : (septGet L 5).1 ≤ 4294967295
    · rw [if_pos h1]; exact ⟨h0, h1, rfl, (septGet_step h0).2⟩
    · rw [if_neg h1] at h; simp at h
  · rw [if_neg h0] at h; exact absurd h h0
/-- What the numbers are, where there is no error. -/
theorem nums_step {L : List UInt8} (h : (numsG L).2 = 0) : (wordG L).2 = 0 ∧ (septGet (L.drop 5) 10).2.1 = 0 ∧ (septGet (L.drop 15) 10).2.1 = 0 ∧ (septGet (L.drop 25) 2).2.1 = 0 ∧
    (1 ≤ (septGet (L.drop 25) 2).1 ∧ (septGet (L.drop 25) 2).1 ≤ 120) ∧ (numsG L).1 = ⟨(wordG L).1, (septGet (L.drop 5) 10).1, (septGet (L.drop 15) 10).1, (septGet (L.drop 25) 2).1⟩ ∧ 27 ≤ L.length := by
  unfold numsG at h ⊢
  by_cases h1 : (wordG L).2 = 0
  · rw [if_pos h1] at h ⊢
    by_cases h2 : (septGet (L.drop 5) 10).2.1 = 0
    · rw [if_pos h2] at h ⊢
      by_cases h3 : (septGet (L.drop 15) 10).2.1 = 0
      · rw [if_pos h3] at h ⊢
        by_cases h4 : (septGet (L.drop 25) 2).2.1 = 0
        · rw [if_pos h4] at h ⊢
          by_cases h5 : 1 ≤ (septGet (L.drop 25) 2).1 ∧ (septGet (L.drop 25) 2).1 ≤ 120
          · rw [if_pos h5]
            have := (septGet_step h4).2
            rw [List.length_drop] at this
            exact ⟨h1, h2, h3, h4, h5, rfl, by omega⟩
          · rw [if_neg h5] at h; simp at h
        · rw [if_neg h4] at h; exact absurd h h4
      · rw [if_neg h3] at h; exact absurd h h3
    · rw [if_neg h2] at h; exact absurd h h2
  · rw [if_neg h1] at h; exact absurd h h1
theorem mark_step {L : List UInt8} (h : markG L = 0) : agr L markL = 22 ∧ 22 ≤ L.length := by
  unfold markG at h
  have h1 := agr_le L markL
  have h2 : markL.length = 22 := rfl
  by_cases h3 : agr L markL < 22
  · rw [if_pos h3] at h; split at h <;> simp at h
  · omega
theorem head_step {L : List UInt8} (h : (headG L).2 = 0) : markG L = 0 ∧ (numsG (L.drop 22)).2 = 0 ∧ sumG (L.drop 49) (sumL ((L.drop 16).take 33)) = 0 ∧ (headG L).1 = (numsG (L.drop 22)).1 := by
  unfold headG at h ⊢
  by_cases h1 : markG L = 0
  · rw [if_pos h1] at h ⊢
    by_cases h2 : (numsG (L.drop 22)).2 = 0
    · rw [if_pos h2] at h ⊢
      by_cases h3 : sumG (L.drop 49) (sumL ((L.drop 16).take 33)) = 0
      · rw [if_pos h3]; exact ⟨h1, h2, h3, rfl⟩
      · rw [if_neg h3] at h; exact absurd h h3
    · rw [if_neg h2] at h; exact absurd h h2
  · rw [if_neg h1] at h; exact absurd h h1
theorem sum_step {L : List UInt8} {want : Nat} (h : sumG L want = 0) : (wordG L).2 = 0 ∧ (wordG L).1 = want ∧ 5 ≤ L.length := by
  unfold sumG at h
  by_cases h1 : (wordG L).2 = 0
  · rw [if_pos h1] at h
    by_cases h2 : (wordG L).1 = want
    · exact ⟨h1, h2, (word_step h1).2.2.2⟩
    · rw [if_neg h2] at h; simp at h
  · rw [if_neg h1] at h; exact absurd h h1
theorem pay_step {L : List UInt8} {z : Nat} (h : (payG L z).2 = 0) : z ≤ L.length ∧ sumG (L.drop z) (sumL (L.take z)) = 0 ∧ (payG L z).1 = L.take z := by
  unfold payG at h ⊢
  by_cases h1 : z ≤ L.length
  · rw [if_pos h1] at h ⊢
    by_cases h2 : sumG (L.drop z) (sumL (L.take z)) = 0
    · rw [if_pos h2]; exact ⟨h1, h2, rfl⟩
    · rw [if_neg h2] at h; exact absurd h h2
  · rw [if_neg h1] at h; simp at h
/-- Bytes that aren't none, and are read, are some events. -/
theorem read_some {cyc cnt : Nat} {p : List UInt8} (hp : p ≠ []) (h : (readL cyc cnt p).2 = 0) : 0 < (readL cyc cnt p).1.length := by
  cases hl : (readL cyc cnt p).1 with
  | cons => simp
  | nil =>
    have h1 := read_one p.length ⟨0, cyc, cnt, 0, 0, 0⟩ p 0 [] (by omega) (by omega) (show readL cyc cnt p = ([], 0) by rw [← h, ← hl])
    simp only [coilGo, List.drop_zero, Prod.mk.injEq, and_true] at h1
    exact absurd h1.symm hp

/-! ### Step by step -/

theorem frameR_head {L : List UInt8} (h : (headG L).2 ≠ 0) : frameR L = (0, [], 0, (((headG L).2 : Nat) : Int)) := by unfold frameR; rw [if_neg h]
theorem headG_mark {L : List UInt8} (h : markG L ≠ 0) : headG L = (hd0, markG L) := by unfold headG; rw [if_neg h]
theorem headG_nums {L : List UInt8} (h : markG L = 0) (h2 : (numsG (L.drop 22)).2 ≠ 0) : headG L = (hd0, (numsG (L.drop 22)).2) := by unfold headG; rw [if_pos h, if_neg h2]
theorem headG_sum {L : List UInt8} (h : markG L = 0) (h2 : (numsG (L.drop 22)).2 = 0) (h3 : sumG (L.drop 49) (sumL ((L.drop 16).take 33)) ≠ 0) : headG L = (hd0, sumG (L.drop 49) (sumL ((L.drop 16).take 33))) := by
  unfold headG; rw [if_pos h, if_pos h2, if_neg h3]
theorem headG_ok {L : List UInt8} (h : markG L = 0) (h2 : (numsG (L.drop 22)).2 = 0) (h3 : sumG (L.drop 49) (sumL ((L.drop 16).take 33)) = 0) : headG L = ((numsG (L.drop 22)).1, 0) := by
  unfold headG; rw [if_pos h, if_pos h2, if_pos h3]
theorem fr_mark {L : List UInt8} (h : markG L ≠ 0) : frameR L = (0, [], 0, ((markG L : Nat) : Int)) := by
  have e := headG_mark h
  rw [frameR_head (by rw [e]; exact h), e]
theorem fr_nums {L : List UInt8} {c : Nat} {H : Hd} (h : markG L = 0) (h2 : numsG (L.drop 22) = (H, c)) (hc : c ≠ 0) : frameR L = (0, [], 0, ((c : Nat) : Int)) := by
  have e := headG_nums h (by rw [h2]; exact hc)
  rw [frameR_head (by rw [e, h2]; exact hc), e, h2]
theorem fr_sum {L : List UInt8} {H : Hd} {c : Nat} (h : markG L = 0) (h2 : numsG (L.drop 22) = (H, 0)) (h3 : sumG (L.drop 49) (sumL ((L.drop 16).take 33)) = c) (hc : c ≠ 0) : frameR L = (0, [], 0, ((c : Nat) : Int)) := by
  have e := headG_sum h (by rw [h2]) (by rw [h3]; exact hc)
  rw [frameR_head (by rw [e, h3]; exact hc), e, h3]
theorem fr_pay {L : List UInt8} {H : Hd} {p : List UInt8} {c : Nat} (h : markG L = 0) (h2 : numsG (L.drop 22) = (H, 0)) (h3 : sumG (L.drop 49) (sumL ((L.drop 16).take 33)) = 0) (h4 : payG (L.drop 54) H.size = (p, c)) (hc : c ≠ 0) : frameR L = (0, [], 0, ((c : Nat) : Int)) := by
  have e := headG_ok h (by rw [h2]) h3
  rw [h2] at e
  unfold frameR
  rw [e, if_pos rfl]
  simp only [h4, if_neg hc]
theorem fr_evs {L : List UInt8} {H : Hd} {p : List UInt8} {l : List Ev} {c : Int} (h : markG L = 0) (h2 : numsG (L.drop 22) = (H, 0)) (h3 : sumG (L.drop 49) (sumL ((L.drop 16).take 33)) = 0) (h4 : payG (L.drop 54) H.size = (p, 0)) (h5 : evsG H.cyc H.cnt p = (l, c)) (hc : c ≠ 0) : frameR L = (0, [], 0, c) := by
  have e := headG_ok h (by rw [h2]) h3
  rw [h2] at e
  unfold frameR
  rw [e, if_pos rfl]
  simp only [h4, if_true, h5, if_neg hc]
theorem fr_ok {L : List UInt8} {H : Hd} {p : List UInt8} {l : List Ev} (h : markG L = 0) (h2 : numsG (L.drop 22) = (H, 0)) (h3 : sumG (L.drop 49) (sumL ((L.drop 16).take 33)) = 0) (h4 : payG (L.drop 54) H.size = (p, 0)) (h5 : evsG H.cyc H.cnt p = (l, 0)) : frameR L = (H.seq, l, 59 + H.size, 0) := by
  have e := headG_ok h (by rw [h2]) h3
  rw [h2] at e
  unfold frameR
  rw [e, if_pos rfl]
  simp only [h4, if_true, h5]

end Go.Proofs.YtobioiicbdhboaaDoor

namespace Go.Proofs.YtobioiicbdhboaaDoor
open Go.RowKit
set_option linter.unusedVariables false
set_option linter.unusedSimpArgs false

/-! ### Headers in blocks -/

def hdC (h : Hd) : Array Value := #[.int .u32 (h.seq : Int), .int .u64 (h.cyc : Int), .int .u64 (h.cnt : Int), .int .i64 (h.size : Int)]
def hdV (h : Hd) : Value := .agg #[.int .u32 (h.seq : Int), .int .u64 (h.cyc : Int), .int .u64 (h.cnt : Int), .int .i64 (h.size : Int)]
def hdO (h : Hd) : Obj := .cells #[.int .u32 (h.seq : Int), .int .u64 (h.cyc : Int), .int .u64 (h.cnt : Int), .int .i64 (h.size : Int)] 96 (0, 0)
theorem hdcells {w : World} {E : Nat} {h : Hd} (hh : w.heap[E]? = some (hdO h)) :
    w.cell? ⟨E, 0, none⟩ = some (.int .u32 (h.seq : Int)) ∧ w.cell? ⟨E, 1, none⟩ = some (.int .u64 (h.cyc : Int)) ∧ w.cell? ⟨E, 2, none⟩ = some (.int .u64 (h.cnt : Int)) ∧ w.cell? ⟨E, 3, none⟩ = some (.int .i64 (h.size : Int)) := by
  refine ⟨?_, ?_, ?_, ?_⟩ <;> simp [World.cell?, hh, hdO]
theorem hdfree {w : World} {E : Nat} {h : Hd} (hh : w.heap[E]? = some (hdO h)) :
    w.frozen? ⟨E, 0, none⟩ = false ∧ w.frozen? ⟨E, 1, none⟩ = false ∧ w.frozen? ⟨E, 2, none⟩ = false ∧ w.frozen? ⟨E, 3, none⟩ = false := by
  refine ⟨?_, ?_, ?_, ?_⟩ <;> simp [World.frozen?, hh, hdO]

theorem mk_size (l : List UInt8) : (⟨l.toArray⟩ : ByteArray).size = l.length := by simp [ByteArray.size]
def markB : ByteArray := ⟨markL.toArray⟩
def onesB : ByteArray := ⟨onesL.toArray⟩
def tafB : ByteArray := ⟨tafL.toArray⟩

theorem fmarker_any (w : World) :
    Calls Tryd.prog 65 #[] w fun e w' => e = .returned (.string markB) ∧ w = w' := by
  go_enter Tryd.func65, Tryd.ntmps65
  go_wp2
  go_ret
  exact ⟨rfl, rfl⟩


end Go.Proofs.YtobioiicbdhboaaDoor

namespace Go.Proofs.YtobioiicbdhboaaDoor
open Go.RowKit
set_option linter.unusedVariables false
set_option linter.unusedSimpArgs false

theorem only_blk {w w' : World} {b D : Nat} (h : Only w w' (fun j => j = b)) (hD : D < w.heap.size) (hne : D ≠ b) : w'.heap[D]? = w.heap[D]? := h.block D hD hne
theorem only_obj {w w' : World} {b D : Nat} {o : Obj} (h : Only w w' (fun j => j = b)) (hD : w.heap[D]? = some o) (hne : D ≠ b) : w'.heap[D]? = some o := (h.block D (blk_lt hD) hne).trans hD
theorem only_row {w w' : World} {b : Nat} (h : w.grownBy w' (some b)) : Only w w' (fun j => j = b) := Only.of_grown h (fun k hk => by cases hk; rfl)
theorem only_drew {w w' : World} {b : Nat} (h : ∃ n, w' = w.drewN n) : Only w w' (fun j => j = b) := by
  obtain ⟨n, rfl⟩ := h; exact Only.drewN w n _
theorem only_tr {w w1 w2 : World} {b : Nat} (h : Only w w1 (fun j => j = b)) (g : Only w1 w2 (fun j => j = b)) : Only w w2 (fun j => j = b) := h.trans g (fun _ _ h => h)
/-- A block of one's own was written. -/
theorem only_own {w w1 w2 : World} {b D : Nat} (h : Only w w1 (fun j => j = b)) (g : w1.grownBy w2 (some D)) (hD : w.heap.size ≤ D) : Only w w2 (fun j => j = b) :=
  h.trans (only_row g) (fun k hk e => by subst e; omega)
theorem only_tab {w w' : World} {b t : Nat} (h : Only w w' (fun j => j = b)) (ht : TabK w t 256) (hne : t ≠ b) : TabK w' t 256 := by
  obtain ⟨c, h1, h2⟩ := ht
  exact ⟨c, only_obj h h1 hne, h2⟩

/-- A header, stored over another one. -/
def hdSt (w : World) (B : Nat) (h : Hd) : World :=
  (((w.setCell ⟨B, 0, none⟩ (.int .u32 (h.seq : Int))).setCell ⟨B, 1, none⟩ (.int .u64 (h.cyc : Int))).setCell ⟨B, 2, none⟩ (.int .u64 (h.cnt : Int))).setCell ⟨B, 3, none⟩ (.int .i64 (h.size : Int))
theorem hd_stored {w : World} {B : Nat} {h' h : Hd} (hh : w.heap[B]? = some (hdO h')) : (hdSt w B h).heap[B]? = some (hdO h) ∧ w.grownBy (hdSt w B h) (some B) := by
  have h0 := heap_setCell_same w B 0 _ _ (.int .u32 (h.seq : Int)) hh
  have h1 := heap_setCell_same _ B 1 _ _ (.int .u64 (h.cyc : Int)) h0
  have h2 := heap_setCell_same _ B 2 _ _ (.int .u64 (h.cnt : Int)) h1
  have h3 := heap_setCell_same _ B 3 _ _ (.int .i64 (h.size : Int)) h2
  refine ⟨?_, ?_⟩
  · unfold hdSt
    rw [h3]
    simp [hdO]
  · unfold hdSt
    exact grown_trans (grown_trans (grown_trans (grow_cell _ B 0 _) (grow_cell _ B 1 _)) (grow_cell _ B 2 _)) (grow_cell _ B 3 _)

/-! ### Words and sums -/

set_option maxRecDepth 100000 in
theorem fword_any (w : World) (b : Nat) (s : ByteArray) (k : Nat) (h : Rd w b s k) :
    Calls Tryd.prog 68 #[.pointer (some ⟨b, 0, none⟩)] w fun e w' => e = .returned (.tuple #[.int .u32 ((wordG (s.data.toList.drop k)).1 : Nat), .int .i64 ((wordG (s.data.toList.drop k)).2 : Nat)]) ∧
      ((wordG (s.data.toList.drop k)).2 = 0 → Rd w' b s (k + 5)) ∧ Only w w' (fun j => j = b) := by
  have H := Lib.hid (sget_any w b s k h 5 (by omega) (by omega))
  obtain ⟨W, hW⟩ : ∃ W, W = wordG (s.data.toList.drop k) := ⟨_, rfl⟩
  rw [← hW]
  unfold wordG at hW
  have Hst := Lib.hid (fun h0 => (septGet_step (L := s.data.toList.drop k) (c := 5) h0).1)
  have hlt := septGet_lt (s.data.toList.drop k) 5 (by omega)
  generalize septGet (s.data.toList.drop k) 5 = R at *
  obtain ⟨n, z, m⟩ := R
  simp only at H Hst hlt hW
  have HW := Lib.hid hW
  clear h hW
  go_enter Tryd.func68, Tryd.ntmps68
  go_wp2_with fail
  refine H.out.mono ?_
  rintro e w1 ⟨rfl, r1, g1⟩
  have R1 := Lib.hid r1
  have G1 := Lib.hid g1
  clear r1 g1 H
  by_cases hz : z = 0
  · have hzb : ((z : Int) != 0) = false := by rw [hz]; rfl
    have HF := Lib.hid (HW.out.trans (if_pos hz))
    have Hm := Lib.hid (Hst.out hz)
    clear hz Hst HW
    by_cases hn : n ≤ 4294967295
    · have hd : decide ((4294967295 : Int) < (n : Int)) = false := by rw [decide_eq_false_iff_not]; omega
      have HG := Lib.hid (HF.out.trans (if_pos hn))
      go_wp2_with fail
      go_ret2
      rw [HG.out]
      exact ⟨rfl, fun _ => by have := R1.out; rwa [Hm.out] at this, only_row G1.out⟩
    · have hd : decide ((4294967295 : Int) < (n : Int)) = true := by rw [decide_eq_true_iff]; omega
      have HG := Lib.hid (HF.out.trans (if_neg hn))
      clear hn
      go_wp2_with fail
      go_ret2
      rw [HG.out]
      exact ⟨rfl, fun h => absurd h (by decide), only_row G1.out⟩
  · have hzb : ((z : Int) != 0) = true := by rw [bne_iff_ne]; omega
    have HF := Lib.hid (HW.out.trans (if_neg hz))
    have Hz := Lib.hid hz
    clear hz
    go_wp2_with fail
    go_ret2
    rw [HF.out]
    exact ⟨rfl, fun h => absurd h Hz.out, only_row G1.out⟩

set_option maxRecDepth 100000 in
theorem fsum_any (w : World) (b : Nat) (s : ByteArray) (k : Nat) (h : Rd w b s k) (want : Nat) :
    Calls Tryd.prog 59 #[.pointer (some ⟨b, 0, none⟩), .int .u32 (want : Nat)] w fun e w' => e = .returned (.int .i64 (sumG (s.data.toList.drop k) want : Nat)) ∧
      (sumG (s.data.toList.drop k) want = 0 → Rd w' b s (k + 5)) ∧ Only w w' (fun j => j = b) := by
  have H := Lib.hid (fword_any w b s k h)
  obtain ⟨W, hW⟩ : ∃ W, W = sumG (s.data.toList.drop k) want := ⟨_, rfl⟩
  rw [← hW]
  unfold sumG at hW
  generalize wordG (s.data.toList.drop k) = R at *
  obtain ⟨n, z⟩ := R
  simp only at H hW
  have HW := Lib.hid hW
  clear h hW
  go_enter Tryd.func59, Tryd.ntmps59
  go_wp2_with fail
  refine H.out.mono ?_
  rintro e w1 ⟨rfl, r1, g1⟩
  have R1 := Lib.hid r1
  have G1 := Lib.hid g1
  clear r1 g1 H
  by_cases hz : z = 0
  · have hzb : ((z : Int) != 0) = false := by rw [hz]; rfl
    have HF := Lib.hid (HW.out.trans (if_pos hz))
    have R2 := Lib.hid (R1.out hz)
    clear hz R1 HW
    by_cases hn : n = want
    · have hd : ((n : Int) != (want : Int)) = false := by rw [bne_eq_false_iff_eq]; omega
      have HG := Lib.hid (HF.out.trans (if_pos hn))
      clear hn
      go_wp2_with fail
      go_ret
      rw [HG.out]
      exact ⟨rfl, fun _ => R2.out, G1.out⟩
    · have hd : ((n : Int) != (want : Int)) = true := by rw [bne_iff_ne]; omega
      have HG := Lib.hid (HF.out.trans (if_neg hn))
      clear hn
      go_wp2_with fail
      go_ret
      rw [HG.out]
      exact ⟨rfl, fun h => absurd h (by decide), G1.out⟩
  · have hzb : ((z : Int) != 0) = true := by rw [bne_iff_ne]; omega
    have HF := Lib.hid (HW.out.trans (if_neg hz))
    have Hz := Lib.hid hz
    clear hz
    go_wp2_with fail
    go_ret
    rw [HF.out]
    exact ⟨rfl, fun h => absurd h Hz.out, G1.out⟩

set_option maxRecDepth 100000 in
set_option maxHeartbeats 1000000 in
theorem fmark_any (w : World) (b : Nat) (s : ByteArray) (k : Nat) (h : Rd w b s k) :
    Calls Tryd.prog 57 #[.pointer (some ⟨b, 0, none⟩)] w fun e w' => e = .returned (.int .i64 (markG (s.data.toList.drop k) : Nat)) ∧
      (markG (s.data.toList.drop k) = 0 → Rd w' b s (k + 22)) ∧ Only w w' (fun j => j = b) := by
  have HA := Lib.hid (fun w' (h' : Rd w' b s k) => agree_any w' b s k h' markB (by decide))
  rw [show markB.data.toList = markL from rfl] at HA
  have hle := h.le
  have hmx := h.mx
  unfold maxLen at hmx
  have hag := agr_le (s.data.toList.drop k) markL
  rw [show markL.length = 22 from rfl, List.length_drop, show s.data.toList.length = s.size from rfl] at hag
  obtain ⟨W, hW⟩ : ∃ W, W = markG (s.data.toList.drop k) := ⟨_, rfl⟩
  rw [← hW]
  unfold markG at hW
  rw [List.length_drop, show s.data.toList.length = s.size from rfl] at hW
  have HW := Lib.hid hW
  clear hW
  generalize agr (s.data.toList.drop k) markL = a at *
  have HR := Lib.hid h
  have hms : markB.size = 22 := rfl
  clear h
  obtain ⟨rr, hrr⟩ : ∃ rr, rr = s.size - k := ⟨_, rfl⟩
  have HL := Lib.hid (fun w' (h' : Rd w' b s k) => left_any w' b s k h')
  rw [← hrr] at HW hag HL
  have HE := Lib.hid (fun w' (h' : Rd w' b s k) (hn : ((s.size - k : Nat) : Int) < 22) => take_end w' b s k h' 22 hn)
  rw [← hrr] at HE
  have HT := Lib.hid (fun w' (h' : Rd w' b s k) (hn : 22 ≤ rr) => take_any w' b s k h' 22 (by omega))
  clear hrr
  go_enter Tryd.func57, Tryd.ntmps57
  go_wp2_with fail
  refine (fmarker_any w).mono ?_
  rintro e w1 ⟨rfl, rfl⟩
  generalize markB = mb at *
  go_wp2_with fail
  refine (HA.out w HR.out).mono ?_
  rintro e w1 ⟨rfl, d1⟩
  have R1 := Lib.hid (HR.out.drawn d1)
  have O1 := Lib.hid (only_drew (b := b) d1)
  clear d1 HA HR hle
  by_cases ha : a < 22
  · have hd : decide ((a : Int) < 22) = true := by rw [decide_eq_true_iff]; omega
    have hd' : decide ((a : Int) < (mb.size : Int)) = true := by rw [decide_eq_true_iff]; omega
    have HF := Lib.hid (HW.out.trans (if_pos ha))
    clear ha HW
    by_cases hb : a < rr
    · have hx : decide ((a : Int) < (rr : Int)) = true := by rw [decide_eq_true_iff]; omega
      have HG := Lib.hid (HF.out.trans (if_pos hb))
      clear HF
      go_wp2_with fail
      refine (HL.out w1 R1.out).mono ?_
      rintro e w2 ⟨rfl, d2⟩
      have O2 := Lib.hid (only_tr O1.out (only_drew d2))
      clear d2
      go_wp2_with fail
      go_ret
      rw [HG.out]
      exact ⟨rfl, fun h => absurd h (by decide), O2.out⟩
    · have hx : decide ((a : Int) < (rr : Int)) = false := by rw [decide_eq_false_iff_not]; omega
      have HG := Lib.hid (HF.out.trans (if_neg hb))
      have hr : (rr : Int) < 22 := by rw [decide_eq_true_iff] at hd; omega
      have Hr := Lib.hid hr
      clear HF hr
      go_wp2_with fail
      refine (HL.out w1 R1.out).mono ?_
      rintro e w2 ⟨rfl, d2⟩
      have O2 := Lib.hid (only_tr O1.out (only_drew d2))
      have R2 := Lib.hid (R1.out.drawn d2)
      clear d2
      go_wp2_with fail
      refine (HE.out w2 R2.out Hr.out).mono ?_
      rintro e w3 ⟨rfl, d3⟩
      have O3 := Lib.hid (only_tr O2.out (only_drew d3))
      clear d3
      go_wp2_with fail
      go_ret
      rw [HG.out]
      exact ⟨rfl, fun h => absurd h (by decide), O3.out⟩
  · have hd : decide ((a : Int) < 22) = false := by rw [decide_eq_false_iff_not]; omega
    have hd' : decide ((a : Int) < (mb.size : Int)) = false := by rw [decide_eq_false_iff_not]; omega
    have HG := Lib.hid (HW.out.trans (if_neg ha))
    have Hr := Lib.hid (show 22 ≤ rr by omega)
    clear ha HW
    go_wp2_with fail
    refine (HT.out w1 R1.out Hr.out).mono ?_
    rintro e w2 ⟨rfl, r2, g2⟩
    have O2 := Lib.hid (only_tr O1.out (only_row g2))
    have R2 := Lib.hid r2
    clear r2 g2
    go_wp2_with fail
    go_ret
    rw [HG.out]
    exact ⟨rfl, fun h => R2.out, O2.out⟩

/-! ### Numbers -/

set_option maxRecDepth 100000 in
set_option maxHeartbeats 4000000 in
theorem fnums_any (w : World) (b : Nat) (s : ByteArray) (k : Nat) (h : Rd w b s k) :
    Calls Tryd.prog 58 #[.pointer (some ⟨b, 0, none⟩)] w fun e w' => e = .returned (.tuple #[hdV (numsG (s.data.toList.drop k)).1, .int .i64 ((numsG (s.data.toList.drop k)).2 : Nat)]) ∧
      ((numsG (s.data.toList.drop k)).2 = 0 → Rd w' b s (k + 27)) ∧ Only w w' (fun j => j = b) := by
  obtain ⟨w1, x1⟩ : ∃ w1, w1 = w.alloc (hdO hd0) := ⟨_, rfl⟩
  obtain ⟨s1, n1, b1⟩ := new_size x1
  have R1 := Lib.hid (h.below b1 h.lt)
  have N1 := Lib.hid n1
  have O1 : Hid (Only w w1 (fun j => j = b)) := Lib.hid (Only.of_below b1 _)
  have hlt := h.lt
  have H1 := Lib.hid (fun w' (h' : Rd w' b s k) => fword_any w' b s k h')
  have H2 := Lib.hid (fun w' (h' : Rd w' b s (k + 5)) => sget_any w' b s (k + 5) h' 10 (by omega) (by omega))
  have H3 := Lib.hid (fun w' (h' : Rd w' b s (k + 15)) => sget_any w' b s (k + 15) h' 10 (by omega) (by omega))
  have H4 := Lib.hid (fun w' (h' : Rd w' b s (k + 25)) => sget_any w' b s (k + 25) h' 2 (by omega) (by omega))
  obtain ⟨W, hW⟩ : ∃ W, W = numsG (s.data.toList.drop k) := ⟨_, rfl⟩
  rw [← hW]
  unfold numsG at hW
  simp only [List.drop_drop] at hW
  have hn1 := wordG_lt (s.data.toList.drop k)
  have hn2 := septGet_lt (s.data.toList.drop (k + 5)) 10 (by omega)
  have hn3 := septGet_lt (s.data.toList.drop (k + 15)) 10 (by omega)
  have hn4 := septGet_lt (s.data.toList.drop (k + 25)) 2 (by omega)
  have P2 := Lib.hid (fun h0 => (septGet_step (L := s.data.toList.drop (k + 5)) (c := 10) h0).1)
  have P3 := Lib.hid (fun h0 => (septGet_step (L := s.data.toList.drop (k + 15)) (c := 10) h0).1)
  have P4 := Lib.hid (fun h0 => (septGet_step (L := s.data.toList.drop (k + 25)) (c := 2) h0).1)
  generalize wordG (s.data.toList.drop k) = A1 at *
  generalize septGet (s.data.toList.drop (k + 5)) 10 = A2 at *
  generalize septGet (s.data.toList.drop (k + 15)) 10 = A3 at *
  generalize septGet (s.data.toList.drop (k + 25)) 2 = A4 at *
  obtain ⟨q, z1⟩ := A1
  obtain ⟨cy, z2, m2⟩ := A2
  obtain ⟨cn, z3, m3⟩ := A3
  obtain ⟨z, z4, m4⟩ := A4
  simp only at H1 H2 H3 H4 hW hn1 hn2 hn3 hn4 P2 P3 P4
  have HW := Lib.hid hW
  obtain ⟨D, hD⟩ : ∃ D, w.heap.size = D := ⟨_, rfl⟩
  have Hlo := Lib.hid (show w.heap.size ≤ D by omega)
  rw [hD] at N1 hlt
  have hne : D ≠ b := by omega
  have hne' : b ≠ D := by omega
  have HD := Lib.hid hD
  unfold hdO hd0 at x1
  rw [show ((0 : Nat) : Int) = 0 from rfl] at x1
  clear h hW s1 n1 b1 hD hlt
  go_enter Tryd.func58, Tryd.ntmps58
  go_wp2_with fail
  rw [← x1, HD.out]
  clear x1
  refine (H1.out w1 R1.out).mono ?_
  rintro e w2 ⟨rfl, r2, o2⟩
  have O2 := Lib.hid (only_tr O1.out o2)
  have N2 := Lib.hid (only_obj o2 N1.out hne)
  have R2 := Lib.hid r2
  clear r2 o2 O1 N1 R1 H1
  by_cases hz1 : z1 = 0
  · have hzb : ((z1 : Int) != 0) = false := by rw [hz1]; rfl
    have W1 := Lib.hid (HW.out.trans (if_pos hz1))
    have R2 := Lib.hid (R2.out hz1)
    clear hz1 HW
    go_wp2_with fail
    refine (H2.out w2 R2.out).mono ?_
    rintro e w3 ⟨rfl, r3, g3⟩
    have O3 := Lib.hid (only_tr O2.out (only_row g3))
    have N3 := Lib.hid (only_obj (only_row g3) N2.out hne)
    have R3 := Lib.hid r3
    clear r3 g3 O2 N2 R2 H2 hzb
    by_cases hz2 : z2 = 0
    · have hzb : ((z2 : Int) != 0) = false := by rw [hz2]; rfl
      have W2 := Lib.hid (W1.out.trans (if_pos hz2))
      have R3 := Lib.hid (show Rd w3 b s (k + 15) by have := R3.out; rwa [P2.out hz2] at this)
      clear hz2 W1
      go_wp2_with fail
      refine (H3.out w3 R3.out).mono ?_
      rintro e w4 ⟨rfl, r4, g4⟩
      have O4 := Lib.hid (only_tr O3.out (only_row g4))
      have N4 := Lib.hid (only_obj (only_row g4) N3.out hne)
      have R4 := Lib.hid r4
      clear r4 g4 O3 N3 R3 H3 hzb
      by_cases hz3 : z3 = 0
      · have hzb : ((z3 : Int) != 0) = false := by rw [hz3]; rfl
        have W3 := Lib.hid (W2.out.trans (if_pos hz3))
        have R4 := Lib.hid (show Rd w4 b s (k + 25) by have := R4.out; rwa [P3.out hz3] at this)
        clear hz3 W2
        go_wp2_with fail
        refine (H4.out w4 R4.out).mono ?_
        rintro e w5 ⟨rfl, r5, g5⟩
        have O5 := Lib.hid (only_tr O4.out (only_row g5))
        have N5 := Lib.hid (only_obj (only_row g5) N4.out hne)
        have R5 := Lib.hid r5
        clear r5 g5 O4 N4 R4 H4 hzb
        obtain ⟨c0, c1, c2, c3⟩ := hdcells N5.out
        obtain ⟨f0, f1, f2, f3⟩ := hdfree N5.out
        by_cases hz4 : z4 = 0
        · have hzb : ((z4 : Int) != 0) = false := by rw [hz4]; rfl
          have W4 := Lib.hid (W3.out.trans (if_pos hz4))
          have R5 := Lib.hid (show Rd w5 b s (k + 27) by have := R5.out; rwa [P4.out hz4] at this)
          clear hz4 W3
          by_cases hr : 1 ≤ z ∧ z ≤ 120
          · have hd1 : decide ((z : Int) < 1) = false := by rw [decide_eq_false_iff_not]; omega
            have hd2 : decide ((120 : Int) < (z : Int)) = false := by rw [decide_eq_false_iff_not]; omega
            have W5 := Lib.hid (W4.out.trans (if_pos hr))
            have hz120 : z ≤ 120 := hr.2
            have hz1 : 1 ≤ z := hr.1
            clear hr W4
            have HS := Lib.hid (hd_stored (h := ⟨q, cy, cn, z⟩) N5.out)
            go_wp2_with fail
            refine bodyPost_ret (v := .tuple #[.agg #[.int .u32 q, .int .u64 cy, .int .u64 cn, .int .i64 z], .int .i64 0]) (by rw [results_cell_tmp rfl]; go_simp) rfl ⟨by rw [W5.out]; rfl, ?_⟩
            rw [W5.out]
            exact ⟨fun _ => R5.out.kept HS.out.2 (by simp; exact hne'), only_own O5.out HS.out.2 Hlo.out⟩
          · have W5 := Lib.hid (W4.out.trans (if_neg hr))
            have HS := Lib.hid (hd_stored (h := hd0) N5.out)
            have Hr := Lib.hid hr
            clear W4
            by_cases hd : (z : Int) < 1
            · have hd1 : decide ((z : Int) < 1) = true := by rw [decide_eq_true_iff]; omega
              clear hr
              go_wp2_with fail
              refine bodyPost_ret (v := .tuple #[.agg #[.int .u32 0, .int .u64 0, .int .u64 0, .int .i64 0], .int .i64 4]) (by rw [results_cell_tmp rfl]; go_simp) rfl ⟨by rw [W5.out]; rfl, ?_⟩
              rw [W5.out]
              exact ⟨fun h => absurd h (by decide), only_own O5.out HS.out.2 Hlo.out⟩
            · have hd1 : decide ((z : Int) < 1) = false := by rw [decide_eq_false_iff_not]; omega
              have hd2 : decide ((120 : Int) < (z : Int)) = true := by rw [decide_eq_true_iff]; omega
              have hz120 : 120 < z := by omega
              clear hr
              go_wp2_with fail
              refine bodyPost_ret (v := .tuple #[.agg #[.int .u32 0, .int .u64 0, .int .u64 0, .int .i64 0], .int .i64 4]) (by rw [results_cell_tmp rfl]; go_simp) rfl ⟨by rw [W5.out]; rfl, ?_⟩
              rw [W5.out]
              exact ⟨fun h => absurd h (by decide), only_own O5.out HS.out.2 Hlo.out⟩
        · have hzb : ((z4 : Int) != 0) = true := by rw [bne_iff_ne]; omega
          have W4 := Lib.hid (W3.out.trans (if_neg hz4))
          have HS := Lib.hid (hd_stored (h := hd0) N5.out)
          have Hz := Lib.hid hz4
          clear hz4
          go_wp2_with fail
          refine bodyPost_ret (v := .tuple #[.agg #[.int .u32 0, .int .u64 0, .int .u64 0, .int .i64 0], .int .i64 z4]) (by rw [results_cell_tmp rfl]; go_simp) rfl ⟨by rw [W4.out]; rfl, ?_⟩
          rw [W4.out]
          exact ⟨fun h => absurd h Hz.out, only_own O5.out HS.out.2 Hlo.out⟩
      · have hzb : ((z3 : Int) != 0) = true := by rw [bne_iff_ne]; omega
        obtain ⟨c0, c1, c2, c3⟩ := hdcells N4.out
        obtain ⟨f0, f1, f2, f3⟩ := hdfree N4.out
        have W3 := Lib.hid (W2.out.trans (if_neg hz3))
        have HS := Lib.hid (hd_stored (h := hd0) N4.out)
        have Hz := Lib.hid hz3
        clear hz3
        go_wp2_with fail
        refine bodyPost_ret (v := .tuple #[.agg #[.int .u32 0, .int .u64 0, .int .u64 0, .int .i64 0], .int .i64 z3]) (by rw [results_cell_tmp rfl]; go_simp) rfl ⟨by rw [W3.out]; rfl, ?_⟩
        rw [W3.out]
        exact ⟨fun h => absurd h Hz.out, only_own O4.out HS.out.2 Hlo.out⟩
    · have hzb : ((z2 : Int) != 0) = true := by rw [bne_iff_ne]; omega
      obtain ⟨c0, c1, c2, c3⟩ := hdcells N3.out
      obtain ⟨f0, f1, f2, f3⟩ := hdfree N3.out
      have W2 := Lib.hid (W1.out.trans (if_neg hz2))
      have HS := Lib.hid (hd_stored (h := hd0) N3.out)
      have Hz := Lib.hid hz2
      clear hz2
      go_wp2_with fail
      refine bodyPost_ret (v := .tuple #[.agg #[.int .u32 0, .int .u64 0, .int .u64 0, .int .i64 0], .int .i64 z2]) (by rw [results_cell_tmp rfl]; go_simp) rfl ⟨by rw [W2.out]; rfl, ?_⟩
      rw [W2.out]
      exact ⟨fun h => absurd h Hz.out, only_own O3.out HS.out.2 Hlo.out⟩
  · have hzb : ((z1 : Int) != 0) = true := by rw [bne_iff_ne]; omega
    obtain ⟨c0, c1, c2, c3⟩ := hdcells N2.out
    obtain ⟨f0, f1, f2, f3⟩ := hdfree N2.out
    have W1 := Lib.hid (HW.out.trans (if_neg hz1))
    have HS := Lib.hid (hd_stored (h := hd0) N2.out)
    have Hz := Lib.hid hz1
    clear hz1
    go_wp2_with fail
    refine bodyPost_ret (v := .tuple #[.agg #[.int .u32 0, .int .u64 0, .int .u64 0, .int .i64 0], .int .i64 z1]) (by rw [results_cell_tmp rfl]; go_simp) rfl ⟨by rw [W1.out]; rfl, ?_⟩
    rw [W1.out]
    exact ⟨fun h => absurd h Hz.out, only_own O2.out HS.out.2 Hlo.out⟩

end Go.Proofs.YtobioiicbdhboaaDoor

namespace Go.Proofs.YtobioiicbdhboaaDoor
open Go.RowKit
set_option linter.unusedVariables false
set_option linter.unusedSimpArgs false

theorem seenE_none (w : World) : SeenE w none 0 [] := ⟨by simp, by simp, fun _ => ⟨rfl, rfl⟩, fun i hi => by simp at hi⟩
theorem mk_self (y : ByteArray) : (⟨y.data.toList.toArray⟩ : ByteArray) = y := by simp
theorem extract_part (s : ByteArray) (i j : Nat) (h : j ≤ s.size) : (s.extract i j).data.toList = (s.data.toList.drop i).take (j - i) := by
  rw [ByteArray.data_extract, Array.toList_extract, List.extract_eq_take_drop]

theorem below_only {w0 w w' : World} {B b : Nat} (h : Below B w0 w) (hB : B ≤ w.heap.size) (hb : B ≤ b) (o : Only w w' (fun j => j = b)) : Below B w0 w' := below_grown h hB hb o.grown

set_option maxRecDepth 100000 in
set_option maxHeartbeats 4000000 in
theorem fhead_any (w : World) (b t : Nat) (s : ByteArray) (k : Nat) (h : Rd w b s k) (ht : TabK w t 256) (htb : t ≠ b) :
    Calls Tryd.prog 47 #[.pointer (some ⟨t, 0, none⟩), .pointer (some ⟨b, 0, none⟩), .string s] w fun e w' => e = .returned (.tuple #[hdV (headG (s.data.toList.drop k)).1, .int .i64 ((headG (s.data.toList.drop k)).2 : Nat)]) ∧
      ((headG (s.data.toList.drop k)).2 = 0 → Rd w' b s (k + 54)) ∧ Only w w' (fun j => j = b) := by
  obtain ⟨w1, x1⟩ : ∃ w1, w1 = w.alloc (hdO hd0) := ⟨_, rfl⟩
  obtain ⟨s1, n1, b1⟩ := new_size x1
  have R1 := Lib.hid (h.below b1 h.lt)
  have N1 := Lib.hid n1
  have T1 := Lib.hid (ht.below b1 ht.lt)
  have O1 : Hid (Only w w1 (fun j => j = b)) := Lib.hid (Only.of_below b1 _)
  have hlt := h.lt
  have hmx := h.mx
  have Hmx := Lib.hid (show (s.extract (k + 16) (k + 49)).size ≤ maxLen from Nat.le_trans (by rw [ByteArray.size_extract]; omega) hmx)
  unfold maxLen at hmx
  have H1 := Lib.hid (fun w' (h' : Rd w' b s k) => fmark_any w' b s k h')
  have H2 := Lib.hid (fun w' (h' : Rd w' b s (k + 22)) => fnums_any w' b s (k + 22) h')
  obtain ⟨k49, hk49⟩ : ∃ k49, k49 = k + 49 := ⟨_, rfl⟩
  obtain ⟨j, hj⟩ : ∃ j, j = k + 16 := ⟨_, rfl⟩
  obtain ⟨k22, hk22⟩ : ∃ k22, k22 = k + 22 := ⟨_, rfl⟩
  have H3 := Lib.hid (fun w' want (h' : Rd w' b s k49) => fsum_any w' b s k49 h' want)
  obtain ⟨W, hW⟩ : ∃ W, W = headG (s.data.toList.drop k) := ⟨_, rfl⟩
  rw [← hW]
  unfold headG at hW
  simp only [List.drop_drop] at hW
  obtain ⟨y, hy⟩ : ∃ y : ByteArray, y = s.extract j k49 := ⟨_, rfl⟩
  have hyl : k49 ≤ s.size → (s.data.toList.drop (k + 16)).take 33 = y.data.toList := fun hle => by rw [hy, extract_part s j k49 hle, hj, hk49]; congr 1; omega
  have Hy := Lib.hid hy
  rw [← hj, ← hk49, ← hy] at Hmx
  have HU := Lib.hid (fun w' (h' : TabK w' t 256) => sum_one w' t h' y Hmx.out)
  have P2 := Lib.hid (fun h0 => (nums_step (L := s.data.toList.drop (k + 22)) h0).2.2.2.2.2.2)
  rw [← hk49] at hW
  rw [← hk22] at hW P2 H2
  generalize markG (s.data.toList.drop k) = z1 at *
  generalize numsG (s.data.toList.drop k22) = A2 at *
  obtain ⟨⟨q, cy, cn, z⟩, z2⟩ := A2
  unfold hdV at H2
  unfold hdV
  simp only at H1 H2 hW P2
  have HW := Lib.hid hW
  have Hyl := Lib.hid hyl
  obtain ⟨D, hD⟩ : ∃ D, w.heap.size = D := ⟨_, rfl⟩
  have Hlo := Lib.hid (show w.heap.size ≤ D by omega)
  rw [hD] at N1 hlt
  have hne : D ≠ b := by omega
  have hne' : b ≠ D := by omega
  have HD := Lib.hid hD
  have K49 := Lib.hid hk49
  have K22 := Lib.hid hk22
  have hjI : (k22 : Int) - 6 = (j : Int) := by omega
  have hj49 : j ≤ k49 := by omega
  have htb' := htb
  unfold hdO hd0 at x1
  rw [show ((0 : Nat) : Int) = 0 from rfl] at x1
  rw [← hk22] at H1
  clear h hW s1 n1 b1 hD hlt ht hy hyl hk49 hk22 hj
  go_enter Tryd.func47, Tryd.ntmps47
  go_wp2_with fail
  rw [← x1, HD.out]
  clear x1
  refine (H1.out w1 R1.out).mono ?_
  rintro e w2 ⟨rfl, r2, o2⟩
  have O2 := Lib.hid (only_tr O1.out o2)
  have N2 := Lib.hid (only_obj o2 N1.out hne)
  have T2 := Lib.hid (only_tab o2 T1.out htb)
  have R2 := Lib.hid r2
  clear r2 o2 O1 N1 R1 T1 H1
  by_cases hz1 : z1 = 0
  · have hzb : ((z1 : Int) != 0) = false := by rw [hz1]; rfl
    have W1 := Lib.hid (HW.out.trans (if_pos hz1))
    have R2 := Lib.hid (R2.out hz1)
    have hk22 := R2.out.le
    clear hz1 HW
    go_wp2_with fail
    refine (at_any w2 b s k22 R2.out).mono ?_
    rintro e w3 ⟨rfl, rfl⟩
    go_wp2_with fail
    refine (H2.out w2 R2.out).mono ?_
    rintro e w3 ⟨rfl, r3, o3⟩
    obtain ⟨w4, x4⟩ : ∃ w4, w4 = w3.alloc (hdO ⟨q, cy, cn, z⟩) := ⟨_, rfl⟩
    obtain ⟨s4, n4, b4⟩ := new_size x4
    have O4 := Lib.hid (only_tr (only_tr O2.out o3) (Only.of_below b4 _))
    have N3 := only_obj o3 N2.out hne
    have N4 := Lib.hid ((b4.block _ (blk_lt N3)).trans N3)
    have T3 := only_tab o3 T2.out htb
    have T4 := Lib.hid (T3.below b4 T3.lt)
    have R3 := Lib.hid r3
    have M4 := Lib.hid n4
    have B4 := Lib.hid b4
    have hDE : D < w3.heap.size := blk_lt N3
    have N3' := Lib.hid N3
    have O3 := Lib.hid (only_tr O2.out o3)
    unfold hdO at x4
    simp only at x4
    clear r3 o3 O2 N2 R2 H2 hzb N3 T3 s4 n4 b4 T2
    by_cases hz2 : z2 = 0
    · have hzb : ((z2 : Int) != 0) = false := by rw [hz2]; rfl
      have W2 := Lib.hid (W1.out.trans (if_pos hz2))
      have R3 := R3.out hz2
      rw [show k22 + 27 = k49 by rw [K22.out, K49.out]] at R3
      have R4 := Lib.hid (R3.below B4.out R3.lt)
      have hkle := R4.out.le
      have W2' := Lib.hid (by have := W2.out; rw [Hyl.out hkle] at this; exact this)
      obtain ⟨E, hE⟩ : ∃ E, w3.heap.size = E := ⟨_, rfl⟩
      rw [hE] at M4 hDE
      have HE := Lib.hid hE
      have hEb : E ≠ b := by have := R3.lt; omega
      have hEb' := hEb.symm
      clear hz2 W1 W2 R3 B4 hE Hyl P2
      go_wp2_with fail
      rw [HE.out, ← x4]
      refine (at_any w4 b s k49 R4.out).mono ?_
      rintro e w5 ⟨rfl, rfl⟩
      clear x4
      go_wp2_with fail
      rw [← Hy.out]
      refine (HU.out w4 T4.out).mono ?_
      rintro e w5 ⟨rfl, b5⟩
      have O5 := Lib.hid (only_tr O4.out (Only.of_below b5 _))
      have N5 := Lib.hid ((b5.block _ (blk_lt N4.out)).trans N4.out)
      have M5 := Lib.hid ((b5.block _ (blk_lt M4.out)).trans M4.out)
      have R5 := Lib.hid (R4.out.below b5 R4.out.lt)
      clear b5 O4 N4 M4 R4 T4 HU
      generalize sumL y.data.toList = want at *
      go_wp2_with fail
      refine (H3.out w5 want R5.out).mono ?_
      rintro e w6 ⟨rfl, r6, o6⟩
      have O6 := Lib.hid (only_tr O5.out o6)
      have N6 := Lib.hid (only_obj o6 N5.out hne)
      have M6 := Lib.hid (only_obj o6 M5.out hEb)
      have R6 := Lib.hid r6
      clear r6 o6 O5 N5 M5 R5 H3
      generalize sumG (s.data.toList.drop k49) want = z3 at *
      obtain ⟨c0, c1, c2, c3⟩ := hdcells N6.out
      obtain ⟨f0, f1, f2, f3⟩ := hdfree N6.out
      have hDE' : D ≠ E := by omega
      have hDE'' : E ≠ D := by omega
      by_cases hz3 : z3 = 0
      · have hyb : ((z3 : Int) != 0) = false := by rw [hz3]; rfl
        have W3 := Lib.hid (W2'.out.trans (if_pos hz3))
        have R6 := Lib.hid (R6.out hz3)
        have HS := Lib.hid (hd_stored (h := ⟨q, cy, cn, z⟩) N6.out)
        obtain ⟨d0, d1, d2, d3⟩ := hdcells M6.out
        simp only at d0 d1 d2 d3
        clear hz3 W2'
        go_wp2_with fail
        refine bodyPost_ret (v := .tuple #[.agg #[.int .u32 q, .int .u64 cy, .int .u64 cn, .int .i64 z], .int .i64 0]) (by rw [results_cell_tmp rfl]; go_simp) rfl ⟨by rw [W3.out]; rfl, ?_⟩
        rw [W3.out]
        exact ⟨fun _ => by have := R6.out.kept HS.out.2 (by simp; exact hne'); rw [show k + 54 = k49 + 5 by rw [K49.out]]; exact this, only_own O6.out HS.out.2 Hlo.out⟩
      · have hyb : ((z3 : Int) != 0) = true := by rw [bne_iff_ne]; omega
        have W3 := Lib.hid (W2'.out.trans (if_neg hz3))
        have HS := Lib.hid (hd_stored (h := hd0) N6.out)
        have Hz := Lib.hid hz3
        clear hz3
        go_wp2_with fail
        refine bodyPost_ret (v := .tuple #[.agg #[.int .u32 0, .int .u64 0, .int .u64 0, .int .i64 0], .int .i64 z3]) (by rw [results_cell_tmp rfl]; go_simp) rfl ⟨by rw [W3.out]; rfl, ?_⟩
        rw [W3.out]
        exact ⟨fun h => absurd h Hz.out, only_own O6.out HS.out.2 Hlo.out⟩
    · have hzb : ((z2 : Int) != 0) = true := by rw [bne_iff_ne]; omega
      obtain ⟨c0, c1, c2, c3⟩ := hdcells N3'.out
      obtain ⟨f0, f1, f2, f3⟩ := hdfree N3'.out
      have W2 := Lib.hid (W1.out.trans (if_neg hz2))
      have HS := Lib.hid (hd_stored (h := hd0) N3'.out)
      clear x4
      have Hz := Lib.hid hz2
      clear hz2
      go_wp2_with fail
      refine bodyPost_ret (v := .tuple #[.agg #[.int .u32 0, .int .u64 0, .int .u64 0, .int .i64 0], .int .i64 z2]) (by rw [results_cell_tmp rfl]; go_simp) rfl ⟨by rw [W2.out]; rfl, ?_⟩
      rw [W2.out]
      exact ⟨fun h => absurd h Hz.out, only_tr (only_own O3.out HS.out.2 Hlo.out) (Only.alloc _ _ _)⟩
  · have hzb : ((z1 : Int) != 0) = true := by rw [bne_iff_ne]; omega
    obtain ⟨c0, c1, c2, c3⟩ := hdcells N2.out
    obtain ⟨f0, f1, f2, f3⟩ := hdfree N2.out
    have W1 := Lib.hid (HW.out.trans (if_neg hz1))
    have HS := Lib.hid (hd_stored (h := hd0) N2.out)
    have Hz := Lib.hid hz1
    clear hz1
    go_wp2_with fail
    refine bodyPost_ret (v := .tuple #[.agg #[.int .u32 0, .int .u64 0, .int .u64 0, .int .i64 0], .int .i64 z1]) (by rw [results_cell_tmp rfl]; go_simp) rfl ⟨by rw [W1.out]; rfl, ?_⟩
    rw [W1.out]
    exact ⟨fun h => absurd h Hz.out, only_own O2.out HS.out.2 Hlo.out⟩

set_option maxRecDepth 100000 in
set_option maxHeartbeats 2000000 in
theorem fpay_any (w : World) (b t : Nat) (s : ByteArray) (k : Nat) (h : Rd w b s k) (ht : TabK w t 256) (htb : t ≠ b) (z : Nat) (hz : z ≤ 120) :
    Calls Tryd.prog 48 #[.pointer (some ⟨t, 0, none⟩), .pointer (some ⟨b, 0, none⟩), .int .i64 z] w fun e w' => e = .returned (.tuple #[.string ⟨(payG (s.data.toList.drop k) z).1.toArray⟩, .int .i64 ((payG (s.data.toList.drop k) z).2 : Nat)]) ∧
      ((payG (s.data.toList.drop k) z).2 = 0 → Rd w' b s (k + z + 5)) ∧ Only w w' (fun j => j = b) := by
  have hle := h.le
  have hmx := h.mx
  have HT := Lib.hid ht
  obtain ⟨W, hW⟩ : ∃ W, W = payG (s.data.toList.drop k) z := ⟨_, rfl⟩
  rw [← hW]
  unfold payG at hW
  rw [List.drop_drop, List.length_drop, show s.data.toList.length = s.size from rfl] at hW
  by_cases hz1 : z ≤ s.size - k
  · obtain ⟨y, hy⟩ : ∃ y : ByteArray, y = s.extract k (k + z) := ⟨_, rfl⟩
    have hyl : (s.data.toList.drop k).take z = y.data.toList := by rw [hy, extract_part s k (k + z) (by omega)]; congr 1; omega
    have hym : y.size ≤ maxLen := Nat.le_trans (by rw [hy, ByteArray.size_extract]; omega) hmx
    have HK := Lib.hid (take_any w b s k h z (by omega))
    rw [if_pos hz1, hyl] at hW
    rw [← hy] at HK
    have HU := Lib.hid (fun w' (h' : TabK w' t 256) => sum_one w' t h' y hym)
    obtain ⟨kz, hkz⟩ : ∃ kz, kz = k + z := ⟨_, rfl⟩
    rw [← hkz] at hW HK
    have H3 := Lib.hid (fun w' want (h' : Rd w' b s kz) => fsum_any w' b s kz h' want)
    rw [← hkz]
    generalize sumL y.data.toList = want at *
    have HW := Lib.hid hW
    clear h hW hy hyl hym hkz ht hle hmx hz1
    go_enter Tryd.func48, Tryd.ntmps48
    go_wp2_with fail
    refine HK.out.mono ?_
    rintro e w1 ⟨rfl, r1, g1⟩
    have O1 := Lib.hid (only_row g1)
    have R1 := Lib.hid r1
    have T1 := Lib.hid (only_tab (only_row g1) HT.out htb)
    clear r1 g1 HK HT
    go_wp2_with fail
    refine (HU.out w1 T1.out).mono ?_
    rintro e w2 ⟨rfl, b2⟩
    have O2 := Lib.hid (only_tr O1.out (Only.of_below b2 _))
    have R2 := Lib.hid (R1.out.below b2 R1.out.lt)
    clear b2 O1 R1 T1 HU
    go_wp2_with fail
    refine (H3.out w2 want R2.out).mono ?_
    rintro e w3 ⟨rfl, r3, o3⟩
    have O3 := Lib.hid (only_tr O2.out o3)
    have R3 := Lib.hid r3
    clear r3 o3 O2 R2
    by_cases hz3 : sumG (s.data.toList.drop kz) want = 0
    · have HF := Lib.hid (HW.out.trans (if_pos hz3))
      have R4 := Lib.hid (R3.out hz3)
      have hyb : (((sumG (s.data.toList.drop kz) want : Nat) : Int) != 0) = false := by rw [hz3]; rfl
      clear hz3 HW R3
      generalize sumG (s.data.toList.drop kz) want = z3 at *
      go_wp2_with fail
      go_ret2
      rw [HF.out]
      simp only [mk_self]
      exact ⟨rfl, fun _ => R4.out, O3.out⟩
    · have HF := Lib.hid (HW.out.trans (if_neg hz3))
      have hyb : (((sumG (s.data.toList.drop kz) want : Nat) : Int) != 0) = true := by rw [bne_iff_ne]; omega
      have Hz := Lib.hid hz3
      clear hz3 HW R3 H3
      generalize sumG (s.data.toList.drop kz) want = z3 at *
      go_wp2_with fail
      go_ret2
      rw [HF.out]
      exact ⟨rfl, fun h => absurd h Hz.out, O3.out⟩
  · rw [if_neg hz1] at hW
    have HW := Lib.hid hW
    have HK := Lib.hid (take_end w b s k h (z : Int) (by omega))
    clear h hW ht hle hmx hz1
    go_enter Tryd.func48, Tryd.ntmps48
    go_wp2_with fail
    refine HK.out.mono ?_
    rintro e w1 ⟨rfl, d1⟩
    have O1 := Lib.hid (only_drew (b := b) d1)
    clear d1 HK
    go_wp2_with fail
    go_ret2
    rw [HW.out]
    exact ⟨rfl, fun h => absurd h (by decide), O1.out⟩

set_option maxRecDepth 100000 in
set_option maxHeartbeats 4000000 in
theorem fevs_tag (q cyc cnt z : Nat) (p : ByteArray) (hcy : cyc < 18446744073709551616) (hcn : cnt < 18446744073709551616) (hp : p.size ≤ 1000000) (hp0 : p.data.toList ≠ []) (w : World) (hL : EvL w) :
    Calls Tryd.prog 49 #[.agg #[.int .u32 (q : Int), .int .u64 (cyc : Int), .int .u64 (cnt : Int), .int .i64 (z : Int)], .string p] w fun r w' => ∃ ao cap, r = .returned (.tuple #[.slice ao (evsG cyc cnt p.data.toList).1.length cap, .int .i64 (evsG cyc cnt p.data.toList).2]) ∧ SeenE w' ao cap (evsG cyc cnt p.data.toList).1 ∧ EvT w' ao ∧ Below w.heap.size w w' := by
  obtain ⟨w1, x1⟩ : ∃ w1, w1 = w.alloc (hdO ⟨q, cyc, cnt, z⟩) := ⟨_, rfl⟩
  obtain ⟨s1, n1, b1⟩ := new_size x1
  have HR := Lib.hid (read_tag cyc cnt p hp hcy hcn w1 (hL.below b1))
  have Hsm := Lib.hid (fun h => read_some (cyc := cyc) (cnt := cnt) hp0 h)
  have Hfit := Lib.hid (readL_fits cyc cnt p.data.toList)
  obtain ⟨W, hW⟩ : ∃ W, W = evsG cyc cnt p.data.toList := ⟨_, rfl⟩
  rw [← hW]
  unfold evsG at hW
  generalize readL cyc cnt p.data.toList = R at *
  obtain ⟨l, c⟩ := R
  simp only at HR hW Hsm Hfit
  have HW := Lib.hid hW
  have B1 := Lib.hid b1
  have N1 := Lib.hid n1
  obtain ⟨D, hD⟩ : ∃ D, w.heap.size = D := ⟨_, rfl⟩
  rw [hD] at N1 B1
  have HD := Lib.hid hD
  have hs1 : D ≤ w1.heap.size := by omega
  have Hs1 := Lib.hid hs1
  rw [hD]
  unfold hdO at x1
  simp only at x1
  clear hL s1 n1 b1 hD hp hp0 hW hs1
  go_enter Tryd.func49, Tryd.ntmps49
  go_wp2_with fail
  rw [← x1]
  clear x1
  refine HR.out.mono ?_
  rintro r w2 ⟨ao, cap, rfl, s2, t2, b2⟩
  have B2 := Lib.hid (B1.out.trans (b2.mono Hs1.out))
  have N2 := Lib.hid ((b2.block _ (blk_lt N1.out)).trans N1.out)
  have S2 := Lib.hid s2
  have T2 := Lib.hid t2
  clear b2 s2 t2 HR B1 N1
  by_cases hc : c = 0
  · have hcb : (c != 0) = false := by rw [hc]; rfl
    have W1 := Lib.hid (HW.out.trans (if_pos hc))
    have hl := Hsm.out hc
    have hlI : (0 : Int) < (l.length : Int) := by omega
    clear HW hc Hsm
    obtain ⟨b, off, rfl, hb, a6⟩ := S2.out.at 0 hl
    obtain ⟨e, he⟩ : ∃ e, e = l[0] := ⟨_, rfl⟩
    have hge : l.getD 0 ev0 = e := by rw [he]; simp [List.getD, List.getElem?_eq_getElem hl]
    rw [← he] at a6
    rw [hge] at W1
    obtain ⟨c0, c1, c2, c3, c4, c5⟩ := a6
    simp only [Nat.zero_mul, Nat.add_zero] at c0 c1 c2 c3 c4 c5
    obtain ⟨d0, d1, d2, d3⟩ := hdcells N2.out
    simp only at d0 d1 d2 d3
    rw [← HD.out] at d0 d1 d2 d3
    clear he hge hl hb
    by_cases h1 : e.cyc = cyc
    · have hy1 : ((e.cyc : Int) != (cyc : Int)) = false := by rw [bne_eq_false_iff_eq]; omega
      by_cases h2 : e.cnt = cnt
      · have hy2 : ((e.cnt : Int) != (cnt : Int)) = false := by rw [bne_eq_false_iff_eq]; omega
        have W2 := Lib.hid (W1.out.trans (if_pos ⟨h1, h2⟩))
        clear h1 h2 W1
        go_wp2_with fail
        go_quiet (fail)
        go_wp2_with fail
        go_ret2
        rw [W2.out]
        exact ⟨_, _, rfl, S2.out.drewN _, T2.out, below_drewN B2.out _⟩
      · have hy2 : ((e.cnt : Int) != (cnt : Int)) = true := by rw [bne_iff_ne]; omega
        have W2 := Lib.hid (W1.out.trans (if_neg (fun h => h2 h.2)))
        clear h1 h2 W1
        go_wp2_with fail
        go_quiet (fail)
        go_wp2_with fail
        go_ret2
        rw [W2.out]
        exact ⟨_, _, rfl, seenE_none _, evT_none _, below_drewN B2.out _⟩
    · have hy1 : ((e.cyc : Int) != (cyc : Int)) = true := by rw [bne_iff_ne]; omega
      have W2 := Lib.hid (W1.out.trans (if_neg (fun h => h1 h.1)))
      clear h1 W1
      go_wp2_with fail
      go_quiet (fail)
      go_wp2_with fail
      go_ret2
      rw [W2.out]
      exact ⟨_, _, rfl, seenE_none _, evT_none _, below_drewN B2.out _⟩
  · have hcb : (c != 0) = true := by rw [bne_iff_ne]; exact hc
    have W1 := Lib.hid (HW.out.trans (if_neg hc))
    clear hc HW Hsm
    go_wp2_with fail
    go_ret2
    rw [W1.out]
    exact ⟨_, _, rfl, seenE_none _, evT_none _, B2.out⟩

theorem fevs_any (q cyc cnt z : Nat) (p : ByteArray) (hcy : cyc < 18446744073709551616) (hcn : cnt < 18446744073709551616) (hp : p.size ≤ 1000000) (hp0 : p.data.toList ≠ []) (w : World) (hL : EvL w) :
    Calls Tryd.prog 49 #[.agg #[.int .u32 (q : Int), .int .u64 (cyc : Int), .int .u64 (cnt : Int), .int .i64 (z : Int)], .string p] w fun r w' => ∃ ao cap, r = .returned (.tuple #[.slice ao (evsG cyc cnt p.data.toList).1.length cap, .int .i64 (evsG cyc cnt p.data.toList).2]) ∧ SeenE w' ao cap (evsG cyc cnt p.data.toList).1 ∧ Below w.heap.size w w' := by
  refine (fevs_tag q cyc cnt z p hcy hcn hp hp0 w hL).mono ?_
  rintro r w' ⟨ao, cap, h1, h2, -, h3⟩
  exact ⟨ao, cap, h1, h2, h3⟩

end Go.Proofs.YtobioiicbdhboaaDoor

namespace Go.Proofs.YtobioiicbdhboaaDoor
open Go.RowKit
set_option linter.unusedVariables false
set_option linter.unusedSimpArgs false

theorem results_cell_tmp2 {fn : Func} {p u x : Tmp} {ty : TypeId} (h : fn.results = #[.cell p ty, .tmp u, .tmp x]) (tmps : Array Value) (P : Program) (w : World) :
    (results fn tmps).run P w =
      ((asAddr (tmps.getD p undef)).run P w).andThen fun a w₁ => ((loadVar ty a).run P w₁).andThen fun v w₂ => .ok (.tuple #[v, tmps.getD u undef, tmps.getD x undef]) w₂ := by
  simp only [results, h]
  simp [Sem.run_bind, Result.andThen]

/-! ### Frames in blocks -/

def frO (q : Nat) (ao : Option Addr) (n cap : Nat) : Obj := .cells #[.int .u32 (q : Int), .slice ao n cap] 48 (0, 0)
theorem frcells {w : World} {D q : Nat} {ao : Option Addr} {n cap : Nat} (h : w.heap[D]? = some (frO q ao n cap)) :
    w.cell? ⟨D, 0, none⟩ = some (.int .u32 (q : Int)) ∧ w.cell? ⟨D, 1, none⟩ = some (.slice ao n cap) ∧ w.frozen? ⟨D, 0, none⟩ = false ∧ w.frozen? ⟨D, 1, none⟩ = false := by
  refine ⟨?_, ?_, ?_, ?_⟩ <;> simp [World.cell?, World.frozen?, h, frO]
def frSt (w : World) (D q : Nat) (ao : Option Addr) (n cap : Nat) : World := (w.setCell ⟨D, 0, none⟩ (.int .u32 (q : Int))).setCell ⟨D, 1, none⟩ (.slice ao n cap)
theorem fr_stored {w : World} {D q q' : Nat} {ao ao' : Option Addr} {n n' cap cap' : Nat} (h : w.heap[D]? = some (frO q' ao' n' cap')) : (frSt w D q ao n cap).heap[D]? = some (frO q ao n cap) ∧ w.grownBy (frSt w D q ao n cap) (some D) := by
  have h0 := heap_setCell_same w D 0 _ _ (.int .u32 (q : Int)) h
  have h1 := heap_setCell_same _ D 1 _ _ (.slice ao n cap) h0
  refine ⟨?_, ?_⟩
  · unfold frSt
    rw [h1]
    simp [frO]
  · unfold frSt
    exact grown_trans (grow_cell _ D 0 _) (grow_cell _ D 1 _)
/-- A row of events doesn't lie in the block of a frame. -/
theorem SeenE.frame {w w' : World} {ao : Option Addr} {cap : Nat} {l : List Ev} {D q : Nat} {bo : Option Addr} {n c : Nat} (h : SeenE w ao cap l) (hD : w.heap[D]? = some (frO q bo n c)) (hg : w.grownBy w' (some D)) : SeenE w' ao cap l := by
  refine ⟨h.mx, h.lc, h.nn, fun i hi => ?_⟩
  obtain ⟨b, off, h1, h2, h3⟩ := h.row i hi
  have hne : b ≠ D := by
    rintro rfl
    have := (h3 0 (by omega)).c0
    simp only [World.cell?, hD, frO] at this
    match off, this with
    | 0, this => simp at this
    | 1, this => simp at this
    | off + 2, this => simp at this
  exact ⟨b, off, h1, by have := hg.size; omega, fun j hj => (h3 j hj).same (hg.block b h2 (by simp; exact hne))⟩

theorem EvT.frame {w w' : World} {ao : Option Addr} {D q : Nat} {bo : Option Addr} {n c : Nat} (h : EvT w ao) (hD : w.heap[D]? = some (frO q bo n c)) (hg : w.grownBy w' (some D)) : EvT w' ao := by
  intro x hx
  obtain ⟨cs, o, h1⟩ := h x hx
  have hne : x.block ≠ D := by
    intro e
    rw [e, hD] at h1
    simp only [frO, Option.some.injEq, Obj.cells.injEq] at h1
    exact absurd h1.2.1 (by decide)
  exact ⟨cs, o, (hg.block _ (blk_lt h1) (by simp; exact hne)).trans h1⟩
theorem EvT.below {w w' : World} {ao : Option Addr} (h : EvT w ao) (hb : Below w.heap.size w w') : EvT w' ao := by
  intro x hx
  obtain ⟨cs, o, h1⟩ := h x hx
  exact ⟨cs, o, (hb.block _ (blk_lt h1)).trans h1⟩

def nextP (k : Nat) (R : Nat × List Ev × Nat × Int) : Nat := if R.2.2.2 = 0 then k + R.2.2.1 else 0

set_option maxRecDepth 100000 in
theorem fread_nil (s : ByteArray) (k : Int) (w : World) :
    Calls Tryd.prog 35 #[.pointer none, .string s, .int .i64 k] w fun r w' => r = .returned (.tuple #[.agg #[.int .u32 0, .slice none 0 0], .int .i64 0, .int .i64 16]) ∧ Below w.heap.size w w' := by
  obtain ⟨w1, x1⟩ : ∃ w1, w1 = w.alloc (frO 0 none 0 0) := ⟨_, rfl⟩
  obtain ⟨s1, n1, b1⟩ := new_size x1
  have HS := Lib.hid (fr_stored (q := 0) (ao := none) (n := 0) (cap := 0) n1)
  have B1 := Lib.hid b1
  have S1 := Lib.hid s1
  obtain ⟨c0, c1, f0, f1⟩ := frcells n1
  unfold frO at x1
  rw [show ((0 : Nat) : Int) = 0 from rfl] at x1
  rw [x1] at c0 c1 f0 f1
  clear n1 b1 s1
  go_enter Tryd.func35, Tryd.ntmps35
  go_wp2_with fail
  refine bodyPost_ret (v := .tuple #[.agg #[.int .u32 0, .slice none 0 0], .int .i64 0, .int .i64 16]) (by rw [results_cell_tmp2 rfl]; go_simp) rfl ⟨rfl, ?_⟩
  first
  | exact (Below.refl _ w).alloc (Nat.le_refl _) _
  | (rw [← x1]; exact below_grown B1.out (by have := S1.out; omega) (Nat.le_refl _) HS.out.2)

set_option maxRecDepth 100000 in
theorem fread_bad (t : Nat) (s : ByteArray) (hs : s.size ≤ maxLen) (k : Int) (hk : k < 0 ∨ (s.size : Int) < k) (w : World) :
    Calls Tryd.prog 35 #[.pointer (some ⟨t, 0, none⟩), .string s, .int .i64 k] w fun r w' => r = .returned (.tuple #[.agg #[.int .u32 0, .slice none 0 0], .int .i64 0, .int .i64 1]) ∧ Below w.heap.size w w' := by
  obtain ⟨w1, x1⟩ : ∃ w1, w1 = w.alloc (frO 0 none 0 0) := ⟨_, rfl⟩
  obtain ⟨s1, n1, b1⟩ := new_size x1
  obtain ⟨w2, x2⟩ : ∃ w2, w2 = w1.alloc (.cells #[.string s, .int .i64 0] 110) := ⟨_, rfl⟩
  obtain ⟨s2, n2, b2⟩ := new_size x2
  have r2 : Rd w2 w1.heap.size s 0 := by rw [x2]; exact rd_new w1 s hs
  have HK := Lib.hid (seek_bad w2 _ s 0 r2 k hk)
  have N2 := (b2.block _ (blk_lt n1)).trans n1
  have HS := Lib.hid (fr_stored (q := 0) (ao := none) (n := 0) (cap := 0) N2)
  have B2 := Lib.hid (b1.trans (b2.mono b1.size))
  have S2 := Lib.hid (show w.heap.size ≤ w2.heap.size by omega)
  obtain ⟨c0, c1, f0, f1⟩ := frcells N2
  unfold frO at x1
  rw [show ((0 : Nat) : Int) = 0 from rfl] at x1
  have X2 := Lib.hid x2
  clear n1 b1 s1 n2 b2 s2 r2 hs hk N2 x2
  go_enter Tryd.func35, Tryd.ntmps35
  go_wp2_with fail
  rw [← x1]
  clear x1
  refine (new_any w1 s).mono ?_
  rintro e w3 ⟨rfl, rfl⟩
  rw [← X2.out]
  clear X2
  go_wp2_with fail
  refine HK.out.mono ?_
  rintro e w3 ⟨rfl, rfl⟩
  go_wp2_with fail
  refine bodyPost_ret (v := .tuple #[.agg #[.int .u32 0, .slice none 0 0], .int .i64 0, .int .i64 1]) (by rw [results_cell_tmp2 rfl]; go_simp) rfl ⟨rfl, ?_⟩
  exact below_grown B2.out S2.out (Nat.le_refl _) HS.out.2

/-- What holds while the frame that was read is handed back. -/
structure RF (w w' : World) (D E b : Nat) (s : ByteArray) (kk : Nat) (H : Hd) (ao : Option Addr) (cap : Nat) (l : List Ev) : Prop where
  rd : Rd w' b s kk
  hh : w'.heap[E]? = some (hdO H)
  fr : ∃ q a n c, w'.heap[D]? = some (frO q a n c)
  sn : SeenE w' ao cap l
  tg : EvT w' ao
  bel : Below D w w'
  le : D ≤ w'.heap.size
theorem RF.drew {w w' : World} {D E b : Nat} {s : ByteArray} {kk : Nat} {H : Hd} {ao : Option Addr} {cap : Nat} {l : List Ev} (h : RF w w' D E b s kk H ao cap l) : RF w w'.drew D E b s kk H ao cap l :=
  ⟨h.rd.drewN 1, h.hh, h.fr, h.sn.drewN 1, h.tg, below_drewN h.bel 1, h.le⟩
theorem RF.stored {w w' : World} {D E b : Nat} {s : ByteArray} {kk : Nat} {H : Hd} {ao : Option Addr} {cap : Nat} {l : List Ev} (h : RF w w' D E b s kk H ao cap l) (hb : D ≠ b) (hE : D ≠ E) (q : Nat) (a : Option Addr) (n c : Nat) :
    RF w (frSt w' D q a n c) D E b s kk H ao cap l ∧ (frSt w' D q a n c).heap[D]? = some (frO q a n c) := by
  obtain ⟨q0, a0, n0, c0, h0⟩ := h.fr
  have hs := fr_stored (q := q) (ao := a) (n := n) (cap := c) h0
  exact ⟨⟨h.rd.kept hs.2 (by simp; exact fun e => hb e.symm), (hs.2.block _ (blk_lt h.hh) (by simp; exact fun e => hE e.symm)).trans h.hh, ⟨q, a, n, c, hs.1⟩, h.sn.frame h0 hs.2, h.tg.frame h0 hs.2, below_grown h.bel h.le (Nat.le_refl _) hs.2, Nat.le_trans h.le hs.2.size⟩, hs.1⟩

set_option maxRecDepth 100000 in
set_option maxHeartbeats 8000000 in
theorem fread_tag (t : Nat) (s : ByteArray) (hs : s.size ≤ 1000000) (k : Nat) (hk : k ≤ s.size) (w : World) (ht : TabK w t 256) (hL : EvL w) :
    Calls Tryd.prog 35 #[.pointer (some ⟨t, 0, none⟩), .string s, .int .i64 k] w fun r w' => ∃ ao cap, r = .returned (.tuple #[.agg #[.int .u32 ((frameR (s.data.toList.drop k)).1 : Nat), .slice ao (frameR (s.data.toList.drop k)).2.1.length cap], .int .i64 (nextP k (frameR (s.data.toList.drop k)) : Nat), .int .i64 (frameR (s.data.toList.drop k)).2.2.2]) ∧ SeenE w' ao cap (frameR (s.data.toList.drop k)).2.1 ∧ EvT w' ao ∧ Below w.heap.size w w' := by
  obtain ⟨w1, x1⟩ : ∃ w1, w1 = w.alloc (frO 0 none 0 0) := ⟨_, rfl⟩
  obtain ⟨s1, n1, b1⟩ := new_size x1
  obtain ⟨w2, x2⟩ : ∃ w2, w2 = w1.alloc (.cells #[.string s, .int .i64 0] 110) := ⟨_, rfl⟩
  obtain ⟨s2, n2, b2⟩ := new_size x2
  have htlt := ht.lt
  have hm : s.size ≤ maxLen := by unfold maxLen; omega
  have r2 : Rd w2 w1.heap.size s 0 := by rw [x2]; exact rd_new w1 s hm
  have HK := Lib.hid (seek_any w2 _ s 0 r2 k hk)
  have N2 := Lib.hid ((b2.block _ (blk_lt n1)).trans n1)
  have B2 := Lib.hid (b1.trans (b2.mono b1.size))
  have HT := Lib.hid ht
  have HL := Lib.hid hL
  obtain ⟨R, hR⟩ : ∃ R, R = frameR (s.data.toList.drop k) := ⟨_, rfl⟩
  rw [← hR]
  unfold frameR at hR
  simp only [List.drop_drop] at hR
  obtain ⟨b, hb⟩ : ∃ b, w1.heap.size = b := ⟨_, rfl⟩
  obtain ⟨D, hD⟩ : ∃ D, w.heap.size = D := ⟨_, rfl⟩
  have htb : t ≠ b := by omega
  have hDb : D ≠ b := by omega
  have hDb' : D ≤ b := by omega
  have HD2 := Lib.hid (show D ≤ w2.heap.size by omega)
  have H1 := Lib.hid (fun w' (h' : Rd w' b s k) (t' : TabK w' t 256) => fhead_any w' b t s k h' t' htb)
  have H2 := Lib.hid (fun w' z (hz : z ≤ 120) (h' : Rd w' b s (k + 54)) (t' : TabK w' t 256) => fpay_any w' b t s (k + 54) h' t' htb z hz)
  have Hst := Lib.hid (fun h => head_step (L := s.data.toList.drop k) h)
  have Hns := Lib.hid (fun h => nums_step (L := (s.data.toList.drop k).drop 22) h)
  have Hps := Lib.hid (fun z h => pay_step (L := s.data.toList.drop (k + 54)) (z := z) h)
  have hcyl : (headG (s.data.toList.drop k)).2 = 0 → (headG (s.data.toList.drop k)).1.cyc < 18446744073709551616 ∧ (headG (s.data.toList.drop k)).1.cnt < 18446744073709551616 ∧ 1 ≤ (headG (s.data.toList.drop k)).1.size ∧ (headG (s.data.toList.drop k)).1.size ≤ 120 := by
    intro h0
    obtain ⟨-, h2, -, h4⟩ := Hst.out h0
    obtain ⟨-, -, -, -, h5, h6, -⟩ := Hns.out h2
    rw [h4, h6]
    exact ⟨septGet_lt _ _ (by omega), septGet_lt _ _ (by omega), h5.1, h5.2⟩
  have Hcyl := Lib.hid hcyl
  generalize headG (s.data.toList.drop k) = A at *
  obtain ⟨⟨q, cy, cn, z⟩, z1⟩ := A
  unfold hdV at H1
  simp only at H1 hR Hcyl
  have HR := Lib.hid hR
  have HDh := Lib.hid hD
  have HBh := Lib.hid hb
  have Htlt := Lib.hid (show t < D by omega)
  have X2 := Lib.hid x2
  unfold frO at x1
  rw [show ((0 : Nat) : Int) = 0 from rfl] at x1
  rw [hD] at N2 B2
  rw [hb] at HK
  rw [hD]
  clear n1 b1 s1 n2 b2 s2 r2 hs hk x2 hR hD hb hcyl Hst Hns ht hL hm htlt
  go_enter Tryd.func35, Tryd.ntmps35
  go_wp2_with fail
  rw [← x1, HDh.out]
  clear x1
  refine (new_any w1 s).mono ?_
  rintro e w3 ⟨rfl, rfl⟩
  rw [← X2.out, HBh.out]
  clear X2 HBh
  go_wp2_with fail
  refine HK.out.mono ?_
  rintro e w3 ⟨rfl, r3, g3⟩
  have R3 := Lib.hid r3
  have N3 := Lib.hid (only_obj (only_row g3) N2.out hDb)
  have B3 := Lib.hid (below_only B2.out HD2.out hDb' (only_row g3))
  have D3 := Lib.hid (Nat.le_trans HD2.out g3.size)
  clear r3 g3 HK N2 B2 HD2
  go_wp2_with fail
  refine (H1.out w3 R3.out (HT.out.below B3.out Htlt.out)).mono ?_
  rintro e w4 ⟨rfl, r4, o4⟩
  obtain ⟨w5, x5⟩ : ∃ w5, w5 = w4.alloc (hdO ⟨q, cy, cn, z⟩) := ⟨_, rfl⟩
  obtain ⟨s5, n5, b5⟩ := new_size x5
  have R4 := Lib.hid r4
  have N4 := Lib.hid (only_obj o4 N3.out hDb)
  have B4 := Lib.hid (below_only B3.out D3.out hDb' o4)
  have D4 := Lib.hid (Nat.le_trans D3.out o4.size)
  have N5 := Lib.hid ((b5.block _ (blk_lt N4.out)).trans N4.out)
  have B5 := Lib.hid (B4.out.trans (b5.mono D4.out))
  have D5 := Lib.hid (Nat.le_trans D4.out b5.size)
  have M5 := Lib.hid n5
  have Hb5 := Lib.hid b5
  have hDE : D < w4.heap.size := blk_lt N4.out
  unfold hdO at x5
  simp only at x5
  clear r4 o4 R3 N3 B3 D3 H1 s5 n5 b5
  by_cases hz1 : z1 = 0
  · have hzb : ((z1 : Int) != 0) = false := by rw [hz1]; rfl
    have P1 := Lib.hid (HR.out.trans (if_pos hz1))
    have r4 := R4.out hz1
    have R5 := Lib.hid (r4.below Hb5.out r4.lt)
    obtain ⟨hcy, hcn, hz0, hz120⟩ := Hcyl.out hz1
    obtain ⟨E, hE⟩ : ∃ E, w4.heap.size = E := ⟨_, rfl⟩
    rw [hE] at M5 hDE
    have HE := Lib.hid hE
    have hEb : E ≠ b := by have := r4.lt; omega
    have hDE' : D ≠ E := by omega
    have H2' := Lib.hid (fun w' => H2.out w' z hz120)
    have Hps' := Lib.hid (Hps.out z)
    generalize payG (s.data.toList.drop (k + 54)) z = A2 at *
    obtain ⟨py, z2⟩ := A2
    simp only at H2' P1 Hps'
    obtain ⟨d0, d1, d2, d3⟩ := hdcells M5.out
    simp only at d0 d1 d2 d3
    clear hz1 HR R4 N4 B4 D4 Hb5 r4 H2 Hcyl Hps
    rw [← hE, x5] at d0 d1 d2 d3
    clear hE
    go_wp2_with fail
    rw [HE.out, ← x5]
    clear x5 d0 d1 d2 d3
    refine (H2'.out w5 R5.out (HT.out.below B5.out Htlt.out)).mono ?_
    rintro e w6 ⟨rfl, r6, o6⟩
    have R6 := Lib.hid r6
    have N6 := Lib.hid (only_obj o6 N5.out hDb)
    have M6 := Lib.hid (only_obj o6 M5.out hEb)
    have B6 := Lib.hid (below_only B5.out D5.out hDb' o6)
    have D6 := Lib.hid (Nat.le_trans D5.out o6.size)
    clear r6 o6 R5 N5 M5 B5 D5 H2'
    by_cases hz2 : z2 = 0
    · have hyb : ((z2 : Int) != 0) = false := by rw [hz2]; rfl
      have P2 := Lib.hid (P1.out.trans (if_pos hz2))
      have R6 := Lib.hid (R6.out hz2)
      have hps := Hps'.out hz2
      have hpl : py.length = z := by rw [hps.2.2, List.length_take, Nat.min_eq_left hps.1]
      obtain ⟨y, hy⟩ : ∃ y : ByteArray, y = ⟨py.toArray⟩ := ⟨_, rfl⟩
      have hyl : y.data.toList = py := by rw [hy]
      have H3 := Lib.hid (fun w' (h' : EvL w') => fevs_tag q cy cn z y hcy hcn (by rw [hy, mk_size]; omega) (by rw [hyl]; intro h; rw [h] at hpl; simp at hpl; omega) w' h')
      rw [hyl] at H3
      rw [← hy]
      generalize evsG cy cn py = A3 at *
      obtain ⟨l, c⟩ := A3
      simp only at H3 P2
      obtain ⟨kk, hkk⟩ : ∃ kk, kk = k + 54 + z + 5 := ⟨_, rfl⟩
      rw [← hkk] at R6
      have HKK := Lib.hid (show k + (59 + z) = kk by omega)
      obtain ⟨d0, d1, d2, d3⟩ := hdcells M6.out
      simp only at d0 d1 d2 d3
      clear hz2 P1 Hps' hps hpl hy hyl hkk hcy hcn
      go_wp2_with fail
      refine (H3.out w6 (HL.out.below (by rw [HDh.out]; exact B6.out))).mono ?_
      rintro e w7 ⟨ao, cap, rfl, s7, t7, b7⟩
      have C7 := Lib.hid (show RF w w7 D E b s kk ⟨q, cy, cn, z⟩ ao cap l from ⟨R6.out.below b7 R6.out.lt, (b7.block _ (blk_lt M6.out)).trans M6.out, ⟨0, none, 0, 0, (b7.block _ (blk_lt N6.out)).trans N6.out⟩, s7, t7, B6.out.trans (b7.mono D6.out), Nat.le_trans D6.out b7.size⟩)
      have N7 := Lib.hid ((b7.block _ (blk_lt N6.out)).trans N6.out)
      clear s7 t7 b7 R6 N6 M6 B6 D6 H3 d0 d1 d2 d3
      by_cases hc : c = 0
      · have hcb : (c != 0) = false := by rw [hc]; rfl
        have P3 := Lib.hid (P2.out.trans (if_pos hc))
        clear hc P2 N7
        go_wp2_with fail
        refine wp_region_vals [some (Value.pointer (some ⟨E, 0, none⟩)), some (Value.int .u32 (q : Int)), some (Value.slice ao l.length cap), some (Value.agg #[.int .u32 (q : Int), .slice ao l.length cap]), some (Value.pointer (some ⟨b, 0, none⟩)), some (Value.int .i64 (kk : Int)), none, some (Value.int .i64 (kk : Int)), some (Value.int .i64 0)]
          (fun w' => RF w w' D E b s kk ⟨q, cy, cn, z⟩ ao cap l) (fun u u' => u'.heap = u.heap ∨ u'.heap[D]? = some (frO q ao l.length cap)) (fun j u => j = 6 → u.heap[D]? = some (frO q ao l.length cap)) [(0, 60), (1, 61), (2, 62), (3, 63), (4, 64), (5, 65), (7, 7), (8, 8)] 9 (by kernel_rfl) (by kernel_rfl) (by kernel_rfl) (by kernel_rfl) ?hC ?hF ?hs ?hf
        case hC => exact C7.out.drew
        case hF => exact fun i u u' _ hg hF hi => hg.elim (fun h => by rw [h]; exact hF hi) (fun h => h)
        case hs =>
          refine stepsV_succ ?s8 (stepsV_succ ?s7 (stepsV_succ ?s6 (stepsV_succ ?s5 (stepsV_succ ?s4 (stepsV_succ ?s3 (stepsV_succ ?s2 (stepsV_succ ?s1 (stepsV_succ ?s0 (stepsV_zero)))))))))
          case s0 =>
            refine stepV0 rfl (by kernel_rfl) ?_
            rintro w' hC
            intro K hK
            go_simp
            exact hK _ _ rfl ⟨rfl, hC, .inl rfl, fun h => absurd h (by decide)⟩
          case s1 =>
            refine stepV1 0 60 rfl (by kernel_rfl) ?_
            rintro w' hC v1 rfl
            intro K hK
            obtain ⟨d0, d1, d2, d3⟩ := hdcells hC.hh
            simp only at d0 d1 d2 d3
            go_simp
            exact hK _ _ rfl ⟨rfl, hC, .inl rfl, fun h => absurd h (by decide)⟩
          case s2 =>
            refine stepV0 rfl (by kernel_rfl) ?_
            rintro w' hC
            intro K hK
            go_simp
            exact hK _ _ rfl ⟨rfl, hC, .inl rfl, fun h => absurd h (by decide)⟩
          case s3 =>
            refine stepV2 1 61 2 62 rfl (by kernel_rfl) ?_
            rintro w' hC v1 v2 rfl rfl
            intro K hK
            go_simp
            exact hK _ _ rfl ⟨rfl, hC, .inl rfl, fun h => absurd h (by decide)⟩
          case s4 =>
            refine stepV0 rfl (by kernel_rfl) ?_
            rintro w' hC
            intro K hK
            go_simp
            exact hK _ _ rfl ⟨rfl, hC, .inl rfl, fun h => absurd h (by decide)⟩
          case s5 =>
            refine stepV1 4 64 rfl (by kernel_rfl) ?_
            rintro w' hC v1 rfl
            intro K hK
            go_simp
            refine (at_any w' b s kk hC.rd).mono ?_
            rintro r w2 ⟨rfl, rfl⟩
            exact hK _ _ rfl ⟨rfl, hC, .inl rfl, fun h => absurd h (by decide)⟩
          case s6 =>
            refine stepV1 3 63 rfl (by kernel_rfl) ?_
            rintro w' hC v1 rfl
            intro K hK
            obtain ⟨q_, a_, n_, c_, hr⟩ := hC.fr
            obtain ⟨r0, r1, z0, z1⟩ := frcells hr
            go_simp
            have hst := hC.stored hDb hDE' q ao l.length cap
            exact hK _ _ rfl ⟨trivial, hst.1, .inr hst.2, fun _ => hst.2⟩
          case s7 =>
            refine stepV1 5 65 rfl (by kernel_rfl) ?_
            rintro w' hC v1 rfl
            intro K hK
            go_simp
            exact hK _ _ rfl ⟨rfl, hC, .inl rfl, fun h => absurd h (by decide)⟩
          case s8 =>
            refine stepV0 rfl (by kernel_rfl) ?_
            rintro w' hC
            intro K hK
            go_simp
            exact hK _ _ rfl ⟨rfl, hC, .inl rfl, fun h => absurd h (by decide)⟩
        case hf =>
          intro w' hC x hx hF
          have hB0 := hF 6 (by omega) rfl
          have e0 : x 60 = Value.pointer (some ⟨E, 0, none⟩) := hx (0, 60) (by simp)
          have e1 : x 61 = Value.int .u32 (q : Int) := hx (1, 61) (by simp)
          have e2 : x 62 = Value.slice ao l.length cap := hx (2, 62) (by simp)
          have e3 : x 63 = Value.agg #[.int .u32 (q : Int), .slice ao l.length cap] := hx (3, 63) (by simp)
          have e4 : x 64 = Value.pointer (some ⟨b, 0, none⟩) := hx (4, 64) (by simp)
          have e5 : x 65 = Value.int .i64 (kk : Int) := hx (5, 65) (by simp)
          have e7 : x 7 = Value.int .i64 (kk : Int) := hx (7, 7) (by simp)
          have e8 : x 8 = Value.int .i64 0 := hx (8, 8) (by simp)
          simp only [putAll, List.foldl_cons, List.foldl_nil, e0, e1, e2, e3, e4, e5, e7, e8, Act.put, List.setIfInBounds_toArray, List.set_cons_succ, List.set_cons_zero]
          clear hx hF e0 e1 e2 e3 e4 e5 e7 e8
          obtain ⟨e0, e1', g0, g1⟩ := frcells hB0
          go_wp2_with fail
          refine bodyPost_ret (v := .tuple #[.agg #[.int .u32 q, .slice ao l.length cap], .int .i64 kk, .int .i64 0]) (by rw [results_cell_tmp2 rfl]; go_simp) rfl ⟨ao, cap, ?_⟩
          rw [P3.out]
          refine ⟨?_, hC.sn, hC.tg, hC.bel⟩
          simp only [nextP, if_true, HKK.out]
      · have hcb : (c != 0) = true := by rw [bne_iff_ne]; exact hc
        have P3 := Lib.hid (P2.out.trans (if_neg hc))
        have HS := Lib.hid (C7.out.stored hDb hDE' 0 none 0 0)
        have HX : Hid (nextP k ((0 : Nat), ([] : List Ev), (0 : Nat), c) = 0) := Lib.hid (by simp [nextP, hc])
        obtain ⟨c0, c1, f0, f1⟩ := frcells N7.out
        clear hc P2
        go_wp2_with fail
        refine bodyPost_ret (v := .tuple #[.agg #[.int .u32 0, .slice none 0 0], .int .i64 0, .int .i64 c]) (by rw [results_cell_tmp2 rfl]; go_simp) rfl ⟨none, 0, ?_⟩
        rw [P3.out, HX.out]
        exact ⟨rfl, seenE_none _, evT_none _, HS.out.1.bel⟩
    · have hyb : ((z2 : Int) != 0) = true := by rw [bne_iff_ne]; omega
      have P2 := Lib.hid (P1.out.trans (if_neg hz2))
      have HX : Hid (nextP k ((0 : Nat), ([] : List Ev), (0 : Nat), (z2 : Int)) = 0) := Lib.hid (by simp [nextP, hz2])
      have HS := Lib.hid (fr_stored (q := 0) (ao := none) (n := 0) (cap := 0) N6.out)
      obtain ⟨c0, c1, f0, f1⟩ := frcells N6.out
      clear hz2 P1
      go_wp2_with fail
      refine bodyPost_ret (v := .tuple #[.agg #[.int .u32 0, .slice none 0 0], .int .i64 0, .int .i64 z2]) (by rw [results_cell_tmp2 rfl]; go_simp) rfl ⟨none, 0, ?_⟩
      rw [P2.out, HX.out]
      exact ⟨rfl, seenE_none _, evT_none _, below_grown B6.out D6.out (Nat.le_refl _) HS.out.2⟩
  · have hzb : ((z1 : Int) != 0) = true := by rw [bne_iff_ne]; omega
    have P1 := Lib.hid (HR.out.trans (if_neg hz1))
    have HX : Hid (nextP k ((0 : Nat), ([] : List Ev), (0 : Nat), (z1 : Int)) = 0) := Lib.hid (by simp [nextP, hz1])
    have HS := Lib.hid (fr_stored (q := 0) (ao := none) (n := 0) (cap := 0) N4.out)
    obtain ⟨c0, c1, f0, f1⟩ := frcells N4.out
    clear hz1 HR x5
    go_wp2_with fail
    refine bodyPost_ret (v := .tuple #[.agg #[.int .u32 0, .slice none 0 0], .int .i64 0, .int .i64 z1]) (by rw [results_cell_tmp2 rfl]; go_simp) rfl ⟨none, 0, ?_⟩
    rw [P1.out, HX.out]
    exact ⟨rfl, seenE_none _, evT_none _, (below_grown B4.out D4.out (Nat.le_refl _) HS.out.2).alloc (Nat.le_trans D4.out HS.out.2.size) _⟩

theorem fread_any (t : Nat) (s : ByteArray) (hs : s.size ≤ 1000000) (k : Nat) (hk : k ≤ s.size) (w : World) (ht : TabK w t 256) (hL : EvL w) :
    Calls Tryd.prog 35 #[.pointer (some ⟨t, 0, none⟩), .string s, .int .i64 k] w fun r w' => ∃ ao cap, r = .returned (.tuple #[.agg #[.int .u32 ((frameR (s.data.toList.drop k)).1 : Nat), .slice ao (frameR (s.data.toList.drop k)).2.1.length cap], .int .i64 (nextP k (frameR (s.data.toList.drop k)) : Nat), .int .i64 (frameR (s.data.toList.drop k)).2.2.2]) ∧ SeenE w' ao cap (frameR (s.data.toList.drop k)).2.1 ∧ Below w.heap.size w w' := by
  refine (fread_tag t s hs k hk w ht hL).mono ?_
  rintro r w' ⟨ao, cap, h1, h2, -, h3⟩
  exact ⟨ao, cap, h1, h2, h3⟩

end Go.Proofs.YtobioiicbdhboaaDoor
