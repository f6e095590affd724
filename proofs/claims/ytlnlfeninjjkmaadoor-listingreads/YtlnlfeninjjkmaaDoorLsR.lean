/-
  What the reader of a line's words in package listing does, over this seat's translation. Conditions: a reader in a block of its own (RdL), the listed variables (LsL).
-/
import Derived.Test.YtlnlfeninjjkmaaDoorLsF
import Derived.Test.YtlnlfeninjjkmaaDoorFoot
namespace Go.Proofs.YtlnlfeninjjkmaaDoor
open Go.RowKit
set_option linter.unusedVariables false
set_option linter.unusedSimpArgs false

/-- A reader in block b: the words that weren't read yet, whether another one follows, whether those that were read are right. -/
def rdO (ws : List (List UInt8)) (more ok : Bool) : Obj := .cells #[.string (bytesOf (unwords ws)), .bool more, .bool ok] 89
structure RdL (w : World) (b : Nat) (ws : List (List UInt8)) (more ok : Bool) : Prop where
  blk : w.heap[b]? = some (rdO ws more ok)
  pl : ∀ x ∈ ws, (32 : UInt8) ∉ x
  sz : (unwords ws).length ≤ 1000000

theorem words_clean : ∀ l : List UInt8, ∀ x ∈ words l, (32 : UInt8) ∉ x
  | [], x, hx => by simp [words] at hx; simp [hx]
  | c :: r, x, hx => by
    have ih := words_clean r
    unfold words at hx
    split at hx
    · rcases List.mem_cons.1 hx with rfl | hx
      · simp
      · exact ih x hx
    · rename_i hc
      split at hx
      · simp at hx; subst hx; simp; exact fun e => hc e.symm
      · rename_i y t h
        rcases List.mem_cons.1 hx with rfl | hx
        · have := ih y (by rw [h]; simp)
          simp only [List.mem_cons, not_or]
          exact ⟨fun e => hc e.symm, this⟩
        · exact ih x (by rw [h]; simp [hx])
theorem unwords_tail (ws : List (List UInt8)) : (unwords ws.tail).length ≤ (unwords ws).length ∧ (ws.headD []).length ≤ (unwords ws).length := by
  cases ws with
  | nil => simp
  | cons x t =>
    cases t with
    | nil => simp [unwords]
    | cons y r =>
      have e : unwords (x :: y :: r) = x ++ 32 :: unwords (y :: r) := rfl
      rw [e]
      simp
      omega
theorem cut_words (ws : List (List UInt8)) (h : ∀ x ∈ ws, (32 : UInt8) ∉ x) : Lib.cut (unwords ws) [32] = (ws.headD [], unwords ws.tail, !ws.tail.isEmpty) := by
  cases ws with
  | nil => exact cut_none (by simp [unwords])
  | cons x t =>
    cases t with
    | nil => exact cut_none (by simpa [unwords] using h x (by simp))
    | cons y r =>
      have e : unwords (x :: y :: r) = x ++ 32 :: unwords (y :: r) := rfl
      rw [e]
      exact cut_some (h x (by simp))

theorem RdL.cells {w : World} {b : Nat} {ws : List (List UInt8)} {more ok : Bool} (h : RdL w b ws more ok) :
    w.cell? ⟨b, 0, none⟩ = some (.string (bytesOf (unwords ws))) ∧ w.cell? ⟨b, 1, none⟩ = some (.bool more) ∧ w.cell? ⟨b, 2, none⟩ = some (.bool ok) ∧ ∀ j, w.frozen? ⟨b, j, none⟩ = false := by
  have := h.blk
  refine ⟨?_, ?_, ?_, fun j => ?_⟩
  all_goals first | simp [World.cell?, this, rdO] | simp [World.frozen?, this, rdO]
theorem RdL.only {w w' : World} {b : Nat} {ws : List (List UInt8)} {more ok : Bool} (h : RdL w b ws more ok) {S : Nat → Prop} (ho : Only w w' S) (hS : ¬ S b) : RdL w' b ws more ok :=
  ⟨(ho.block b (blk_lt h.blk) hS).trans h.blk, h.pl, h.sz⟩
theorem RdL.stop {w : World} {b : Nat} {ws : List (List UInt8)} {more ok : Bool} (h : RdL w b ws more ok) : RdL (w.setCell ⟨b, 2, none⟩ (.bool false)) b ws more false := by
  refine ⟨?_, h.pl, h.sz⟩
  have := heap_setCell_same w b 2 _ _ (.bool false) h.blk
  simpa [rdO] using this

theorem only_set {w w1 : World} {b : Nat} (h : Only w w1 (fun k => k = b)) (j : Nat) (v : Value) : Only w (w1.setCell ⟨b, j, none⟩ v) (fun k => k = b) :=
  h.trans (Only.setCell w1 b j v (fun k => k = b) rfl) (fun k _ h => h)

set_option maxRecDepth 100000 in
set_option maxHeartbeats 1000000 in
theorem rnext_any (w : World) (b : Nat) (ws : List (List UInt8)) (more ok : Bool) (h : RdL w b ws more ok) (hL : LsL w) :
    Calls Tryd.prog 60 #[.pointer (some ⟨b, 0, none⟩)] w fun r w' => r = .returned (.string (bytesOf (ws.headD []))) ∧ RdL w' b ws.tail (!ws.tail.isEmpty) ok ∧ Only w w' (fun k => k = b) := by
  obtain ⟨m, hm⟩ := hL.mx
  obtain ⟨c0, c1, c2, z⟩ := h.cells
  have z0 := z 0
  have z1 := z 1
  have hC := Tryd.strings_Cut (bytesOf (unwords ws)) ⟨#[32]⟩ m w (by rw [bytesOf_size]; have := h.sz; omega) hm
  rw [bytesOf_data, show (⟨#[32]⟩ : ByteArray).data.toList = [32] from rfl, cut_words ws h.pl] at hC
  simp only at hC
  have HC := Lib.hid hC
  have HR : Hid (∀ n, RdL (((w.drewN n).setCell ⟨b, 0, none⟩ (.string (bytesOf (unwords ws.tail)))).setCell ⟨b, 1, none⟩ (.bool (!ws.tail.isEmpty))) b ws.tail (!ws.tail.isEmpty) ok) := Lib.hid (fun n => by
    refine ⟨?_, fun x hx => h.pl x (List.mem_of_mem_tail hx), Nat.le_trans (unwords_tail ws).1 h.sz⟩
    have h1 := heap_setCell_same (w.drewN n) b 0 _ _ (.string (bytesOf (unwords ws.tail))) h.blk
    have h2 := heap_setCell_same _ b 1 _ _ (.bool (!ws.tail.isEmpty)) h1
    simpa [rdO] using h2)
  have e1 : (⟨(ws.headD []).toArray⟩ : ByteArray) = bytesOf (ws.headD []) := rfl
  have e2 : (⟨(unwords ws.tail).toArray⟩ : ByteArray) = bytesOf (unwords ws.tail) := rfl
  rw [e1, e2] at HC
  generalize bytesOf (unwords ws) = U at *
  generalize bytesOf (unwords ws.tail) = V at *
  generalize bytesOf (ws.headD []) = X at *
  generalize (!ws.tail.isEmpty) = mo at *
  clear h hL hm hC z e1 e2
  go_enter Tryd.func60, Tryd.ntmps60
  go_wp2_with fail
  refine HC.out.mono ?_
  rintro e w1 ⟨rfl, n, rfl⟩
  clear HC
  go_wp2
  go_ret
  exact ⟨rfl, HR.out n, only_set (only_set (Only.drewN w n _) 0 _) 1 _⟩

set_option maxRecDepth 100000 in
set_option maxHeartbeats 1000000 in
theorem rop_any (w : World) (b : Nat) (ws : List (List UInt8)) (more ok : Bool) (h : RdL w b ws more ok) (hL : LsL w) (hb : ∀ w', Only w w' (fun k => k = b) → LsL w') :
    Calls Tryd.prog 47 #[.pointer (some ⟨b, 0, none⟩)] w fun r w' => r = .returned (.int .i64 (opOf (ws.headD []) : Nat)) ∧ RdL w' b ws.tail (!ws.tail.isEmpty) (ok && decide (opOf (ws.headD []) ≠ 0)) ∧ Only w w' (fun k => k = b) := by
  have HN := Lib.hid (rnext_any w b ws more ok h hL)
  have HO : Hid (∀ w', Only w w' (fun k => k = b) → Calls Tryd.prog 59 #[.string (bytesOf (ws.headD []))] w' fun e w'' => e = .returned (.int .i64 (opOf (ws.headD []) : Nat)) ∧ w' = w'') := Lib.hid (fun w' ho => by
    have := iop_any (bytesOf (ws.headD [])) w' (hb w' ho).is
    rwa [bytesOf_data] at this)
  generalize bytesOf (ws.headD []) = X at *
  obtain ⟨n, hn⟩ : ∃ n, opOf (ws.headD []) = n := ⟨_, rfl⟩
  rw [hn] at HO ⊢
  have h0 : (0 : Int) ≤ n := Int.natCast_nonneg _
  clear h hL hb hn
  go_enter Tryd.func47, Tryd.ntmps47
  go_wp2_with fail
  refine HN.out.mono ?_
  rintro e w1 ⟨rfl, h1, h2⟩
  have R1 := Lib.hid h1
  have O1 := Lib.hid h2
  obtain ⟨-, -, c2, z⟩ := h1.cells
  have z2 := z 2
  clear h1 h2 z HN
  go_wp2_with fail
  refine (HO.out w1 O1.out).mono ?_
  rintro e w2 ⟨rfl, rfl⟩
  clear HO
  by_cases hz : n = 0
  · have hz' : ((n : Int) == 0) = true := by simp [hz]
    have HD := Lib.hid (show decide (n ≠ 0) = false by simp [hz])
    clear hz
    go_wp2
    go_ret
    exact ⟨rfl, by rw [HD.out, Bool.and_false]; exact R1.out.stop, only_set O1.out 2 _⟩
  · have hz' : ((n : Int) == 0) = false := by simp; omega
    have HD := Lib.hid (show decide (n ≠ 0) = true by simp [hz])
    clear hz
    go_wp2
    go_ret
    exact ⟨rfl, by rw [HD.out, Bool.and_true]; exact R1.out, O1.out⟩

/-- Two bytes that are a register, or aren't. -/
theorem regN_two {s : ByteArray} {l : List UInt8} (hs : s.data.toList = l) (h0 : 0 < s.size) (h1 : 1 < s.size) (h2 : s.size = 2) : regN l = if (s[0]'h0).toNat = 114 ∧ 48 ≤ s[1].toNat ∧ s[1].toNat < 56 then some (s[1].toNat - 48) else none := by
  have hl : l = [s[0], s[1]] := by
    rw [← hs]
    have : s.data.toList.length = 2 := by rw [Array.length_toList]; exact h2
    refine List.ext_getElem (by rw [this]; rfl) (fun i hi hj => ?_)
    have : i = 0 ∨ i = 1 := by omega
    rcases this with rfl | rfl <;> rfl
  rw [hl]
  unfold regN
  simp only
  have h114 : s[0] = 114 ↔ s[0].toNat = 114 := ⟨fun e => by rw [e]; rfl, fun e => UInt8.toNat_inj.1 (by rw [e]; rfl)⟩
  simp only [h114]

theorem regN_not {s : ByteArray} {l : List UInt8} (hs : s.data.toList = l) (h2 : s.size ≠ 2) : regN l = none := by
  have hl : l.length ≠ 2 := by rw [← hs, Array.length_toList]; exact h2
  unfold regN
  split
  · exact absurd rfl hl
  · rfl

set_option maxRecDepth 100000 in
set_option maxHeartbeats 1000000 in
theorem rreg_any (w : World) (b : Nat) (ws : List (List UInt8)) (more ok : Bool) (h : RdL w b ws more ok) (hL : LsL w) :
    Calls Tryd.prog 48 #[.pointer (some ⟨b, 0, none⟩)] w fun r w' => r = .returned (.int .i64 ((regN (ws.headD [])).getD 0 : Nat)) ∧ RdL w' b ws.tail (!ws.tail.isEmpty) (ok && (regN (ws.headD [])).isSome) ∧ Only w w' (fun k => k = b) := by
  have HN := Lib.hid (rnext_any w b ws more ok h hL)
  have hX := bytesOf_data (ws.headD [])
  generalize bytesOf (ws.headD []) = X at *
  have HX := Lib.hid hX
  clear h hL hX
  go_enter Tryd.func48, Tryd.ntmps48
  go_wp2_with fail
  refine HN.out.mono ?_
  rintro e w1 ⟨rfl, h1, h2⟩
  have R1 := Lib.hid h1
  have O1 := Lib.hid h2
  obtain ⟨-, -, c2, z⟩ := h1.cells
  have z2 := z 2
  clear h1 h2 z HN
  by_cases hs : X.size = 2
  · have s0 : 0 < X.size := by omega
    have s1 : 1 < X.size := by omega
    have hr := regN_two HX.out s0 s1 hs
    have d0 : ((X.size : Int) != 2) = false := by simp [hs]
    have k0 : (0 : Int) < (X.size : Int) := by omega
    have k1 : (1 : Int) < (X.size : Int) := by omega
    obtain ⟨c, hc⟩ : ∃ c : Nat, (X[0]'s0).toNat = c := ⟨_, rfl⟩
    obtain ⟨d, hd⟩ : ∃ d : Nat, (X[1]'s1).toNat = d := ⟨_, rfl⟩
    have hd8 : d < 256 := by rw [← hd]; exact (X[1]'s1).toNat_lt
    rw [hc, hd] at hr
    by_cases q0 : c = 114
    · have e0 : ((c : Int) != 114) = false := by simp [q0]
      by_cases q1 : 48 ≤ d
      · have e1 : decide ((d : Int) < 48) = false := by simp; omega
        by_cases q2 : d < 56
        · have e2 : decide ((56 : Int) ≤ (d : Int)) = false := by simp; omega
          have e3 : (48 : Int) ≤ (d : Int) := by omega
          rw [if_pos ⟨q0, q1, q2⟩] at hr
          have HR := Lib.hid hr
          have e4 : ((d : Int) - 48) = ((d - 48 : Nat) : Int) := by omega
          have E4 := Lib.hid e4
          have hd9 : (d : Int) < 256 := by omega
          clear q0 q1 q2 hs e4 hr
          go_wp2
          go_ret
          exact ⟨by rw [HR.out, E4.out]; rfl, by rw [HR.out]; simpa using R1.out, O1.out⟩
        · have e2 : decide ((56 : Int) ≤ (d : Int)) = true := by simp; omega
          rw [if_neg (fun h => q2 h.2.2)] at hr
          have HR := Lib.hid hr
          clear q0 q1 q2 hs hr
          go_wp2
          go_ret
          exact ⟨by rw [HR.out]; rfl, by rw [HR.out]; simpa using R1.out.stop, only_set O1.out 2 _⟩
      · have e1 : decide ((d : Int) < 48) = true := by simp; omega
        rw [if_neg (fun h => q1 h.2.1)] at hr
        have HR := Lib.hid hr
        clear q0 q1 hs hr
        go_wp2
        go_ret
        exact ⟨by rw [HR.out]; rfl, by rw [HR.out]; simpa using R1.out.stop, only_set O1.out 2 _⟩
    · have e0 : ((c : Int) != 114) = true := by simp; omega
      rw [if_neg (fun h => q0 h.1)] at hr
      have HR := Lib.hid hr
      clear q0 hs hr
      go_wp2
      go_ret
      exact ⟨by rw [HR.out]; rfl, by rw [HR.out]; simpa using R1.out.stop, only_set O1.out 2 _⟩
  · have HR := Lib.hid (regN_not HX.out hs)
    have d0 : ((X.size : Int) != 2) = true := by simp; omega
    clear hs
    go_wp2
    go_ret
    exact ⟨by rw [HR.out]; rfl, by rw [HR.out]; simpa using R1.out.stop, only_set O1.out 2 _⟩

theorem modeN_none {l : List UInt8} (h : ∀ j, j < 3 → modeW j ≠ l) : modeN l = none := by
  cases hm : modeN l with
  | none => rfl
  | some n =>
    obtain ⟨e, hn⟩ := (modeN_iff l n).1 hm
    exact absurd e.symm (h n hn)

set_option maxRecDepth 100000 in
set_option maxHeartbeats 1000000 in
theorem rmode_any (w : World) (b : Nat) (ws : List (List UInt8)) (more ok : Bool) (h : RdL w b ws more ok) (hL : LsL w) (hb : ∀ w', Only w w' (fun k => k = b) → LsL w') :
    Calls Tryd.prog 49 #[.pointer (some ⟨b, 0, none⟩)] w fun r w' => r = .returned (.int .i64 ((modeN (ws.headD [])).getD 0 : Nat)) ∧ RdL w' b ws.tail (!ws.tail.isEmpty) (ok && (modeN (ws.headD [])).isSome) ∧ Only w w' (fun k => k = b) := by
  have HN := Lib.hid (rnext_any w b ws more ok h hL)
  have hX := bytesOf_data (ws.headD [])
  generalize bytesOf (ws.headD []) = X at *
  have HX := Lib.hid hX
  have HB := Lib.hid hb
  clear h hL hX hb
  go_enter Tryd.func49, Tryd.ntmps49
  go_wp2_with fail
  refine HN.out.mono ?_
  rintro e w1 ⟨rfl, h1, h2⟩
  have R1 := Lib.hid h1
  have O1 := Lib.hid h2
  obtain ⟨-, -, c2, z⟩ := h1.cells
  have z2 := z 2
  have hm := (HB.out w1 h2).md
  have m0 := hm 0 (by omega)
  have m1 := hm 1 (by omega)
  have m2 := hm 2 (by omega)
  have b0 := beq_bytes (bytesOf (modeW 0)) X
  have b1 := beq_bytes (bytesOf (modeW 1)) X
  have b2 := beq_bytes (bytesOf (modeW 2)) X
  rw [bytesOf_data, HX.out] at b0 b1 b2
  have hcell : ∀ l r : List UInt8, (bytesOf l).toList = l := fun l r => by rw [ByteArray.toList_eq, bytesOf_data]
  obtain ⟨M0, e0⟩ : ∃ M0, bytesOf (modeW 0) = M0 := ⟨_, rfl⟩
  obtain ⟨M1, e1⟩ : ∃ M1, bytesOf (modeW 1) = M1 := ⟨_, rfl⟩
  obtain ⟨M2, e2⟩ : ∃ M2, bytesOf (modeW 2) = M2 := ⟨_, rfl⟩
  rw [e0] at b0 m0
  rw [e1] at b1 m1
  rw [e2] at b2 m2
  clear h1 h2 z HN hm hcell e0 e1 e2 HB
  have I0 : ∀ W, (Instr.index 55 (.agg #[.string M0, .string M1, .string M2]) (.int .i64 0)).run Tryd.prog W = .ok (.string M0) W := fun W => by kernel_rfl
  have I1 : ∀ W, (Instr.index 55 (.agg #[.string M0, .string M1, .string M2]) (.int .i64 1)).run Tryd.prog W = .ok (.string M1) W := fun W => by kernel_rfl
  have I2 : ∀ W, (Instr.index 55 (.agg #[.string M0, .string M1, .string M2]) (.int .i64 2)).run Tryd.prog W = .ok (.string M2) W := fun W => by kernel_rfl
  go_wp2_with fail
  go_loopw [9] (fun x wr => wr = w1 ∧ ∃ k : Nat, x = .int .i64 k ∧ k ≤ 3 ∧ Hid (∀ j, j < k → modeW j ≠ ws.headD [])) (fun x _ => ((3 : Int) - intOf x).toNat)
  case atStart => exact ⟨rfl, 0, rfl, by omega, fun j hj => by omega⟩
  case round =>
    obtain ⟨rfl, k, rfl, hk, K⟩ := hrel
    have : k = 0 ∨ k = 1 ∨ k = 2 ∨ k = 3 := by omega
    rcases this with rfl | rfl | rfl | rfl
    · clear b1 b2 hk
      by_cases hq : modeW 0 = ws.headD []
      · rw [decide_eq_true hq] at b0
        have HQ := Lib.hid ((modeN_iff _ 0).2 ⟨hq.symm, by omega⟩)
        clear hq
        go_wp2
        go_ret
        exact ⟨by rw [HQ.out]; rfl, by rw [HQ.out]; simpa using R1.out, O1.out⟩
      · rw [decide_eq_false hq] at b0
        have HQ := Lib.hid hq
        clear hq
        go_wp2
        go_roundw
        case rel => exact ⟨trivial, 1, rfl, by omega, fun j hj => by
          obtain rfl : j = 0 := by omega
          exact HQ.out⟩
        case measure => simp [intOf]
    · clear b0 b2 hk
      by_cases hq : modeW 1 = ws.headD []
      · rw [decide_eq_true hq] at b1
        have HQ := Lib.hid ((modeN_iff _ 1).2 ⟨hq.symm, by omega⟩)
        clear hq
        go_wp2
        go_ret
        exact ⟨by rw [HQ.out]; rfl, by rw [HQ.out]; simpa using R1.out, O1.out⟩
      · rw [decide_eq_false hq] at b1
        have HQ := Lib.hid hq
        clear hq
        go_wp2
        go_roundw
        case rel => exact ⟨trivial, 2, rfl, by omega, fun j hj => by
          by_cases hj1 : j = 1
          · rw [hj1]; exact HQ.out
          · exact K.out j (by omega)⟩
        case measure => simp [intOf]
    · clear b0 b1 hk
      by_cases hq : modeW 2 = ws.headD []
      · rw [decide_eq_true hq] at b2
        have HQ := Lib.hid ((modeN_iff _ 2).2 ⟨hq.symm, by omega⟩)
        clear hq
        go_wp2
        go_ret
        exact ⟨by rw [HQ.out]; rfl, by rw [HQ.out]; simpa using R1.out, O1.out⟩
      · rw [decide_eq_false hq] at b2
        have HQ := Lib.hid hq
        clear hq
        go_wp2
        go_roundw
        case rel => exact ⟨trivial, 3, rfl, by omega, fun j hj => by
          by_cases hj1 : j = 2
          · rw [hj1]; exact HQ.out
          · exact K.out j (by omega)⟩
        case measure => simp [intOf]
    · have HQ := Lib.hid (modeN_none K.out)
      clear b0 b1 b2 hk
      go_wp2
      go_ret
      exact ⟨by rw [HQ.out]; rfl, by rw [HQ.out]; simpa using R1.out.stop, only_set O1.out 2 _⟩

set_option maxRecDepth 100000 in
set_option maxHeartbeats 1000000 in
theorem rnumber_bad (w : World) (b : Nat) (X : ByteArray) (ws : List (List UInt8)) (more ok : Bool)
    (HN : Hid (Calls Tryd.prog 60 #[.pointer (some ⟨b, 0, none⟩)] w fun e w' => e = .returned (.string X) ∧ RdL w' b ws more ok ∧ Only w w' (fun k => k = b)))
    (HP : Hid (∀ w1, Only w w1 (fun k => k = b) → Calls Tryd.prog 61 #[.string X, .int .i64 10, .int .i64 32] w1 fun e w2 => ∃ (m : Int) (t : TypeId) (p : Addr), e = .returned (.tuple #[.int .u64 m, .iface t (.pointer (some p))]) ∧ Below w1.heap.size w1 w2)) :
    Calls Tryd.prog 50 #[.pointer (some ⟨b, 0, none⟩)] w fun e w' => e = .returned (.int .u32 0) ∧ RdL w' b ws more false ∧ Only w w' (fun k => k = b) := by
  go_enter Tryd.func50, Tryd.ntmps50
  go_wp2_with fail
  refine HN.out.mono ?_
  rintro e w1 ⟨rfl, h1, h2⟩
  have R1 := Lib.hid h1
  have O1 := Lib.hid h2
  clear h1 h2 HN
  go_wp2_with fail
  refine (HP.out w1 O1.out).mono ?_
  rintro e w2 ⟨m, t, p, rfl, h3⟩
  have R2 := Lib.hid (R1.out.only (Only.of_below h3 (fun _ => False)) (fun h => h))
  have O2 := Lib.hid (O1.out.trans (Only.of_below h3 (fun k => k = b)) (fun k _ h => h))
  obtain ⟨-, -, c2, z⟩ := R2.out.cells
  have z2 := z 2
  clear h3 HP R1 O1 z
  go_wp2
  go_ret
  exact ⟨rfl, R2.out.stop, only_set O2.out 2 _⟩

set_option maxRecDepth 100000 in
set_option maxHeartbeats 1000000 in
theorem rnumber_nought (w : World) (b : Nat) (X : ByteArray) (ws : List (List UInt8)) (more ok : Bool) (hsz : 0 < X.size) (hx : (((X[0]'hsz).toNat : Int) == 48) = true) (hne : ¬ X.data.toList = [48])
    (HN : Hid (Calls Tryd.prog 60 #[.pointer (some ⟨b, 0, none⟩)] w fun e w' => e = .returned (.string X) ∧ RdL w' b ws more ok ∧ Only w w' (fun k => k = b)))
    (HP : Hid (∀ w1, Only w w1 (fun k => k = b) → Calls Tryd.prog 61 #[.string X, .int .i64 10, .int .i64 32] w1 fun e w2 => ∃ (m : Int), e = .returned (.tuple #[.int .u64 m, .nilIface]) ∧ Below w1.heap.size w1 w2)) :
    Calls Tryd.prog 50 #[.pointer (some ⟨b, 0, none⟩)] w fun e w' => e = .returned (.int .u32 0) ∧ RdL w' b ws more false ∧ Only w w' (fun k => k = b) := by
  have h0 : (0 : Int) < (X.size : Int) := by omega
  have hne' : (X.toList == [48]) = false := by rw [ByteArray.toList_eq]; simpa using hne
  clear hne
  go_enter Tryd.func50, Tryd.ntmps50
  go_wp2_with fail
  refine HN.out.mono ?_
  rintro e w1 ⟨rfl, h1, h2⟩
  have R1 := Lib.hid h1
  have O1 := Lib.hid h2
  clear h1 h2 HN
  go_wp2_with fail
  refine (HP.out w1 O1.out).mono ?_
  rintro e w2 ⟨m, rfl, h3⟩
  have R2 := Lib.hid (R1.out.only (Only.of_below h3 (fun _ => False)) (fun h => h))
  have O2 := Lib.hid (O1.out.trans (Only.of_below h3 (fun k => k = b)) (fun k _ h => h))
  obtain ⟨-, -, c2, z⟩ := R2.out.cells
  have z2 := z 2
  clear h3 HP R1 O1 z
  go_wp2
  go_ret
  exact ⟨rfl, R2.out.stop, only_set O2.out 2 _⟩

set_option maxRecDepth 100000 in
set_option maxHeartbeats 1000000 in
theorem rnumber_good (w : World) (b u : Nat) (hu : u < 4294967296) (X : ByteArray) (ws : List (List UInt8)) (more ok : Bool) (hsz : 0 < X.size) (hx : (((X[0]'hsz).toNat : Int) == 48) = false ∨ X.data.toList = [48])
    (HN : Hid (Calls Tryd.prog 60 #[.pointer (some ⟨b, 0, none⟩)] w fun e w' => e = .returned (.string X) ∧ RdL w' b ws more ok ∧ Only w w' (fun k => k = b)))
    (HP : Hid (∀ w1, Only w w1 (fun k => k = b) → Calls Tryd.prog 61 #[.string X, .int .i64 10, .int .i64 32] w1 fun e w2 => e = .returned (.tuple #[.int .u64 (u : Int), .nilIface]) ∧ Below w1.heap.size w1 w2)) :
    Calls Tryd.prog 50 #[.pointer (some ⟨b, 0, none⟩)] w fun e w' => e = .returned (.int .u32 (u : Int)) ∧ RdL w' b ws more ok ∧ Only w w' (fun k => k = b) := by
  have h0 : (0 : Int) < (X.size : Int) := by omega
  have u0 : (0 : Int) ≤ u := Int.natCast_nonneg _
  have u1 : (u : Int) < 4294967296 := by omega
  go_enter Tryd.func50, Tryd.ntmps50
  go_wp2_with fail
  refine HN.out.mono ?_
  rintro e w1 ⟨rfl, h1, h2⟩
  have R1 := Lib.hid h1
  have O1 := Lib.hid h2
  clear h1 h2 HN
  go_wp2_with fail
  refine (HP.out w1 O1.out).mono ?_
  rintro e w2 ⟨rfl, h3⟩
  have R2 := Lib.hid (R1.out.only (Only.of_below h3 (fun _ => False)) (fun h => h))
  have O2 := Lib.hid (O1.out.trans (Only.of_below h3 (fun k => k = b)) (fun k _ h => h))
  clear h3 HP R1 O1 hu
  rcases hx with hx | hx
  · go_wp2
    go_ret
    exact ⟨rfl, R2.out, O2.out⟩
  · have hx' : X.toList = [48] := by rw [ByteArray.toList_eq]; exact hx
    clear hx
    obtain ⟨q, hq⟩ : ∃ q : Bool, (((X[0]'hsz).toNat : Int) == 48) = q := ⟨_, rfl⟩
    cases q
    · go_wp2
      go_ret
      exact ⟨rfl, R2.out, O2.out⟩
    · go_wp2
      go_ret
      exact ⟨rfl, R2.out, O2.out⟩

theorem one48 {x : List UInt8} (h : x.head? = some 48) (hl : x.length = 1) : x = [48] := by
  match x, hl with
  | [c], _ => simpa using h

theorem rnumber_any (w : World) (b : Nat) (ws : List (List UInt8)) (more ok : Bool) (h : RdL w b ws more ok) (hL : LsL w) (hb : ∀ w', Only w w' (fun k => k = b) → LsL w') :
    Calls Tryd.prog 50 #[.pointer (some ⟨b, 0, none⟩)] w fun r w' => r = .returned (.int .u32 ((numOk 32 (ws.headD [])).getD 0 : Nat)) ∧ RdL w' b ws.tail (!ws.tail.isEmpty) (ok && (numOk 32 (ws.headD [])).isSome) ∧ Only w w' (fun k => k = b) := by
  have HN := rnext_any w b ws more ok h hL
  have hx : (bytesOf (ws.headD [])).size ≤ 4294967296 := by rw [bytesOf_size]; have := (unwords_tail ws).2; have := h.sz; omega
  have hX := bytesOf_data (ws.headD [])
  generalize bytesOf (ws.headD []) = X at *
  rw [← hX]
  have hlen := list_len X
  by_cases hp : ∃ u, Lib.parseUintB 32 X.data.toList = .ok u
  · obtain ⟨u, hp⟩ := hp
    have hpi := (parse_iff 32 (by omega) _ _).1 hp
    have hne : X.data.toList ≠ [] := hpi.1
    have h0 : 0 < X.size := by
      rcases Nat.eq_zero_or_pos X.size with e | e
      · rw [e] at hlen; exact absurd (List.length_eq_zero_iff.1 hlen) hne
      · exact e
    by_cases hz : X.data.toList.head? = some 48 ∧ 1 < X.data.toList.length
    · rw [show numOk 32 X.data.toList = none by unfold numOk; rw [if_pos hz]]
      simp only [Option.getD_none, Option.isSome_none, Bool.and_false]
      exact rnumber_nought w b X _ _ _ h0 ((head_is X h0).1 hz.1) (fun e => by rw [e] at hz; simp at hz) HN (fun w1 hg => (parse_yes 32 (.inr rfl) X hx u hp w1).mono fun e w2 he => ⟨_, he⟩)
    · rw [show numOk 32 X.data.toList = some u by unfold numOk; rw [if_neg hz, hp]]
      simp only [Option.getD_some, Option.isSome_some, Bool.and_true]
      refine rnumber_good w b u hpi.2.2.2 X _ _ _ h0 ?_ HN (fun w1 hg => parse_yes 32 (.inr rfl) X hx u hp w1)
      by_cases hh : X.data.toList.head? = some 48
      · right
        exact one48 hh (by have : ¬ 1 < X.data.toList.length := fun e => hz ⟨hh, e⟩; omega)
      · left
        have := mt (head_is X h0).2 hh
        simpa using this
  · have hp' : ∀ u, Lib.parseUintB 32 X.data.toList ≠ .ok u := fun u e => hp ⟨u, e⟩
    rw [show numOk 32 X.data.toList = none by
      unfold numOk
      split
      · rfl
      · split
        · rename_i u hu; exact absurd hu (hp' u)
        · rfl]
    simp only [Option.getD_none, Option.isSome_none, Bool.and_false]
    exact rnumber_bad w b X _ _ _ HN (fun w1 hg => parse_no 32 (.inr rfl) X hx hp' w1 (hb w1 hg))

end Go.Proofs.YtlnlfeninjjkmaaDoor
