/-
  What the reader of a line's words in package event does, over this seat's translation. Conditions: a reader in a block of its own, its words elsewhere (RdS); the listed variables (EvL).
-/
import Derived.Test.YtonmkmbllaahgaaDoorEv4
namespace Go.Proofs.YtonmkmbllaahgaaDoor
open Go.RowKit
set_option linter.unusedVariables false
set_option linter.unusedSimpArgs false

/-- A reader in block b: the words that weren't read yet, and whether those that were are right. -/
structure RdS (w : World) (b : Nat) (ws : List ByteArray) (ok : Bool) : Prop where
  ex : ∃ ao cap, ws.length ≤ cap ∧ cap ≤ 1000 ∧ w.heap[b]? = some (.cells #[.slice ao ws.length cap, .bool ok] 69 (0, 0)) ∧
    (ws ≠ [] → ∃ c off, ao = some ⟨c, off, none⟩ ∧ c ≠ b ∧ ∀ j (h : j < ws.length), w.cell? ⟨c, off + j, none⟩ = some (.string ws[j]))

set_option maxRecDepth 100000 in
set_option maxHeartbeats 1000000 in
theorem next_nil (w : World) (b : Nat) (ok : Bool) (ao : Option Addr) (cap : Nat) (hb : w.heap[b]? = some (.cells #[.slice ao 0 cap, .bool ok] 69 (0, 0))) :
    Calls Tryd.prog 38 #[.pointer (some ⟨b, 0, none⟩)] w fun e w' => e = .returned (.string ⟨#[]⟩) ∧ w' = w.setCell ⟨b, 1, none⟩ (.bool false) := by
  have c0 : w.cell? ⟨b, 0, none⟩ = some (.slice ao 0 cap) := by simp [World.cell?, hb]
  have c1 : w.cell? ⟨b, 1, none⟩ = some (.bool ok) := by simp [World.cell?, hb]
  have z1 : w.frozen? ⟨b, 1, none⟩ = false := by simp [World.frozen?, hb]
  clear hb
  go_enter Tryd.func38, Tryd.ntmps38
  go_wp2
  go_ret
  exact ⟨rfl, rfl⟩

set_option maxRecDepth 100000 in
set_option maxHeartbeats 1000000 in
theorem next_cons (w : World) (b : Nat) (ok : Bool) (c off n cap : Nat) (x : ByteArray) (hn : n + 1 ≤ cap) (hcap : cap ≤ 1000) (hb : w.heap[b]? = some (.cells #[.slice (some ⟨c, off, none⟩) (n + 1) cap, .bool ok] 69 (0, 0)))
    (hx : w.cell? ⟨c, off, none⟩ = some (.string x)) :
    Calls Tryd.prog 38 #[.pointer (some ⟨b, 0, none⟩)] w fun e w' => e = .returned (.string x) ∧ ∃ ao, w' = w.setCell ⟨b, 0, none⟩ (.slice ao n (cap - 1)) ∧ (n ≠ 0 → ao = some ⟨c, off + 1, none⟩) := by
  have c0 : w.cell? ⟨b, 0, none⟩ = some (.slice (some ⟨c, off, none⟩) (n + 1) cap) := by simp [World.cell?, hb]
  have c1 : w.cell? ⟨b, 1, none⟩ = some (.bool ok) := by simp [World.cell?, hb]
  have z1 : w.frozen? ⟨b, 0, none⟩ = false := by simp [World.frozen?, hb]
  clear hb
  have h1 : ((n : Int) + 1 == 0) = false := by simp; omega
  have h2 : (0 : Int) < (n : Int) + 1 := by omega
  go_enter Tryd.func38, Tryd.ntmps38
  go_wp2
  · go_ret
    exact ⟨rfl, _, rfl, fun h => by omega⟩
  · go_ret
    exact ⟨rfl, _, rfl, fun _ => rfl⟩

theorem grow_cell (w : World) (b i : Nat) (v : Value) : w.grownBy (w.setCell ⟨b, i, none⟩ v) (some b) :=
  ⟨rfl, rfl, rfl, by simp, fun k _ hk => heap_setCell_other w _ k v (fun h => hk (by simp [h]))⟩

theorem grown_trans {w w1 w2 : World} {row : Option Nat} (h : w.grownBy w1 row) (k : w1.grownBy w2 row) : w.grownBy w2 row :=
  ⟨k.os.trans h.os, k.tape.trans h.tape, k.output.trans h.output, Nat.le_trans h.size k.size, fun i hi hr => (k.block i (by have := h.size; omega) hr).trans (h.block i hi hr)⟩
theorem grown_below {w w1 : World} (row : Option Nat) (h : Below w.heap.size w w1) : w.grownBy w1 row :=
  ⟨h.os, h.tape, h.output, h.size, fun i hi _ => h.block i hi⟩
theorem below_grown {w0 w w1 : World} {B b : Nat} (h : Below B w0 w) (hB : B ≤ w.heap.size) (hb : B ≤ b) (k : w.grownBy w1 (some b)) : Below B w0 w1 :=
  h.grown k hB (fun i hi => by cases hi; exact hb)

/-- The blocks of the listed variables lie ahead of all others. -/
def evTop : Nat := max 0 (max 1 (max 4 (max 5 6)))

theorem EvL.powlt {w : World} (h : EvL w) : 1 < w.heap.size := by
  have hc := h.pow.cell (g := 1) (by kernel_rfl) 0 (by decide)
  have := World.block_lt_of_cell? w _ hc
  simpa using this

theorem EvL.top {w : World} (h : EvL w) : evTop < w.heap.size := by
  have h0 := World.block_lt_of_cell? w _ (h.row 0 (by omega)).1
  have h1 := h.powlt
  obtain ⟨m, hm⟩ := h.mx
  obtain ⟨a, b, hs⟩ := h.syn
  obtain ⟨c, d, hr⟩ := h.rng
  have h2 := World.block_lt_of_cell? w _ hm
  have h3 := World.block_lt_of_cell? w _ hs
  have h4 := World.block_lt_of_cell? w _ hr
  simp only at h0 h2 h3 h4
  unfold evTop
  omega

theorem EvL.kept {w w' : World} {b : Nat} (h : EvL w) (hg : w.grownBy w' (some b)) (hb : evTop < b) : EvL w' := by
  have hc : ∀ {g o : Nat} {v : Value}, g ≤ evTop → w.cell? ⟨g, o, none⟩ = some v → w'.cell? ⟨g, o, none⟩ = some v := by
    intro g o v hg' hc
    have hlt := World.block_lt_of_cell? w _ hc
    rw [World.cell?_of_block (w := w) (w' := w') (hg.block g hlt (by simp; omega))]
    exact hc
  refine ⟨fun k hk => ?_, ?_, ?_, ?_, ?_⟩
  · obtain ⟨a, b, c, d⟩ := h.row k hk
    have : 0 ≤ evTop := by unfold evTop; omega
    exact ⟨hc this a, hc this b, hc this c, hc this d⟩
  · have hp := h.pow
    have hlt := h.powlt
    have hg2 : Tryd.prog.globalNamed "internal/strconv.uint64pow10" = some 1 := by kernel_rfl
    unfold Lib.TabIs World.var? at hp ⊢
    rw [hg2] at hp ⊢
    simp only [Option.bind_some] at hp ⊢
    rw [hg.block _ hlt (by have : 1 ≤ evTop := by unfold evTop; omega
                           simp; omega)]
    exact hp
  · obtain ⟨m, hm⟩ := h.mx; exact ⟨m, hc (by unfold evTop; omega) hm⟩
  · obtain ⟨a, b, hm⟩ := h.syn; exact ⟨a, b, hc (by unfold evTop; omega) hm⟩
  · obtain ⟨a, b, hm⟩ := h.rng; exact ⟨a, b, hc (by unfold evTop; omega) hm⟩

theorem RdS.lt {w : World} {b : Nat} {ws : List ByteArray} {ok : Bool} (h : RdS w b ws ok) : b < w.heap.size := by
  obtain ⟨ao, cap, _, _, hb, _⟩ := h.ex
  rcases Nat.lt_or_ge b w.heap.size with h' | h'
  · exact h'
  · rw [Array.getElem?_eq_none h'] at hb; cases hb

/-- A reader beside what turned nothing of it. -/
theorem RdS.below {w w' : World} {b : Nat} {ws : List ByteArray} {ok : Bool} (h : RdS w b ws ok) (hb : Below w.heap.size w w') : RdS w' b ws ok := by
  have hlt := h.lt
  obtain ⟨ao, cap, h1, h2, h3, h4⟩ := h.ex
  refine ⟨ao, cap, h1, h2, (hb.block b hlt).trans h3, fun hne => ?_⟩
  obtain ⟨c, off, h5, h6, h7⟩ := h4 hne
  exact ⟨c, off, h5, h6, fun j hj => cell_kept hb (h7 j hj)⟩

/-- A reader beside a store into another block. -/
theorem RdS.beside {w : World} {b g o : Nat} {ws : List ByteArray} {ok : Bool} {v u : Value} (h : RdS w b ws ok) (hne : g ≠ b) (hu : w.cell? ⟨g, o, none⟩ = some u) (hs : ∀ s, u ≠ .string s) : RdS (w.setCell ⟨g, o, none⟩ v) b ws ok := by
  obtain ⟨ao, cap, h1, h2, h3, h4⟩ := h.ex
  refine ⟨ao, cap, h1, h2, (heap_setCell_other w _ b v (by simp; omega)).trans h3, fun hn => ?_⟩
  obtain ⟨c, off, h5, h6, h7⟩ := h4 hn
  refine ⟨c, off, h5, h6, fun j hj => ?_⟩
  rw [World.cell?_setCell_other _ _ _ _ (fun e => ?_)]
  · exact h7 j hj
  · rw [e, h7 j hj] at hu
    exact hs _ (Option.some.inj hu).symm

/-- The next word: the word, what is left, whether all is right. -/
def nextR : List ByteArray → Bool → ByteArray × List ByteArray × Bool
  | [], _ => (⟨#[]⟩, [], false)
  | x :: t, ok => (x, t, ok)

theorem next_any (w : World) (b : Nat) (ws : List ByteArray) (ok : Bool) (h : RdS w b ws ok) :
    Calls Tryd.prog 38 #[.pointer (some ⟨b, 0, none⟩)] w fun e w' => e = .returned (.string (nextR ws ok).1) ∧ RdS w' b (nextR ws ok).2.1 (nextR ws ok).2.2 ∧ w.grownBy w' (some b) := by
  obtain ⟨ao, cap, h1, h2, h3, h4⟩ := h.ex
  cases ws with
  | nil =>
    refine (next_nil w b ok ao cap h3).mono fun e w' he => ?_
    obtain ⟨rfl, rfl⟩ := he
    refine ⟨rfl, ⟨ao, cap, h1, h2, ?_, fun hne => absurd rfl hne⟩, grow_cell w b 1 _⟩
    have := heap_setCell_same w b 1 _ _ (.bool false) h3
    simpa [nextR] using this
  | cons x t =>
    obtain ⟨c, off, rfl, hcb, hc⟩ := h4 (by simp)
    have hx : w.cell? ⟨c, off, none⟩ = some (.string x) := hc 0 (by simp)
    refine (next_cons w b ok c off t.length cap x (by simpa using h1) h2 h3 hx).mono fun e w' he => ?_
    obtain ⟨rfl, ao', rfl, ha⟩ := he
    refine ⟨rfl, ⟨ao', cap - 1, by simp at h1; simp [nextR]; omega, by omega, ?_, fun hne => ?_⟩, grow_cell w b 0 _⟩
    · have := heap_setCell_same w b 0 _ _ (.slice ao' t.length (cap - 1)) h3
      simpa [nextR] using this
    · refine ⟨c, off + 1, ha (fun e => hne (List.length_eq_zero_iff.1 e)), hcb, fun j hj => ?_⟩
      rw [World.cell?_setCell_other _ _ _ _ (fun e => hcb (congrArg Addr.block e).symm)]
      have := hc (j + 1) (by simp [nextR] at hj ⊢; exact hj)
      rw [show off + (j + 1) = off + 1 + j by omega] at this
      exact this

/-- The next number: the number, what is left, whether all is right. -/
def numR (B : Nat) (ws : List ByteArray) (ok : Bool) : Nat × List ByteArray × Bool :=
  match numOk B (nextR ws ok).1.data.toList with
  | some n => (n, (nextR ws ok).2.1, (nextR ws ok).2.2)
  | none => (0, (nextR ws ok).2.1, false)

/-- The words of a reader are no longer than this. -/
def wordsFit (ws : List ByteArray) : Prop := ∀ x ∈ ws, x.size ≤ 4294967296
theorem next_fit {ws : List ByteArray} {ok : Bool} (h : wordsFit ws) : (nextR ws ok).1.size ≤ 4294967296 ∧ wordsFit (nextR ws ok).2.1 := by
  cases ws with
  | nil => exact ⟨by simp [nextR, ByteArray.size], fun x hx => by simp [nextR] at hx⟩
  | cons x t => exact ⟨h x (by simp), fun y hy => h y (by simp [nextR] at hy; simp [hy])⟩

theorem RdS.stop {w : World} {b : Nat} {ws : List ByteArray} {ok : Bool} (h : RdS w b ws ok) : RdS (w.setCell ⟨b, 1, none⟩ (.bool false)) b ws false := by
  obtain ⟨ao, cap, h1, h2, h3, h4⟩ := h.ex
  refine ⟨ao, cap, h1, h2, ?_, fun hn => ?_⟩
  · have := heap_setCell_same w b 1 _ _ (.bool false) h3
    simpa using this
  · obtain ⟨c, off, h5, h6, h7⟩ := h4 hn
    refine ⟨c, off, h5, h6, fun j hj => ?_⟩
    rw [World.cell?_setCell_other _ _ _ _ (fun e => h6 (congrArg Addr.block e).symm)]
    exact h7 j hj
theorem RdS.c1 {w : World} {b : Nat} {ws : List ByteArray} {ok : Bool} (h : RdS w b ws ok) : w.cell? ⟨b, 1, none⟩ = some (.bool ok) ∧ w.frozen? ⟨b, 1, none⟩ = false := by
  obtain ⟨ao, cap, h1, h2, h3, h4⟩ := h.ex
  exact ⟨by simp [World.cell?, h3], by simp [World.frozen?, h3]⟩

set_option maxRecDepth 100000 in
set_option maxHeartbeats 1000000 in
theorem number_err (bits : Int) (w : World) (b : Nat) (x : ByteArray) (ws : List ByteArray) (ok : Bool)
    (HN : Hid (Calls Tryd.prog 38 #[.pointer (some ⟨b, 0, none⟩)] w fun e w' => e = .returned (.string x) ∧ RdS w' b ws ok ∧ w.grownBy w' (some b)))
    (HP : Hid (∀ w1, w.grownBy w1 (some b) → Calls Tryd.prog 45 #[.string x, .int .i64 10, .int .i64 bits] w1 fun e w2 => ∃ (m : Int) (t : TypeId) (p : Addr), e = .returned (.tuple #[.int .u64 m, .iface t (.pointer (some p))]) ∧ Below w1.heap.size w1 w2)) :
    Calls Tryd.prog 37 #[.pointer (some ⟨b, 0, none⟩), .int .i64 bits] w fun e w' => e = .returned (.int .u64 0) ∧ RdS w' b ws false ∧ w.grownBy w' (some b) := by
  go_enter Tryd.func37, Tryd.ntmps37
  go_wp2_with fail
  refine HN.out.mono ?_
  rintro e w1 ⟨rfl, h1, h2⟩
  have R1 := Lib.hid h1
  have G1 := Lib.hid h2
  clear h1 h2 HN
  go_wp2_with fail
  refine (HP.out w1 G1.out).mono ?_
  rintro e w2 ⟨m, t, p, rfl, h3⟩
  have R2 := Lib.hid (R1.out.below h3)
  have G2 := Lib.hid (grown_trans G1.out (grown_below (some b) h3))
  obtain ⟨c1, z1⟩ := R2.out.c1
  clear h3 HP R1 G1
  go_wp2
  go_ret
  exact ⟨rfl, R2.out.stop, grown_trans G2.out (grow_cell w2 b 1 _)⟩

set_option maxRecDepth 100000 in
set_option maxHeartbeats 1000000 in
theorem number_nought (bits : Int) (w : World) (b : Nat) (x : ByteArray) (ws : List ByteArray) (ok : Bool) (hsz : 1 < x.size) (hx : ∀ h : 0 < x.size, (((x[0]'h).toNat : Int) == 48) = true)
    (HN : Hid (Calls Tryd.prog 38 #[.pointer (some ⟨b, 0, none⟩)] w fun e w' => e = .returned (.string x) ∧ RdS w' b ws ok ∧ w.grownBy w' (some b)))
    (HP : Hid (∀ w1, w.grownBy w1 (some b) → Calls Tryd.prog 45 #[.string x, .int .i64 10, .int .i64 bits] w1 fun e w2 => ∃ (m : Int), e = .returned (.tuple #[.int .u64 m, .nilIface]) ∧ Below w1.heap.size w1 w2)) :
    Calls Tryd.prog 37 #[.pointer (some ⟨b, 0, none⟩), .int .i64 bits] w fun e w' => e = .returned (.int .u64 0) ∧ RdS w' b ws false ∧ w.grownBy w' (some b) := by
  have h1 : (1 : Int) < (x.size : Int) := by omega
  have h0 : (0 : Int) < (x.size : Int) := by omega
  go_enter Tryd.func37, Tryd.ntmps37
  go_wp2_with fail
  refine HN.out.mono ?_
  rintro e w1 ⟨rfl, h1', h2⟩
  have R1 := Lib.hid h1'
  have G1 := Lib.hid h2
  clear h1' h2 HN
  go_wp2_with fail
  refine (HP.out w1 G1.out).mono ?_
  rintro e w2 ⟨m, rfl, h3⟩
  have R2 := Lib.hid (R1.out.below h3)
  have G2 := Lib.hid (grown_trans G1.out (grown_below (some b) h3))
  obtain ⟨c1, z1⟩ := R2.out.c1
  clear h3 HP R1 G1
  go_wp2
  go_ret
  exact ⟨rfl, R2.out.stop, grown_trans G2.out (grow_cell w2 b 1 _)⟩

set_option maxRecDepth 100000 in
set_option maxHeartbeats 1000000 in
theorem number_ok (bits : Int) (w : World) (b u : Nat) (x : ByteArray) (ws : List ByteArray) (ok : Bool) (hsz : 0 < x.size) (hx : (∀ h : 0 < x.size, (((x[0]'h).toNat : Int) == 48) = false) ∨ x.size = 1)
    (HN : Hid (Calls Tryd.prog 38 #[.pointer (some ⟨b, 0, none⟩)] w fun e w' => e = .returned (.string x) ∧ RdS w' b ws ok ∧ w.grownBy w' (some b)))
    (HP : Hid (∀ w1, w.grownBy w1 (some b) → Calls Tryd.prog 45 #[.string x, .int .i64 10, .int .i64 bits] w1 fun e w2 => e = .returned (.tuple #[.int .u64 (u : Int), .nilIface]) ∧ Below w1.heap.size w1 w2)) :
    Calls Tryd.prog 37 #[.pointer (some ⟨b, 0, none⟩), .int .i64 bits] w fun e w' => e = .returned (.int .u64 (u : Int)) ∧ RdS w' b ws ok ∧ w.grownBy w' (some b) := by
  have h0 : (0 : Int) < (x.size : Int) := by omega
  go_enter Tryd.func37, Tryd.ntmps37
  go_wp2_with fail
  refine HN.out.mono ?_
  rintro e w1 ⟨rfl, h1', h2⟩
  have R1 := Lib.hid h1'
  have G1 := Lib.hid h2
  clear h1' h2 HN
  go_wp2_with fail
  refine (HP.out w1 G1.out).mono ?_
  rintro e w2 ⟨rfl, h3⟩
  have R2 := Lib.hid (R1.out.below h3)
  have G2 := Lib.hid (grown_trans G1.out (grown_below (some b) h3))
  clear h3 HP R1 G1
  rcases hx with hx | hx
  · go_wp2
    go_ret
    exact ⟨rfl, R2.out, G2.out⟩
  · have hd : decide ((1 : Int) < (x.size : Int)) = false := by simp; omega
    obtain ⟨q, hq⟩ : ∃ q : Bool, ∀ h : 0 < x.size, (((x[0]'h).toNat : Int) == 48) = q := ⟨(((x[0]'hsz).toNat : Int) == 48), fun _ => rfl⟩
    cases q
    · go_wp2
      go_ret
      exact ⟨rfl, R2.out, G2.out⟩
    · go_wp2
      go_ret
      exact ⟨rfl, R2.out, G2.out⟩

end Go.Proofs.YtonmkmbllaahgaaDoor
