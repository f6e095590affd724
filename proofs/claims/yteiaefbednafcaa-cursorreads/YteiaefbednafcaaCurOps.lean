/-
  What a walk is told of a slice of calls (the statement's own type Op: two ints and a text) that came in, and the function that counts whether there is more than is played. No condition but the form's own bound on what is read.
-/
import Derived.Test.YteiaefbednafcaaCurView
import Derived.Deep.Slices
namespace Go.Proofs.Yteiaefbednafcaa
open Go.ChangeShapes Go.WideShapes Go.ChangeAt Go.RowKit
open Go.ChangeMaps (open_string shut_string)
set_option linter.unusedVariables false

/-- The i-th call: its three cells. -/
structure SeenOps (w : World) (ao : Option Addr) (len cap : Nat) (f : Nat → Int × Int × ByteArray) : Prop where
  mx : len ≤ maxLen
  sz : ∀ i, (f i).2.2.size ≤ maxLen
  row : ∀ i, i < len → ∃ b off, ao = some ⟨b, off, none⟩ ∧ b < w.heap.size ∧ ∀ j, j < len →
    w.cell? ⟨b, off + j * 3, none⟩ = some (.int .i64 (f j).1) ∧ w.cell? ⟨b, off + j * 3 + 1, none⟩ = some (.int .i64 (f j).2.1) ∧ w.cell? ⟨b, off + j * 3 + 2, none⟩ = some (.string (f j).2.2)

theorem SeenOps.below {w w1 : World} {ao : Option Addr} {len cap : Nat} {f : Nat → Int × Int × ByteArray} (h : SeenOps w ao len cap f) (hb : Below w.heap.size w w1) : SeenOps w1 ao len cap f := by
  refine ⟨h.mx, h.sz, fun i hi => ?_⟩
  obtain ⟨b, off, h1, h2, h3⟩ := h.row i hi
  refine ⟨b, off, h1, by have := hb.size; omega, fun j hj => ?_⟩
  obtain ⟨a0, a1, a2⟩ := h3 j hj
  exact ⟨(hb.cell (p := ⟨b, off + j * 3, none⟩) h2).trans a0, (hb.cell (p := ⟨b, off + j * 3 + 1, none⟩) h2).trans a1, (hb.cell (p := ⟨b, off + j * 3 + 2, none⟩) h2).trans a2⟩

theorem op_cells {H : Type} {enc : TypeId × Value → H} {W : World} {fuel : Nat} {cs : List Value} {x : DataW H × List MemPlace}
    (h : DataW.trod enc Try.prog W 0 (fun _ => true) true fuel 28 cs = some x) : ∃ y : Int × Int × ByteArray, cs = [.int .i64 y.1, .int .i64 y.2.1, .string y.2.2] ∧ y.2.2.size ≤ maxLen := by
  obtain ⟨xs, n, _, _, hl, hxl, hf⟩ := DataW.trod_struct Try.underlying28 h
  rw [show Try.prog.cellsOf 28 = 3 from by kernel_rfl] at hl
  match cs, hl with
  | [c0, c1, c2], _ =>
    have f0 : DataW.trod enc Try.prog W 0 (fun _ => true) true n 3 (([c0, c1, c2].drop 0).take (Try.prog.cellsOf 3)) = xs[0]? := hf 0 _ rfl
    have f1 : DataW.trod enc Try.prog W 0 (fun _ => true) true n 3 (([c0, c1, c2].drop 1).take (Try.prog.cellsOf 3)) = xs[1]? := hf 1 _ rfl
    have f2 : DataW.trod enc Try.prog W 0 (fun _ => true) true n 9 (([c0, c1, c2].drop 2).take (Try.prog.cellsOf 9)) = xs[2]? := hf 2 _ rfl
    rw [show Try.prog.cellsOf 3 = 1 from by kernel_rfl] at f0 f1
    rw [show Try.prog.cellsOf 9 = 1 from by kernel_rfl] at f2
    have hx : xs.length = 3 := hxl
    match xs, hx with
    | [y0, y1, y2], _ =>
      obtain ⟨k, hk, _, _⟩ := DataW.trod_int Try.underlying3 f0
      obtain ⟨m, hm, _, _⟩ := DataW.trod_int Try.underlying3 f1
      obtain ⟨s, hs, _, hsz⟩ := DataW.trod_string Try.underlying9 f2
      simp at hk hm hs
      exact ⟨(k, m, s), by rw [hk, hm, hs], hsz⟩

theorem open_ops {H : Type} {enc : TypeId × Value → H} {W : World} {ao : Option Addr} {len cap : Nat} {d : DataW H} {ps : List MemPlace}
    (h : DataW.Trod enc Try.prog W 0 (fun _ => true) true 22 (.slice ao len cap) d ps) :
    ∃ f, SeenOps W ao len cap f ∧ True ∧ Shows d len := by
  obtain ⟨fuel, hf⟩ := h
  rcases Deep.open_slice Try.underlying22 hf with ⟨hcs, _⟩ | ⟨x, l, c, m, n, D, Pl, hcs, _, hl, hm, hmm, hx, hi⟩
  · simp [Value.cells] at hcs
    obtain ⟨rfl, rfl, rfl⟩ := hcs
    exact ⟨fun _ => (0, 0, ⟨#[]⟩), ⟨by simp, fun _ => by simp [ByteArray.size], fun i hi => absurd hi (by omega)⟩, trivial, .inl rfl⟩
  · simp [Value.cells] at hcs
    obtain ⟨rfl, rfl, rfl⟩ := hcs
    simp only [Prod.mk.injEq] at hx
    simp only [if_true] at hmm
    subst hmm
    rw [show Try.prog.cellsOf 28 = 3 from by kernel_rfl] at hi
    have key : ∀ i, ∃ y : Int × Int × ByteArray, y.2.2.size ≤ maxLen ∧ (i < m → W.cell? (x.add (i * 3)) = some (.int .i64 y.1) ∧ W.cell? ((x.add (i * 3)).add 1) = some (.int .i64 y.2.1) ∧ W.cell? ((x.add (i * 3)).add 2) = some (.string y.2.2)) := by
      intro i
      by_cases him : i < m
      · obtain ⟨cs', hc, ht⟩ := hi i him
        obtain ⟨y, rfl, hy⟩ := op_cells ht
        obtain ⟨_, _, hat⟩ := World.cells?_some hc
        refine ⟨y, hy, fun _ => ⟨?_, ?_, ?_⟩⟩
        · have := hat 0 (by omega)
          simpa [Addr.add] using this
        · simpa using hat 1 (by omega)
        · simpa using hat 2 (by omega)
      · exact ⟨(0, 0, ⟨#[]⟩), by simp [ByteArray.size], fun h => absurd h him⟩
    obtain ⟨f, hf⟩ := Classical.axiomOfChoice key
    refine ⟨f, ⟨by omega, fun i => (hf i).1, fun i hil => ?_⟩, trivial, .inr ⟨_, _, hx.1, by simp⟩⟩
    have h0 := ((hf 0).2 (by omega)).1
    obtain ⟨b, o, sp⟩ := x
    cases sp with
    | some z =>
      simp only [Addr.add, World.cell?] at h0
      split at h0 <;> simp at h0
    | none =>
      have ha : ∀ o j, (⟨b, o, none⟩ : Addr).add j = ⟨b, o + j, none⟩ := fun o j => by unfold Addr.add; split <;> simp_all
      refine ⟨b, o, rfl, World.block_lt_of_cell? W _ h0, fun j hj => ?_⟩
      have := (hf j).2 (by omega)
      simpa only [ha] using this

/-- What is counted of the first k calls. -/
def tot (f : Nat → Int × Int × ByteArray) : Nat → Nat
  | 0 => 0
  | k + 1 => tot f k + min (f k).2.2.size 65536
theorem tot_le (f : Nat → Int × Int × ByteArray) : ∀ k, tot f k ≤ 65536 * k
  | 0 => by simp [tot]
  | k + 1 => by have := tot_le f k; simp only [tot]; omega
theorem tot_mono (f : Nat → Int × Int × ByteArray) (n : Nat) : ∀ d, tot f n ≤ tot f (n + d)
  | 0 => Nat.le_refl _
  | d + 1 => by have h1 := tot_mono f n d; have h2 : tot f (n + (d + 1)) = tot f (n + d) + min (f (n + d)).2.2.size 65536 := rfl; omega
theorem one_small (f : Nat → Int × Int × ByteArray) (len k : Nat) (hk : k < len) (h : tot f len ≤ 2000) : (f k).2.2.size ≤ 2000 := by
  have := tot_mono f (k + 1) (len - (k + 1))
  rw [show k + 1 + (len - (k + 1)) = len from by omega] at this
  simp only [tot] at this
  omega

set_option maxHeartbeats 1000000 in
theorem long_any (s : ByteArray) (hs : s.size ≤ maxLen) (ao : Option Addr) (len cap : Nat) (f : Nat → Int × Int × ByteArray) (hl : len * 32 ≤ 140737488351232) (w : World) (hseen : SeenOps w ao len cap f) :
    Calls Try.prog 9 #[.string s, .slice ao len cap] w fun e w' => e = .returned (.bool (decide (1000 < s.size ∨ 2000 < len + tot f len))) ∧ Below w.heap.size w w' := by
  unfold maxLen at hs
  have Hs := Lib.hid hseen
  clear hseen
  go_enter Try.func9, Try.ntmps9
  go_wp2_with fail
  go_loopw [5, 12] (fun n i wr => ∃ k : Nat, k ≤ len ∧ i = .int .i64 k ∧ n = .int .i64 ((len + tot f k : Nat) : Int) ∧ Below w.heap.size w wr) (fun _ i _ => len - (intOf i).toNat)
  case atStart => exact ⟨0, Nat.zero_le _, rfl, rfl, Below.refl _ _⟩
  case round =>
    obtain ⟨k, hk, rfl, rfl, b1⟩ := hrel
    have ht := tot_le f k
    have hz := b1.size
    by_cases hlt : k < len
    · obtain ⟨b, off, hao, hbw, hcell⟩ := Hs.out.row k hlt
      subst hao
      obtain ⟨h0, h1, h2⟩ := hcell k hlt
      have c0 := (b1.cell (p := ⟨b, off + k * 3, none⟩) hbw).trans h0
      have c1 := (b1.cell (p := ⟨b, off + k * 3 + 1, none⟩) hbw).trans h1
      have c2 := (b1.cell (p := ⟨b, off + k * 3 + 2, none⟩) hbw).trans h2
      have hsz := Hs.out.sz k
      unfold maxLen at hsz
      have Ht := Lib.hid (show tot f (k + 1) = tot f k + min (f k).2.2.size 65536 from rfl)
      clear hcell h0 h1 h2
      generalize (f k).2.2 = tx at *
      go_wp2
      go_roundw
      case rel => exact ⟨k + 1, by omega, by go_num, by rw [Ht.out]; congr 1; omega, b1.alloc hz _⟩
      case measure => simp [intOf]; omega
    · have hkl : k = len := by omega
      subst hkl
      clear Hs
      by_cases h1 : 1000 < s.size
      · have hd1 : decide ((1000 : Int) < (s.size : Int)) = true := by simp; omega
        have HD := Lib.hid (show decide (1000 < s.size ∨ 2000 < k + tot f k) = true from by simp; omega)
        go_wp2
        go_ret
        rw [HD.out]
        exact ⟨rfl, b1⟩
      · have hd1 : decide ((1000 : Int) < (s.size : Int)) = false := by simp; omega
        by_cases h2 : 2000 < k + tot f k
        · have hd2 : decide ((2000 : Int) < (k : Int) + (tot f k : Int)) = true := by simp; omega
          have HD := Lib.hid (show decide (1000 < s.size ∨ 2000 < k + tot f k) = true from by simp; omega)
          go_wp2
          go_ret
          rw [HD.out]
          exact ⟨rfl, b1⟩
        · have hd2 : decide ((2000 : Int) < (k : Int) + (tot f k : Int)) = false := by simp; omega
          have HD := Lib.hid (show decide (1000 < s.size ∨ 2000 < k + tot f k) = false from by simp; omega)
          go_wp2
          go_ret
          rw [HD.out]
          exact ⟨rfl, b1⟩

end Go.Proofs.Yteiaefbednafcaa
