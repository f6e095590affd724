/-
  Texts of one byte, slices of calls that came in, the function that counts whether there is more than is played, and alike. Over this seat's translation.
-/
import Derived.Test.YtjdnjkniiippkaaRi10
import Derived.Test.YtjdnjkniiippkaaView
import Derived.Deep.Slices
import Derived.Lib.ConvBytes
namespace Go.Proofs.Ytjdnjkniiippkaa
open Go.ChangeShapes Go.WideShapes Go.ChangeAt Go.RowKit
open Go.ChangeMaps (open_string shut_string)
set_option linter.unusedVariables false

/-- A text of one byte, so often. -/
def rep (c : UInt8) (n : Nat) : ByteArray := ⟨(List.replicate n c).toArray⟩
theorem rep_size (c : UInt8) (n : Nat) : (rep c n).size = n := by show (List.replicate n c).toArray.size = n; simp
def filled (c : UInt8) (n k : Nat) : List Value := List.replicate k (Value.int .u8 (c.toNat : Int)) ++ List.replicate (n - k) (Value.int .u8 0)
theorem filled_set (c : UInt8) (n k : Nat) (hk : k < n) : (filled c n k).set k (Value.int .u8 (c.toNat : Int)) = filled c n (k + 1) := by
  unfold filled
  rw [List.set_append_right _ _ (by simp)]
  simp only [List.length_replicate, Nat.sub_self]
  rw [show n - k = (n - (k + 1)) + 1 by omega, List.replicate_succ, List.set_cons_zero, List.replicate_succ', List.append_assoc]
  rfl

set_option maxHeartbeats 1000000 in
theorem text_rep (c : UInt8) (y : Int) (hy : y = (c.toNat : Int)) (n : Nat) (hn : n ≤ 100000) (w : World) :
    Calls Try.prog 20 #[.int .u8 y, .int .i64 n] w fun e w' => e = .returned (.string (rep c n)) ∧ Below w.heap.size w w' := by
  obtain ⟨i0, hi, hz0, hz1, hz2⟩ := info_parts Try.infoB
  subst hy
  go_enter Try.func20, Try.ntmps20
  go_wp2_with (at_make; refine wpList_make_full _ rfl _ _ 52 rfl w.heap.size 5 i0 (.int .u8 0) 1 Try.underlying52 hi hz0 hz1 .i64 .i64 n n n rfl rfl rfl rfl (by rw [hz2]; omega) (by unfold maxLen; omega) (Nat.le_refl _) ?_)
  intro w1 hown hg
  have h0 : w1.ownsRow w.heap.size 5 1 (.slice (some ⟨w.heap.size, 0, none⟩) n n) n (filled c n 0) := by
    rw [show filled c n 0 = (madeCells #[Value.int .u8 0] n).toList by rw [toList_madeCells_one]; rfl]
    simpa using hown
  have b1 : Below w.heap.size w w1 := (Below.refl _ _).grown hg (Nat.le_refl _) (fun k hk => by cases hk)
  have H0 := Lib.hid h0
  have B1 := Lib.hid b1
  clear hown hg h0 b1
  go_wp2_with fail
  go_loopw [11] (fun i wr => ∃ k : Nat, k ≤ n ∧ i = .int .i64 k ∧ wr.ownsRow w.heap.size 5 1 (.slice (some ⟨w.heap.size, 0, none⟩) n n) n (filled c n k) ∧ Below w.heap.size w wr) (fun i _ => n - (intOf i).toNat)
  case atStart => exact ⟨0, Nat.zero_le _, rfl, H0.out, B1.out⟩
  case round =>
    obtain ⟨k, hk, rfl, hown, hb⟩ := hrel
    clear H0 B1
    by_cases hlt : k < n
    · have f0 := hown.frozenAt k
      have c0 := hown.cellAt k (by omega)
      have hget : (filled c n k)[k]? = some (.int .u8 0) := by
        unfold filled
        rw [List.getElem?_append_right (by simp), List.getElem?_replicate, if_pos (by simp; omega)]
      rw [hget] at c0
      have hst := hown.stored k (.int .u8 (c.toNat : Int))
      rw [filled_set c n k hlt] at hst
      have Hst := Lib.hid hst.1
      have Hb := Lib.hid (hb.setCell (p := ⟨w.heap.size, k, none⟩) (Nat.le_refl _) (.int .u8 (c.toNat : Int)))
      clear hown hst hget hb
      go_wp2
      go_roundw
      case rel => exact ⟨k + 1, by omega, by go_num, Hst.out, Hb.out⟩
      case measure => simp [intOf]; omega
    · obtain rfl : k = n := by omega
      have hcv := run_convert_bytes_back (P := Try.prog) wr 52 9 5 ⟨w.heap.size, 0, none⟩ k (List.replicate k c) Try.underlying52 Try.underlying5 Try.underlying9 (fun j hj => by
        have hj' : j < k := by simpa using hj
        refine hown.cells (g := w.heap.size) rfl j _ ?_
        unfold filled
        rw [List.getElem?_append_left (by simpa using hj'), List.getElem?_replicate, if_pos hj']
        simp)
      rw [List.length_replicate] at hcv
      have Hb := Lib.hid hb
      clear hown hb
      go_wp2
      go_ret
      exact ⟨rfl, Hb.out⟩

/-- The i-th call: its three cells. -/
structure SeenOps (w : World) (ao : Option Addr) (len cap : Nat) (f : Nat → Int × Int × ByteArray) : Prop where
  mx : len ≤ maxLen
  sz : ∀ i, (f i).2.2.size ≤ maxLen
  nb : ∀ i, (f i).2.1 ≤ 9223372036854775807
  row : ∀ i, i < len → ∃ b off, ao = some ⟨b, off, none⟩ ∧ b < w.heap.size ∧ ∀ j, j < len →
    w.cell? ⟨b, off + j * 3, none⟩ = some (.int .i64 (f j).1) ∧ w.cell? ⟨b, off + j * 3 + 1, none⟩ = some (.int .i64 (f j).2.1) ∧ w.cell? ⟨b, off + j * 3 + 2, none⟩ = some (.string (f j).2.2)

theorem SeenOps.below {w w1 : World} {ao : Option Addr} {len cap : Nat} {f : Nat → Int × Int × ByteArray} (h : SeenOps w ao len cap f) (hb : Below w.heap.size w w1) : SeenOps w1 ao len cap f := by
  refine ⟨h.mx, h.sz, h.nb, fun i hi => ?_⟩
  obtain ⟨b, off, h1, h2, h3⟩ := h.row i hi
  refine ⟨b, off, h1, by have := hb.size; omega, fun j hj => ?_⟩
  obtain ⟨a0, a1, a2⟩ := h3 j hj
  exact ⟨(hb.cell (p := ⟨b, off + j * 3, none⟩) h2).trans a0, (hb.cell (p := ⟨b, off + j * 3 + 1, none⟩) h2).trans a1, (hb.cell (p := ⟨b, off + j * 3 + 2, none⟩) h2).trans a2⟩

theorem wf_top {n : Int} (h : (Lit.int .i64 n).wf = true) : n ≤ 9223372036854775807 := by
  simp [Lit.wf, IntKind.min, IntKind.max, IntKind.bits, IntKind.signed] at h
  omega

theorem op_cells {H : Type} {enc : TypeId × Value → H} {W : World} {fuel : Nat} {cs : List Value} {x : DataW H × List MemPlace}
    (h : DataW.trod enc Try.prog W 0 (fun _ => true) true fuel 35 cs = some x) : ∃ y : Int × Int × ByteArray, cs = [.int .i64 y.1, .int .i64 y.2.1, .string y.2.2] ∧ y.2.2.size ≤ maxLen ∧ y.2.1 ≤ 9223372036854775807 := by
  obtain ⟨xs, n, _, _, hl, hxl, hf⟩ := DataW.trod_struct Try.underlying35 h
  rw [show Try.prog.cellsOf 35 = 3 from by kernel_rfl] at hl
  match cs, hl with
  | [c0, c1, c2], _ =>
    have f0 : DataW.trod enc Try.prog W 0 (fun _ => true) true n 3 (([c0, c1, c2].drop 0).take (Try.prog.cellsOf 3)) = xs[0]? := hf 0 _ rfl
    have f1 : DataW.trod enc Try.prog W 0 (fun _ => true) true n 3 (([c0, c1, c2].drop 1).take (Try.prog.cellsOf 3)) = xs[1]? := hf 1 _ rfl
    have f2 : DataW.trod enc Try.prog W 0 (fun _ => true) true n 9 (([c0, c1, c2].drop 2).take (Try.prog.cellsOf 9)) = xs[2]? := hf 2 _ rfl
    rw [show Try.prog.cellsOf 3 = 1 from by kernel_rfl] at f0 f1
    rw [show Try.prog.cellsOf 9 = 1 from by kernel_rfl] at f2
    have hx : xs.length = 3 := hxl
    match xs, hx with
    | [y0, y1, y2], _ =>
      obtain ⟨k, hk, _, _⟩ := DataW.trod_int Try.underlying3 f0
      obtain ⟨m, hm, _, hmw⟩ := DataW.trod_int Try.underlying3 f1
      obtain ⟨s, hs, _, hsz⟩ := DataW.trod_string Try.underlying9 f2
      simp at hk hm hs
      exact ⟨(k, m, s), by rw [hk, hm, hs], hsz, wf_top hmw⟩

theorem open_ops {H : Type} {enc : TypeId × Value → H} {W : World} {ao : Option Addr} {len cap : Nat} {d : DataW H} {ps : List MemPlace}
    (h : DataW.Trod enc Try.prog W 0 (fun _ => true) true 22 (.slice ao len cap) d ps) :
    ∃ f, SeenOps W ao len cap f ∧ True ∧ Shows d len := by
  obtain ⟨fuel, hf⟩ := h
  rcases Deep.open_slice Try.underlying22 hf with ⟨hcs, _⟩ | ⟨x, l, c, m, n, D, Pl, hcs, _, hl, hm, hmm, hx, hi⟩
  · simp [Value.cells] at hcs
    obtain ⟨rfl, rfl, rfl⟩ := hcs
    exact ⟨fun _ => (0, 0, ⟨#[]⟩), ⟨by simp, fun _ => by simp [ByteArray.size], fun _ => by simp, fun i hi => absurd hi (by omega)⟩, trivial, .inl rfl⟩
  · simp [Value.cells] at hcs
    obtain ⟨rfl, rfl, rfl⟩ := hcs
    simp only [Prod.mk.injEq] at hx
    simp only [if_true] at hmm
    subst hmm
    rw [show Try.prog.cellsOf 35 = 3 from by kernel_rfl] at hi
    have key : ∀ i, ∃ y : Int × Int × ByteArray, (y.2.2.size ≤ maxLen ∧ y.2.1 ≤ 9223372036854775807) ∧ (i < m → W.cell? (x.add (i * 3)) = some (.int .i64 y.1) ∧ W.cell? ((x.add (i * 3)).add 1) = some (.int .i64 y.2.1) ∧ W.cell? ((x.add (i * 3)).add 2) = some (.string y.2.2)) := by
      intro i
      by_cases him : i < m
      · obtain ⟨cs', hc, ht⟩ := hi i him
        obtain ⟨y, rfl, hy⟩ := op_cells ht
        obtain ⟨_, _, hat⟩ := World.cells?_some hc
        refine ⟨y, hy, fun _ => ⟨?_, ?_, ?_⟩⟩
        · have := hat 0 (by omega)
          simpa [Addr.add] using this
        · simpa using hat 1 (by omega)
        · simpa using hat 2 (by omega)
      · exact ⟨(0, 0, ⟨#[]⟩), ⟨by simp [ByteArray.size], by simp⟩, fun h => absurd h him⟩
    obtain ⟨f, hf⟩ := Classical.axiomOfChoice key
    refine ⟨f, ⟨by omega, fun i => (hf i).1.1, fun i => (hf i).1.2, fun i hil => ?_⟩, trivial, .inr ⟨_, _, hx.1, by simp⟩⟩
    have h0 := ((hf 0).2 (by omega)).1
    obtain ⟨b, o, sp⟩ := x
    cases sp with
    | some z =>
      simp only [Addr.add, World.cell?] at h0
      split at h0 <;> simp at h0
    | none =>
      have ha : ∀ o j, (⟨b, o, none⟩ : Addr).add j = ⟨b, o + j, none⟩ := fun o j => by unfold Addr.add; split <;> simp_all
      refine ⟨b, o, rfl, World.block_lt_of_cell? W _ h0, fun j hj => ?_⟩
      have := (hf j).2 (by omega)
      simpa only [ha] using this

/-- What is counted of the first k calls. -/
def tot (f : Nat → Int × Int × ByteArray) : Nat → Nat
  | 0 => 0
  | k + 1 => tot f k + min (f k).2.2.size 65536
theorem tot_le (f : Nat → Int × Int × ByteArray) : ∀ k, tot f k ≤ 65536 * k
  | 0 => by simp [tot]
  | k + 1 => by have := tot_le f k; simp only [tot]; omega
theorem tot_mono (f : Nat → Int × Int × ByteArray) (n : Nat) : ∀ d, tot f n ≤ tot f (n + d)
  | 0 => Nat.le_refl _
  | d + 1 => by have h1 := tot_mono f n d; have h2 : tot f (n + (d + 1)) = tot f (n + d) + min (f (n + d)).2.2.size 65536 := rfl; omega
theorem one_small (f : Nat → Int × Int × ByteArray) (len k : Nat) (hk : k < len) (h : tot f len ≤ 32768) : (f k).2.2.size ≤ 32768 := by
  have := tot_mono f (k + 1) (len - (k + 1))
  rw [show k + 1 + (len - (k + 1)) = len from by omega] at this
  simp only [tot] at this
  omega


/-- More than is played. -/
def muchB (len : Nat) (f : Nat → Int × Int × ByteArray) : Bool := decide (32768 < len + tot f len ∨ 300 < len)
theorem tot_le' (f : Nat → Int × Int × ByteArray) (k len : Nat) (h : k ≤ len) : tot f k ≤ tot f len := by
  have := tot_mono f k (len - k)
  rwa [show k + (len - k) = len by omega] at this

set_option maxHeartbeats 1000000 in
theorem great_any (ao : Option Addr) (len cap : Nat) (f : Nat → Int × Int × ByteArray) (hl : len * 32 ≤ 140737488351232) (w : World) (hseen : SeenOps w ao len cap f) :
    Calls Try.prog 10 #[.slice ao len cap] w fun e w' => e = .returned (.bool (muchB len f)) ∧ Below w.heap.size w w' := by
  have Hs := Lib.hid hseen
  clear hseen
  go_enter Try.func10, Try.ntmps10
  go_wp2_with fail
  go_loopw [3, 10] (fun n i wr => ∃ k z : Nat, k ≤ len ∧ i = .int .i64 k ∧ n = .int .i64 z ∧ z = len + tot f k ∧ Below w.heap.size w wr ∧ (z ≤ 32768 ∨ k = 0)) (fun _ i _ => len - (intOf i).toNat)
  case atStart => exact ⟨0, len, Nat.zero_le _, rfl, rfl, rfl, Below.refl _ _, .inr rfl⟩
  case round =>
    obtain ⟨k, z, hk, rfl, rfl, hz, b1, hz0⟩ := hrel
    have hzz := b1.size
    have htk := tot_le f k
    have Hz := Lib.hid hz
    have hzm : z ≤ 140737488351232 := by
      rcases hz0 with h | h
      · omega
      · subst h; simp [tot] at hz; omega
    clear hz htk
    by_cases hlt : k < len
    · obtain ⟨b, off, hao, hbw, hcell⟩ := Hs.out.row k hlt
      subst hao
      obtain ⟨h0, h1, h2⟩ := hcell k hlt
      have c0 := (b1.cell (p := ⟨b, off + k * 3, none⟩) hbw).trans h0
      have c1 := (b1.cell (p := ⟨b, off + k * 3 + 1, none⟩) hbw).trans h1
      have c2 := (b1.cell (p := ⟨b, off + k * 3 + 2, none⟩) hbw).trans h2
      have hsz := Hs.out.sz k
      unfold maxLen at hsz
      have Ht := Lib.hid (show tot f (k + 1) = tot f k + min (f k).2.2.size 65536 from rfl)
      obtain ⟨d, hd⟩ : ∃ d, d = min (f k).2.2.size 65536 := ⟨_, rfl⟩
      have hmin : min ((f k).2.2.size : Int) 65536 = (d : Int) := by omega
      have hd2 : d ≤ 65536 := by omega
      rw [← hd] at Ht
      clear hcell h0 h1 h2 hd
      generalize (f k).2.2 = tx at *
      by_cases hbig : 32768 < z + d
      · have hdc : decide ((32768 : Int) < (z : Int) + (d : Int)) = true := by simp; omega
        have HD := Lib.hid (show muchB len f = true by
          have h1 := tot_le' f (k + 1) len hlt
          have h2 := Ht.out
          have h3 := Hz.out
          unfold muchB
          simp
          omega)
        go_wp2_with fail
        go_ret
        rw [HD.out]
        exact ⟨rfl, b1.alloc hzz _⟩
      · have hdc : decide ((32768 : Int) < (z : Int) + (d : Int)) = false := by simp; omega
        have Hnz := Lib.hid (show z + d = len + tot f (k + 1) by rw [Ht.out, Hz.out]; omega)
        go_wp2_with fail
        go_roundw
        case rel => exact ⟨k + 1, z + d, by omega, by go_num, by go_num, Hnz.out, b1.alloc hzz _, .inl (by omega)⟩
        case measure => simp [intOf]; omega
    · have hkl : k = len := by omega
      have Hz' := Lib.hid (show z = len + tot f len by rw [← hkl]; rw [hkl]; rw [Hz.out, hkl])
      clear Hs Hz
      by_cases h1 : 32768 < z
      · have hd1 : decide ((32768 : Int) < (z : Int)) = true := by simp; omega
        have HD := Lib.hid (show muchB len f = true by unfold muchB; rw [← Hz'.out]; simp; omega)
        have hnl : decide ((k : Int) < (len : Int)) = false := by simp; omega
        clear hkl
        go_wp2
        go_ret
        rw [HD.out]
        exact ⟨rfl, b1⟩
      · have hd1 : decide ((32768 : Int) < (z : Int)) = false := by simp; omega
        have hnl : decide ((k : Int) < (len : Int)) = false := by simp; omega
        clear hkl
        by_cases h2 : 300 < len
        · have hd2 : decide ((300 : Int) < (len : Int)) = true := by simp; omega
          have HD := Lib.hid (show muchB len f = true by unfold muchB; rw [← Hz'.out]; simp; omega)
          go_wp2
          go_ret
          rw [HD.out]
          exact ⟨rfl, b1⟩
        · have hd2 : decide ((300 : Int) < (len : Int)) = false := by simp; omega
          have HD := Lib.hid (show muchB len f = false by unfold muchB; rw [← Hz'.out]; simp; omega)
          go_wp2
          go_ret
          rw [HD.out]
          exact ⟨rfl, b1⟩

set_option maxRecDepth 100000 in
set_option maxHeartbeats 2000000 in
theorem alike_any {w : World} {b m : Nat} {v vl vg : Value} {s : RSt} (h : RingAt w b v s) (hm : Mt w m vl vg s) (ok : s.Ok) :
    Calls Try.prog 15 #[.pointer (some ⟨b, 0, none⟩), .pointer (some ⟨m, 0, none⟩)] w fun e w' => e = .returned (.bool true) ∧ ∃ q, w' = w.drewN q := by
  have hk1 := ok.u
  have hk2 := ok.c2
  have hlen := len_le_sz s.fs ok.e
  have hlu : sz s.fs = s.used := rfl
  have U1 := Lib.hid (fun q => (rg_used (Rg.drewN h q)).mono (R' := fun e w' => e = .returned (.int .i64 (s.used : Int)) ∧ w' = w.drewN q) fun e w' h => ⟨h.1, h.2.symm⟩)
  have U2 := Lib.hid (fun q => (mt_used (hm.drewN q) (by omega) (by omega)).mono (R' := fun e w' => e = .returned (.int .i64 (s.used : Int)) ∧ w' = w.drewN q) fun e w' h => ⟨h.1, h.2.symm⟩)
  have U3 := Lib.hid (fun q => (rg_held (Rg.drewN h q)).mono (R' := fun e w' => e = .returned (.int .i64 (s.fs.length : Int)) ∧ w' = w.drewN q) fun e w' h => ⟨h.1, h.2.symm⟩)
  have U4 := Lib.hid (fun q => (rg_begun (Rg.drewN h q)).mono (R' := fun e w' => e = .returned (.bool s.begun) ∧ w' = w.drewN q) fun e w' h => ⟨h.1, h.2.symm⟩)
  have U5 := Lib.hid (fun q => (rg_lost (Rg.drewN h q)).mono (R' := fun e w' => e = .returned (.int .u64 (s.lost : Int)) ∧ w' = w.drewN q) fun e w' h => ⟨h.1, h.2.symm⟩)
  obtain ⟨c0, c1, c2, c3, c4, c5⟩ := hm.c
  obtain ⟨al, cl, rfl, hcl⟩ := hm.rl.shape
  clear h hm ok
  generalize s.used = us at *
  generalize s.fs.length = N at *
  generalize s.begun = bg at *
  generalize s.lost = lo at *
  have e1 : ((us : Int) == (us : Int)) = true := by simp
  have e2 : ((N : Int) == (N : Int)) = true := by simp
  have e3 : (bg == bg) = true := by simp
  have e4 : ((lo : Int) == (lo : Int)) = true := by simp
  go_enter Try.func15, Try.ntmps15
  go_wp2_with fail
  go_quiet (first | (go_at_call 16; exact Calls.quiet_of_same (U1.out _)) | (go_at_call 24; exact Calls.quiet_of_same (U2.out _)) | (go_at_call 17; exact Calls.quiet_of_same (U3.out _)) | (go_at_call 18; exact Calls.quiet_of_same (U4.out _)) | (go_at_call 19; exact Calls.quiet_of_same (U5.out _)))
  go_wp2_with fail
  go_ret
  exact ⟨rfl, _, rfl⟩

end Go.Proofs.Ytjdnjkniiippkaa
