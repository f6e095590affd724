/-
  Drain of package ring, and what a ring that is none answers. Over this seat's translation.
-/
import Derived.Test.YtjdnjkniiippkaaRi5
namespace Go.Proofs.Ytjdnjkniiippkaa
open Go.RowKit
set_option linter.unusedVariables false

/-- A builder beside what turned other blocks. -/
theorem builder_only {T e : TypeId} {B b : Nat} {bs : List Value} {w w' : World} {S : Nat → Prop} (h : Lib.IsBuilder T e B b bs w) (ho : Only w w' S) (hS : ∀ k, S k → k < B) : Lib.IsBuilder T e B b bs w' := by
  have key : ∀ p, Lib.BuilderAt T e B b p bs w → Lib.BuilderAt T e B b p bs w' := by
    rintro p ⟨hB, v, hb, hown, hne⟩
    refine ⟨hB, v, (ho.block b (blt hb) (fun hs => by have := hS b hs; omega)).trans hb, row_only hown ho (fun k hk hs => ?_), hne⟩
    have h1 := (hown.lt k hk).1
    have h2 := hS k hs
    omega
  rcases h with h | h
  · exact .inl (key _ h)
  · exact .inr (key _ h)

theorem Stays.trans {v v1 v2 : Value} (h : Stays v v1) (g : Stays v1 v2) : Stays v v2 := fun k hk => h k (g k hk)
theorem drained_zero (s : RSt) : s.drained 0 = [] ∧ s.drain 0 = s := by
  unfold RSt.drained RSt.drain
  rw [drn_zero]
  exact ⟨rfl, rfl⟩
theorem drained_none (s : RSt) (h : s.fs = []) (m : Nat) : s.drained m = [] ∧ s.drain m = s := by
  unfold RSt.drained RSt.drain
  rw [h, drn_nil]
  exact ⟨rfl, by cases s; simp_all⟩

/-- What stands at a round of Drain. -/
structure Drn (w : World) (b : Nat) (v : Value) (s : RSt) (M : Nat) (o : List UInt8) (v1 : Value) (s1 : RSt) (wr : World) : Prop where
  ring : RingAt wr b v1 s1
  ok : s1.Ok
  st : Stays v v1
  bd : Lib.IsBuilder 54 5 w.heap.size w.heap.size (Lib.byteCells o) wr
  on : Only w wr (fun k => k = b ∨ v.ownBlock = some k)
  le : o.length ≤ M
  eb : o ++ s1.drained (M - o.length) = s.drained M
  es : s1.drain (M - o.length) = s.drain M
  su : o.length + s1.used = s.used

theorem Drn.done {w : World} {b : Nat} {v : Value} {s : RSt} {M : Nat} {o : List UInt8} {v1 : Value} {s1 : RSt} {wr : World} (h : Drn w b v s M o v1 s1 wr) (hd : s1.fs = [] ∨ o.length = M) : s.drained M = o ∧ s.drain M = s1 := by
  have h1 := h.eb
  have h2 := h.es
  rcases hd with hd | hd
  · obtain ⟨e1, e2⟩ := drained_none s1 hd (M - o.length)
    rw [e1] at h1
    rw [e2] at h2
    exact ⟨by rw [← h1]; simp, h2.symm⟩
  · rw [hd, Nat.sub_self, (drained_zero s1).1] at h1
    rw [hd, Nat.sub_self, (drained_zero s1).2] at h2
    exact ⟨by rw [← h1]; simp, h2.symm⟩

/-- One round. -/
theorem Drn.next {w : World} {b : Nat} {v : Value} {s : RSt} {M : Nat} {o : List UInt8} {v1 : Value} {s1 : RSt} {wr : World} (h : Drn w b v s M o v1 s1 wr) (hb : b < w.heap.size) (hv : ∀ k, v.ownBlock = some k → k < w.heap.size)
    {f : ByteArray} {r : List ByteArray} (hfs : s1.fs = f :: r) (hm : M - o.length ≠ 0) {w1 w2 : World} {v2 : Value} (r1 : RingAt w1 b v2 (s1.taken f r (M - o.length))) (t1 : Turned wr w1 b v1 v2) (st1 : Stays v1 v2)
    (b2 : Lib.BuilderAt 54 5 w.heap.size w.heap.size (.pointer (some ⟨w.heap.size, 0, none⟩)) (Lib.byteCells o ++ Lib.strCells (f.extract 0 (min (M - o.length) f.size))) w2) (l2 : Below w.heap.size w1 w2) :
    Drn w b v s M (o ++ (f.extract 0 (min (M - o.length) f.size)).data.toList) v2 (s1.taken f r (M - o.length)) w2 := by
  obtain ⟨okt, hut⟩ := RSt.taken_ok h.ok hfs (m := M - o.length)
  obtain ⟨hte, hts⟩ := RSt.taken_eq hfs hm
  have hlen : (o ++ (f.extract 0 (min (M - o.length) f.size)).data.toList).length = o.length + min (M - o.length) f.size := by
    rw [List.length_append, size_list]
    simp
  have hst := h.st.trans st1
  have hu := h.su
  have hle := h.le
  refine ⟨?_, okt, hst, ?_, ?_, ?_, ?_, ?_, ?_⟩
  · have o2 : Only w1 w2 (fun k => w.heap.size ≤ k) := ⟨l2.os, l2.tape, l2.output, l2.size, fun k _ hn => l2.block k (by omega)⟩
    exact Rg.only r1 o2 (by omega) (fun k hk => by have := hv k (hst k hk); omega)
  · rw [Lib.strCells_eq, ← Lib.byteCells_append] at b2
    exact .inr b2
  · have h1 : Only w w1 (fun k => k = b ∨ v.ownBlock = some k) := h.on.trans t1.1 (fun k _ hk => by
      rcases hk with e | e
      · exact .inl e
      · exact .inr (h.st k e))
    refine h1.trans (T := fun k => w.heap.size ≤ k) ⟨l2.os, l2.tape, l2.output, l2.size, fun k _ hn => l2.block k (by omega)⟩ (fun k hk hT => by omega)
  · rw [hlen]; omega
  · rw [hlen, List.append_assoc, show M - (o.length + min (M - o.length) f.size) = M - o.length - min (M - o.length) f.size by omega, ← hte]
    exact h.eb
  · rw [hlen, show M - (o.length + min (M - o.length) f.size) = M - o.length - min (M - o.length) f.size by omega, ← hts]
    exact h.es
  · rw [hlen]; omega

theorem Drn.fin {w : World} {b : Nat} {v : Value} {s : RSt} {M : Nat} {o : List UInt8} {v1 : Value} {s1 : RSt} {wr w2 : World} (h : Drn w b v s M o v1 s1 wr) (hb : b < w.heap.size) (hv : ∀ k, v.ownBlock = some k → k < w.heap.size) (l2 : Below w.heap.size wr w2) :
    RingAt w2 b v1 s1 ∧ Turned w w2 b v v1 ∧ Stays v v1 := by
  have o2 : Only wr w2 (fun k => w.heap.size ≤ k) := ⟨l2.os, l2.tape, l2.output, l2.size, fun k _ hn => l2.block k (by omega)⟩
  refine ⟨Rg.only h.ring o2 (by omega) (fun k hk => by have := hv k (h.st k hk); omega), ⟨h.on.trans o2 (fun k hk hT => by omega), fun k hk => .inl (h.st k hk)⟩, h.st⟩

def usedOf (w : World) (b : Nat) : Nat := (intOf ((w.cell? ⟨b, 3, none⟩).getD undef)).toNat

theorem usedOf_ring {w : World} {b : Nat} {v : Value} {s : RSt} (h : RingAt w b v s) : usedOf w b = s.used := by
  unfold usedOf
  rw [h.c.2.2.2.1]
  simp [intOf]

set_option maxRecDepth 100000 in
set_option maxHeartbeats 2000000 in
theorem rg_drain {w : World} {b : Nat} {v : Value} {s : RSt} (h : RingAt w b v s) (ok : s.Ok) (most : Int) (M : Nat) (hM : M = most.toNat) (hm : most ≤ 9223372036854775807) :
    Calls Try.prog 13 #[.pointer (some ⟨b, 0, none⟩), .int .i64 most] w fun e w' => e = .returned (.string ⟨(s.drained M).toArray⟩) ∧ ∃ v', RingAt w' b v' (s.drain M) ∧ Turned w w' b v v' ∧ Stays v v' := by
  have hbl : b < w.heap.size := Rg.lt h
  have hvl := h.row.lt
  have hk1 := ok.u
  have hk2 := ok.c2
  have h0 : Drn w b v s M [] v s (w.alloc (.cells #[.pointer none, .slice none 0 0] 54)) :=
    ⟨Rg.alloc h _, ok, fun k hk => hk, Lib.fresh_isBuilder _ _ w, Only.alloc w _ _, Nat.zero_le _, rfl, rfl, by simp⟩
  have H0 := Lib.hid h0
  have HV := Lib.hid hvl
  have HM := Lib.hid hM
  clear h0 h hvl hM
  go_enter Try.func13, Try.ntmps13
  go_wp2_with fail
  go_loopw [] (fun wr => ∃ o v1 s1, Drn w b v s M o v1 s1 wr) (fun wr => usedOf wr b)
  case atStart => exact ⟨[], v, s, H0.out⟩
  case round =>
    obtain ⟨o, v1, s1, hD⟩ := hrel
    obtain ⟨c0, c1, c2, c3, c4, c5⟩ := hD.ring.c
    obtain ⟨ao, cap, rfl, hcap⟩ := hD.ring.row.shape
    have hlen := Try.Builder_Len _ _ _ wr hD.bd
    rw [Lib.byteCells_length] at hlen
    have hle := hD.le
    have hsu := hD.su
    have HD := Lib.hid hD
    have HL := Lib.hid hlen
    clear hD hlen H0
    cases hfs : s1.fs with
    | nil =>
      have hl0 : s1.fs.length = 0 := by rw [hfs]; rfl
      rw [hl0] at c2
      obtain ⟨e1, e2⟩ := HD.out.done (.inl hfs)
      have E1 := Lib.hid e1
      have E2 := Lib.hid e2
      have HS := Lib.hid (Try.Builder_String_any _ _ o wr HD.out.bd HD.out.on.size)
      have hl := HD.out.on
      clear e1 e2 hfs hl0
      go_wp2_with fail
      refine HS.out.mono ?_
      rintro e w2 ⟨rfl, l2⟩
      have L2 := Lib.hid l2
      clear l2
      go_wp2_with fail
      go_ret
      rw [E1.out, E2.out]
      exact ⟨rfl, _, HD.out.fin hbl HV.out L2.out⟩
    | cons f r =>
      have hl0 : (0 : Int) < (s1.fs.length : Int) := by rw [hfs]; simp only [List.length_cons]; omega
      have Hfs := Lib.hid hfs
      by_cases hlt : o.length < M
      · obtain rfl : most = (M : Int) := by have := HM.out; omega
        obtain ⟨m, hm'⟩ : ∃ m, m = M - o.length := ⟨_, rfl⟩
        have hmi : (M : Int) - (o.length : Int) = (m : Int) := by omega
        have hd : decide ((o.length : Int) < (M : Int)) = true := by simp; omega
        have htk := rg_take HD.out.ring HD.out.ok hfs m (by omega) (by omega)
        have HTK := Lib.hid htk
        have hfz : f.size ≤ 1048576 := by
          have h1 : s1.used = f.size + sz r := by unfold RSt.used; rw [hfs]; rfl
          have h2 := HD.out.ok.u
          have h3 := HD.out.ok.c2
          omega
        have hoz : o.length ≤ 1048576 := by omega
        have Hm := Lib.hid hm'
        obtain ⟨okt, hut⟩ := RSt.taken_ok HD.out.ok hfs (m := m)
        have hfp : 1 ≤ f.size := HD.out.ok.e f (by rw [hfs]; exact List.mem_cons_self)
        have Hdec := Lib.hid (show (s1.taken f r m).used < s1.used by omega)
        have HC3 := Lib.hid c3
        clear hfs htk okt hut hfp hm' c0 c1 c4 c5
        go_wp2_with fail
        refine HL.out.mono ?_
        rintro e w1 ⟨rfl, rfl⟩
        go_wp2_with fail
        refine HL.out.mono ?_
        rintro e w1 ⟨rfl, rfl⟩
        go_wp2_with fail
        refine HTK.out.mono ?_
        rintro e w1 ⟨rfl, v2, r1, t1, st1⟩
        have bd1 : Lib.IsBuilder 54 5 w.heap.size w.heap.size (Lib.byteCells o) w1 := builder_only HD.out.bd t1.1 (fun k hk => by
          rcases hk with e | e
          · omega
          · exact HV.out k (HD.out.st k e))
        have hwr := bd_write _ _ _ (f.extract 0 (min m f.size)) w1 bd1 (by rw [Lib.byteCells_length]; simp; omega) (by have h1 := HD.out.on.size; have h2 := t1.1.size; omega)
        have HW := Lib.hid hwr
        have HR1 := Lib.hid r1
        have HT1 := Lib.hid t1
        have HS1 := Lib.hid st1
        clear hwr bd1 r1 t1 st1 HTK c2
        generalize htx : f.extract 0 (min m f.size) = tx at *
        have Htx := Lib.hid htx
        clear htx
        go_wp2_with fail
        refine HW.out.mono ?_
        rintro e w2 ⟨rfl, b2, l2⟩
        have B2 := Lib.hid b2
        have hN := HD.out.next hbl HV.out Hfs.out (by omega) (w1 := w1) (w2 := w2) (v2 := v2) (by rw [← Hm.out]; exact HR1.out) HT1.out HS1.out (by rw [← Hm.out, Htx.out]; exact b2) l2
        rw [← Hm.out] at hN
        have u2 := usedOf_ring hN.ring
        have HN := Lib.hid hN
        have Hmu := Lib.hid (show usedOf w2 b < s1.used by rw [u2]; exact Hdec.out)
        clear b2 l2 hN u2
        go_wp2_with fail
        go_roundw
        case rel => exact ⟨_, _, _, HN.out⟩
        case measure => rw [usedOf_ring HD.out.ring]; exact Hmu.out
      · have hd : decide ((o.length : Int) < most) = false := by have := HM.out; simp; omega
        obtain ⟨e1, e2⟩ := HD.out.done (.inr (by omega))
        have E1 := Lib.hid e1
        have E2 := Lib.hid e2
        have HS := Lib.hid (Try.Builder_String_any _ _ o wr HD.out.bd HD.out.on.size)
        clear e1 e2 hfs
        go_wp2_with fail
        refine HL.out.mono ?_
        rintro e w1 ⟨rfl, rfl⟩
        go_wp2_with fail
        refine HS.out.mono ?_
        rintro e w2 ⟨rfl, l2⟩
        have L2 := Lib.hid l2
        clear l2
        go_wp2_with fail
        go_ret
        rw [E1.out, E2.out]
        exact ⟨rfl, _, HD.out.fin hbl HV.out L2.out⟩

set_option maxHeartbeats 400000 in
theorem rg_put_nil (w : World) (x : Value) : Calls Try.prog 11 #[.pointer none, x] w fun e w' => e = .returned (.int .i64 16) ∧ w = w' := by
  go_enter Try.func11, Try.ntmps11
  go_wp2
  go_ret
  exact ⟨rfl, rfl⟩

set_option maxHeartbeats 400000 in
theorem rg_drain_nil (w : World) (x : Value) : Calls Try.prog 13 #[.pointer none, x] w fun e w' => e = .returned (.string ⟨#[]⟩) ∧ w = w' := by
  go_enter Try.func13, Try.ntmps13
  go_wp2
  go_ret
  exact ⟨rfl, rfl⟩

set_option maxHeartbeats 400000 in
theorem rg_used_nil (w : World) : Calls Try.prog 16 #[.pointer none] w fun e w' => e = .returned (.int .i64 0) ∧ w = w' := by
  go_enter Try.func16, Try.ntmps16
  go_wp2
  go_ret
  exact ⟨rfl, rfl⟩

set_option maxHeartbeats 400000 in
theorem rg_held_nil (w : World) : Calls Try.prog 17 #[.pointer none] w fun e w' => e = .returned (.int .i64 0) ∧ w = w' := by
  go_enter Try.func17, Try.ntmps17
  go_wp2
  go_ret
  exact ⟨rfl, rfl⟩

set_option maxHeartbeats 400000 in
theorem rg_begun_nil (w : World) : Calls Try.prog 18 #[.pointer none] w fun e w' => e = .returned (.bool false) ∧ w = w' := by
  go_enter Try.func18, Try.ntmps18
  go_wp2
  go_ret
  exact ⟨rfl, rfl⟩

set_option maxHeartbeats 400000 in
theorem rg_lost_nil (w : World) : Calls Try.prog 19 #[.pointer none] w fun e w' => e = .returned (.int .u64 0) ∧ w = w' := by
  go_enter Try.func19, Try.ntmps19
  go_wp2
  go_ret
  exact ⟨rfl, rfl⟩

end Go.Proofs.Ytjdnjkniiippkaa
