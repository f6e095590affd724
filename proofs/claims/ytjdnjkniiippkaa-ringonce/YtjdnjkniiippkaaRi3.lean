/-
  What drop, loseFor and Put of package ring do. Over this seat's translation.
-/
import Derived.Test.YtjdnjkniiippkaaRi2
import Derived.Test.YtjdnjkniiippkaaShelf
namespace Go.Proofs.Ytjdnjkniiippkaa
open Go.RowKit
set_option linter.unusedVariables false

theorem Try.zeroS : ∀ w, (zeroValue 9).run Try.prog w = .ok (.string ⟨#[]⟩) w := Try.zeroValue9

theorem sliced_move (g off k n cap : Nat) (h : ¬ cap = k) : sliced (some ⟨g, off, none⟩) k n cap 1 = .slice (some ⟨g, off + k, none⟩) (n - k) (cap - k) := by
  unfold sliced
  rw [if_neg h]
  have ha : (⟨g, off, none⟩ : Addr).add (k * 1) = ⟨g, off + k, none⟩ := by unfold Addr.add; split <;> simp_all
  rw [Option.map_some, ha]
theorem sliced_stay (g off k n cap : Nat) (h : cap = k) : sliced (some ⟨g, off, none⟩) k n cap 1 = .slice (some ⟨g, off, none⟩) (n - k) (cap - k) := by
  unfold sliced
  rw [if_pos h]
/-- The row's block is the one that it was. -/
def Stays (v v' : Value) : Prop := ∀ k, v'.ownBlock = some k → v.ownBlock = some k

theorem rg_dropped {w w1 : World} {b g off n cap : Nat} {v' : Value} {room pol used : Int} {begun : Bool} {lost : Int} {l : List ByteArray}
    (H1 : w1.heap[b]? = some (.cells #[.int .i64 room, .int .i64 pol, .slice (some ⟨g, off, none⟩) n cap, .int .i64 used, .bool begun, .int .u64 lost] 46 (0, 0)))
    (R1 : Txts w1 v' l) (hv : ∀ q, v'.ownBlock = some q → q = g) (hgb : g ≠ b) (O1 : Only w w1 (fun k => k = g)) :
    Rg (w1.setCell ⟨b, 2, none⟩ v') b v' room pol used begun lost l ∧ Turned w (w1.setCell ⟨b, 2, none⟩ v') b (.slice (some ⟨g, off, none⟩) n cap) v' ∧ Stays (.slice (some ⟨g, off, none⟩) n cap) v' := by
  have hne : v'.ownBlock ≠ some b := fun e => hgb (hv b e).symm
  refine ⟨⟨(heap_setCell_same w1 b 2 _ _ _ H1).trans rfl, R1.setCell b 2 v' hne, hne⟩, ⟨?_, fun k hk => .inl (by rw [hv k hk]; rfl)⟩, fun k hk => by rw [hv k hk]; rfl⟩
  exact (O1.mono fun k _ e => Or.inr (by rw [e]; rfl)).trans (Only.setCell w1 b 2 v' (fun k => k = b) rfl) (fun k _ e => .inl e)

set_option maxHeartbeats 400000 in
theorem rg_drop {w : World} {b : Nat} {v : Value} {room pol used : Int} {begun : Bool} {lost : Int} {l : List ByteArray} (h : Rg w b v room pol used begun lost l) (k : Nat) (hk : k ≤ l.length) (hl : l.length ≤ 1048576) :
    Calls Try.prog 31 #[.pointer (some ⟨b, 0, none⟩), .int .i64 k] w fun e w' => e = .returned (.tuple #[]) ∧ ∃ v', Rg w' b v' room pol used begun lost (l.drop k) ∧ Turned w w' b v v' ∧ Stays v v' := by
  obtain ⟨c0, c1, c2, c3, c4, c5⟩ := h.c
  have f2 := h.free 2
  have hrow := h.row
  have hlt := h.lt
  obtain ⟨ao, cap, rfl, hc⟩ := hrow.shape
  obtain ⟨hd1, hd2⟩ := hrow.drop k hk
  by_cases hk0 : k = 0
  · subst hk0
    have hcl : ∀ ty a, (Builtin.clear_ #[30] ty #[.slice a 0 cap]).run Try.prog w = .ok (.tuple #[]) w := by
      intro ty a
      cases a <;> simp [Builtin.clear_, run_underlying Try.underlying30]
    have H := Lib.hid h
    have Hr := Lib.hid hrow
    clear h hrow hd1 hd2
    go_enter Try.func31, Try.ntmps31
    go_wp2
    go_end0
    exact ⟨rfl, _, H.out.set_row Hr.out H.out.ne, Turned.cell _ _ _ _ _, fun k h => h⟩
  · obtain ⟨g, off, cap', hv, hg, -, hcell, hfree⟩ := hrow.at 0 (by omega)
    simp only [Value.slice.injEq] at hv
    obtain ⟨rfl, -, rfl⟩ := hv
    have hgb : g ≠ b := fun e => h.ne (by rw [e]; rfl)
    have hcl : ∀ ty, (Builtin.clear_ #[30] ty #[.slice (some ⟨g, off, none⟩) k cap]).run Try.prog w = .ok (.tuple #[]) (w.setCells g off (List.replicate k (.string ⟨#[]⟩))) := by
      intro ty
      refine Lib.run_clear_slice w _ _ ty _ Try.underlying30 Try.zeroS rfl rfl g off k cap (by omega) (fun j hj => ?_) (fun j hj => hfree _)
      rw [hcell j _ (List.getElem?_eq_getElem (by omega))]
      rfl
    have o1 := only_setCells g (List.replicate k (.string ⟨#[]⟩)) off w
    have c2' := o1.cell c2 (fun e => hgb e.symm)
    have f2' : (w.setCells g off (List.replicate k (.string ⟨#[]⟩))).frozen? ⟨b, 2, none⟩ = false := by rw [World.frozen?_setCells]; exact f2
    have r1 := hrow.cleared k hk (.string ⟨#[]⟩)
    have h1 : (w.setCells g off (List.replicate k (.string ⟨#[]⟩))).heap[b]? = w.heap[b]? := o1.block b hlt (fun e => hgb e.symm)
    have H1 := Lib.hid (h1.trans h.blk)
    have O1 := Lib.hid o1
    have R1 := Lib.hid r1
    have D2 := Lib.hid hd2
    have HN := Lib.hid h.ne
    clear h hrow hd1 hd2 o1 r1 h1 hcell hfree
    generalize (w.setCells g off (List.replicate k (.string ⟨#[]⟩))) = w1 at *
    by_cases hck : cap = k
    · rw [sliced_stay _ _ _ _ _ hck] at R1
      subst hck
      rw [show l.length - cap = 0 by omega, Nat.sub_self] at R1
      go_enter Try.func31, Try.ntmps31
      go_wp2
      go_end0
      exact ⟨rfl, _, rg_dropped H1.out R1.out (fun q e => by cases e; rfl) hgb O1.out⟩
    · rw [sliced_move _ _ _ _ _ hck] at R1
      go_enter Try.func31, Try.ntmps31
      go_wp2
      go_end0
      exact ⟨rfl, _, rg_dropped H1.out R1.out (fun q e => by cases e; rfl) hgb O1.out⟩

theorem set_drop : ∀ (l : List ByteArray) (c : Nat) (f : ByteArray), c < l.length → (l.set c f).drop c = f :: l.drop (c + 1)
  | a :: l, 0, f, _ => rfl
  | a :: l, c + 1, f, h => by
    have := set_drop l c f (by simpa using h)
    simpa using this

/-- Behind drop: the two numbers. -/
theorem rg_numbers {w : World} {b : Nat} {v : Value} {room pol used : Int} {begun : Bool} {lost : Int} {l : List ByteArray} (h : Rg w b v room pol used begun lost l) (u m : Int) :
    Rg ((w.setCell ⟨b, 3, none⟩ (.int .i64 u)).setCell ⟨b, 5, none⟩ (.int .u64 m)) b v room pol u begun m l ∧ Turned w ((w.setCell ⟨b, 3, none⟩ (.int .i64 u)).setCell ⟨b, 5, none⟩ (.int .u64 m)) b v v :=
  ⟨(h.set_used u).set_lost m, (Turned.cell _ _ _ _ _).trans (Turned.cell _ _ _ _ _)⟩

theorem rg_losing {w : World} {b : Nat} {v : Value} {s : RSt} {S Z used : Nat} {l : List ByteArray} {bg : Bool} (h : Rg w b v s.cap s.pol used bg s.lost l) (hU : (used : Int) - (Z : Int) = ((s.losing S).used : Nat)) (hF : (s.losing S).fs = l) (hB : s.begun = bg) :
    RingAt ((w.setCell ⟨b, 3, none⟩ (.int .i64 ((used : Int) - (Z : Int)))).setCell ⟨b, 5, none⟩ (.int .u64 ((s.lost : Int) + (S : Int)))) b v (s.losing S) := by
  have h1 := (rg_numbers h ((used : Int) - (Z : Int)) ((s.lost : Int) + (S : Int))).1
  show Rg _ b v (s.cap : Int) (s.pol : Int) ((s.losing S).used : Nat) s.begun ((s.lost + S : Nat) : Int) (s.losing S).fs
  rw [hF, ← hU, hB, Int.natCast_add]
  exact h1

/-- One frame stored over another one. -/
theorem Rg.stored {w : World} {b g off n cap : Nat} {room pol used : Int} {begun : Bool} {lost : Int} {l : List ByteArray} (h : Rg w b (.slice (some ⟨g, off, none⟩) n cap) room pol used begun lost l) (i : Nat) (t : ByteArray) (hi : i < l.length) :
    Rg (w.setCell ⟨g, off + i, none⟩ (.string t)) b (.slice (some ⟨g, off, none⟩) n cap) room pol used begun lost (l.set i t) ∧ Turned w (w.setCell ⟨g, off + i, none⟩ (.string t)) b (.slice (some ⟨g, off, none⟩) n cap) (.slice (some ⟨g, off, none⟩) n cap) := by
  have hgb : g ≠ b := fun e => h.ne (by rw [e]; rfl)
  refine ⟨⟨?_, h.row.set i t hi, h.ne⟩, ⟨Only.setCell w g _ _ _ (.inr rfl), fun k hk => .inl hk⟩⟩
  rw [heap_setCell_other w ⟨g, off + i, none⟩ b _ (fun e => hgb e.symm)]
  exact h.blk

set_option maxRecDepth 100000 in
set_option maxHeartbeats 1000000 in
theorem rg_loseFor {w : World} {b : Nat} {v : Value} {s : RSt} (h : RingAt w b v s) (ok : s.Ok) (n : Nat) (hn : n ≤ 179) (hl : s.lost + s.fs.length < 18446744073709551615) :
    Calls Try.prog 22 #[.pointer (some ⟨b, 0, none⟩), .int .i64 n] w fun e w' => e = .returned (.tuple #[]) ∧ ∃ v', RingAt w' b v' (s.losing (s.shed n)) ∧ Turned w w' b v v' := by
  have hsh := s.shed_le n
  have hold := rg_oldest h ok n hn
  have hhl := s.head_len ok
  have hfp := s.fs_parts
  have hlu := s.losing_used (s.shed n)
  have hlen := len_le_sz s.fs ok.e
  have ku := ok.u
  have k2 := ok.c2
  have husz : sz s.fs = s.used := rfl
  have hflen : s.fs.length = s.first + s.tail.length := by rw [← hfp, List.length_append, hhl]
  have hM2 : s.fs.length ≤ 1048576 := by omega
  have hSM' : s.shed n ≤ s.fs.length := by omega
  have Hold := Lib.hid hold
  cases hbg : s.begun with
  | false =>
    have hf0 : s.first = 0 := by unfold RSt.first; rw [hbg]; rfl
    have hfin : (s.losing (s.shed n)).fs = s.fs.drop (s.shed n) := by
      show s.head ++ s.tail.drop (s.shed n) = _
      have h1 : s.head = [] := List.eq_nil_of_length_eq_zero (by rw [hhl, hf0])
      have h2 : s.tail = s.fs := by rw [← hfp, h1]; rfl
      rw [h1, h2]; rfl
    obtain ⟨c0, c1, c2, c3, c4, c5⟩ := h.c
    have hdr := fun q => rg_drop (h.drewN q) (s.shed n) hSM' hM2
    have hU : ((s.used : Nat) : Int) - ((sz (s.tail.take (s.shed n)) : Nat) : Int) = ((s.losing (s.shed n)).used : Nat) := by omega
    have hLo : (s.losing (s.shed n)).lost = s.lost + s.shed n := rfl
    have hZ2 : sz (s.tail.take (s.shed n)) ≤ s.used := by omega
    rw [hbg] at c4 hdr
    generalize hS : s.shed n = S at *
    have hl2 : s.lost + S < 18446744073709551615 := by omega
    generalize sz (s.tail.take S) = Z at *
    have HD := Lib.hid hdr
    have HF := Lib.hid hfin
    have HU := Lib.hid hU
    have HB := Lib.hid hbg
    have HLo := Lib.hid hLo
    generalize hus : s.used = used at *
    have k3 : used ≤ 1048576 := by omega
    clear hold h hdr hfin hf0 hfp hhl hflen hU hLo hlen husz hbg hlu hus hS
    go_enter Try.func22, Try.ntmps22
    go_wp2_with fail
    refine Hold.out.mono ?_
    rintro e w1 ⟨rfl, q, rfl⟩
    go_wp2_with fail
    refine (HD.out q).mono ?_
    rintro e w2 ⟨rfl, v2, r2, t2, -⟩
    obtain ⟨-, -, -, e3, -, e5⟩ := r2.c
    have f3 := r2.free 3
    have f5 := r2.free 5
    have R2 := Lib.hid r2
    have T2 := Lib.hid t2
    clear HD r2 t2 Hold
    go_wp2
    go_end0
    exact ⟨rfl, v2, rg_losing R2.out HU.out HF.out HB.out, ((Turned.drewN _ _ _ _).trans T2.out).trans (rg_numbers R2.out _ _).2⟩
  | true =>
    have hf1 : s.first = 1 := by unfold RSt.first; rw [hbg]; rfl
    obtain ⟨f0, r0, hfs⟩ : ∃ f r, s.fs = f :: r := by
      cases hfs : s.fs with
      | nil => exact absurd hfs (ok.b hbg)
      | cons f r => exact ⟨f, r, rfl⟩
    have hSlt : s.shed n < s.fs.length := by omega
    have hfin : (s.losing (s.shed n)).fs = (s.fs.set (s.shed n) f0).drop (s.shed n) := by
      rw [set_drop _ _ _ hSlt]
      show s.head ++ s.tail.drop (s.shed n) = _
      have h1 : s.head = [f0] := by unfold RSt.head; rw [hf1, hfs]; rfl
      have h2 : s.tail = s.fs.drop 1 := by unfold RSt.tail; rw [hf1]
      rw [h1, h2, List.drop_drop, Nat.add_comm 1]; rfl
    have hrow := h.row
    obtain ⟨g, off, cap, rfl, hg, hc, hcell, hfree⟩ := hrow.at 0 (by rw [hfs]; simp)
    have d0 := hcell 0 f0 (by rw [hfs]; rfl)
    have dc : ∃ u, w.cell? ⟨g, off + s.shed n, none⟩ = some u := ⟨_, hcell (s.shed n) _ (List.getElem?_eq_getElem (by omega))⟩
    obtain ⟨uc, dc⟩ := dc
    have fc := hfree (off + s.shed n)
    obtain ⟨c0, c1, c2, c3, c4, c5⟩ := h.c
    simp only [Nat.add_zero] at d0
    have hst := fun q => (h.drewN q).stored (s.shed n) f0 hSlt
    have hdr := fun q => rg_drop (hst q).1 (s.shed n) (by rw [List.length_set]; omega) (by rw [List.length_set]; omega)
    have hU : ((s.used : Nat) : Int) - ((sz (s.tail.take (s.shed n)) : Nat) : Int) = ((s.losing (s.shed n)).used : Nat) := by omega
    have hZ2 : sz (s.tail.take (s.shed n)) ≤ s.used := by omega
    have hl2 : s.lost + s.shed n < 18446744073709551615 := by omega
    rw [hbg] at c4 hdr
    have hTu := fun q => (Turned.drewN w b q (.slice (some ⟨g, off, none⟩) s.fs.length cap)).trans (hst q).2
    have HD := Lib.hid hdr
    have HT := Lib.hid hTu
    have HF := Lib.hid hfin
    have HU := Lib.hid hU
    have HB := Lib.hid hbg
    clear hold h hdr hfin hfp hhl hflen hU hlen husz hbg hst hTu hrow hcell hfree hf1 hfs hlu ok
    generalize s.shed n = S at *
    generalize sz (s.tail.take S) = Z at *
    generalize s.fs.length = M at *
    generalize s.used = used at *
    have k3 : used ≤ 1048576 := by omega
    have hSM : (S : Int) < (M : Int) := by omega
    have h0M : (0 : Int) < (M : Int) := by omega
    go_enter Try.func22, Try.ntmps22
    go_wp2_with fail
    refine Hold.out.mono ?_
    rintro e w1 ⟨rfl, q, rfl⟩
    go_wp2_with fail
    go_region
    go_wp2_with fail
    refine (HD.out (q + 1)).mono ?_
    rintro e w2 ⟨rfl, v2, r2, t2, -⟩
    obtain ⟨-, -, -, e3, -, e5⟩ := r2.c
    have f3 := r2.free 3
    have f5 := r2.free 5
    have R2 := Lib.hid r2
    have T2 := Lib.hid t2
    clear HD r2 t2 Hold
    go_wp2
    go_end0
    exact ⟨rfl, v2, rg_losing R2.out HU.out HF.out HB.out, ((HT.out (q + 1)).trans T2.out).trans (rg_numbers R2.out _ _).2⟩

set_option maxHeartbeats 400000 in
theorem clone_any (s : ByteArray) (w : World) (hs : s.size ≤ 281474976710656) :
    Calls Try.prog 23 #[.string s] w fun e w' => e = .returned (.string s) ∧ Below w.heap.size w w' := by
  have H := Lib.hid (Try.stringslite_Clone s w hs)
  go_enter Try.func23, Try.ntmps23
  go_wp2_with fail
  refine H.out.mono ?_
  rintro e w1 ⟨rfl, b1⟩
  go_wp2
  go_ret
  exact ⟨rfl, b1⟩

end Go.Proofs.Ytjdnjkniiippkaa
