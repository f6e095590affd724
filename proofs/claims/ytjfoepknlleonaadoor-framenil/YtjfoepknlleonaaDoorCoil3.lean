/-
  What coil's Print does, over this seat's translation. Conditions: the table's cells (EvL); the events' numbers fit; no more than a million events.
-/
import Derived.Test.YtjfoepknlleonaaDoorCoil2
namespace Go.Proofs.YtjfoepknlleonaaDoor
open Go.RowKit
set_option linter.unusedVariables false
set_option linter.unusedSimpArgs false

theorem addB_len (d e : Ev) (f : EvFits e) : (addB d e).length ≤ 100 := by
  unfold addB
  split
  · rename_i h
    obtain ⟨hc, ht⟩ := putE_zero h
    obtain ⟨t1, t2, -, -⟩ := told_fold ht
    have h1 : (lebL (stepN d e)).length ≤ 10 := lebL_len10 _ (by omega)
    have h2 : (lebL (foldN d e)).length ≤ 10 := lebL_len10 _ (by omega)
    have ho : ∀ has m, m < 4294967296 → (optL has m).length ≤ 10 := fun has m hm => by unfold optL; split; exact lebL_len10 _ (by omega); simp
    have h3 := ho (hasA e.kind) e.a f.a
    have h4 := ho (hasB e.kind) e.b f.b
    have h5 := ho (hasV e.kind) e.v f.v
    simp only [evBytes, List.length_cons, List.length_append]
    omega
  · simp

/-- The state of Print's loop. -/
structure PL (w wr : World) (l : List Ev) (acc : List UInt8) (k : Nat) : Prop where
  le : k ≤ l.length
  own : ∃ v, WrF wr w.heap.size v acc ∧ ∀ j, v.ownBlock = some j → w.heap.size ≤ j
  bel : Below w.heap.size w wr
  st : coilL l = joinP acc (coilGo (befE l k) (l.drop k))
  sz : acc.length ≤ 100 * k

theorem bef_zero {l : List Ev} {k : Nat} (h : k < l.length) (hk : k = 0) : befE l k = l[k] := by
  subst hk; unfold befE; rw [List.getD_eq_getElem?_getD, List.getElem?_eq_getElem h]; rfl

/-- What a round's put does. -/
theorem pl_put {w wr : World} {l : List Ev} {acc : List UInt8} {k : Nat} (P : PL w wr l acc k) (hL : EvL w) (hn : l.length ≤ 1000000) (hf : ∀ e ∈ l, EvFits e) (hk : k < l.length) (d e : Ev) (hd : d = befE l k) (he : e = l[k]) (o1 o2 : Obj) :
    Calls Tryd.prog 44 #[.pointer (some ⟨w.heap.size, 0, none⟩), evV d, evV e] ((wr.alloc o1).alloc o2) fun r w' => r = .returned (.int .i64 (putE d e)) ∧
      (putE d e = 0 → PL w w' l (acc ++ evBytes d e) (k + 1)) ∧ (putE d e ≠ 0 → coilL l = ([], putE d e)) ∧ Below w.heap.size w w' := by
  obtain ⟨v, h, hv⟩ := P.own
  have hlt := hL.lt
  have b1 : Below w.heap.size w ((wr.alloc o1).alloc o2) := (P.bel.alloc P.bel.size _).alloc (by have := P.bel.size; simp; omega) _
  have f : EvFits e := by rw [he]; exact hf _ (List.getElem_mem hk)
  have hsz := P.sz
  refine (put_any' _ w.heap.size v acc ((h.alloc o1).alloc o2) d e f (hL.below b1) (by omega) (fun e => by have := hv _ e; omega) (by omega)).mono ?_
  rintro r w' ⟨rfl, v', h', o', f'⟩
  have bsz := b1.size
  have b2 : Below w.heap.size w w' := b1.trans (o'.below bsz (fun j hj => by rcases hj with rfl | hj; exact Nat.le_refl _; exact hv j hj))
  refine ⟨rfl, fun h0 => ?_, fun h0 => ?_, b2⟩
  · have hadd : addB d e = evBytes d e := by unfold addB; rw [if_pos h0]
    have hlen := addB_len d e f
    rw [hadd] at h' hlen
    subst hd he
    refine ⟨hk, ⟨v', h', fun j hj => ?_⟩, b2, coil_go hk P.st h0, by rw [List.length_append]; omega⟩
    rcases f' j hj with hj | hj
    · exact hv j hj
    · omega
  · subst hd he
    exact coil_bad hk P.st h0

set_option maxRecDepth 100000 in
set_option maxHeartbeats 4000000 in
theorem print_any (ao : Option Addr) (cap : Nat) (l : List Ev) (w : World) (hs : SeenE w ao cap l) (hL : EvL w) (hf : ∀ e ∈ l, EvFits e) (hn : l.length ≤ 1000000) :
    Calls Tryd.prog 22 #[.slice ao l.length cap] w fun r w' => r = .returned (.tuple #[.string ⟨(coilL l).1.toArray⟩, .int .i64 (coilL l).2]) ∧ Below w.heap.size w w' := by
  have Hs := Lib.hid hs
  have HL := Lib.hid hL
  have Hf := Lib.hid hf
  have Hst := Lib.hid (coil_start l)
  clear hs hL hf
  go_enter Tryd.func22, Tryd.ntmps22
  go_wp2_with fail
  go_loopw [11] (fun x wr => ∃ (k : Nat) (acc : List UInt8), x = .int .i64 k ∧ Hid (PL w wr l acc k)) (fun x _ => l.length - (intOf x).toNat)
  case atStart => exact ⟨0, [], rfl, Lib.hid ⟨Nat.zero_le _, ⟨_, wrf_new w, by simp [Value.ownBlock]⟩, (Below.refl _ w).alloc (Nat.le_refl _) _, Hst.out, by simp⟩⟩
  case round =>
    obtain ⟨k, acc, rfl, P⟩ := hrel
    by_cases hlt : k < l.length
    · obtain ⟨b, off, rfl, hb, a6⟩ := Hs.out.at k hlt
      have a6 := a6.same (P.out.bel.block b hb)
      obtain ⟨c0, c1, c2, c3, c4, c5⟩ := a6
      obtain ⟨e, he⟩ : ∃ e, e = l[k] := ⟨_, rfl⟩
      rw [← he] at c0 c1 c2 c3 c4 c5
      have He := Lib.hid he
      clear he
      by_cases hk0 : k = 0
      · have hd0 : decide ((0 : Int) < (k : Int)) = false := by simp; omega
        have hd0' : decide (0 < k) = false := by simp; omega
        have H0 := Lib.hid hk0
        clear hk0
        have hbe : e = befE l k := He.out.trans (bef_zero hlt H0.out).symm
        have HP := Lib.hid (pl_put P.out HL.out hn Hf.out hlt e e hbe He.out)
        clear hbe
        unfold evV at HP
        obtain ⟨p, hp⟩ : ∃ p, p = putE e e := ⟨_, rfl⟩
        rw [← hp] at HP
        clear hp
        go_wp2_with fail
        refine (HP.out _ _).mono ?_
        rintro r w1 ⟨rfl, h1, h2, b1⟩
        have H1 := Lib.hid h1
        have H2 := Lib.hid h2
        clear h1 h2 HP c0 c1 c2 c3 c4 c5
        by_cases hp : p = 0
        · have hpb : (p != 0) = false := by rw [hp]; rfl
          have Hp := Lib.hid hp
          clear hp
          go_wp2
          go_roundw
          case rel => exact ⟨k + 1, _, by go_num, Lib.hid (H1.out Hp.out)⟩
          case measure => simp [intOf]; omega
        · have hpb : (p != 0) = true := by rw [bne_iff_ne]; exact hp
          have hE := Lib.hid (H2.out hp)
          clear hp
          go_wp2
          go_ret2
          rw [hE.out]
          exact ⟨rfl, b1⟩
      · have hd0 : decide ((0 : Int) < (k : Int)) = true := by simp; omega
        have hd0' : decide (0 < k) = true := by simp; omega
        obtain ⟨b', off', hao, -, p6⟩ := Hs.out.at (k - 1) (by omega)
        cases hao
        have p6 := p6.same (P.out.bel.block b hb)
        obtain ⟨q0, q1, q2, q3, q4, q5⟩ := p6
        obtain ⟨d, hd⟩ : ∃ d, d = l[k - 1] := ⟨_, rfl⟩
        rw [← hd] at q0 q1 q2 q3 q4 q5
        have hkk : ((k : Int) - 1).toNat = k - 1 := by omega
        have Hd := Lib.hid hd
        have hbw : b < wr.heap.size := by have := P.out.bel.size; omega
        clear hd
        have hbe : d = befE l k := by rw [Hd.out]; unfold befE; simp [List.getD_eq_getElem?_getD, List.getElem?_eq_getElem (show k - 1 < l.length by omega)]
        have HP := Lib.hid (pl_put P.out HL.out hn Hf.out hlt d e hbe He.out)
        clear hbe
        unfold evV at HP
        obtain ⟨p, hp⟩ : ∃ p, p = putE d e := ⟨_, rfl⟩
        rw [← hp] at HP
        clear hp
        go_wp2_with fail
        refine (HP.out _ _).mono ?_
        rintro r w1 ⟨rfl, h1, h2, b1⟩
        have H1 := Lib.hid h1
        have H2 := Lib.hid h2
        clear h1 h2 HP c0 c1 c2 c3 c4 c5 q0 q1 q2 q3 q4 q5 hbw hk0
        by_cases hp : p = 0
        · have hpb : (p != 0) = false := by rw [hp]; rfl
          have Hp := Lib.hid hp
          clear hp
          go_wp2
          go_roundw
          case rel => exact ⟨k + 1, _, by go_num, Lib.hid (H1.out Hp.out)⟩
          case measure => simp [intOf]; omega
        · have hpb : (p != 0) = true := by rw [bne_iff_ne]; exact hp
          have hE := Lib.hid (H2.out hp)
          clear hp
          go_wp2
          go_ret2
          rw [hE.out]
          exact ⟨rfl, b1⟩
    · have hE := Lib.hid (coil_end hlt P.out.st)
      obtain ⟨v, h, hv⟩ := P.out.own
      have HW := Lib.hid h
      have HB := Lib.hid P.out.bel
      clear P h hv
      go_wp2_with fail
      refine (string_foot wr _ v acc HW.out).mono ?_
      rintro r w1 ⟨rfl, rfl⟩
      go_wp2_with fail
      go_ret2
      rw [hE.out]
      exact ⟨rfl, HB.out⟩

end Go.Proofs.YtjfoepknlleonaaDoor
