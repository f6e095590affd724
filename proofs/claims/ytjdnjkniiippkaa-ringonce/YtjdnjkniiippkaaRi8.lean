/-
  Put of the document's ring. Over this seat's translation.
-/
import Derived.Test.YtjdnjkniiippkaaRi7
import Derived.Deep.DeepCutAuto
namespace Go.Proofs.Ytjdnjkniiippkaa
open Go.RowKit
set_option linter.unusedVariables false

/-- One more is lost. -/
theorem RSt.losing_next {s : RSt} (ok : s.Ok) {k : Nat} (hk : k < s.tail.length) : ∃ f, (s.losing k).fs[s.first]? = some f ∧ s.first < (s.losing k).fs.length ∧
    s.losing (k + 1) = { s.losing k with fs := (s.losing k).fs.take s.first ++ (s.losing k).fs.drop (s.first + 1), lost := (s.losing k).lost + 1, gone := (s.losing k).gone ++ [f] } := by
  have hl := s.head_len ok
  have hfs : (s.losing k).fs = s.head ++ s.tail.drop k := rfl
  have hd : s.tail.drop k = s.tail[k] :: s.tail.drop (k + 1) := List.drop_eq_getElem_cons hk
  refine ⟨s.tail[k], ?_, ?_, ?_⟩
  · rw [hfs, ← hl, List.getElem?_append_right (Nat.le_refl _), Nat.sub_self, hd]; rfl
  · rw [hfs, List.length_append, hl, hd, List.length_cons]; omega
  · have e1 : (s.losing k).fs.take s.first = s.head := by rw [hfs, ← hl]; exact List.take_left
    have e2 : (s.losing k).fs.drop (s.first + 1) = s.tail.drop (k + 1) := by
      rw [hfs, ← hl, ← List.drop_drop, List.drop_left, hd]; rfl
    rw [e1, e2]
    show RSt.mk _ _ _ _ _ _ = RSt.mk _ _ _ _ _ _
    congr 1
    show s.gone ++ s.tail.take (k + 1) = (s.gone ++ s.tail.take k) ++ [s.tail[k]]
    rw [List.append_assoc, List.take_add_one, List.getElem?_eq_getElem hk]; rfl

/-- append, with the length's name given. -/
theorem wpList_append_at {w : World} {ops : Array Oper} {rest : List Oper} {o : Oper} {a : Act} {Q : Exit → Act → World → Prop} (hgd : o.guard = none) (s x : Operand)
    (ho : o.op = .call { callee := .builtin .append, args := #[s, x], argTypes := #[30, 30] }) (v : Value) (hs : a.eval s = v) (l : List ByteArray) (h : Txts w v l)
    (ad : Addr) (m c : Nat) (hx : a.eval x = .slice (some ad) m c) (news : List ByteArray) (hn : Txts w (.slice (some ad) m c) news) (r : Nat) (hr : l.length + m = r) (hb : r ≤ 4000000)
    (hK : ∀ ao cap w', Appd w w' v (.slice ao r cap) (l ++ news) → wpList Try.prog ops Q rest (a.put o.dst (.slice ao r cap)) w') : wpList Try.prog ops Q (o :: rest) a w := by
  subst hr
  exact wpList_append_txts hgd s x ho v hs l h ad m c hx news (hn.some rfl).1.symm (hn.some rfl).2 hb hK

/-- A new row into L. -/
theorem Mt.put_new {w w' : World} {m : Nat} {vl vg : Value} {s : RSt} (h : Mt w m vl vg s) {vl' : Value} {l' : List ByteArray} (hr : Txts w' vl' l') (ho : Only w w' (fun _ => False)) (hn : ∀ k, vl'.ownBlock = some k → w.heap.size ≤ k) :
    Mt (w'.setCell ⟨m, 2, none⟩ vl') m vl' vg { s with fs := l' } ∧ TurnedM w (w'.setCell ⟨m, 2, none⟩ vl') m vl vg vl' vg ∧ w'.heap[m]? = w.heap[m]? :=
  h.put_row hr (ho.mono fun _ _ e => e.elim) (fun k hk => .inr (hn k hk))
theorem Only.fresh {w w1 w2 : World} {v : Value} (h : Only w w1 (fun _ => False)) (g : Only w1 w2 (fun k => v.ownBlock = some k)) (hv : ∀ k, v.ownBlock = some k → w.heap.size ≤ k) : Only w w2 (fun _ => False) :=
  h.trans g (fun k hk e => by have := hv k e; omega)

theorem lit_cells (w : World) (t : ByteArray) (n : Nat) (hn : n = w.heap.size) : ∀ j u, [t][j]? = some u → (w.alloc (.cells #[.string t] 9)).cell? ((⟨n, 0, none⟩ : Addr).add j) = some (.string u) := by
  subst hn
  exact ((Txts.lit1 w t).some rfl).2

def heldOf (w : World) (m : Nat) : Nat := match w.cell? ⟨m, 2, none⟩ with | some (.slice _ n _) => n | _ => 0
theorem heldOf_mt {w : World} {m : Nat} {vl vg : Value} {s : RSt} (h : Mt w m vl vg s) : heldOf w m = s.fs.length := by
  obtain ⟨ao, cap, rfl, _⟩ := h.rl.shape
  unfold heldOf
  rw [h.c.2.2.1]

set_option maxRecDepth 100000 in
set_option maxHeartbeats 4000000 in
theorem mt_put_bad {w : World} {m : Nat} {vl vg : Value} {s : RSt} (h : Mt w m vl vg s) (t : ByteArray) (ht : t.size ≤ maxLen) (hb : t.size < 1 ∨ 179 < t.size) :
    Calls Try.prog 12 #[.pointer (some ⟨m, 0, none⟩), .string t] w fun e w' => e = .returned (.int .i64 1) ∧ w = w' := by
  unfold maxLen at ht
  clear h
  by_cases h1 : t.size < 1
  · have hd : decide ((t.size : Int) < 1) = true := by simp; omega
    go_enter Try.func12, Try.ntmps12
    go_wp2_with fail
    go_ret
    exact ⟨rfl, rfl⟩
  · have hd : decide ((t.size : Int) < 1) = false := by simp; omega
    have hd2 : decide ((179 : Int) < t.size) = true := by simp; omega
    go_enter Try.func12, Try.ntmps12
    go_wp2_with fail
    go_ret
    exact ⟨rfl, rfl⟩

set_option maxRecDepth 100000 in
set_option maxHeartbeats 4000000 in
theorem mt_put_full {w : World} {m : Nat} {vl vg : Value} {s : RSt} (h : Mt w m vl vg s) (ok : s.Ok) (t : ByteArray) (h1 : 1 ≤ t.size) (h2 : t.size ≤ 179) (hf : s.cap < t.size + s.used ∧ (s.pol = 0 ∨ s.cap < t.size + s.rest)) (hl : s.lost + 1 < 18446744073709551615) (hg : s.gone.length ≤ 1000000) :
    Calls Try.prog 12 #[.pointer (some ⟨m, 0, none⟩), .string t] w fun e w' => e = .returned (.int .i64 7) ∧ ∃ vl' vg', Mt w' m vl' vg' (s.losing1 t) ∧ TurnedM w w' m vl vg vl' vg' := by
  have hd : decide ((t.size : Int) < 1) = false := by simp; omega
  have hd2 : decide ((179 : Int) < t.size) = false := by simp; omega
  have hlen := len_le_sz s.fs ok.e
  have hlu : sz s.fs = s.used := rfl
  have hk1 := ok.u
  have hk2 := ok.c2
  have hk3 := ok.c1
  have hru : s.rest ≤ s.used := by have := s.used_parts; omega
  have hus := fun q => (mt_used (h.drewN q) (by omega) (by omega)).mono (R' := fun e w' => e = .returned (.int .i64 s.used) ∧ w' = w.drewN q) fun e w' h => ⟨h.1, h.2.symm⟩
  obtain ⟨c0, c1, c2, c3, c4, c5⟩ := h.c
  have f4 := h.free 4
  have f5 := h.free 5
  have HUS := Lib.hid hus
  have H := Lib.hid h
  have hd3 : decide ((s.cap : Int) - (s.used : Int) < (t.size : Int)) = true := by simp; omega
  have hpd : ((s.pol : Int) == 0) = true ∨ (((s.pol : Int) == 0) = false ∧ decide ((s.cap : Int) < (t.size : Int) + (s.rest : Int)) = true) := by
    rcases ok.p with hp | hp
    · left; rw [hp]; rfl
    · right; rw [hp]; exact ⟨rfl, by simp; omega⟩
  have hB : (s.begun = false ∧ s.rest = 0) ∨ (s.begun = true ∧ ∃ f r, s.fs = f :: r ∧ s.rest = f.size) := by
    cases hb : s.begun with
    | false => exact .inl ⟨rfl, by show sz (s.fs.take s.first) = 0; unfold RSt.first; rw [hb]; rfl⟩
    | true =>
      cases hfs : s.fs with
      | nil => exact absurd hfs (ok.b hb)
      | cons f r => exact .inr ⟨rfl, f, r, rfl, by show sz (s.fs.take s.first) = _; unfold RSt.first; rw [hb, hfs]; simp [sz]⟩
  obtain ⟨ag, cg, rfl, hcg⟩ := h.rg.shape
  have h3 : ∀ q, Mt ((w.drewN q).setCell ⟨m, 4, none⟩ (.int .u64 ((s.lost : Int) + 1))) m vl (.slice ag s.gone.length cg) { s with lost := s.lost + 1 } := fun q => (h.drewN q).set_lost (s.lost + 1)
  have H3 := Lib.hid h3
  have hd0 : ∀ f r, s.fs = f :: r → ∃ g off cap, vl = .slice (some ⟨g, off, none⟩) s.fs.length cap ∧ w.cell? ⟨g, off, none⟩ = some (.string f) := by
    intro f r hfs
    obtain ⟨g, off, cap, hv, -, -, hcell, -⟩ := h.rl.at 0 (by rw [hfs]; simp)
    exact ⟨g, off, cap, hv, hcell 0 f (by rw [hfs]; rfl)⟩
  have hln : ∀ f r, s.fs = f :: r → (0 : Int) < (s.fs.length : Int) := by intro f r hfs; rw [hfs]; simp only [List.length_cons]; omega
  have T4 := Lib.hid (fun q => (TurnedM.drewN w m q vl (.slice ag s.gone.length cg)).trans (TurnedM.cell (w.drewN q) m 4 vl (.slice ag s.gone.length cg) (.int .u64 ((s.lost : Int) + 1))))
  clear h hus h3
  have HB := Lib.hid hB
  have HD0 := Lib.hid hd0
  have HLn := Lib.hid hln
  clear hB hd0 hln hf
  generalize hbg : s.begun = bg at c3 HB
  have Hbg := Lib.hid hbg
  clear hbg
  go_enter Try.func12, Try.ntmps12
  go_upto_if 19 with fail
  go_cut [5, 6] (fun rs fi wx => rs = .int .i64 s.rest ∧ fi = .int .i64 s.first ∧ wx = w)
  case first =>
    rcases HB.out with ⟨hb, hr⟩ | ⟨hb, f, r, hfs, hr⟩
    · subst hb
      go_wp2_with fail
      go_meet
      exact ⟨by rw [hr]; rfl, by unfold RSt.first; rw [Hbg.out]; rfl, rfl⟩
    · subst hb
      obtain ⟨g, off, cap, rfl, d0⟩ := HD0.out f r hfs
      have hn0 := HLn.out f r hfs
      clear hfs
      go_wp2_with fail
      go_meet
      exact ⟨by rw [hr], by unfold RSt.first; rw [Hbg.out]; rfl, rfl⟩
  case rest =>
  obtain ⟨rfl, rfl, rfl⟩ := hcut
  clear HB HD0 HLn
  go_wp2_with fail
  go_loopw [] (fun wr => wr = wc) (fun _ => 0)
  case atStart => rfl
  case round =>
    obtain rfl := hrel
    go_wp2_with fail
    go_quiet (first | (go_at_call 24; exact Calls.quiet_of_same (HUS.out _)))
    rcases hpd with hp | ⟨hp, hp2⟩
    all_goals
      go_wp2_with (at_builtin; refine wpList_append_txts rfl (.tmp 64) (.tmp 66) rfl (.slice ag s.gone.length cg) rfl s.gone ?h _ 1 1 rfl [t] rfl ?hc ?hb ?_)
      case h => exact ((H3.out _).alloc _).rg
      case hc => exact lit_cells _ t _ (by simp)
      case hb => omega
      intro ao4 cap4 w4 hA
      obtain ⟨m5, t5, e5⟩ := ((H3.out nq).alloc _).put_gone hA
      have e6 := e5.trans ((H3.out nq).alloc _).blk
      have z5 := (cell_of_row w4 m 5 _ _ (0, 0) e6).trans rfl
      have g5 := frozen_of_row w4 m 5 _ _ e6
      have M5 := Lib.hid m5
      have T5 := Lib.hid (((T4.out nq).trans (TurnedM.alloc _ m (.cells #[.string t] 9) _ _)).trans t5)
      clear hA m5 t5 e5 e6
      go_wp2_with fail
      (try simp only [Exit.inBlock, Exit.then])
      go_ret
      exact ⟨rfl, _, _, M5.out, T5.out⟩

end Go.Proofs.Ytjdnjkniiippkaa
