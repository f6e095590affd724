/-
  The code's Add and Remove; a row of the call's own; what each call answers and leaves of it. No condition.
-/
import Derived.Test.YteglnlhdgfpglaaWa4
namespace Go.Proofs.Yteglnlhdgfpglaa
open Go Go.RowKit
set_option linter.unusedVariables false
set_option linter.unusedSimpArgs false

/-! ### Add -/
theorem addK_iff {l : List Nat} {t : Int} : addK l t = true ↔ 0 ≤ t ∧ t < 64 ∧ inW l t = false := by
  simp [addK, and_assoc]
theorem wadd_nil (w : World) (t : Int) : Calls Try.prog 10 #[.pointer none, .int .i64 t] w fun e w' => e = .returned (.int .i64 16) ∧ w = w' := by
  go_enter Try.func10, Try.ntmps10
  go_wp2_with fail
  go_ret
  exact ⟨rfl, rfl⟩
set_option maxRecDepth 100000 in
set_option maxHeartbeats 4000000 in
theorem wadd_no {w : World} {m B : Nat} {v : Value} {l : List Nat} (h : WV w m B v l) (t : Int) (hn : addK l t = false) :
    Calls Try.prog 10 #[.pointer (some ⟨m, 0, none⟩), .int .i64 t] w fun e w' => e = .returned (.int .i64 1) ∧ w = w' := by
  have K := Lib.hid (whas_any h t)
  clear h
  by_cases h1 : t < 0
  · have g1 : decide (t < 0) = true := by simpa using h1
    clear hn K
    go_enter Try.func10, Try.ntmps10
    go_wp2_with fail
    go_ret
    exact ⟨rfl, rfl⟩
  by_cases h2 : 64 ≤ t
  · have g1 : decide (t < 0) = false := by simpa using h1
    have g2 : decide ((64 : Int) ≤ t) = true := by simpa using h2
    clear hn K
    go_enter Try.func10, Try.ntmps10
    go_wp2_with fail
    go_ret
    exact ⟨rfl, rfl⟩
  · have g1 : decide (t < 0) = false := by simpa using h1
    have g2 : decide ((64 : Int) ≤ t) = false := by simp; omega
    have hi : inW l t = true := by
      apply Classical.byContradiction
      intro hi
      have := addK_iff.2 ⟨by omega, by omega, Bool.eq_false_iff.2 hi⟩
      rw [hn] at this
      cases this
    rw [hi] at K
    clear hn hi h1 h2
    go_enter Try.func10, Try.ntmps10
    go_wp2_with fail
    refine K.out.mono ?_
    rintro e w1 ⟨rfl, rfl⟩
    go_wp2_with fail
    go_ret
    exact ⟨rfl, rfl⟩
theorem WFoot.after {w w1 w' : World} {m : Nat} {v v' : Value} (hb : Below w.heap.size w w1) (h : WFoot m v v' w1 w') : WFoot m v v' w w' :=
  ⟨(Only.of_below hb _).trans h.only (fun k _ hk => hk), fun k hk => (h.new k hk).imp id (fun h => Nat.le_trans hb.size h)⟩
set_option maxRecDepth 100000 in
set_option maxHeartbeats 4000000 in
theorem wadd_yes {w : World} {m B : Nat} {v : Value} {l : List Nat} (h : WV w m B v l) (hB : B ≤ w.heap.size) (t : Int) (hy : addK l t = true) :
    Calls Try.prog 10 #[.pointer (some ⟨m, 0, none⟩), .int .i64 t] w fun e w' => e = .returned (.int .i64 0) ∧ ∃ v', WV w' m B v' (addW l t) ∧ WFoot m v v' w w' := by
  have K := Lib.hid (whas_any h t)
  have hok := h.ok.add t
  have he : addW l t = l ++ [t.toNat] := by unfold addW; rw [if_pos hy]
  rw [he] at hok ⊢
  obtain ⟨h0, h64, hi⟩ := addK_iff.1 hy
  rw [hi] at K
  obtain ⟨x, rfl⟩ := Int.eq_ofNat_of_zero_le h0
  simp only [Int.toNat_natCast] at hok ⊢
  have g1 : decide ((x : Int) < 0) = false := by simp
  have g2 : decide ((64 : Int) ≤ (x : Int)) = false := by simp; omega
  have H := Lib.hid h
  have HB := Lib.hid hB
  have cm := h.cell
  obtain ⟨ao, cap, rfl, -⟩ := h.shape
  have B1 := below_box (w := w) (.cells #[.int .i64 (x : Int)] 3)
  have HB1 := Lib.hid B1
  have hmw := h.lt
  have hl := h.ok.len
  have HOK := Lib.hid hok
  obtain ⟨n, hnn⟩ : ∃ n, l.length = n := ⟨_, rfl⟩
  rw [hnn] at cm hl H ⊢
  have HNn := Lib.hid hnn
  have hn2 : n ≤ 1000000 := by omega
  clear h hB B1 hnn hok he hi hy h0 h64
  go_enter Try.func10, Try.ntmps10
  go_wp2_with fail
  refine K.out.mono ?_
  rintro e w1 ⟨rfl, rfl⟩
  go_wp2_with (at_builtin; refine wpList_pushI rfl _ _ rfl B _ rfl l ?h ?hB n HNn.out _ 1 x rfl ?hc hn2 ?_)
  case h => exact (H.out.below HB1.out).row
  case hB => exact Nat.le_trans HB.out HB1.out.size
  case hc => exact lit_int _ x _ (by simp)
  intro a4 k4 w4 hA
  obtain ⟨f1, f2⟩ := (H.out.below HB1.out).fin hA.row hA.only hA.new HOK.out
  have f3 := WFoot.after HB1.out f2
  have cm4 : w4.cell? ⟨m, 0, none⟩ = some (.slice ao n cap) := hA.only.cell (H.out.below HB1.out).cell (H.out.nm)
  have fm4 : w4.frozen? ⟨m, 0, none⟩ = false := by
    have := (hA.only.block m (H.out.below HB1.out).lt H.out.nm).trans (H.out.below HB1.out).blk
    simp [World.frozen?, this]
  have HF1 := Lib.hid f1
  have HF3 := Lib.hid f3
  clear hA f1 f2 f3
  go_wp2_with fail
  go_ret
  exact ⟨rfl, _, HF1.out, HF3.out⟩

/-! ### Remove -/
theorem idxW_rem : ∀ {l : List Nat} {t : Int}, l.Nodup → inW l t = true → ∃ i : Nat, idxW l t = (i : Int) ∧ i < l.length ∧ remW l t = l.take i ++ l.drop (i + 1)
  | [], _, _, h => by simp [inW] at h
  | x :: r, t, hn, h => by
    by_cases hx : (x : Int) = t
    · refine ⟨0, by simp [idxW, hx], by simp, ?_⟩
      rw [remW_cons_eq hx, remW_none]
      · simp
      · apply Bool.eq_false_iff.2
        intro hi
        obtain ⟨y, hy, e⟩ := inW_iff.1 hi
        obtain rfl : y = x := by omega
        exact (List.nodup_cons.1 hn).1 hy
    · have hr : inW r t = true := by simpa [inW, hx] using h
      obtain ⟨i, h1, h2, h3⟩ := idxW_rem (List.nodup_cons.1 hn).2 hr
      refine ⟨i + 1, ?_, by simpa using h2, ?_⟩
      · simp only [idxW, if_neg hx, h1]
        rw [if_neg (by omega)]
        rfl
      · rw [remW_cons_ne hx, h3]; simp
theorem wremove_nil (w : World) (t : Int) : Calls Try.prog 11 #[.pointer none, .int .i64 t] w fun e w' => e = .returned (.bool false) ∧ w = w' := by
  have K1 := Lib.hid (wrow_nil w)
  have K2 := Lib.hid (sindex_any (l := []) (w := w) (ao := none) (cap := 0) seenR_nil (by simp) t)
  rw [show idxW [] t = -1 from rfl, List.length_nil] at K2
  go_enter Try.func11, Try.ntmps11
  go_wp2_with fail
  refine K1.out.mono ?_
  rintro e w1 ⟨rfl, rfl⟩
  go_wp2_with fail
  refine K2.out.mono ?_
  rintro e w2 ⟨rfl, rfl⟩
  go_wp2_with fail
  go_ret
  exact ⟨rfl, rfl⟩
set_option maxRecDepth 100000 in
set_option maxHeartbeats 4000000 in
theorem wremove_no {w : World} {m B : Nat} {v : Value} {l : List Nat} (h : WV w m B v l) (t : Int) (hn : inW l t = false) :
    Calls Try.prog 11 #[.pointer (some ⟨m, 0, none⟩), .int .i64 t] w fun e w' => e = .returned (.bool false) ∧ w = w' := by
  obtain ⟨ao, cap, rfl, hs⟩ := h.shape
  have K1 := Lib.hid (wrow_any h)
  have K2 := Lib.hid (sindex_any hs (by have := h.ok.len; omega) t)
  have hi := idxW_neg l t
  rw [hn] at hi
  have hi2 : idxW l t < 0 := of_decide_eq_true hi
  generalize idxW l t = z at *
  generalize l.length = n at *
  clear h hs hi
  go_enter Try.func11, Try.ntmps11
  go_wp2_with fail
  refine K1.out.mono ?_
  rintro e w1 ⟨rfl, rfl⟩
  go_wp2_with fail
  refine K2.out.mono ?_
  rintro e w2 ⟨rfl, rfl⟩
  go_wp2_with fail
  go_ret
  exact ⟨rfl, rfl⟩
set_option maxRecDepth 100000 in
set_option maxHeartbeats 4000000 in
theorem wremove_yes {w : World} {m B : Nat} {v : Value} {l : List Nat} (h : WV w m B v l) (t : Int) (hy : inW l t = true) :
    Calls Try.prog 11 #[.pointer (some ⟨m, 0, none⟩), .int .i64 t] w fun e w' => e = .returned (.bool true) ∧ ∃ v', WV w' m B v' (remW l t) ∧ WFoot m v v' w w' := by
  obtain ⟨ao, cap, rfl, hs⟩ := h.shape
  have K1 := Lib.hid (wrow_any h)
  have hl := h.ok.len
  have K2 := Lib.hid (sindex_any hs (by omega) t)
  have hok := h.ok.rem t
  obtain ⟨i, hi, hil, hr⟩ := idxW_rem h.ok.nd hy
  rw [hi] at K2
  obtain ⟨g, off, rfl, -, -⟩ := seenN_at hs i hil
  obtain rfl : off = 0 := by
    rcases h.row.2 with ⟨e, -⟩ | ⟨g', cap', cur, e, -⟩
    · cases e
    · cases e; rfl
  have K3 := Lib.hid (wdelete_any h.row (i := i) (j := i + 1) (by omega) (by omega) (by omega))
  rw [show ((i + 1 : Nat) : Int) = (i : Int) + 1 from rfl, ← hr] at K3
  have H := Lib.hid h
  have HOK := Lib.hid hok
  have cm := h.cell
  have fm := h.thawed
  obtain ⟨n, hn⟩ : ∃ n, l.length = n := ⟨_, rfl⟩
  rw [hn] at K1 K2 K3 H hil hl cm
  obtain ⟨k, hk⟩ : ∃ k, i + (n - (i + 1)) = k := ⟨_, rfl⟩
  rw [hk] at K3
  rw [hn]
  generalize remW l t = r at *
  clear h hs hok hi hr hk hy hn
  go_enter Try.func11, Try.ntmps11
  go_wp2_with fail
  refine K1.out.mono ?_
  rintro e w1 ⟨rfl, rfl⟩
  go_wp2_with fail
  refine K2.out.mono ?_
  rintro e w2 ⟨rfl, rfl⟩
  go_wp2_with fail
  refine K3.out.mono ?_
  rintro e w3 ⟨rfl, hO, ho⟩
  have ho' : Only w w3 (fun q => (Value.slice (some ⟨g, 0, none⟩) n cap).ownBlock = some q) := ho.mono (fun q _ hq => by rw [hq]; rfl)
  obtain ⟨f1, f2⟩ := H.out.fin hO ho' (fun q hq => .inl hq) HOK.out
  have cm3 : w3.cell? ⟨m, 0, none⟩ = some (.slice (some ⟨g, 0, none⟩) n cap) := ho'.cell H.out.cell H.out.nm
  have fm3 : w3.frozen? ⟨m, 0, none⟩ = false := by
    have := (ho'.block m H.out.lt H.out.nm).trans H.out.blk
    simp [World.frozen?, this]
  have HF1 := Lib.hid f1
  have HF2 := Lib.hid f2
  clear hO ho ho' f1 f2 K1 K2 K3 H HOK cm fm
  go_wp2_with fail
  go_ret
  exact ⟨rfl, _, HF1.out, HF2.out⟩

/-! ### A row of the call's own, made behind w0 -/
structure OW (w0 w : World) (m : Nat) (v : Value) (l : List Nat) : Prop where
  st : WV w m w0.heap.size v l
  bel : Below w0.heap.size w0 w
  hm : w0.heap.size ≤ m
section
variable {w0 w w' : World} {m : Nat} {v v' : Value} {l l' : List Nat}
theorem OW.lt (h : OW w0 w m v l) : m < w.heap.size := h.st.lt
theorem OW.ok (h : OW w0 w m v l) : RowW l := h.st.ok
theorem OW.only {S : Nat → Prop} (h : OW w0 w m v l) (ho : Only w w' S) (hb : Below w0.heap.size w0 w') (hm : ¬ S m) (hv : ∀ k, v.ownBlock = some k → ¬ S k) : OW w0 w' m v l := ⟨h.st.only ho hm hv, hb, h.hm⟩
theorem OW.kept (h : OW w0 w m v l) (hb : Below w.heap.size w w') : OW w0 w' m v l := ⟨h.st.below hb, below_on h.bel hb, h.hm⟩
theorem OW.drewN (h : OW w0 w m v l) (q : Nat) : OW w0 (w.drewN q) m v l := h.kept (below_dr w q)
theorem OW.step (h : OW w0 w m v l) (g : WV w' m w0.heap.size v' l') (f : WFoot m v v' w w') : OW w0 w' m v' l' :=
  ⟨g, h.bel.trans (f.only.below h.bel.size (fun k hk => by
    rcases hk with rfl | hk
    · exact h.hm
    · exact (h.st.row.lt k hk).1)), h.hm⟩
theorem ow_add (h : OW w0 w m v l) (t : Int) : Calls Try.prog 10 #[.pointer (some ⟨m, 0, none⟩), .int .i64 t] w fun e w' => e = .returned (.int .i64 (if addK l t then 0 else 1)) ∧ ∃ v', OW w0 w' m v' (addW l t) ∧ WFoot m v v' w w' := by
  by_cases hk : addK l t = true
  · refine (wadd_yes h.st h.bel.size t hk).mono ?_
    rintro e w' ⟨rfl, v', h1, h2⟩
    exact ⟨by rw [if_pos hk], v', h.step h1 h2, h2⟩
  · refine (wadd_no h.st t (Bool.eq_false_iff.2 hk)).mono ?_
    rintro e w' ⟨rfl, rfl⟩
    exact ⟨by rw [if_neg hk], v, by unfold addW; rw [if_neg hk]; exact h, WFoot.same (Below.refl _ _)⟩
theorem ow_remove (h : OW w0 w m v l) (t : Int) : Calls Try.prog 11 #[.pointer (some ⟨m, 0, none⟩), .int .i64 t] w fun e w' => e = .returned (.bool (inW l t)) ∧ ∃ v', OW w0 w' m v' (remW l t) ∧ WFoot m v v' w w' := by
  by_cases hk : inW l t = true
  · refine (wremove_yes h.st t hk).mono ?_
    rintro e w' ⟨rfl, v', h1, h2⟩
    exact ⟨by rw [hk], v', h.step h1 h2, h2⟩
  · have hk := Bool.eq_false_iff.2 hk
    refine (wremove_no h.st t hk).mono ?_
    rintro e w' ⟨rfl, rfl⟩
    exact ⟨by rw [hk], v, by rw [remW_none hk]; exact h, WFoot.same (Below.refl _ _)⟩
theorem ow_has (h : OW w0 w m v l) (t : Int) : Calls Try.prog 17 #[.pointer (some ⟨m, 0, none⟩), .int .i64 t] w fun e w' => e = .returned (.bool (inW l t)) ∧ w = w' := whas_any h.st t
theorem ow_all (h : OW w0 w m v l) : Calls Try.prog 16 #[.pointer (some ⟨m, 0, none⟩)] w fun e w' => ∃ bo bc, e = .returned (.slice bo l.length bc) ∧ OwnI w' w.heap.size (.slice bo l.length bc) l ∧ Below w.heap.size w w' := wall_any h.st
theorem ow_best (h : OW w0 w m v l) {bo : Option Addr} {bc : Nat} {lv : List Int} (g : SeenL w bo bc lv) :
    Calls Try.prog 13 #[.pointer (some ⟨m, 0, none⟩), .slice bo lv.length bc] w fun e w' => e = .returned (bestV lv l) ∧ ∃ q, w' = w.drewN q := wbest_any h.st g
end
theorem ow_new {w w1 : World} (e1 : w1 = w.alloc (.cells #[.slice none 0 0] 26)) : OW w w1 w.heap.size (.slice none 0 0) [] := by
  obtain ⟨s1, n1, b1⟩ := new_size e1
  exact ⟨⟨n1, ownR_nil, RowW.nil⟩, b1, Nat.le_refl _⟩
/-- Two rows of one's own are compared. -/
theorem wints_own {w : World} {B C : Nat} {ao bo : Option Addr} {cap bc n k : Nat} {l l' : List Nat} (h : OwnI w B (.slice ao n cap) l) (g : OwnI w C (.slice bo k bc) l') (hl : n ≤ 1000000) :
    Calls Try.prog 15 #[.slice ao n cap, .slice bo k bc] w fun e w' => e = .returned (.bool (decide (l = l'))) ∧ ∃ q, w' = w.drewN q := by
  obtain rfl := h.len
  obtain rfl := g.len
  obtain ⟨a1, c1, e1, s1, -⟩ := OwnR.seen w1i_len h
  obtain ⟨a2, c2, e2, s2, -⟩ := OwnR.seen w1i_len g
  cases e1
  cases e2
  exact wints_any ao cap l s1 bo bc l' s2 hl
theorem windex_own {w : World} {B n cap : Nat} {ao : Option Addr} {l : List Nat} (h : OwnI w B (.slice ao n cap) l) (hl : n ≤ 1000000) (t : Int) :
    Calls Try.prog 9 #[.slice ao n cap, .int .i64 t] w fun e w' => e = .returned (.int .i64 (idxW l t)) ∧ w = w' := by
  obtain rfl := h.len
  obtain ⟨a1, c1, e1, s1, -⟩ := OwnR.seen w1i_len h
  cases e1
  exact rindex_any s1 hl t

end Go.Proofs.Yteglnlhdgfpglaa
