/-
  The code's row in memory (a block that holds the slice, and a row of tasks of one's own), and its calls: who waits, Has, All, Best, Add, Remove; the same of a nil row. No condition but the levels' number.
-/
import Derived.Test.YteglnlhdgfpglaaWa3
namespace Go.Proofs.Yteglnlhdgfpglaa
open Go Go.RowKit
set_option linter.unusedVariables false
set_option linter.unusedSimpArgs false

structure WV (w : World) (m B : Nat) (v : Value) (l : List Nat) : Prop where
  blk : w.heap[m]? = some (.cells #[v] 26 (0, 0))
  row : OwnI w B v l
  ok : RowW l
/-- Which blocks a call may turn, and where the row lies then. -/
structure WFoot (m : Nat) (v v' : Value) (w w' : World) : Prop where
  only : Only w w' (fun k => k = m ∨ v.ownBlock = some k)
  new : ∀ k, v'.ownBlock = some k → v.ownBlock = some k ∨ w.heap.size ≤ k
theorem WFoot.same {m : Nat} {v : Value} {w w' : World} (hb : Below w.heap.size w w') : WFoot m v v w w' := ⟨Only.of_below hb _, fun k hk => .inl hk⟩
section
variable {w w' w1 : World} {m B : Nat} {v v' : Value} {l l' : List Nat}
theorem WV.lt (h : WV w m B v l) : m < w.heap.size := blk_lt h.blk
theorem WV.nm (h : WV w m B v l) : v.ownBlock ≠ some m := by
  intro e
  obtain ⟨cs, h1⟩ := h.row.kind e
  rw [h.blk] at h1
  injection h1 with h1
  injection h1 with h1 h2 h3
  exact absurd h2 (by decide)
theorem WV.cell (h : WV w m B v l) : w.cell? ⟨m, 0, none⟩ = some v := by simp [World.cell?, h.blk]
theorem WV.thawed (h : WV w m B v l) : w.frozen? ⟨m, 0, none⟩ = false := by simp [World.frozen?, h.blk]
theorem WV.only {S : Nat → Prop} (h : WV w m B v l) (ho : Only w w' S) (hm : ¬ S m) (hv : ∀ k, v.ownBlock = some k → ¬ S k) : WV w' m B v l :=
  ⟨(ho.block m h.lt hm).trans h.blk, h.row.only ho hv, h.ok⟩
theorem WV.below (h : WV w m B v l) (hb : Below w.heap.size w w') : WV w' m B v l := h.only (Only.of_below hb (fun _ => False)) (fun e => e) (fun _ _ e => e)
theorem WV.shape (h : WV w m B v l) : ∃ ao cap, v = .slice ao l.length cap ∧ SeenN w ao cap l := by
  obtain ⟨ao, cap, e, hs, -⟩ := OwnR.seen w1i_len h.row
  exact ⟨ao, cap, e, hs⟩
/-- The slice stored behind a call that gave it back. -/
theorem WV.fin {w4 : World} (h : WV w m B v l) (hrow : OwnI w4 B v' l') (ho : Only w w4 (fun k => v.ownBlock = some k)) (hnew : ∀ k, v'.ownBlock = some k → v.ownBlock = some k ∨ w.heap.size ≤ k)
    (hok : RowW l') : WV (w4.setCell ⟨m, 0, none⟩ v') m B v' l' ∧ WFoot m v v' w (w4.setCell ⟨m, 0, none⟩ v') := by
  have hm4 : w4.heap[m]? = some (.cells #[v] 26 (0, 0)) := (ho.block m h.lt h.nm).trans h.blk
  have hne : v'.ownBlock ≠ some m := by
    intro e
    rcases hnew m e with h' | h'
    · exact h.nm h'
    · have := h.lt; omega
  have hs : Only w4 (w4.setCell ⟨m, 0, none⟩ v') (fun k => k = m) := Only.setCell w4 m _ _ _ rfl
  refine ⟨⟨?_, hrow.only hs (fun k hk e => hne (by rw [hk, e])), hok⟩, ?_, hnew⟩
  · exact heap_setCell_same w4 m 0 #[v] _ v' hm4
  · exact (ho.mono (fun k _ hk => Or.inr hk)).trans hs (fun k _ hk => .inl hk)
end

theorem wrow_any {w : World} {m B : Nat} {v : Value} {l : List Nat} (h : WV w m B v l) : Calls Try.prog 19 #[.pointer (some ⟨m, 0, none⟩)] w fun e w' => e = .returned v ∧ w = w' := by
  have c := h.cell
  clear h
  go_enter Try.func19, Try.ntmps19
  go_wp2
  go_ret
  exact ⟨rfl, rfl⟩
theorem wrow_nil (w : World) : Calls Try.prog 19 #[.pointer none] w fun e w' => e = .returned (.slice none 0 0) ∧ w = w' := by
  go_enter Try.func19, Try.ntmps19
  go_wp2
  go_ret
  exact ⟨rfl, rfl⟩

/-! ### Has -/
theorem whas_any {w : World} {m B : Nat} {v : Value} {l : List Nat} (h : WV w m B v l) (t : Int) : Calls Try.prog 17 #[.pointer (some ⟨m, 0, none⟩), .int .i64 t] w fun e w' => e = .returned (.bool (inW l t)) ∧ w = w' := by
  obtain ⟨ao, cap, rfl, hs⟩ := h.shape
  have K1 := Lib.hid (wrow_any h)
  have K2 := Lib.hid (contains_any hs (by have := h.ok.len; omega) t)
  generalize inW l t = c at *
  generalize l.length = n at *
  clear h hs
  go_enter Try.func17, Try.ntmps17
  go_wp2_with fail
  refine K1.out.mono ?_
  rintro e w1 ⟨rfl, rfl⟩
  go_wp2_with fail
  refine K2.out.mono ?_
  rintro e w2 ⟨rfl, rfl⟩
  go_wp2_with fail
  go_ret
  exact ⟨rfl, rfl⟩
theorem whas_nil (w : World) (t : Int) : Calls Try.prog 17 #[.pointer none, .int .i64 t] w fun e w' => e = .returned (.bool false) ∧ w = w' := by
  have K1 := Lib.hid (wrow_nil w)
  have K2 := Lib.hid (contains_any (l := []) (w := w) (ao := none) (cap := 0) seenR_nil (by simp) t)
  rw [show inW [] t = false from rfl, List.length_nil] at K2
  go_enter Try.func17, Try.ntmps17
  go_wp2_with fail
  refine K1.out.mono ?_
  rintro e w1 ⟨rfl, rfl⟩
  go_wp2_with fail
  refine K2.out.mono ?_
  rintro e w2 ⟨rfl, rfl⟩
  go_wp2_with fail
  go_ret
  exact ⟨rfl, rfl⟩

/-! ### All -/
set_option maxRecDepth 100000 in
set_option maxHeartbeats 4000000 in
theorem clone_any {w : World} {ao : Option Addr} {cap : Nat} {l : List Nat} (h : SeenN w ao cap l) (hl : l.length ≤ 1000000) :
    Calls Try.prog 22 #[.slice ao l.length cap] w fun e w' => ∃ bo bc, e = .returned (.slice bo l.length bc) ∧ OwnI w' w.heap.size (.slice bo l.length bc) l ∧ Below w.heap.size w w' := by
  cases ao with
  | none =>
    obtain ⟨rfl, rfl⟩ := h.nn rfl
    clear h
    rw [List.length_nil]
    have he : ∀ w : World, (binOp .eql 23 (.slice none 0 0) (.slice none 0 0)).run Try.prog w = .ok (.bool true) w := fun _ => rfl
    go_enter Try.func22, Try.ntmps22
    go_wp2_with fail
    go_ret
    exact ⟨none, 0, rfl, ownR_nil, Below.refl _ _⟩
  | some ad =>
    obtain ⟨D, hD⟩ : ∃ D, w.heap.size = D := ⟨_, rfl⟩
    have b1 : Below w.heap.size w (w.alloc (.cells #[] 3)) := below_box _
    have O1 := Lib.hid (show OwnI (w.alloc (.cells #[] 3)) w.heap.size (.slice (some ⟨D, 0, none⟩) 0 0) [] from ownI_lit0 w D hD.symm)
    have B1 := Lib.hid b1
    have HD := Lib.hid hD
    have H := Lib.hid (SeenR.below h b1)
    obtain ⟨M, hM⟩ : ∃ M, l.length = M := ⟨_, rfl⟩
    have HM := Lib.hid hM
    rw [hM] at hl
    simp only [hM]
    clear hD b1 h hM
    have he : ∀ w : World, (binOp .eql 23 (.slice (some ad) M cap) (.slice none 0 0)).run Try.prog w = .ok (.bool false) w := fun _ => rfl
    go_enter Try.func22, Try.ntmps22
    go_wp2_with (at_builtin; (try (simp only [HD.out])); refine wpList_copyOnto w1i_len w1i_one rfl _ _ rfl w.heap.size _ rfl O1.out ?hB (some ad) cap l M HM.out rfl H.out hl ?_)
    case hB => exact B1.out.size
    intro bo bc w2 h2 b2
    have B2 := Lib.hid (B1.out.trans b2)
    have H2 := Lib.hid h2
    clear h2 b2
    go_wp2_with fail
    go_ret
    exact ⟨bo, bc, rfl, H2.out, B2.out⟩
theorem wall_any {w : World} {m B : Nat} {v : Value} {l : List Nat} (h : WV w m B v l) : Calls Try.prog 16 #[.pointer (some ⟨m, 0, none⟩)] w fun e w' => ∃ bo bc, e = .returned (.slice bo l.length bc) ∧ OwnI w' w.heap.size (.slice bo l.length bc) l ∧ Below w.heap.size w w' := by
  obtain ⟨ao, cap, rfl, hs⟩ := h.shape
  have K1 := Lib.hid (wrow_any h)
  have K2 := Lib.hid (clone_any hs (by have := h.ok.len; omega))
  clear h hs
  obtain ⟨n, hn⟩ : ∃ n, l.length = n := ⟨_, rfl⟩
  rw [hn] at K1 K2 ⊢
  clear hn
  go_enter Try.func16, Try.ntmps16
  go_wp2_with fail
  refine K1.out.mono ?_
  rintro e w1 ⟨rfl, rfl⟩
  go_wp2_with fail
  refine K2.out.mono ?_
  rintro e w2 ⟨bo, bc, rfl, h2, b2⟩
  have B2 := Lib.hid b2
  have H2 := Lib.hid h2
  clear h2 b2
  go_wp2_with fail
  go_ret
  exact ⟨bo, bc, rfl, H2.out, B2.out⟩
theorem wall_nil (w : World) : Calls Try.prog 16 #[.pointer none] w fun e w' => ∃ bo bc, e = .returned (.slice bo 0 bc) ∧ Below w.heap.size w w' := by
  have K1 := Lib.hid (wrow_nil w)
  have K2 := Lib.hid (clone_any (l := []) (w := w) (ao := none) (cap := 0) seenR_nil (by simp))
  rw [List.length_nil] at K2
  go_enter Try.func16, Try.ntmps16
  go_wp2_with fail
  refine K1.out.mono ?_
  rintro e w1 ⟨rfl, rfl⟩
  go_wp2_with fail
  refine K2.out.mono ?_
  rintro e w2 ⟨bo, bc, rfl, -, b2⟩
  have B2 := Lib.hid b2
  clear b2
  go_wp2_with fail
  go_ret
  exact ⟨bo, bc, rfl, B2.out⟩

/-! ### Best -/
def bestV (lv : List Int) (l : List Nat) : Value := match bestW lv l with | none => .tuple #[.int .i64 0, .bool false] | some t => .tuple #[.int .i64 (t : Int), .bool true]
theorem best_next2 {lv : List Int} {l : List Nat} {j t : Nat} (h : j + 1 < l.length) (hb : bestW lv (l.take (j + 1)) = some t) : bestW lv (l.take (j + 1 + 1)) = some (if ltW lv l[j + 1] t then l[j + 1] else t) := by
  rw [show l.take (j + 1 + 1) = l.take (j + 1) ++ [l[j + 1]] by rw [List.take_add_one, List.getElem?_eq_getElem h]; rfl, best_snoc, hb]
theorem wbest_nil (w : World) (u : Value) : Calls Try.prog 13 #[.pointer none, u] w fun e w' => e = .returned (.tuple #[.int .i64 0, .bool false]) ∧ w = w' := by
  have K1 := Lib.hid (wrow_nil w)
  go_enter Try.func13, Try.ntmps13
  go_wp2_with fail
  refine K1.out.mono ?_
  rintro e w1 ⟨rfl, rfl⟩
  go_wp2_with fail
  go_ret2
  exact ⟨rfl, rfl⟩
set_option maxRecDepth 100000 in
set_option maxHeartbeats 4000000 in
theorem wbest_any {w : World} {m B : Nat} {v : Value} {l : List Nat} (h : WV w m B v l) {bo : Option Addr} {bc : Nat} {lv : List Int} (g : SeenL w bo bc lv) :
    Calls Try.prog 13 #[.pointer (some ⟨m, 0, none⟩), .slice bo lv.length bc] w fun e w' => e = .returned (bestV lv l) ∧ ∃ q, w' = w.drewN q := by
  obtain ⟨ao, cap, rfl, hs⟩ := h.shape
  have K1 := Lib.hid (wrow_any h)
  have hl := h.ok.len
  have KO := Lib.hid (fun (q s u : Nat) => over_any (g.drewN q) s u)
  cases l with
  | nil =>
    rw [List.length_nil] at K1
    clear h hs g KO
    generalize lv.length = K at *
    rw [show bestV lv [] = .tuple #[.int .i64 0, .bool false] from rfl]
    go_enter Try.func13, Try.ntmps13
    go_wp2_with fail
    refine K1.out.mono ?_
    rintro e w1 ⟨rfl, rfl⟩
    go_wp2_with fail
    go_ret2
    exact ⟨rfl, 0, rfl⟩
  | cons x r =>
    obtain ⟨b, off, rfl, hbw, c0⟩ := seenN_at hs 0 (by simp)
    rw [Nat.add_zero] at c0
    have HS := Lib.hid hs
    have X0 := Lib.hid (show bestW lv ((x :: r).take (0 + 1)) = some x from rfl)
    have XN := Lib.hid (show ∀ (j t u : Nat), (x :: r)[j + 1]? = some u → bestW lv ((x :: r).take (j + 1)) = some t → bestW lv ((x :: r).take (j + 1 + 1)) = some (if ltW lv u t then u else t) from fun j t u hu hb => by
      obtain ⟨hj, rfl⟩ := List.getElem?_eq_some_iff.1 hu
      exact best_next2 hj hb)
    have XE := Lib.hid (show ∀ t, bestW lv ((x :: r).take ((x :: r).length)) = some t → bestV lv (x :: r) = .tuple #[.int .i64 (t : Int), .bool true] from fun t ht => by
      rw [List.take_length] at ht
      unfold bestV; rw [ht])
    rw [List.getElem_cons_zero] at c0
    generalize bestV lv (x :: r) = z at *
    obtain ⟨n, hn⟩ : ∃ n, r.length = n := ⟨_, rfl⟩
    have hL : (x :: r).length = n + 1 := by rw [List.length_cons, hn]
    have hL2 := Lib.hid hL
    rw [hL] at K1 hl XE
    have hcap : n + 1 ≤ cap := by have := hs.lc; omega
    have hcap2 : cap ≤ 9223372036854775807 := by
      have := h.row.caps
      exact this.2
    generalize lv.length = K at *
    generalize x :: r = l at *
    clear h hs g hL hn
    by_cases hc1 : cap = 1
    · obtain rfl : n = 0 := by omega
      obtain rfl := XE.out x X0.out
      subst hc1
      clear XE XN X0 HS
      rw [Nat.zero_add] at K1
      go_enter Try.func13, Try.ntmps13
      go_wp2_with fail
      refine K1.out.mono ?_
      rintro e w1 ⟨rfl, rfl⟩
      go_wp2_with fail
      go_loopw [7, 21] (fun c i wr => c = .int .i64 x ∧ i = .int .i64 0 ∧ wr = w) (fun _ _ _ => 0)
      case atStart => exact ⟨rfl, rfl, rfl⟩
      case round =>
        obtain ⟨rfl, rfl, hw⟩ := hrel
        obtain rfl := hw.symm
        go_wp2_with fail
        go_ret2
        exact ⟨rfl, 0, rfl⟩
    · go_enter Try.func13, Try.ntmps13
      go_wp2_with fail
      refine K1.out.mono ?_
      rintro e w1 ⟨rfl, rfl⟩
      go_wp2_with fail
      go_loopw [7, 21] (fun c i wr => ∃ (j t q : Nat), j ≤ n ∧ i = .int .i64 j ∧ c = .int .i64 t ∧ bestW lv (l.take (j + 1)) = some t ∧ wr = w.drewN q) (fun _ i _ => n - (intOf i).toNat)
      case atStart => exact ⟨0, x, 0, Nat.zero_le _, rfl, rfl, X0.out, rfl⟩
      case round =>
        clear c0 X0 K1
        obtain ⟨j, t, q, hj, rfl, rfl, hb, hw⟩ := hrel
        have HB := Lib.hid hb
        clear hb
        by_cases hlt : j < n
        · have hj1 : j + 1 < l.length := by rw [hL2.out]; omega
          have HH := (show SeenN wr (some ⟨b, off, none⟩) cap l from by rw [hw]; exact HS.out.drewN q)
          obtain ⟨b0, o0, e0, hb0, c0⟩ := seenN_at HH (j + 1) hj1
          cases e0
          rw [show off + (j + 1) = off + 1 + j by omega] at c0
          have KX := XN.out j t _ (List.getElem?_eq_getElem hj1) HB.out
          generalize l[j + 1] = u at *
          have KO1 := Lib.hid (KO.out q u t)
          rw [← hw] at KO1
          have HW := Lib.hid hw
          clear hw HH
          by_cases ho : ltW lv u t
          · rw [if_pos ho] at KX
            rw [decide_eq_true ho] at KO1
            have HX := Lib.hid KX
            clear KX ho
            go_wp2_with fail
            refine KO1.out.mono ?_
            rintro e w2 ⟨rfl, q2, rfl⟩
            go_wp2_with fail
            go_roundw
            case rel =>
              first
                | exact ⟨j + 1, u, q + q2, hlt, by go_num, rfl, HX.out, by rw [HW.out]; exact drewN_on w q q2⟩
                | ((repeat apply Exists.intro); exact ⟨⟨j + 1, u, q + q2, hlt, by go_num, rfl, HX.out, by rw [HW.out]; exact drewN_on w q q2⟩, rfl⟩)
            case measure => simp [intOf]; omega
          · rw [if_neg ho] at KX
            rw [decide_eq_false ho] at KO1
            have HX := Lib.hid KX
            clear KX ho
            go_wp2_with fail
            refine KO1.out.mono ?_
            rintro e w2 ⟨rfl, q2, rfl⟩
            go_wp2_with fail
            go_roundw
            case rel =>
              first
                | exact ⟨j + 1, t, q + q2, hlt, by go_num, rfl, HX.out, by rw [HW.out]; exact drewN_on w q q2⟩
                | ((repeat apply Exists.intro); exact ⟨⟨j + 1, t, q + q2, hlt, by go_num, rfl, HX.out, by rw [HW.out]; exact drewN_on w q q2⟩, rfl⟩)
            case measure => simp [intOf]; omega
        · obtain rfl : j = n := by omega
          obtain rfl := XE.out t HB.out
          clear XE XN
          go_wp2_with fail
          go_ret2
          exact ⟨rfl, q, by first | exact hw | rfl⟩

end Go.Proofs.Yteglnlhdgfpglaa
