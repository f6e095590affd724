/-
  The document's clocks (taffrailref15) in memory: Left, From, Put; whether two rows of clocks, or of numbers, are the same. Conditions: the ticks are in bounds.
-/
import Derived.Test.YtmgcdfndmokgnaaDe7
namespace Go.Proofs.Ytmgcdfndmokgnaa
open Go Go.RowKit
set_option linter.unusedVariables false
set_option linter.unusedSimpArgs false

/-! ### Two rows -/
theorem drewN_more (w : World) (q n : Nat) : (w.drewN q).drewN n = w.drewN (q + n) := by simp [World.drewN, Nat.add_assoc, Nat.add_comm]; omega
set_option maxRecDepth 100000 in
set_option maxHeartbeats 1000000 in
theorem ints_any {w : World} (ao : Option Addr) (cap : Nat) (l : List Nat) (h : SeenN w ao cap l) (bo : Option Addr) (bc : Nat) (k : List Nat) (g : SeenN w bo bc k) (hl : l.length ≤ 1000000) :
    Calls Try.prog 13 #[.slice ao l.length cap, .slice bo k.length bc] w fun e w' => e = .returned (.bool (decide (l = k))) ∧ ∃ q, w' = w.drewN q := by
  have H := Lib.hid h
  have G := Lib.hid g
  clear h g
  by_cases hlen : l.length = k.length
  · have hd : ((l.length : Int) != (k.length : Int)) = false := by simp; omega
    have HLen := Lib.hid hlen
    obtain ⟨M, hM⟩ : ∃ M, l.length = M := ⟨_, rfl⟩
    obtain ⟨M2, hM2⟩ : ∃ M2, k.length = M2 := ⟨_, rfl⟩
    have HM := Lib.hid hM
    have HM2 := Lib.hid hM2
    rw [hM] at hd hl
    rw [hM2] at hd
    simp only [hM, hM2]
    clear hM hM2 hlen
    go_enter Try.func13, Try.ntmps13
    go_wp2_with fail
    go_loopw [5] (fun i wr => ∃ j q : Nat, j ≤ M ∧ i = .int .i64 j ∧ l.take j = k.take j ∧ wr = w.drewN q) (fun i _ => M - (intOf i).toNat)
    case atStart => exact ⟨0, 0, Nat.zero_le _, rfl, rfl, rfl⟩
    case round =>
      obtain ⟨j, q, hj, rfl, hb, hw⟩ := hrel
      have HW := Lib.hid hw
      have HH := Lib.hid (show SeenN wr ao cap l from by rw [hw]; exact H.out.drewN q)
      have GG := Lib.hid (show SeenN wr bo bc k from by rw [hw]; exact G.out.drewN q)
      clear hw
      have Hb := Lib.hid hb
      clear hb
      by_cases hlt : j < M
      · have hjl : j < l.length := by rw [HM.out]; exact hlt
        have hjk : j < k.length := by rw [← HLen.out, HM.out]; exact hlt
        obtain ⟨b1, o1, rfl, hw1, c1⟩ := seenN_at HH.out j hjl
        obtain ⟨b2, o2, rfl, hw2, c2⟩ := seenN_at GG.out j hjk
        have hjk2 : (j : Int) < (M2 : Int) := by rw [← HM2.out]; omega
        by_cases he : l[j] = k[j]
        · have HB2 := Lib.hid (show l.take (j + 1) = k.take (j + 1) by rw [List.take_add_one, List.take_add_one, Hb.out, List.getElem?_eq_getElem hjl, List.getElem?_eq_getElem hjk, he])
          generalize l[j] = x at *
          generalize k[j] = y at *
          subst he
          have hne : ((x : Int) != (x : Int)) = false := by simp
          go_wp2_with fail
          go_quiet (fail)
          go_wp2_with fail
          go_roundw
          case rel => exact ⟨j + 1, q + nq, hlt, by go_num, HB2.out, by rw [HW.out]; exact drewN_more w q nq⟩
          case measure => simp [intOf]; omega
        · have HE := Lib.hid (show decide (l = k) = false by
            simp
            intro e
            subst e
            exact he rfl)
          generalize l[j] = x at *
          generalize k[j] = y at *
          have hne : ((x : Int) != (y : Int)) = true := by simp; omega
          clear he
          go_wp2_with fail
          go_quiet (fail)
          go_wp2_with fail
          go_ret
          exact ⟨by rw [HE.out]; rfl, q + nq, by rw [HW.out]; exact drewN_more w q nq⟩
      · obtain rfl : j = M := by omega
        have HE := Lib.hid (show decide (l = k) = true by
          have := Hb.out
          rw [List.take_of_length_le (by rw [HM.out]; exact Nat.le_refl _), List.take_of_length_le (by rw [← HLen.out, HM.out]; exact Nat.le_refl _)] at this
          simpa using this)
        go_wp2_with fail
        go_ret
        exact ⟨by rw [HE.out]; rfl, q, HW.out⟩
  · have hd : ((l.length : Int) != (k.length : Int)) = true := by simp; omega
    have HE := Lib.hid (show decide (l = k) = false by simp; intro e; exact hlen (by rw [e]))
    clear hlen
    go_enter Try.func13, Try.ntmps13
    go_wp2_with fail
    go_ret
    exact ⟨by rw [HE.out]; rfl, 0, rfl⟩

theorem due_ne (a b c d : Nat) (h : (a, b) ≠ (c, d)) (W : World) : (binOp .neq 48 (.agg #[.int .i64 (a : Int), .int .i64 (b : Int)]) (.agg #[.int .i64 (c : Int), .int .i64 (d : Int)])).run Try.prog W = .ok (.bool true) W := by
  by_cases h0 : a = c
  case neg =>
    have q0 : ((a : Int) == (c : Int)) = false := by simp; omega
    go_simp
  subst h0
  have h0 : b ≠ d := fun e => h (by rw [e])
  have q0 : ((b : Int) == (d : Int)) = false := by simp; omega
  go_simp
theorem due_eq (a b : Nat) (W : World) : (binOp .neq 48 (.agg #[.int .i64 (a : Int), .int .i64 (b : Int)]) (.agg #[.int .i64 (a : Int), .int .i64 (b : Int)])).run Try.prog W = .ok (.bool false) W := by
  go_simp
set_option maxRecDepth 100000 in
set_option maxHeartbeats 4000000 in
theorem rsame_any {w : World} (ao : Option Addr) (cap : Nat) (l : List Ck) (h : SeenK w ao cap l) (bo : Option Addr) (bc : Nat) (k : List Ck) (g : SeenK w bo bc k) (hl : l.length ≤ 1000000) :
    Calls Try.prog 16 #[.slice ao l.length cap, .slice bo k.length bc] w fun e w' => e = .returned (.bool (decide (l = k))) ∧ ∃ q, w' = w.drewN q := by
  have H := Lib.hid h
  have G := Lib.hid g
  clear h g
  by_cases hlen : l.length = k.length
  · have hd : ((l.length : Int) != (k.length : Int)) = false := by simp; omega
    have HLen := Lib.hid hlen
    obtain ⟨M, hM⟩ : ∃ M, l.length = M := ⟨_, rfl⟩
    obtain ⟨M2, hM2⟩ : ∃ M2, k.length = M2 := ⟨_, rfl⟩
    have HM := Lib.hid hM
    have HM2 := Lib.hid hM2
    rw [hM] at hd hl
    rw [hM2] at hd
    simp only [hM, hM2]
    clear hM hM2 hlen
    go_enter Try.func16, Try.ntmps16
    go_wp2_with fail
    go_loopw [5] (fun i wr => ∃ j q : Nat, j ≤ M ∧ i = .int .i64 j ∧ l.take j = k.take j ∧ wr = w.drewN q) (fun i _ => M - (intOf i).toNat)
    case atStart => exact ⟨0, 0, Nat.zero_le _, rfl, rfl, rfl⟩
    case round =>
      obtain ⟨j, q, hj, rfl, hb, hw⟩ := hrel
      have HW := Lib.hid hw
      have HH := Lib.hid (show SeenK wr ao cap l from by rw [hw]; exact H.out.drewN q)
      have GG := Lib.hid (show SeenK wr bo bc k from by rw [hw]; exact G.out.drewN q)
      clear hw
      have Hb := Lib.hid hb
      clear hb
      by_cases hlt : j < M
      · have hjl : j < l.length := by rw [HM.out]; exact hlt
        have hjk : j < k.length := by rw [← HLen.out, HM.out]; exact hlt
        obtain ⟨b1, o1, rfl, hw1, c1, c3⟩ := seenK_at HH.out j hjl
        obtain ⟨b2, o2, rfl, hw2, c2, c4⟩ := seenK_at GG.out j hjk
        have hjk2 : (j : Int) < (M2 : Int) := by rw [← HM2.out]; omega
        by_cases he : l[j] = k[j]
        · have HB2 := Lib.hid (show l.take (j + 1) = k.take (j + 1) by rw [List.take_add_one, List.take_add_one, Hb.out, List.getElem?_eq_getElem hjl, List.getElem?_eq_getElem hjk, he])
          generalize l[j] = x at *
          generalize k[j] = y at *
          subst he
          obtain ⟨x1, x2⟩ := x
          have hne := due_eq x1 x2
          go_wp2_with fail
          go_quiet (fail)
          go_wp2_with fail
          go_roundw
          case rel => exact ⟨j + 1, q + nq, hlt, by go_num, HB2.out, by rw [HW.out]; exact drewN_more w q nq⟩
          case measure => simp [intOf]; omega
        · have HE := Lib.hid (show decide (l = k) = false by
            simp
            intro e
            subst e
            exact he rfl)
          generalize l[j] = x at *
          generalize k[j] = y at *
          obtain ⟨x1, x2⟩ := x
          obtain ⟨y1, y2⟩ := y
          have hne := due_ne x1 x2 y1 y2 he
          clear he
          go_wp2_with fail
          go_quiet (fail)
          go_wp2_with fail
          go_ret
          exact ⟨by rw [HE.out]; rfl, q + nq, by rw [HW.out]; exact drewN_more w q nq⟩
      · obtain rfl : j = M := by omega
        have HE := Lib.hid (show decide (l = k) = true by
          have := Hb.out
          rw [List.take_of_length_le (by rw [HM.out]; exact Nat.le_refl _), List.take_of_length_le (by rw [← HLen.out, HM.out]; exact Nat.le_refl _)] at this
          simpa using this)
        go_wp2_with fail
        go_ret
        exact ⟨by rw [HE.out]; rfl, q, HW.out⟩
  · have hd : ((l.length : Int) != (k.length : Int)) = true := by simp; omega
    have HE := Lib.hid (show decide (l = k) = false by simp; intro e; exact hlen (by rw [e]))
    clear hlen
    go_enter Try.func16, Try.ntmps16
    go_wp2_with fail
    go_ret
    exact ⟨by rw [HE.out]; rfl, 0, rfl⟩


/-! ### The list in memory -/
structure RV (w : World) (m B : Nat) (v : Value) (D : List Ck) : Prop where
  blk : w.heap[m]? = some (.cells #[v] 30 (0, 0))
  row : OwnD w B v D
  len : D.length ≤ 256
  ok : ∀ c ∈ D, c.1 < 256
  gap : ∀ c ∈ D, c.2 < 4294967296
section
variable {w w' : World} {m B : Nat} {v : Value} {D : List Ck}
theorem RV.lt (h : RV w m B v D) : m < w.heap.size := blk_lt h.blk
theorem RV.nm (h : RV w m B v D) : v.ownBlock ≠ some m := by
  intro e
  obtain ⟨cs, h1⟩ := h.row.kind e
  rw [h.blk] at h1
  injection h1 with h1
  injection h1 with h1 h2 h3
  exact absurd h2 (by decide)
theorem RV.cell (h : RV w m B v D) : w.cell? ⟨m, 0, none⟩ = some v := by simp [World.cell?, h.blk]
theorem RV.thawed (h : RV w m B v D) : w.frozen? ⟨m, 0, none⟩ = false := by simp [World.frozen?, h.blk]
theorem RV.only {S : Nat → Prop} (h : RV w m B v D) (ho : Only w w' S) (hm : ¬ S m) (hv : ∀ k, v.ownBlock = some k → ¬ S k) : RV w' m B v D :=
  ⟨(ho.block m h.lt hm).trans h.blk, h.row.only ho hv, h.len, h.ok, h.gap⟩
theorem RV.below (h : RV w m B v D) (hb : Below w.heap.size w w') : RV w' m B v D := h.only (Only.of_below hb (fun _ => False)) (fun e => e) (fun _ _ e => e)
theorem RV.drewN (h : RV w m B v D) (n : Nat) : RV (w.drewN n) m B v D := h.below (below_drewN (Below.refl _ _) n)
theorem RV.shape (h : RV w m B v D) : ∃ ao cap, v = .slice ao D.length cap ∧ SeenK w ao cap D := by
  obtain ⟨ao, cap, e, hs, -⟩ := OwnR.seen cc_len h.row
  exact ⟨ao, cap, e, hs⟩
end

/-- What a call leaves of a list that it turns: the list goes on; its own block and its row's are turned alone; the row lies there, or in a new block. -/
structure RStep (B m : Nat) (w w' : World) (v v' : Value) (D' : List Ck) : Prop where
  st : RV w' m B v' D'
  only : Only w w' (fun k => k = m ∨ v.ownBlock = some k)
  new : ∀ k, v'.ownBlock = some k → v.ownBlock = some k ∨ w.heap.size ≤ k
section
variable {w w' w1 : World} {m B : Nat} {v v' : Value} {D D' : List Ck}
theorem RStep.below {C : Nat} (h : RV w m B v D) (hs : RStep B m w w' v v' D') (hC : C ≤ B) (hm : C ≤ m) (hw : C ≤ w.heap.size) : Below C w w' :=
  hs.only.below hw (fun k hk => by
    rcases hk with rfl | hk
    · exact hm
    · have := (h.row.lt k hk).1; omega)
theorem RStep.after (h : RV w m B v D) (hb : Below w.heap.size w w1) (hs : RStep B m w1 w' v v' D') : RStep B m w w' v v' D' :=
  ⟨hs.st, (Only.of_below hb _).trans hs.only (fun k _ hk => hk), fun k hk => (hs.new k hk).imp id (fun h => Nat.le_trans hb.size h)⟩
theorem RStep.trans {v1 : Value} {L1 : List Ck} (h : RStep B m w w1 v v1 L1) (g : RStep B m w1 w' v1 v' D') : RStep B m w w' v v' D' :=
  ⟨g.st, h.only.trans g.only (fun k hk hk2 => by
    rcases hk2 with rfl | hk2
    · exact .inl rfl
    · rcases h.new k hk2 with h' | h'
      · exact .inr h'
      · omega), fun k hk => by
    rcases g.new k hk with h' | h'
    · exact h.new k h'
    · exact .inr (Nat.le_trans h.only.size h')⟩
theorem RV.same (h : RV w m B v D) (hb : Below w.heap.size w w') : RStep B m w w' v v D := ⟨h.below hb, Only.of_below hb _, fun k hk => .inl hk⟩
/-- The slice stored behind a call that gave it back. -/
theorem RV.fin {w4 : World} (h : RV w m B v D) (hrow : OwnD w4 B v' D') (ho : Only w w4 (fun k => v.ownBlock = some k)) (hnew : ∀ k, v'.ownBlock = some k → v.ownBlock = some k ∨ w.heap.size ≤ k)
    (hl : D'.length ≤ 256) (hok : ∀ c ∈ D', c.1 < 256) (hg : ∀ c ∈ D', c.2 < 4294967296) : RStep B m w (w4.setCell ⟨m, 0, none⟩ v') v v' D' := by
  have hm4 : w4.heap[m]? = some (.cells #[v] 30 (0, 0)) := (ho.block m h.lt h.nm).trans h.blk
  have hne : v'.ownBlock ≠ some m := by
    intro e
    rcases hnew m e with h' | h'
    · exact h.nm h'
    · have := h.lt; omega
  have hs : Only w4 (w4.setCell ⟨m, 0, none⟩ v') (fun k => k = m) := Only.setCell w4 m _ _ _ rfl
  refine ⟨⟨?_, hrow.only hs (fun k hk e => hne (by rw [hk, e])), hl, hok, hg⟩, ?_, hnew⟩
  · exact heap_setCell_same w4 m 0 #[v] _ v' hm4
  · exact (ho.mono (fun k _ hk => Or.inr hk)).trans hs (fun k _ hk => .inl hk)
end


set_option maxRecDepth 100000 in
set_option maxHeartbeats 4000000 in
theorem rleft_any {w : World} {m B : Nat} {v : Value} {D : List Ck} (h : RV w m B v D) (id : Int) :
    Calls Try.prog 20 #[.pointer (some ⟨m, 0, none⟩), .int .i64 id] w fun e w' => e = .returned (.int .i64 (leftS D id : Int)) ∧ w = w' := by
  obtain ⟨ao, cap, rfl, hs⟩ := h.shape
  have HS := Lib.hid hs
  have hL := h.len
  have cm := h.cell
  have X1 := Lib.hid (fun j (hj : j < D.length) (h1 : ∀ k (hk : k < D.length), k < j → ((D[k]).1 : Int) ≠ id) (h2 : ((D[j]).1 : Int) = id) => (show leftS D id = (D[j]).2 by
    rw [leftS_at, atC_of hj h1 h2, List.getElem?_eq_getElem hj]; rfl))
  have X2 := Lib.hid (fun (h1 : ∀ k (hk : k < D.length), ((D[k]).1 : Int) ≠ id) => (show leftS D id = 0 by
    rw [leftS_at, atC_none h1, List.getElem?_eq_none (Nat.le_refl _)]; rfl))
  generalize leftS D id = z at *
  clear h hs
  obtain ⟨M, hM⟩ : ∃ M, D.length = M := ⟨_, rfl⟩
  rw [hM] at hL cm
  have HM := Lib.hid hM
  clear hM
  go_enter Try.func20, Try.ntmps20
  go_wp2_with fail
  go_loopw [5] (fun i wr => ∃ j : Nat, j ≤ M ∧ i = .int .i64 j ∧ wr = w ∧ Hid (∀ k (hk : k < D.length), k < j → ((D[k]).1 : Int) ≠ id)) (fun i _ => M - (intOf i).toNat)
  case atStart => exact ⟨0, Nat.zero_le _, rfl, rfl, Lib.hid (fun k _ hk => absurd hk (by omega))⟩
  case round =>
    obtain ⟨j, hj, rfl, hw, hno⟩ := hrel
    obtain rfl := hw.symm
    by_cases hlt : j < M
    · have hlt' : j < D.length := by rw [HM.out]; exact hlt
      obtain ⟨b, off, rfl, hbw, c0, c1⟩ := seenK_at HS.out j hlt'
      have X3 := Lib.hid (X1.out j hlt' hno.out)
      have X4 := Lib.hid (fun (h : ((D[j]).1 : Int) ≠ id) => (show ∀ k (hk : k < D.length), k < j + 1 → ((D[k]).1 : Int) ≠ id from fun k hk hkj => by
        rcases Nat.lt_or_ge k j with h' | h'
        · exact hno.out k hk h'
        · obtain rfl : k = j := by omega
          exact h))
      generalize (D[j]).1 = ci at *
      generalize (D[j]).2 = cg at *
      by_cases he : (ci : Int) = id
      · have Dd : ((ci : Int) == id) = true := by simpa using he
        obtain rfl := X3.out he
        clear he X1 X2 X4 hno
        go_wp2_with fail
        go_ret
        exact ⟨rfl, rfl⟩
      · have Dd : ((ci : Int) == id) = false := by simpa using he
        have HNo := Lib.hid (X4.out he)
        clear he X1 X2 X3 X4 hno
        go_wp2_with fail
        go_roundw
        case rel => exact ⟨j + 1, hlt, by go_num, trivial, HNo⟩
        case measure => simp [intOf]; omega
    · obtain rfl : j = M := by omega
      obtain rfl := X2.out (fun k hk => hno.out k hk (by have := HM.out; omega))
      clear X1 X2
      go_wp2_with fail
      go_ret
      exact ⟨rfl, rfl⟩

set_option maxRecDepth 100000 in
set_option maxHeartbeats 4000000 in
theorem rfrom_any {w : World} {m B : Nat} {v : Value} {D : List Ck} (h : RV w m B v D) (id : Int) :
    Calls Try.prog 22 #[.pointer (some ⟨m, 0, none⟩), .int .i64 id] w fun e w' => e = .returned (.int .i64 (fromS D id : Int)) ∧ w = w' := by
  obtain ⟨ao, cap, rfl, hs⟩ := h.shape
  have HS := Lib.hid hs
  have hL := h.len
  have cm := h.cell
  clear h hs
  obtain ⟨z, hz⟩ : ∃ z, fromS D id = z := ⟨_, rfl⟩
  rw [hz]
  have HZ := Lib.hid hz
  clear hz
  obtain ⟨M, hM⟩ : ∃ M, D.length = M := ⟨_, rfl⟩
  rw [hM] at hL cm
  have HM := Lib.hid hM
  clear hM
  go_enter Try.func22, Try.ntmps22
  go_wp2_with fail
  go_loopw [5, 6] (fun c i wr => ∃ j s : Nat, j ≤ M ∧ i = .int .i64 j ∧ c = .int .i64 s ∧ s ≤ j ∧ Hid (fromS (D.take j) id = s) ∧ wr = w) (fun _ i _ => M - (intOf i).toNat)
  case atStart => exact ⟨0, 0, Nat.zero_le _, rfl, rfl, Nat.le_refl _, Lib.hid rfl, rfl⟩
  case round =>
    obtain ⟨j, s, hj, rfl, rfl, hs, hf, hw⟩ := hrel
    obtain rfl := hw.symm
    by_cases hlt : j < M
    · have hlt' : j < D.length := by rw [HM.out]; exact hlt
      obtain ⟨b, off, rfl, hbw, c0, c1⟩ := seenK_at HS.out j hlt'
      have X5 := fromS_next hlt' id
      rw [hf.out] at X5
      generalize (D[j]).1 = ci at *
      generalize (D[j]).2 = cg at *
      clear hf
      by_cases he : id ≤ (ci : Int)
      · rw [if_pos he] at X5
        have X6 := Lib.hid X5
        clear X5
        go_wp2_with fail
        go_roundw
        case rel => exact ⟨j + 1, s + 1, hlt, by go_num, by go_num, by omega, Lib.hid X6.out, trivial⟩
        case measure => simp [intOf]; omega
      · rw [if_neg he] at X5
        have X6 := Lib.hid X5
        clear X5
        go_wp2_with fail
        go_roundw
        case rel => exact ⟨j + 1, s, hlt, by go_num, rfl, by omega, Lib.hid X6.out, trivial⟩
        case measure => simp [intOf]; omega
    · obtain rfl : j = M := by omega
      have X := hf.out
      rw [List.take_of_length_le (by rw [HM.out]; exact Nat.le_refl _), HZ.out] at X
      obtain rfl := X
      clear hf
      go_wp2_with fail
      go_ret
      exact ⟨rfl, rfl⟩

def rputOk (D : List Ck) (id t : Int) : Prop := 0 ≤ id ∧ id ≤ 255 ∧ 1 ≤ t ∧ t ≤ 4294967295 ∧ ¬ 0 < leftS D id

set_option maxRecDepth 100000 in
set_option maxHeartbeats 4000000 in
theorem rput_bad {w : World} {m B : Nat} {v : Value} {D : List Ck} (h : RV w m B v D) (id t : Int) (hb : ¬ rputOk D id t) :
    Calls Try.prog 10 #[.pointer (some ⟨m, 0, none⟩), .int .i64 id, .int .i64 t] w fun e w' => e = .returned (.bool false) ∧ w = w' := by
  have K := Lib.hid (rleft_any h id)
  have X := Lib.hid hb
  unfold rputOk at X
  clear hb h
  by_cases h1 : id < 0
  · clear X
    go_enter Try.func10, Try.ntmps10
    go_wp2_with fail
    go_ret
    exact ⟨rfl, rfl⟩
  by_cases h2 : 255 < id
  · clear X
    go_enter Try.func10, Try.ntmps10
    go_wp2_with fail
    go_ret
    exact ⟨rfl, rfl⟩
  by_cases h3 : t < 1
  · clear X
    go_enter Try.func10, Try.ntmps10
    go_wp2_with fail
    go_ret
    exact ⟨rfl, rfl⟩
  by_cases h4 : 4294967295 < t
  · clear X
    go_enter Try.func10, Try.ntmps10
    go_wp2_with fail
    go_ret
    exact ⟨rfl, rfl⟩
  · have ha : 0 < leftS D id := Classical.byContradiction fun h => X.out ⟨by omega, by omega, by omega, by omega, h⟩
    generalize leftS D id = p at *
    clear X
    have g : (0 : Int) < (p : Int) := by omega
    go_enter Try.func10, Try.ntmps10
    go_wp2_with fail
    refine K.out.mono ?_
    rintro e w1 ⟨rfl, rfl⟩
    go_wp2_with fail
    go_ret
    exact ⟨rfl, rfl⟩

set_option maxRecDepth 100000 in
set_option maxHeartbeats 4000000 in
theorem rput_good {w : World} {m B : Nat} {v : Value} {D : List Ck} (h : RV w m B v D) (hB : B ≤ w.heap.size) (hL : D.length < 256) (id t : Nat) (hid : id < 256) (ht1 : 1 ≤ t) (ht : t < 4294967296) (hn : leftS D (id : Int) = 0) :
    Calls Try.prog 10 #[.pointer (some ⟨m, 0, none⟩), .int .i64 (id : Int), .int .i64 (t : Int)] w fun e w' => e = .returned (.bool true) ∧ ∃ v', RStep B m w w' v v' (D ++ [(id, t)]) := by
  have K := Lib.hid (rleft_any h (id : Int))
  rw [hn] at K
  have H := Lib.hid h
  have HB := Lib.hid hB
  have cm := h.cell
  obtain ⟨ao, cap, rfl, -⟩ := h.shape
  have d1 : ¬ ((id : Int) < 0) := by omega
  have d2 : ¬ (255 < (id : Int)) := by omega
  have d3 : ¬ ((t : Int) < 1) := by omega
  have d4 : ¬ (4294967295 < (t : Int)) := by omega
  have B1 := below_box (w := w) (.cells #[.int .i64 (id : Int), .int .i64 (t : Int)] 48)
  have HB1 := Lib.hid B1
  have hmw := h.lt
  obtain ⟨n, hnn⟩ : ∃ n, D.length = n := ⟨_, rfl⟩
  rw [hnn] at cm hL H ⊢
  have HNn := Lib.hid hnn
  have hn2 : n ≤ 1000000 := by omega
  clear hn h hB B1 hnn
  go_enter Try.func10, Try.ntmps10
  go_wp2_with fail
  refine K.out.mono ?_
  rintro e w1 ⟨rfl, rfl⟩
  go_wp2_with (at_builtin; refine wpList_pushD rfl _ _ rfl B _ rfl D ?h ?hB n HNn.out _ 1 (id, t) rfl ?hc hn2 ?_)
  case h => exact (H.out.below HB1.out).row
  case hB => have := HB1.out.size; have := HB.out; first | omega | exact Nat.le_trans HB.out HB1.out.size
  case hc => exact lit_due _ id t _ (by simp)
  intro a4 k4 w4 hA
  have hst := RStep.after H.out HB1.out ((H.out.below HB1.out).fin hA.row hA.only hA.new (by rw [List.length_append, HNn.out]; exact hL) (fun c hc => by
    rcases List.mem_append.1 hc with hc | hc
    · exact H.out.ok c hc
    · rw [List.mem_singleton.1 hc]; exact hid) (fun c hc => by
    rcases List.mem_append.1 hc with hc | hc
    · exact H.out.gap c hc
    · rw [List.mem_singleton.1 hc]; exact ht))
  have cm4 : w4.cell? ⟨m, 0, none⟩ = some (.slice ao n cap) := hA.only.cell (H.out.below HB1.out).cell (H.out.nm)
  have fm4 : w4.frozen? ⟨m, 0, none⟩ = false := by
    have := (hA.only.block m (H.out.below HB1.out).lt H.out.nm).trans (H.out.below HB1.out).blk
    simp [World.frozen?, this]
  have HST := Lib.hid hst
  clear hA hst
  go_wp2_with fail
  go_ret
  exact ⟨rfl, _, HST.out⟩

end Go.Proofs.Ytmgcdfndmokgnaa
