/-
  CursorWrites is true for every input: a writer has what was put, in its order, whether by bytes or by texts. No condition.
-/
import Derived.Test.YteiaefbednafcaaCurView
namespace Go.Proofs.Yteiaefbednafcaa.cursorWrites
open Go.ChangeShapes Go.WideShapes Go.ChangeAt Go.RowKit
open Go.ChangeMaps (open_string shut_string)
set_option linter.unusedVariables false

/-- What the law counts of the first k texts. -/
def tot (f : Nat → ByteArray) : Nat → Nat
  | 0 => 0
  | k + 1 => tot f k + min (f k).size 65536
theorem tot_le (f : Nat → ByteArray) : ∀ k, tot f k ≤ 65536 * k
  | 0 => by simp [tot]
  | k + 1 => by have := tot_le f k; simp only [tot]; omega
/-- The first k texts, one behind the other. -/
def cat (f : Nat → ByteArray) : Nat → ByteArray
  | 0 => ⟨#[]⟩
  | k + 1 => cat f k ++ f k

theorem cat_tot (f : Nat → ByteArray) : ∀ k, tot f k ≤ 2000 → (cat f k).size = tot f k
  | 0, _ => rfl
  | k + 1, h => by
    simp only [tot] at h
    have := cat_tot f k (by omega)
    simp only [tot, cat, ByteArray.size_append]
    omega
theorem tot_mono (f : Nat → ByteArray) (n : Nat) : ∀ d, tot f n ≤ tot f (n + d)
  | 0 => Nat.le_refl _
  | d + 1 => by have h1 := tot_mono f n d; have h2 : tot f (n + (d + 1)) = tot f (n + d) + min (f (n + d)).size 65536 := rfl; omega
theorem cat_small (f : Nat → ByteArray) (len k : Nat) (hk : k ≤ len) (h : tot f len ≤ 2000) : (cat f k).size ≤ 2000 := by
  have := tot_mono f k (len - k)
  rw [show k + (len - k) = len from by omega] at this
  rw [cat_tot f k (by omega)]
  omega
theorem one_small (f : Nat → ByteArray) (len k : Nat) (hk : k < len) (h : tot f len ≤ 2000) : (f k).size ≤ 2000 := by
  have := tot_mono f (k + 1) (len - (k + 1))
  rw [show k + 1 + (len - (k + 1)) = len from by omega] at this
  simp only [tot] at this
  omega
theorem cat_list (f : Nat → ByteArray) (k : Nat) : (cat f (k + 1)).data.toList = (cat f k).data.toList ++ (f k).data.toList := by
  simp [cat]
theorem back (s : ByteArray) : (⟨s.data.toList.toArray⟩ : ByteArray) = s := by
  apply ByteArray.ext
  simp

set_option maxHeartbeats 1000000 in
theorem walk_top (ao bo : Option Addr) (len cap n2 c2 : Nat) (f : Nat → ByteArray) (g : Nat → Bool) (hl : len * 16 ≤ 140737488351232) (hn2 : n2 ≤ maxLen) (hf : ∀ i, (f i).size ≤ maxLen) (w : World) (hs1 : Seen w ao len cap (fun i => .string (f i))) (hs2 : Seen w bo n2 c2 (fun i => .bool (g i))) (hm : HasLen w) :
    Calls Try.prog 4 #[.slice ao len cap, .slice bo n2 c2] w fun e w' => e = .returned (.bool true) ∧ Below w.heap.size w w' := by
  unfold maxLen at hn2
  have Hm := Lib.hid hm
  have Hs1 := Lib.hid hs1
  have Hs2 := Lib.hid hs2
  have Hf := Lib.hid hf
  clear hm hs1 hs2 hf
  go_enter Try.func4, Try.ntmps4
  go_wp2_with fail
  go_loop [5, 16] (fun n i => ∃ k : Nat, k ≤ len ∧ i = .int .i64 k ∧ n = .int .i64 ((len + tot f k : Nat) : Int)) (fun _ i => len - (intOf i).toNat)
  case atStart => exact ⟨0, Nat.zero_le _, rfl, rfl⟩
  case round =>
    obtain ⟨k, hk, rfl, rfl⟩ := hrel
    have ht := tot_le f k
    by_cases hlt : k < len
    · obtain ⟨b, off, hao, hbw, hcell⟩ := Hs1.out.row k hlt
      subst hao
      have hc := hcell k hlt
      have hsz := Hf.out k
      unfold maxLen at hsz
      have Ht := Lib.hid (show tot f (k + 1) = tot f k + min (f k).size 65536 from rfl)
      clear hcell
      go_wp2
      go_round
      case rel => exact ⟨k + 1, by omega, by go_num, by rw [Ht.out]; congr 1; omega⟩
      case measure => simp [intOf]; omega
    · have hkl : k = len := by omega
      subst hkl
      by_cases hbig : 2000 < k + tot f k
      · have hd : decide ((2000 : Int) < (k : Int) + (tot f k : Int)) = true := by simp; omega
        go_wp2_with fail
        refine (awake_any _ Hm.out).mono ?_
        rintro e w1 ⟨rfl, hb⟩
        go_wp2_with fail
        refine (awake_any _ (Hm.out.below hb)).mono ?_
        rintro e w2 ⟨rfl, hb2⟩
        go_wp2
        go_ret
        exact ⟨rfl, hb.trans (hb2.mono hb.size)⟩
      · have hd : decide ((2000 : Int) < (k : Int) + (tot f k : Int)) = false := by simp; omega
        have Htt := Lib.hid (show tot f k ≤ 2000 by omega)
        have Hcat := Lib.hid (cat_small f k)
        have Hone := Lib.hid (one_small f k)
        go_wp2_with fail
        refine (awake_any _ Hm.out).mono ?_
        rintro e w1 ⟨rfl, b1⟩
        have hz := b1.size
        go_wp2_with fail
        go_loopw [9, 35] (fun t i wr => ∃ j : Nat, j ≤ k ∧ i = .int .i64 j ∧ t = .string (cat f j) ∧ Wr wr w1.heap.size (cat f j).data.toList ∧ Below w.heap.size w wr) (fun _ i _ => k - (intOf i).toNat)
        case atStart => exact ⟨0, Nat.zero_le _, rfl, rfl, wr_new w1, b1.alloc hz _⟩
        case round =>
          clear b1
          obtain ⟨j, hj, rfl, rfl, wr2, b2⟩ := hrel
          have hcs := Hcat.out j hj Htt.out
          by_cases hlt : j < k
          · have hos := Hone.out j hlt Htt.out
            obtain ⟨b, off, hao, hbw, hcell⟩ := Hs1.out.row j hlt
            subst hao
            have hc : wr.cell? ⟨b, off + j, none⟩ = some (.string (f j)) := (b2.cell hbw).trans (hcell j hlt)
            clear hcell
            have HA := Lib.hid (show cat f j ++ f j = cat f (j + 1) from rfl)
            have HL := Lib.hid (cat_list f j)
            have HL1 := Lib.hid (show ((cat f j).data.toList ++ (f j).data.toList).length = (cat f j).size + (f j).size from by simp)
            have HL2 := Lib.hid (show (⟨((cat f j).data.toList ++ (f j).data.toList).toArray⟩ : ByteArray) = cat f j ++ f j from by rw [← cat_list, back]; rfl)
            generalize cat f j = A at *
            generalize f j = B at *
            by_cases hj2 : j < n2
            · obtain ⟨d, off2, hbo, hdw, hcell2⟩ := Hs2.out.row j hj2
              subst hbo
              have hc2 : wr.cell? ⟨d, off2 + j, none⟩ = some (.bool (g j)) := (b2.cell hdw).trans (hcell2 j hj2)
              clear hcell2
              generalize g j = gj at hc2
              cases gj
              · have hd2 : decide (j < n2) = true := by simpa using hj2
                have kc := fun (w : World) (s : ByteArray) => Lib.run_convert_string_bytes (P := Try.prog) w 9 42 5 s Try.underlying9 Try.underlying42 Try.underlying5
                go_wp2_with fail
                clear kc
                refine (put_any _ w1.heap.size _ (wr2.bytes 5 B) ⟨wr.heap.size, 0, none⟩ _ B.data.toList (bytes_cells wr B) (by simp; omega)).mono ?_
                rintro e w5 ⟨rfl, wr5, g5⟩
                have b5 : Below w.heap.size w w5 := (b2.grown (bytes_grown wr _ B none) b2.size (fun q hq => by cases hq)).trans (g5.mono hz)
                clear wr2 b2 g5
                have hl5 := len_any _ _ _ wr5
                have hs5 := string_any _ _ _ wr5
                rw [HL1.out] at hl5
                rw [HL2.out] at hs5
                have Hl5 := Lib.hid hl5
                have Hs5 := Lib.hid hs5
                have Hwr := Lib.hid wr5
                clear hl5 hs5 wr5
                go_wp2_with fail
                refine Hl5.out.mono ?_
                rintro e w6 ⟨rfl, rfl⟩
                go_wp2_with fail
                refine Hs5.out.mono ?_
                rintro e w6 ⟨rfl, rfl⟩
                go_wp2
                go_roundw
                case rel => exact ⟨j + 1, by omega, by go_num, congrArg Value.string HA.out, by rw [HL.out]; exact Hwr.out, b5⟩
                case measure => simp [intOf]; omega
              · have hd2 : decide (j < n2) = true := by simpa using hj2
                go_wp2_with fail
                refine (text_any _ w1.heap.size _ wr2 B (by simp; omega)).mono ?_
                rintro e w5 ⟨rfl, wr5, g5⟩
                have b5 : Below w.heap.size w w5 := b2.trans (g5.mono hz)
                clear wr2 b2 g5
                have hl5 := len_any _ _ _ wr5
                have hs5 := string_any _ _ _ wr5
                rw [HL1.out] at hl5
                rw [HL2.out] at hs5
                have Hl5 := Lib.hid hl5
                have Hs5 := Lib.hid hs5
                have Hwr := Lib.hid wr5
                clear hl5 hs5 wr5
                go_wp2_with fail
                refine Hl5.out.mono ?_
                rintro e w6 ⟨rfl, rfl⟩
                go_wp2_with fail
                refine Hs5.out.mono ?_
                rintro e w6 ⟨rfl, rfl⟩
                go_wp2
                go_roundw
                case rel => exact ⟨j + 1, by omega, by go_num, congrArg Value.string HA.out, by rw [HL.out]; exact Hwr.out, b5⟩
                case measure => simp [intOf]; omega
            · have hd2 : decide (j < n2) = false := by simpa using hj2
              have kc := fun (w : World) (s : ByteArray) => Lib.run_convert_string_bytes (P := Try.prog) w 9 42 5 s Try.underlying9 Try.underlying42 Try.underlying5
              go_wp2_with fail
              clear kc
              refine (put_any _ w1.heap.size _ (wr2.bytes 5 B) ⟨wr.heap.size, 0, none⟩ _ B.data.toList (bytes_cells wr B) (by simp; omega)).mono ?_
              rintro e w5 ⟨rfl, wr5, g5⟩
              have b5 : Below w.heap.size w w5 := (b2.grown (bytes_grown wr _ B none) b2.size (fun q hq => by cases hq)).trans (g5.mono hz)
              clear wr2 b2 g5
              have hl5 := len_any _ _ _ wr5
              have hs5 := string_any _ _ _ wr5
              rw [HL1.out] at hl5
              rw [HL2.out] at hs5
              have Hl5 := Lib.hid hl5
              have Hs5 := Lib.hid hs5
              have Hwr := Lib.hid wr5
              clear hl5 hs5 wr5
              go_wp2_with fail
              refine Hl5.out.mono ?_
              rintro e w6 ⟨rfl, rfl⟩
              go_wp2_with fail
              refine Hs5.out.mono ?_
              rintro e w6 ⟨rfl, rfl⟩
              go_wp2
              go_roundw
              case rel => exact ⟨j + 1, by omega, by go_num, congrArg Value.string HA.out, by rw [HL.out]; exact Hwr.out, b5⟩
              case measure => simp [intOf]; omega
          · have hjk : j = k := by omega
            subst hjk
            have hs5 := string_any _ _ _ wr2
            rw [back] at hs5
            have Hs5 := Lib.hid hs5
            clear hs5 wr2
            go_wp2_with fail
            refine Hs5.out.mono ?_
            rintro e w6 ⟨rfl, rfl⟩
            go_wp2
            go_ret
            exact ⟨by simp, b2⟩

theorem walk {w : World} (ao : Option Addr) (len cap : Nat) (ss : List ByteArray) (h0 : Seen w ao len cap (fun i => .string (ss.getD i ByteArray.empty)) ∧ (∀ s ∈ ss, s.size ≤ maxLen)) (hl : len * 16 ≤ 140737488351232)
    (bo : Option Addr) (n2 c2 : Nat) (g : Nat → Bool) (h1 : Seen w bo n2 c2 (fun i => .bool (g i))) (hm : HasLen w) :
    Calls Try.prog 4 #[.slice ao len cap, .slice bo n2 c2] w fun e w' => e = .returned (.bool true) ∧ Below w.heap.size w w' :=
  walk_top ao bo len cap n2 c2 (fun i => ss.getD i ByteArray.empty) g hl h1.mx (fun i => by
    rw [List.getD_eq_getElem?_getD]
    cases h : ss[i]? with
    | none => simp [ByteArray.size]
    | some x => exact h0.2 x (List.mem_of_getElem? h)) w h0.1 h1 hm

theorem own : ownKnob Try.prog.godebug = none := by kernel_rfl
theorem laidOut : laidOutB Try.prog = true := by kernel_rfl

set_option maxRecDepth 100000 in
theorem lifted (os : Os) (started : os.Started) (H : Type) (enc : TypeId × Value → H) :
    ReturnsInHanded {} Try.checked os 4 .any (Rows.cursorWritesSpec.pre6 enc Try.prog Try.f4 Rows.cursorWritesRow.domain false) (Rows.cursorWritesSpec.post enc Try.prog Try.f4 false true false false) := by
  refine returnsInHanded_of_change_shaped (C := Try.checked) own started (by kernel_rfl) Try.func4
    (ChangeSpec.witness6 (enc := enc) (C := Try.checked) false ⟨#[], #[.slice none 0 0, .slice none 0 0], []⟩ 8 (by kernel_rfl) (by kernel_rfl) (by kernel_rfl) (by kernel_rfl)) ?_
  intro W base args ds gs before hval0 hW hcnd hsz0 hsh _
  have hval : ∀ (j : Nat) t v, Try.f4.params[j]? = some t → args[j]? = some v → Value.okWide Try.prog W .any base t v := hval0
  have hsz : (DataW.weightsEach Try.prog (Try.f4.params.toList ++ Rows.cursorWritesSpec.plain.varTypes Try.prog) (ds ++ gs)).all (· ≤ reachBytes) = true := hsz0
  have hW' := hW
  obtain ⟨p, q, hA0, hV, rfl, hfz, hnd⟩ := hW
  have hA : DataW.TrodAll enc Try.prog W 0 (fun _ => true) true Try.f4.params.toList args.toList ds p := hA0
  rw [Try.params4] at hA hval hsz
  obtain ⟨v0, vs0, d0, ds0, p0, q0, hargs, rfl, rfl, h0, r0⟩ := trodAll_cons hA
  obtain ⟨v1, vs1, d1, ds1, p1, q1, rfl, rfl, rfl, h1, r1⟩ := trodAll_cons r0
  obtain ⟨rfl, rfl, rfl⟩ := trodAll_nil r1
  obtain rfl : args = #[v0, v1] := by cases args; simp_all
  obtain ⟨rfl, rfl⟩ := trodVars_none hV
  have k0 := h0
  have lt0 : ∀ x ∈ p0, x.block < W.heap.size := by obtain ⟨m, hm⟩ := k0; exact DataW.trod_lt m _ _ _ hm
  have k1 := h1
  have lt1 : ∀ x ∈ p1, x.block < W.heap.size := by obtain ⟨m, hm⟩ := k1; exact DataW.trod_lt m _ _ _ hm
  obtain ⟨a0, len0, cap0, rfl⟩ := okWide_slice Try.underlying40 (hval 0 40 v0 rfl rfl)
  obtain ⟨z0, w0⟩ := open_strs h0
  have sz0 : len0 * 16 ≤ 140737488351232 := by
    rcases w0.2.2 with h | ⟨el, sp, hd, hl⟩
    · omega
    · rw [hd] at hsz
      have hq := sized_slice hsz (j := 0) (t := 40) (e := 9) rfl rfl Try.underlying40
      rw [show Try.prog.bytesOf 9 = 16 from by kernel_rfl] at hq
      simp only [reachBytes] at hq
      omega
  obtain ⟨a1, len1, cap1, rfl⟩ := okWide_slice Try.underlying41 (hval 1 41 v1 rfl rfl)
  obtain ⟨z1, w1⟩ := open_bools1 h1
  clear hA0 hval0
  refine (walk a0 len0 cap0 z0 ⟨w0.1, w0.2.1⟩ sz0 a1 len1 cap1 z1 w1 (hasLen W hsh)).mono fun e W' ⟨he, bel⟩ => ?_
  subst he
  exact ⟨_, rfl, _, _, _, [], _, [], hW', trodAll_mk1 (shut_bool Try.underlying4 _), (trodAll_cons_mk (Below.trod laidOut (by kernel_rfl) (of_decide_eq_true (by kernel_rfl)) k0 bel lt0) (trodAll_cons_mk (Below.trod laidOut (by kernel_rfl) (of_decide_eq_true (by kernel_rfl)) k1 bel lt1) trodAll_mk0)), rfl, bel.frame _, fun h => by cases h⟩

theorem over : Rows.cursorWritesRow.holds Try.pinned (OpenSpec.ofChange Rows.cursorWritesSpec) :=
  OpenClaim.holds_of_wide 4 Try.f4 rfl rfl rfl rfl rfl rfl rfl ⟨rfl, rfl, rfl, rfl, rfl⟩ rfl rfl rfl rfl rfl (by kernel_rfl) Try.func4 (by kernel_rfl)
    (of_decide_eq_true (by kernel_rfl)) (by unfold Func.isWrapper; first | (rw [if_pos (by decide +kernel)]; kernel_rfl) | (rw [if_neg (by decide +kernel)]; exact ⟨rfl, rfl⟩))
    (fun os started H enc _ => lifted os started H enc)

theorem proved : Rows.CursorWritesSaid :=
  over
#print axioms proved
end Go.Proofs.Yteiaefbednafcaa.cursorWrites
