/-
  The document's own answers of layer 11 (taffrailref11): Read, over this seat's translation. No condition but on sizes.
-/
import Derived.Test.YtlnlfeninjjkmaaDoorLsE
import Derived.Test.YtlnlfeninjjkmaaDoorLsX
namespace Go.Proofs.YtlnlfeninjjkmaaDoor
open Go.RowKit
set_option linter.unusedVariables false
set_option linter.unusedSimpArgs false

theorem readG_full {acc : List Ins} (h : 256 ≤ acc.length) {l : List UInt8} (hl : l ≠ []) : readG acc (lines l) = ([], acc.length + 1, 4) := by
  rcases first_end 10 l with hno | ⟨a, r, rfl, hno⟩
  · rw [lines_plain _ hno, readG, if_neg hl, if_pos h]
  · rw [lines_end _ _ hno]
    cases hr : lines r with
    | nil => exact absurd hr (lines_ne _)
    | cons q t => rw [readG, if_pos h]

/-- The document's reading has come to here: the line that was begun, the instructions that were read. -/
structure RdH (w wr : World) (R : List Ins × Nat × Int) (s : ByteArray) (k : Nat) (ln : ByteArray) (v : Value) (acc : List Ins) : Prop where
  own : OwnN wr w.heap.size v acc
  bel : Below w.heap.size w wr
  got : readG acc (lines (ln.data.toList ++ s.data.toList.drop k)) = R
  few : acc.length ≤ 256
  no10 : (10 : UInt8) ∉ ln.data.toList
  ls : ln.size ≤ k

set_option maxRecDepth 100000 in
set_option maxHeartbeats 8000000 in
theorem rdread_any (s : ByteArray) (hs : s.size ≤ 5000) (w : World) :
    Calls Tryd.prog 16 #[.string s] w fun r w' => ∃ v, r = .returned (.tuple #[v, .int .i64 ((readT s.data.toList).2.1 : Nat), .int .i64 (readT s.data.toList).2.2]) ∧ OwnN w' w.heap.size v (readT s.data.toList).1 ∧ Below w.heap.size w w' := by
  obtain ⟨i0, hi, hz0, hz1, hz2⟩ := Tryd.infoIns3
  obtain ⟨R, hR⟩ : ∃ R, readT s.data.toList = R := ⟨_, rfl⟩
  rw [hR]
  have S0 : Hid (RdH w (w.alloc (.cells #[] 24)) R s 0 ⟨#[]⟩ (.slice (some ⟨w.heap.size, 0, none⟩) 0 0) []) :=
    Lib.hid ⟨World.ownsRow_lit w #[] 0 (Nat.le_refl _) (by decide) rfl, below_box _, hR, by simp, by simp, Nat.le_refl _⟩
  clear hR
  go_enter Tryd.func16, Tryd.ntmps16
  go_wp2_with fail
  go_loopw [5, 6, 7, 8, 9] (fun v x6 x7 x8 x9 wr => ∃ (acc : List Ins) (ln : ByteArray) (k at_ : Nat) (o : Bool), x6 = .string ln ∧ x7 = .int .i64 (at_ : Int) ∧ x8 = .bool o ∧ x9 = .int .i64 (k : Int) ∧ k ≤ s.size ∧ at_ ≤ 257 ∧ Hid (at_ = acc.length + 1 ∧ o = decide (ln.data.toList ≠ [])) ∧ Hid (RdH w wr R s k ln v acc)) (fun _ _ _ _ x9 _ => ((s.size : Int) - intOf x9).toNat)
  case atStart => exact ⟨[], ⟨#[]⟩, 0, 1, false, rfl, rfl, rfl, rfl, by omega, by omega, Lib.hid ⟨rfl, by simp⟩, S0⟩
  case round =>
    obtain ⟨acc, ln, k, at_, o, rfl, rfl, rfl, rfl, hk, hat, FI, S⟩ := hrel
    clear S0
    obtain ⟨ao, cap, rfl, hbk⟩ := S.out.own.open
    have hfew := S.out.few
    have HAT := Lib.hid FI.out.1
    have HO := Lib.hid FI.out.2
    clear FI
    have hle : (k : Int) ≤ (s.size : Int) := by omega
    by_cases hend : k = s.size
    · have d1 : ((k : Int) == (s.size : Int)) = true := by simp [hend]
      have hG := S.out.got
      rw [hend, List.drop_eq_nil_of_le (by rw [list_len]; exact Nat.le_refl _), List.append_nil, lines_plain _ S.out.no10, readG] at hG
      cases o
      · have h0 : ln.data.toList = [] := by have := HO.out; simpa using this
        rw [if_pos h0] at hG
        have HG := Lib.hid hG
        have HB := Lib.hid (And.intro S.out.own S.out.bel)
        clear hG h0 hbk hend S
        go_wp2
        (try rw [Exit.noGoto_ret])
        go_ret3
        rw [← HG.out]
        exact ⟨_, rfl, HB.out.1, HB.out.2⟩
      · have h0 : ln.data.toList ≠ [] := by have := HO.out; simpa using this
        rw [if_neg h0] at hG
        by_cases h6 : 257 ≤ at_
        · have d6 : decide ((256 : Int) < (at_ : Int)) = true := by simp; omega
          have HG4 := Lib.hid (show ([], acc.length + 1, 4) = R by rw [← hG, if_pos (by have := HAT.out; omega)])
          have HB := Lib.hid S.out.bel
          clear hG h0 hbk hend h6
          go_wp2
          (try rw [Exit.noGoto_ret])
          go_ret3
          rw [← HG4.out]
          refine ⟨_, ?_, own_nil _ _, HB.out⟩
          rw [← HAT.out]
          rfl
        · have d6 : decide ((256 : Int) < (at_ : Int)) = false := by simp; omega
          have HG4 := Lib.hid (show ([], acc.length + 1, 3) = R by rw [← hG, if_neg (by have := HAT.out; omega)])
          have HB := Lib.hid S.out.bel
          clear hG h0 hbk hend h6
          go_wp2
          (try rw [Exit.noGoto_ret])
          go_ret3
          rw [← HG4.out]
          refine ⟨_, ?_, own_nil _ _, HB.out⟩
          rw [← HAT.out]
          rfl
    · have d1 : ((k : Int) == (s.size : Int)) = false := by simp; omega
      have hkl : k < s.size := by omega
      have hklI : (k : Int) < (s.size : Int) := by omega
      have hk0I : (0 : Int) ≤ (k : Int) := Int.natCast_nonneg _
      have hG := S.out.got
      by_cases h6 : 257 ≤ at_
      · have d6 : decide ((256 : Int) < (at_ : Int)) = true := by simp; omega
        have HG4 := Lib.hid (show ([], acc.length + 1, 4) = R by
          rw [← hG, readG_full (by have := HAT.out; omega)]
          rw [drop_at s k hkl]
          simp)
        have HB := Lib.hid S.out.bel
        clear hG hbk hend h6
        go_wp2
        (try rw [Exit.noGoto_ret])
        go_ret3
        rw [← HG4.out]
        refine ⟨_, ?_, own_nil _ _, HB.out⟩
        rw [← HAT.out]
        rfl
      · have d6 : decide ((256 : Int) < (at_ : Int)) = false := by simp; omega
        obtain ⟨c, hc⟩ : ∃ c, s[k] = c := ⟨_, rfl⟩
        rw [drop_at s k hkl, hc] at hG
        obtain ⟨C, hC⟩ : ∃ C : Nat, (s[k]'hkl).toNat = C := ⟨_, rfl⟩
        by_cases h10 : C = 10
        · have hc10 : c = 10 := by rw [← hc]; exact UInt8.toNat_inj.1 (by rw [hC, h10]; rfl)
          have e10 : ((C : Int) != 10) = false := by simp [h10]
          rw [hc10, lines_end _ _ S.out.no10] at hG
          obtain ⟨x, l, hxl⟩ : ∃ x l, lines (s.data.toList.drop (k + 1)) = x :: l := by
            cases hl : lines (s.data.toList.drop (k + 1)) with
            | nil => exact absurd hl (lines_ne _)
            | cons x l => exact ⟨x, l, rfl⟩
          rw [hxl, readG, ← hxl] at hG
          have HP := Lib.hid (fun w' => rdparse_any ln (by have := S.out.ls; omega) w')
          generalize (parseI ln.data.toList).1 = j at *
          generalize (parseI ln.data.toList).2 = e at *
          have HG := Lib.hid hG
          have h6' : acc.length < 256 := by have := HAT.out; omega
          have H6 := Lib.hid h6'
          clear hG hc hc10 h10 hxl hend h6 h6'
          obtain ⟨op, a, b, c, d, k4⟩ := j
          unfold insV at HP
          simp only at HP
          go_wp2_with fail
          refine (HP.out _).mono ?_
          rintro r w2 ⟨rfl, h2⟩
          have B2 := Lib.hid (below_on S.out.bel h2)
          have O2 := Lib.hid (S.out.own.below h2)
          clear h2 HP
          obtain ⟨w3, e3⟩ : ∃ w3, w3 = w2.alloc (insO ⟨op, a, b, c, d, k4⟩) := ⟨_, rfl⟩
          obtain ⟨s3, n3, b3⟩ := new_size e3
          have B3 := Lib.hid (below_on B2.out b3)
          have O3 := Lib.hid (O2.out.below b3)
          by_cases he : e = 0
          · subst he
            have HG4 := Lib.hid (show readG (acc ++ [⟨op, a, b, c, d, k4⟩]) (lines (s.data.toList.drop (k + 1))) = R by rw [← HG.out, if_neg (by have := H6.out; omega), if_neg (by simp)])
            have hown3 := fun o => World.ownsRow.alloc O3.out o
            have hbs := B3.out.size
            obtain ⟨E, hE⟩ : ∃ E, w2.heap.size = E := ⟨_, rfl⟩
            rw [hE] at n3
            obtain ⟨c0, c1, c2, c3, c4, c5⟩ := inscells n3
            simp only at c0 c1 c2 c3 c4 c5
            have HE := Lib.hid hE
            replace e3 : w3 = w2.alloc (.cells #[.int .i64 op, .int .i64 a, .int .i64 b, .int .i64 c, .int .i64 d, .int .u32 (k4 : Int)] 24) := e3
            have hat2 : (at_ : Int) ≤ 256 := by have := HAT.out; have := H6.out; omega
            have HK := Lib.hid (show k + 1 ≤ s.size from hkl)
            clear HG s3 b3 hE n3 hC
            go_upto_region 18 with fail
            rw [← e3, HE.out]
            clear e3
            go_wp2_with (at_builtin; refine wpList_append_own _ rfl _ _ 36 rfl w.heap.size 24 i0 (.agg #[.int .i64 0, .int .i64 0, .int .i64 0, .int .i64 0, .int .i64 0, .int .u32 0]) 6 48 Tryd.underlying36 hi hz0 hz1 hz2 rfl (by decide) _ _ _ rfl (hown3 _) _ 1 1 (in6 ⟨op, a, b, c, d, k4⟩) rfl rfl (seg_ins w3 ⟨op, a, b, c, d, k4⟩) (in6_one _) (by unfold maxLen; omega) (by omega) (by simp; omega) ?_)
            intro v' w5 hown1 hg1 hne1
            have HS : Hid (RdH w w5 R s (k + 1) ⟨#[]⟩ v' (acc ++ [⟨op, a, b, c, d, k4⟩])) := Lib.hid (by
              refine ⟨?_, (B3.out.alloc B3.out.size _).grown hg1 (by simp; omega) (fun kk hk => hbk kk hk), HG4.out, by have := H6.out; simp; omega, by simp, Nat.zero_le _⟩
              unfold OwnN
              rw [inRow_append, inRow_one, List.length_append]
              exact hown1)
            have FI2 : Hid (at_ + 1 = (acc ++ [(⟨op, a, b, c, d, k4⟩ : Ins)]).length + 1 ∧ false = decide ((⟨#[]⟩ : ByteArray).data.toList ≠ [])) := Lib.hid ⟨by rw [HAT.out]; simp, by simp⟩
            clear hown1 hg1 hne1 hown3 HG4 O3 O2
            go_wp2_with fail
            go_roundw
            case rel => exact ⟨_, _, k + 1, at_ + 1, false, rfl, by go_num, rfl, by go_num, HK.out, by omega, FI2, HS⟩
            case measure => simp [intOf]; omega
          · have he' : (e != 0) = true := by simp [he]
            have HG4 := Lib.hid (show ([], acc.length + 1, e) = R by rw [← HG.out, if_neg (by have := H6.out; omega), if_pos he])
            clear HG e3 s3 n3 b3 B3 O3 he O2 hC
            go_wp2
            (try rw [Exit.noGoto_ret])
            go_ret3
            rw [← HG4.out]
            refine ⟨_, ?_, own_nil _ _, B2.out.alloc B2.out.size _⟩
            rw [← HAT.out]
            rfl
        · have e10 : ((C : Int) != 10) = true := by simp; omega
          have hyx : s.extract k (k + 1) = bytesOf [c] := by
            apply bytes_ext
            rw [bytesOf_data, Lib.extract_data, show k + 1 - k = 1 by omega, drop_at s k hkl, hc]
            rfl
          obtain ⟨V, hV⟩ : ∃ V, bytesOf [c] = V := ⟨_, rfl⟩
          have hVd : V.data.toList = [c] := by rw [← hV, bytesOf_data]
          have hVs : V.size = 1 := by rw [← hV, bytesOf_size]; rfl
          rw [hV] at hyx
          have hyx2 : (s.extract k (k + 1)).size = 1 := by rw [hyx, hVs]
          have hls := S.out.ls
          have g2 : ¬ 9223372036854775807 < ln.size + V.size := by omega
          have hcd : (ln ++ V).data.toList = ln.data.toList ++ [c] := by rw [ByteArray.data_append, Array.toList_append, hVd]
          have HS : Hid (RdH w wr R s (k + 1) (ln ++ V) (.slice ao acc.length cap) acc) := Lib.hid (by
            refine ⟨S.out.own, S.out.bel, ?_, S.out.few, ?_, ?_⟩
            · rw [hcd, ← hG]; simp
            · rw [hcd]
              simp only [List.mem_append, List.mem_singleton, not_or]
              refine ⟨S.out.no10, fun e => h10 ?_⟩
              rw [← hC, hc, ← e]; rfl
            · rw [ByteArray.size_append, hVs]; omega)
          have FI2 : Hid (at_ = acc.length + 1 ∧ true = decide ((ln ++ V).data.toList ≠ [])) := Lib.hid ⟨HAT.out, by rw [hcd]; simp⟩
          have hk1 : (k : Int) + 1 ≤ (s.size : Int) := by omega
          have HK := Lib.hid (show k + 1 ≤ s.size from hkl)
          clear hG hc h10 hV hVd hls hcd hend h6 S hbk hVs
          go_wp2_with fail
          go_roundw
          case rel => exact ⟨acc, ln ++ V, k + 1, at_, true, rfl, rfl, rfl, by go_num, HK.out, hat, FI2, HS⟩
          case measure => simp [intOf]; omega

end Go.Proofs.YtlnlfeninjjkmaaDoor
