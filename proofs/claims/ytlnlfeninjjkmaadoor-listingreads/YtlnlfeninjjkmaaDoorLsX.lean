/-
  What Read of package listing does, over this seat's translation. Conditions: the listed variables (LsL); texts of at most 100000 bytes.
-/
import Derived.Test.YtlnlfeninjjkmaaDoorLsW
import Derived.Test.YtlnlfeninjjkmaaDoorInS
namespace Go.Proofs.YtlnlfeninjjkmaaDoor
open Go.RowKit
set_option linter.unusedVariables false
set_option linter.unusedSimpArgs false

theorem own_nil (w : World) (B : Nat) : OwnN w B (.slice none 0 0) [] := World.ownsRow_nil w B _ 6
theorem OwnN.below {w w' : World} {B : Nat} {v : Value} {l : List Ins} (h : OwnN w B v l) (hb : Below w.heap.size w w') : OwnN w' B v l := row_below (B := 0) h hb
theorem OwnN.open {w : World} {B : Nat} {v : Value} {l : List Ins} (h : OwnN w B v l) : ∃ ao cap, v = .slice ao l.length cap ∧ ∀ k, v.ownBlock = some k → B ≤ k := by
  obtain ⟨ao, cap, rfl, -, hb⟩ := h.seen
  refine ⟨ao, cap, rfl, fun k hk => ?_⟩
  cases ao with
  | none => simp [Value.ownBlock] at hk
  | some x =>
    have := (World.ownsRow.lt h k hk).1
    exact this

theorem empty_or (t : ByteArray) : t.data.toList = [] ∧ t.toList = [] ∨ t.data.toList ≠ [] ∧ t.toList ≠ [] := by
  rw [ByteArray.toList_eq]
  by_cases h : t.data.toList = []
  · exact .inl ⟨h, h⟩
  · exact .inr ⟨h, h⟩

/-- Reading has come to here: the text that is left, the instructions that were read. -/
structure RdT (w wr : World) (R : List Ins × Nat × Int) (t : ByteArray) (v : Value) (acc : List Ins) : Prop where
  own : OwnN wr w.heap.size v acc
  bel : Below w.heap.size w wr
  got : readG acc (lines t.data.toList) = R
  few : acc.length ≤ 256

set_option maxRecDepth 100000 in
set_option maxHeartbeats 4000000 in
theorem readt_any (s : ByteArray) (hs : s.size ≤ 100000) (w : World) (hL : LsL w) :
    Calls Tryd.prog 15 #[.string s] w fun r w' => ∃ v, r = .returned (.tuple #[v, .int .i64 ((readT s.data.toList).2.1 : Nat), .int .i64 (readT s.data.toList).2.2]) ∧ OwnN w' w.heap.size v (readT s.data.toList).1 ∧ Below w.heap.size w w' := by
  obtain ⟨i0, hi, hz0, hz1, hz2⟩ := Tryd.infoIns3
  obtain ⟨R, hR⟩ : ∃ R, readT s.data.toList = R := ⟨_, rfl⟩
  rw [hR]
  have HL := Lib.hid hL
  have HR := Lib.hid hR
  clear hL hR
  go_enter Tryd.func15, Tryd.ntmps15
  go_wp2_with fail
  go_step3
  go_wp2_with fail
  go_step3
  go_wp2_with fail
  go_loopw [0, 5, 6] (fun x v z wr => ∃ (t : ByteArray) (acc : List Ins), x = .string t ∧ z = .int .i64 0 ∧ t.size ≤ 100000 ∧ Hid (RdT w wr R t v acc)) (fun x _ _ _ => match x with | .string t => t.size | _ => 0)
  case atStart => exact ⟨s, [], rfl, rfl, hs, own_nil w _, Below.refl _ _, HR.out, by simp⟩
  case round =>
    obtain ⟨t, acc, rfl, rfl, ht, S⟩ := hrel
    obtain ⟨ao, cap, rfl, hbk⟩ := S.out.own.open
    have hfew := S.out.few
    rcases empty_or t with ⟨h0, h0'⟩ | ⟨h0, h0'⟩
    · have hG := S.out.got
      rw [h0, show lines [] = [[]] from rfl, show readG acc [[]] = (acc, 0, 0) from by unfold readG; rfl] at hG
      have HG := Lib.hid hG
      have HB := Lib.hid (And.intro S.out.own S.out.bel)
      have e0 : t.toList.isEmpty = true := by rw [h0']; rfl
      clear hG h0 h0' hbk S HL HR
      go_wp2
      (try rw [Exit.noGoto_ret])
      go_ret3
      rw [← HG.out]
      exact ⟨_, rfl, HB.out.1, HB.out.2⟩
    · have e0 : t.toList.isEmpty = false := by cases hq : t.toList with
        | nil => exact absurd hq h0'
        | cons => rfl
      obtain ⟨m, hm⟩ := (HL.out.below S.out.bel).mx
      have hC := Tryd.strings_Cut t ⟨#[10]⟩ m wr (by omega) hm
      rw [show (⟨#[10]⟩ : ByteArray).data.toList = [10] from rfl] at hC
      clear hm
      have hG := S.out.got
      have hlen : t.data.toList.length ≤ 100000 := by rw [list_len]; exact ht
      rcases first_end 10 t.data.toList with hno | ⟨p, q, hpq, hno⟩
      · rw [cut_none hno] at hC
        simp only at hC
        rw [show (⟨t.data.toList.toArray⟩ : ByteArray) = t from bytesOf_list t, show (⟨([] : List UInt8).toArray⟩ : ByteArray) = ⟨#[]⟩ from rfl] at hC
        rw [lines_plain _ hno] at hG
        unfold readG at hG
        rw [if_neg h0] at hG
        have HC := Lib.hid hC
        have HP := Lib.hid (fun w' h' => iparse_any t (by omega) w' h')
        generalize (parseI t.data.toList).1 = j at *
        generalize (parseI t.data.toList).2 = e at *
        have HG := Lib.hid hG
        clear hC hG hno h0 hlen
        obtain ⟨op, a, b, c, d, k⟩ := j
        unfold insV at HP
        simp only at HP
        go_wp2_with fail
        refine HC.out.mono ?_
        rintro r w1 ⟨rfl, n, rfl⟩
        have B1 := Lib.hid (below_drewN S.out.bel n)
        clear HC
        go_wp2_with fail
        refine (HP.out _ (HL.out.below B1.out)).mono ?_
        rintro r w2 ⟨rfl, h2⟩
        have B2 := Lib.hid (below_on B1.out h2)
        clear h2 HP
        by_cases h6 : acc.length = 256
        · have d6 : ((acc.length : Int) == 256) = true := by simp [h6]
          have HG4 := Lib.hid (show ([], acc.length + 1, 4) = R by rw [← HG.out, if_pos (by omega)])
          have hc1 : ((acc.length : Int) + 1) = ((acc.length + 1 : Nat) : Int) := by omega
          have HC1 := Lib.hid hc1
          clear h6 HG hc1
          go_wp2
          (try rw [Exit.noGoto_ret])
          go_ret3
          rw [← HG4.out]
          refine ⟨_, ?_, own_nil _ _, B2.out.alloc B2.out.size _⟩
          rw [← HC1.out]
          rfl
        · have d6 : ((acc.length : Int) == 256) = false := by simp; omega
          have HG4 := Lib.hid (show ([], acc.length + 1, 3) = R by rw [← HG.out, if_neg (by omega)])
          have hc1 : ((acc.length : Int) + 1) = ((acc.length + 1 : Nat) : Int) := by omega
          have HC1 := Lib.hid hc1
          clear h6 HG hc1
          go_wp2
          (try rw [Exit.noGoto_ret])
          go_ret3
          rw [← HG4.out]
          refine ⟨_, ?_, own_nil _ _, B2.out.alloc B2.out.size _⟩
          rw [← HC1.out]
          rfl
      · rw [hpq, cut_some hno] at hC
        simp only at hC
        rw [show (⟨p.toArray⟩ : ByteArray) = bytesOf p from rfl, show (⟨q.toArray⟩ : ByteArray) = bytesOf q from rfl] at hC
        rw [hpq, lines_end _ _ hno] at hG
        obtain ⟨x, l, hxl⟩ : ∃ x l, lines q = x :: l := by
          cases hl : lines q with
          | nil => exact absurd hl (lines_ne _)
          | cons x l => exact ⟨x, l, rfl⟩
        rw [hxl, readG, ← hxl] at hG
        have hpl : p.length + q.length + 1 = t.size := by
          have := congrArg List.length hpq
          rw [list_len] at this
          simp at this
          omega
        have HC := Lib.hid hC
        have hPP := fun w' (h' : LsL w') => iparse_any (bytesOf p) (by rw [bytesOf_size]; omega) w' h'
        rw [bytesOf_data] at hPP
        have HP := Lib.hid hPP
        clear hPP
        generalize (parseI p).1 = j at *
        generalize (parseI p).2 = e at *
        have HG := Lib.hid hG
        have HQ := Lib.hid (show (bytesOf q).size ≤ 100000 ∧ (bytesOf q).size < t.size by rw [bytesOf_size]; omega)
        have HQL := Lib.hid (bytesOf_data q)
        clear hC hG hno h0 hlen hpq hxl hpl
        generalize bytesOf p = P at *
        generalize bytesOf q = Q at *
        obtain ⟨op, a, b, c, d, k⟩ := j
        unfold insV at HP
        simp only at HP
        go_wp2_with fail
        refine HC.out.mono ?_
        rintro r w1 ⟨rfl, n, rfl⟩
        have B1 := Lib.hid (below_drewN S.out.bel n)
        have O1 : Hid (OwnN (wr.drewN n) w.heap.size (.slice ao acc.length cap) acc) := Lib.hid (S.out.own.below (below_drewN (Below.refl _ _) n))
        clear HC
        go_wp2_with fail
        refine (HP.out _ (HL.out.below B1.out)).mono ?_
        rintro r w2 ⟨rfl, h2⟩
        have B2 := Lib.hid (below_on B1.out h2)
        have O2 := Lib.hid (O1.out.below h2)
        clear h2 HP O1 B1
        obtain ⟨w3, e3⟩ : ∃ w3, w3 = w2.alloc (insO ⟨op, a, b, c, d, k⟩) := ⟨_, rfl⟩
        obtain ⟨s3, n3, b3⟩ := new_size e3
        have B3 := Lib.hid (below_on B2.out b3)
        have O3 := Lib.hid (O2.out.below b3)
        by_cases h6 : acc.length = 256
        · have d6 : ((acc.length : Int) == 256) = true := by simp [h6]
          have HG4 := Lib.hid (show ([], acc.length + 1, 4) = R by rw [← HG.out, if_pos (by omega)])
          have hc1 : ((acc.length : Int) + 1) = ((acc.length + 1 : Nat) : Int) := by omega
          have HC1 := Lib.hid hc1
          clear h6 HG hc1 e3 s3 n3 b3 B3 O3
          go_wp2
          (try rw [Exit.noGoto_ret])
          go_ret3
          rw [← HG4.out]
          refine ⟨_, ?_, own_nil _ _, B2.out.alloc B2.out.size _⟩
          rw [← HC1.out]
          rfl
        · have d6 : ((acc.length : Int) == 256) = false := by simp; omega
          by_cases he : e = 0
          · subst he
            have HG4 := Lib.hid (show readG (acc ++ [⟨op, a, b, c, d, k⟩]) (lines q) = R by rw [← HG.out, if_neg (by omega), if_neg (by simp)])
            have hl5 : acc.length + 1 ≤ 256 := by omega
            have HL5 := Lib.hid hl5
            have hown3 := fun o => World.ownsRow.alloc O3.out o
            have hbs := B3.out.size
            have hl255 : acc.length ≤ 256 := by omega
            obtain ⟨E, hE⟩ : ∃ E, w2.heap.size = E := ⟨_, rfl⟩
            rw [hE] at n3
            obtain ⟨c0, c1, c2, c3, c4, c5⟩ := inscells n3
            simp only at c0 c1 c2 c3 c4 c5
            have HE := Lib.hid hE
            replace e3 : w3 = w2.alloc (.cells #[.int .i64 op, .int .i64 a, .int .i64 b, .int .i64 c, .int .i64 d, .int .u32 (k : Int)] 24) := e3
            clear h6 HG s3 b3 hE n3 hl5
            go_upto_region 6 with fail
            rw [← e3, HE.out]
            clear e3
            go_wp2_with (at_builtin; refine wpList_append_own _ rfl _ _ 36 rfl w.heap.size 24 i0 (.agg #[.int .i64 0, .int .i64 0, .int .i64 0, .int .i64 0, .int .i64 0, .int .u32 0]) 6 48 Tryd.underlying36 hi hz0 hz1 hz2 rfl (by decide) _ _ _ rfl (hown3 _) _ 1 1 (in6 ⟨op, a, b, c, d, k⟩) rfl rfl (seg_ins w3 ⟨op, a, b, c, d, k⟩) (in6_one _) (by unfold maxLen; omega) (by omega) (by simp; omega) ?_)
            intro v' w5 hown1 hg1 hne1
            have HS : Hid (RdT w w5 R Q v' (acc ++ [⟨op, a, b, c, d, k⟩])) := Lib.hid (by
              refine ⟨?_, (B3.out.alloc B3.out.size _).grown hg1 (by simp; omega) (fun kk hk => hbk kk hk), by rw [HQL.out]; exact HG4.out, by have := HL5.out; simp; omega⟩
              unfold OwnN
              rw [inRow_append, inRow_one, List.length_append]
              exact hown1)
            clear hown1 hg1 hne1 hown3
            go_wp2_with fail
            go_roundw
            case rel => exact ⟨Q, acc ++ [⟨op, a, b, c, d, k⟩], rfl, rfl, HQ.out.1, HS⟩
            case measure => exact HQ.out.2
          · have he' : (e != 0) = true := by simp [he]
            have HG4 := Lib.hid (show ([], acc.length + 1, e) = R by rw [← HG.out, if_neg (by omega), if_pos he])
            have hc1 : ((acc.length : Int) + 1) = ((acc.length + 1 : Nat) : Int) := by omega
            have HC1 := Lib.hid hc1
            clear h6 HG hc1 e3 s3 n3 b3 B3 O3 he
            go_wp2
            (try rw [Exit.noGoto_ret])
            go_ret3
            rw [← HG4.out]
            refine ⟨_, ?_, own_nil _ _, B2.out.alloc B2.out.size _⟩
            rw [← HC1.out]
            rfl

end Go.Proofs.YtlnlfeninjjkmaaDoor
