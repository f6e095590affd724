/-
  The document's own answers of layer 5 (taffrailref05), Words, over this seat's translation. No condition but on sizes.
-/
import Derived.Test.YtlnlfeninjjkmaaDoorEvRef3
import Derived.OwnWalk
import Derived.Laws.OwnMore
import Derived.StillTailTactics
import Derived.BigRegion
namespace Go.Proofs.YtlnlfeninjjkmaaDoor
open Go.RowKit
set_option linter.unusedVariables false
set_option linter.unusedSimpArgs false

theorem Tryd.infoStr : (Tryd.prog.info? 9).map (fun i => (i.zero, i.size, i.bytes)) = some (some (.string ByteArray.empty), 1, 16) := by kernel_rfl

/-- Words, as cells. -/
def strC (ws : List (List UInt8)) : List Value := ws.map fun x => Value.string (bytesOf x)
/-- A row of words of one's own. -/
def Strs (w : World) (B : Nat) (v : Value) (ws : List (List UInt8)) : Prop := w.ownsRow B 9 1 v ws.length (strC ws)

theorem Strs.shape {w : World} {B : Nat} {v : Value} {ws : List (List UInt8)} (h : Strs w B v ws) (hne : ws ≠ []) : ∃ g cap, v = .slice (some ⟨g, 0, none⟩) ws.length cap ∧ B ≤ g ∧ g < w.heap.size := by
  rcases h.2 with ⟨_, hn⟩ | ⟨g, cap, cur, hv, hb, hg, _⟩
  · exact absurd (List.length_eq_zero_iff.1 hn) hne
  · exact ⟨g, cap, hv, hb, blk_lt hg⟩

theorem Strs.at {w : World} {B g n cap : Nat} {ws : List (List UInt8)} (h : Strs w B (.slice (some ⟨g, 0, none⟩) n cap) ws) (hn : n = ws.length) (j : Nat) (hj : j < n) : w.cell? ⟨g, j, none⟩ = some (.string (bytesOf (ws.getD j []))) := by
  subst hn
  have h' : w.ownsRow B 9 1 (.slice (some ⟨g, 0, none⟩) ws.length cap) ws.length (strC ws) := h
  rw [h'.cellAt j (by omega)]
  simp [strC, List.getD, hj]

theorem seg_empty (w : World) : ∀ j u, [Value.string ⟨#[]⟩][j]? = some u → (w.alloc (.cells #[.string ⟨#[]⟩] 9)).cell? ((⟨w.heap.size, 0, none⟩ : Addr).add j) = some u := by
  intro j u hj
  match j, hj with
  | 0, hj => simp at hj; subst hj; simp [Addr.add]

theorem last_app (ws : List (List UInt8)) (hne : ws ≠ []) (c : UInt8) (hc : c ≠ 32) : strC (wstep ws c) = (strC ws).set (ws.length - 1) (.string (bytesOf (ws.getD (ws.length - 1) [] ++ [c]))) ∧ (wstep ws c).length = ws.length := by
  obtain ⟨r, x, rfl⟩ : ∃ r x, ws = r ++ [x] := ⟨ws.dropLast, ws.getLast hne, (List.dropLast_concat_getLast hne).symm⟩
  unfold wstep strC
  rw [if_neg hc]
  rw [show (r ++ [x]).getLastD [] = x from List.getLastD_concat ..]
  simp [List.getD, List.set_append]

theorem wrap_small (n : Nat) (h : n ≤ 10000) : IntKind.i64.wrap (n : Int) = (n : Int) := by
  simp [IntKind.wrap, IntKind.bits, IntKind.signed]
  omega

theorem words_short : ∀ (l : List UInt8), ∀ x ∈ words l, x.length ≤ l.length
  | [], x, hx => by simp [words] at hx; simp [hx]
  | c :: r, x, hx => by
    have ih := words_short r
    unfold words at hx
    split at hx
    · rcases List.mem_cons.1 hx with rfl | hx
      · simp
      · have := ih x hx; simp; omega
    · split at hx
      · simp at hx; simp [hx]
      · rename_i y t h
        rcases List.mem_cons.1 hx with rfl | hx
        · have := ih y (by rw [h]; simp); simp; omega
        · have := ih x (by rw [h]; simp [hx]); simp; omega

set_option maxRecDepth 100000 in
set_option maxHeartbeats 4000000 in
theorem rwords_any (s : ByteArray) (hs : s.size ≤ 5000) (w : World) :
    Calls Tryd.prog 34 #[.string s] w fun r w' => ∃ v, r = .returned v ∧ Strs w' w.heap.size v (words s.data.toList) ∧ Below w.heap.size w w' := by
  obtain ⟨i0, hi, hz0, hz1, hz2⟩ := info_parts Tryd.infoStr
  go_enter Tryd.func34, Tryd.ntmps34
  go_wp2_with fail
  go_loopw [3, 4] (fun v y wr => ∃ i : Nat, y = .int .i64 (i : Int) ∧ i ≤ s.size ∧ Hid (Strs wr w.heap.size v (words (s.data.toList.take i))) ∧ Hid (Below w.heap.size w wr)) (fun _ y _ => ((s.size : Int) - intOf y).toNat)
  case atStart => exact ⟨0, rfl, by omega, World.ownsRow_lit w #[.string ⟨#[]⟩] 1 (Nat.le_refl _) (by decide) rfl, below_box _⟩
  case round =>
    obtain ⟨i, rfl, hi', SS, BB⟩ := hrel
    by_cases hlt : i < s.size
    · have hlt' : (i : Int) < (s.size : Int) := by omega
      have htk : s.data.toList.take (i + 1) = s.data.toList.take i ++ [s[i]] := by
        rw [List.take_add_one]
        congr 1
        rw [List.getElem?_eq_getElem (by rw [list_len]; exact hlt)]
        rfl
      have hw' := words_app (s.data.toList.take i) s[i]
      rw [← htk] at hw'
      have hlen : (words (s.data.toList.take i)).length ≤ 5001 := by
        have := words_len (s.data.toList.take i)
        have h2 : (s.data.toList.take i).length ≤ i := by simp; omega
        omega
      have hwne := words_ne (s.data.toList.take i)
      have hwl : ∀ x ∈ words (s.data.toList.take i), x.length ≤ 5000 := fun x hx => by
        have := words_short _ x hx
        have h2 : (s.data.toList.take i).length ≤ i := by simp; omega
        omega
      obtain ⟨g, cap, rfl, hg1, hg2⟩ := SS.out.shape hwne
      have HW := Lib.hid hw'
      generalize words (s.data.toList.take i) = ws at *
      obtain ⟨c, hci⟩ : ∃ c : Nat, s[i].toNat = c := ⟨_, rfl⟩
      have hbs := BB.out.size
      by_cases h32 : c = 32
      · have d1 : ((c : Int) == 32) = true := by simp; omega
        have hx : s[i] = 32 := UInt8.toNat_inj.1 (by rw [hci, h32]; rfl)
        have HX := Lib.hid hx
        have HO := World.ownsRow.alloc SS.out
        clear hw' htk hx hwne
        go_wp2_with (at_builtin; refine wpList_append_own _ rfl _ _ 52 rfl w.heap.size 9 i0 (.string ByteArray.empty) 1 16 Tryd.underlying52 hi hz0 hz1 hz2 rfl (by decide) _ _ _ rfl (HO _) _ 1 1 [Value.string ⟨#[]⟩] rfl rfl (seg_empty wr) (by simp [Value.oneCell']) (by unfold maxLen; omega) (by omega) (by simp; omega) ?_)
        intro v' w1 hown1 hg1' hne1
        have HS := Lib.hid (show Strs w1 w.heap.size v' (wstep ws 32) by
          unfold Strs wstep strC
          rw [if_pos rfl, List.length_append, List.map_append]
          exact hown1)
        have HB := Lib.hid ((BB.out.alloc hbs (.cells #[.string ⟨#[]⟩] 9)).grown hg1' (by simp; omega) (fun k hk => by simp [Value.ownBlock] at hk; omega))
        clear hown1 hg1' hne1 HO
        go_wp2_with fail
        go_roundw
        case rel => exact ⟨i + 1, by go_num, by omega, by rw [HW.out, HX.out]; exact HS.out, HB.out⟩
        case measure => simp [intOf]; omega
      · have d1 : ((c : Int) == 32) = false := by simp; omega
        have hx : s[i] ≠ 32 := fun e => h32 (by rw [← hci, e]; rfl)
        have hp : 0 < ws.length := List.length_pos_iff.2 hwne
        obtain ⟨la1, la2⟩ := last_app ws hwne s[i] hx
        have LA := Lib.hid (show (strC ws).set (ws.length - 1) (.string (bytesOf (ws.getD (ws.length - 1) [] ++ [s[i]]))) = strC (wstep ws s[i]) ∧ (wstep ws s[i]).length = ws.length from ⟨la1.symm, la2⟩)
        have hcell := SS.out.at rfl (ws.length - 1) (by omega)
        have hfz := World.ownsRow.frozenAt SS.out (ws.length - 1)
        have HST := Lib.hid (fun u => World.ownsRow.stored (World.ownsRow.drew SS.out) (ws.length - 1) u)
        have hyx : s.extract i (i + 1) = bytesOf [s[i]] := by
          apply bytes_ext
          rw [bytesOf_data, Lib.extract_data]
          rw [show i + 1 - i = 1 by omega, drop_at s i hlt]
          rfl
        obtain ⟨m, hm⟩ : ∃ m, ws.length = m + 1 := ⟨ws.length - 1, by omega⟩
        rw [hm, Nat.add_sub_cancel] at hcell hfz
        obtain ⟨x, hxd⟩ : ∃ x, bytesOf (ws.getD m []) = x := ⟨_, rfl⟩
        obtain ⟨y, hyd⟩ : ∃ y, s.extract i (i + 1) = y := ⟨_, rfl⟩
        rw [hxd] at hcell
        have hxs : x.size ≤ 5000 := by
          rw [← hxd, bytesOf_size]
          refine hwl _ ?_
          simp [List.getD, List.getElem?_eq_getElem (show m < ws.length by omega)]
        have hys : y.size ≤ 1 := by rw [← hyd]; simp; omega
        have hsz : ¬ 9223372036854775807 < x.size + y.size := by omega
        have k0 : (0 : Int) ≤ (i : Int) := Int.natCast_nonneg _
        have k1 : (i : Int) + 1 ≤ (s.size : Int) := by omega
        have HXY := Lib.hid (show x ++ y = bytesOf (ws.getD m [] ++ [s[i]]) by rw [← hxd, ← hyd, hyx, bytesOf_app])
        have k2 : (m : Int) < (m : Int) + 1 := by omega
        have k6 : (i : Int) ≤ (i : Int) + 1 := by omega
        have k7 : (0 : Int) ≤ (i : Int) + 1 := by omega
        have k8 : ((i : Int) + 1).toNat = i + 1 := by omega
        have k4 : IntKind.i64.wrap (m : Int) = (m : Int) := wrap_small m (by omega)
        have k5 : IntKind.i64.wrap ((i : Int) + 1) = (i : Int) + 1 := by have := wrap_small (i + 1) (by omega); simpa using this
        have k3 : (0 : Int) ≤ (m : Int) := Int.natCast_nonneg _
        clear hw' htk hx la1 la2 hyx hxd hwl hxs hys
        rw [hm]
        go_wp2_with fail
        go_still_tail 13, (by kernel_rfl)
        change wpList _ _ _ _ _ wr.drew
        have hcell2 : wr.drew.cell? ⟨g, m, none⟩ = some (.string x) := hcell
        have hfz2 : wr.drew.frozen? ⟨g, m, none⟩ = false := hfz
        have HB2 := Lib.hid (below_drew BB.out)
        have hST := HST.out (.string (x ++ y))
        rw [hm, Nat.add_sub_cancel, HXY.out] at hST
        have hLA := LA.out
        rw [hm, Nat.add_sub_cancel] at hLA
        have HSN := Lib.hid (show Strs (wr.drew.setCell ⟨g, m, none⟩ (.string (x ++ y))) w.heap.size (.slice (some ⟨g, 0, none⟩) (m + 1) cap) (wstep ws s[i]) by
          unfold Strs
          rw [← hLA.1, hLA.2, HXY.out]
          exact hST.1)
        have HG := Lib.hid (show wr.drew.grownBy (wr.drew.setCell ⟨g, m, none⟩ (.string (x ++ y))) (some g) by rw [HXY.out]; exact hST.2)
        have hbs2 : w.heap.size ≤ wr.drew.heap.size := hbs
        generalize wr.drew = w2 at *
        clear hcell hfz hST hLA HST LA hsz hyd
        go_wp2_with fail
        go_roundw
        case rel => exact ⟨i + 1, by go_num, by omega, by rw [HW.out]; exact HSN.out, below_grown HB2.out hbs2 hg1 HG.out⟩
        case measure => simp [intOf]; omega
    · have hlt' : decide ((i : Int) < (s.size : Int)) = false := by simp; omega
      have e : s.data.toList.take i = s.data.toList := List.take_of_length_le (by rw [list_len]; omega)
      rw [e] at SS
      go_wp2_with fail
      go_ret
      exact ⟨_, rfl, SS.out, BB.out⟩

end Go.Proofs.YtlnlfeninjjkmaaDoor
