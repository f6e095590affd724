/-
  The document's Same, the statements' one, great and awake, and a hunter that is fed piece by piece (Hu5, Hu7, Hu8, Hu10 in one text). Over this seat's translation.
-/
import Derived.Test.YtobioiicbdhboaaDoorHuA
import Derived.Test.YtobioiicbdhboaaDoorCoil10
import Derived.BigRegion
import Derived.Test.YtobioiicbdhboaaDoorFrR
import Derived.Deep.RegionWith
import Derived.Deep.DeepCutAuto
namespace Go.Proofs.YtobioiicbdhboaaDoor
open Go.RowKit
set_option linter.unusedVariables false
set_option linter.unusedSimpArgs false

theorem at_same {l1 l2 : List Im} (he : l1.map Im.it = l2.map Im.it) (k : Nat) (h1 : k < l1.length) : ∃ h2 : k < l2.length, l1[k].it = l2[k].it := by
  have hl : l1.length = l2.length := by have := congrArg List.length he; simpa using this
  have h2 : k < l2.length := by omega
  refine ⟨h2, ?_⟩
  have := congrArg (fun l : List It => l[k]?) he
  simp only [List.getElem?_map, List.getElem?_eq_getElem h1, List.getElem?_eq_getElem h2, Option.map_some, Option.some.injEq] at this
  exact this

set_option maxRecDepth 100000 in
set_option maxHeartbeats 4000000 in
theorem hsame_any {B1 C1 B2 C2 : Nat} {w : World} {v1 v2 : Value} {l1 l2 : List Im} (h1 : OwnI B1 C1 w v1 l1) (h2 : OwnI B2 C2 w v2 l2) (he : l1.map Im.it = l2.map Im.it) (hm : l1.length ≤ 4000000) :
    Calls Tryd.prog 15 #[v1, v2] w fun r w' => r = .returned (.bool true) ∧ ∃ n, w' = w.drewN n := by
  have hl : l2.length = l1.length := by have := congrArg List.length he; simpa using this.symm
  obtain ⟨a1, p1, rfl⟩ := h1.shape
  obtain ⟨a2, p2, rfl⟩ := h2.shape
  have H1 := Lib.hid h1
  have H2 := Lib.hid h2
  have HE := Lib.hid he
  rw [hl] at H2 ⊢
  obtain ⟨N, hN⟩ : ∃ N, l1.length = N := ⟨_, rfl⟩
  have HN := Lib.hid hN
  rw [hN] at H1 H2 hm ⊢
  clear h1 h2 he hl hN
  go_enter Tryd.func15, Tryd.ntmps15
  go_wp2_with fail
  go_loopw [5] (fun x wr => ∃ k n : Nat, x = .int .i64 k ∧ k ≤ N ∧ wr = w.drewN n) (fun x _ => N - (intOf x).toNat)
  case atStart => exact ⟨0, 0, rfl, Nat.zero_le _, rfl⟩
  case round =>
    obtain ⟨k, n, rfl, hk, hwr⟩ := hrel
    have HWR := Lib.hid hwr
    have O1 := Lib.hid (show OwnI B1 C1 wr (.slice a1 N p1) l1 by rw [hwr]; exact H1.out.below (below_drewN (Below.refl _ _) n))
    have O2 := Lib.hid (show OwnI B2 C2 wr (.slice a2 N p2) l2 by rw [hwr]; exact H2.out.below (below_drewN (Below.refl _ _) n))
    clear hwr H1 H2
    by_cases hlt : k < N
    · have hk1 : k < l1.length := by rw [HN.out]; exact hlt
      obtain ⟨hk2, heq⟩ := at_same HE.out k hk1
      obtain ⟨g1, ha1, c0, c1, c2, c3⟩ := O1.out.at k hk1
      obtain ⟨g2, ha2, d0, d1, d2, d3⟩ := O2.out.at k hk2
      have ok1 := (O1.out.ok _ (List.getElem_mem hk1)).sn
      have ok2 := (O2.out.ok _ (List.getElem_mem hk2)).sn
      rw [← heq] at d0 d1 d2 d3 ok2
      have HS := Lib.hid (fun m => same_any _ _ _ _ _ (wr.drewN m) (ok1.drewN m) (ok2.drewN m))
      subst ha1 ha2
      have hkI : (k : Int) < (N : Int) := by omega
      generalize l1[k].it.evs.length = ne at *
      generalize l1[k].it.kind = kd at *
      generalize l1[k].it.seq = sq at *
      generalize l1[k].it.lost = ls at *
      generalize l1[k].ao = ao1 at *
      generalize l1[k].cap = cp1 at *
      generalize l2[k].ao = ao2 at *
      generalize l2[k].cap = cp2 at *
      clear ok1 ok2 heq hk1 hk2
      go_wp2_with fail
      go_quiet (first | (go_at_call 27; exact Calls.quiet_of (HS.out _)))
      go_wp2_with fail
      go_roundw
      case rel => exact ⟨k + 1, n + nq, by go_num, hlt, by rw [HWR.out, World.drewN_drewN]⟩
      case measure => simp [intOf]; omega
    · have hd1 : decide ((k : Int) < (N : Int)) = false := by simp; omega
      have hd2 : decide (k < N) = false := by simp; omega
      clear hlt
      go_wp2_with fail
      go_ret
      exact ⟨rfl, n, HWR.out⟩

end Go.Proofs.YtobioiicbdhboaaDoor

namespace Go.Proofs.YtobioiicbdhboaaDoor
open Go.RowKit
set_option linter.unusedVariables false
set_option linter.unusedSimpArgs false

/-! ### one -/

def hlA : Ev := ⟨22, 0, 0, 1, 0, 0⟩
theorem hl_fits : ∀ e ∈ [hlA], EvFits e := by
  intro e he
  simp only [List.mem_cons, List.not_mem_nil, or_false] at he
  subst he
  exact ⟨by decide, by decide, by decide, by decide, by decide, by decide, by decide⟩
theorem hl_coil : coilL [hlA] = ([22, 0, 0, 1], 0) := by kernel_rfl
theorem hl_print (q : Nat) : frameP q [hlA] = (frameB q 0 0 [22, 0, 0, 1], 0) := by
  unfold frameP
  rw [hl_coil, if_neg (by simp), if_pos rfl, if_pos (by simp)]
  rfl
def fr1 (q : Nat) : Fr := ⟨q, [hlA]⟩
theorem fr1_ok (q : Nat) (h : q < 4294967296) : (fr1 q).Ok := ⟨h, hl_fits, by show (frameP q [hlA]).2 = 0; rw [hl_print]⟩
def oneL (q : Nat) : List UInt8 := frameB q 0 0 [22, 0, 0, 1]
theorem fr1_text (q : Nat) : (fr1 q).text = oneL q := by show (frameP q [hlA]).1 = _; rw [hl_print]; rfl
theorem oneL_len (q : Nat) : (oneL q).length = 63 := by unfold oneL; rw [frameB_len]; rfl
def oneB (q : Nat) : ByteArray := ⟨(oneL q).toArray⟩
theorem oneB_size (q : Nat) : (oneB q).size = 63 := by unfold oneB; rw [mk_size, oneL_len]
theorem oneB_list (q : Nat) : (oneB q).data.toList = oneL q := rfl

set_option maxRecDepth 100000 in
theorem one_any (q : Nat) (hq : q < 4294967296) (w : World) : Calls Tryd.prog 20 #[.int .u32 (q : Int)] w fun r w' => r = .returned (.string (oneB q)) ∧ Below w.heap.size w w' := by
  obtain ⟨w1, x1⟩ : ∃ w1, w1 = w.alloc (.cells #[.int .i64 22, .int .u64 0, .int .u64 0, .int .u32 1, .int .u32 0, .int .u32 0] 69) := ⟨_, rfl⟩
  obtain ⟨s1, n1, b1⟩ := new_size x1
  have e1 : SeenE w1 (some ⟨w.heap.size, 0, none⟩) 1 [hlA] := seen_litF (l := [hlA]) n1 (by decide)
  have HP := Lib.hid (rfprint_any q hq _ _ _ w1 e1 hl_fits (by decide))
  rw [hl_print] at HP
  have B1 := Lib.hid b1
  simp only [List.length_cons, List.length_nil] at HP
  clear s1 n1 b1 e1
  go_enter Tryd.func20, Tryd.ntmps20
  go_wp2_with fail
  rw [← x1]
  clear x1
  refine HP.out.mono ?_
  rintro r w2 ⟨rfl, b2⟩
  have B2 := Lib.hid (B1.out.trans (b2.mono B1.out.size))
  clear b2 B1 HP
  go_wp2_with fail
  go_ret
  exact ⟨rfl, B2.out⟩

/-! ### great -/

/-- How much is fed, each text counted up to 2^16. -/
def sumT (f : Nat → ByteArray) : Nat → Nat
  | 0 => 0
  | k + 1 => sumT f k + min (f k).size 65536
theorem sumT_mono (f : Nat → ByteArray) (k : Nat) : ∀ n, k ≤ n → sumT f k ≤ sumT f n
  | 0, h => by
    have h0 : k = 0 := by omega
    subst h0
    exact Nat.le_refl _
  | n + 1, h => by
    rcases Nat.lt_or_ge k (n + 1) with h1 | h1
    · have := sumT_mono f k n (by omega)
      show _ ≤ sumT f n + _
      omega
    · have : k = n + 1 := by omega
      subst this; exact Nat.le_refl _
def muchT (len : Nat) (f : Nat → ByteArray) : Bool := decide (4000 < len + sumT f len)

set_option maxRecDepth 100000 in
set_option maxHeartbeats 1000000 in
theorem great9_any (ao : Option Addr) (len cap : Nat) (f : Nat → ByteArray) (w : World) (hs : Seen w ao len cap (fun i => .string (f i))) (hsz : ∀ k, (f k).size ≤ maxLen) (hl : len ≤ 140737488351232) :
    Calls Tryd.prog 12 #[.slice ao len cap] w fun e w' => e = .returned (.bool (muchT len f)) ∧ w = w' := by
  have Hs := Lib.hid hs
  have Hz := Lib.hid hsz
  clear hs hsz
  go_enter Tryd.func12, Tryd.ntmps12
  go_wp2_with fail
  go_loopw [3, 10] (fun n i wr => ∃ k z : Nat, k ≤ len ∧ i = .int .i64 k ∧ n = .int .i64 z ∧ z = len + sumT f k ∧ wr = w ∧ (z ≤ 4000 ∨ k = 0)) (fun _ i _ => len - (intOf i).toNat)
  case atStart => exact ⟨0, len, Nat.zero_le _, rfl, rfl, rfl, rfl, .inr rfl⟩
  case round =>
    obtain ⟨k, z, hk, rfl, rfl, hz, hwr, hz0⟩ := hrel
    subst hwr
    have HZ := Lib.hid hz
    have hzm : z ≤ 140737488351232 := by
      rcases hz0 with h | h
      · omega
      · subst h; simp [sumT] at hz; omega
    clear hz
    by_cases hlt : k < len
    · obtain ⟨b, off, hao, hbw, hcell⟩ := Hs.out.row k hlt
      subst hao
      have c0 := hcell k hlt
      have hsz := Hz.out k
      unfold maxLen at hsz
      have Ht := Lib.hid (show sumT f (k + 1) = sumT f k + min (f k).size 65536 from rfl)
      obtain ⟨d, hd⟩ : ∃ d, d = min (f k).size 65536 := ⟨_, rfl⟩
      have hmin : min ((f k).size : Int) 65536 = (d : Int) := by omega
      have hd2 : d ≤ 65536 := by omega
      rw [← hd] at Ht
      clear hcell hd
      generalize f k = tx at *
      have hlI : (k : Int) < (len : Int) := by omega
      by_cases hbig : 4000 < z + d
      · have hdc : decide ((4000 : Int) < (z : Int) + (d : Int)) = true := by simp; omega
        have HD := Lib.hid (show muchT len f = true by
          have h1 := sumT_mono f (k + 1) len hlt
          have h2 := Ht.out
          have h3 := HZ.out
          unfold muchT
          simp
          omega)
        have hds : d ≤ tx.size := by omega
        have hdcS : decide ((4000 : Int) < (z : Int) + (tx.size : Int)) = true := by simp; omega
        go_wp2_with fail
        all_goals
          go_ret
          rw [HD.out]
          exact ⟨rfl, rfl⟩
      · have hdc : decide ((4000 : Int) < (z : Int) + (d : Int)) = false := by simp; omega
        have Hnz := Lib.hid (show z + d = len + sumT f (k + 1) by rw [Ht.out, HZ.out]; omega)
        go_wp2_with fail
        go_roundw
        case rel => exact ⟨k + 1, z + d, hlt, by go_num, by go_num, Hnz.out, by trivial, .inl (by omega)⟩
        case measure => simp [intOf]; omega
    · have hd1 : decide ((k : Int) < (len : Int)) = false := by simp; omega
      have hd2 : decide (k < len) = false := by simp; omega
      have hkl : k = len := by omega
      have HD : Hid (muchT len f = decide ((4000 : Int) < (z : Int))) := Lib.hid (by have h0 := HZ.out; rw [hkl] at h0; unfold muchT; rw [← h0]; rw [decide_eq_decide]; omega)
      clear hlt hkl
      go_wp2_with fail
      go_ret
      rw [HD.out]
      exact ⟨by simp, rfl⟩

/-! ### What awake's bytes tell -/

theorem HS.go_past {cl : Bool} {t : List It} {n lo : Nat} : ∀ (k : Nat) (L : List UInt8) (sk : Nat), k ≤ L.length → (∀ i, i < k → (frameR (L.drop i)).2.2.2 ≠ 0 ∧ (frameR (L.drop i)).2.2.2 ≠ 2) → (HS.mk t L n sk lo).go cl = (HS.mk t (L.drop k) n (sk + k) lo).go cl
  | 0, L, sk, hk, h => by simp
  | k + 1, [], sk, hk, h => by simp at hk
  | k + 1, b :: L, sk, hk, h => by
    have h0 := h 0 (by omega)
    rw [List.drop_zero] at h0
    rw [HS.go_some (HS.step_skips (s := HS.mk t (b :: L) n sk lo) (by simp) (fun f => h0.1 f.1) (fun e => h0.2 e.1))]
    show (HS.mk t L n (sk + 1) lo).go cl = _
    rw [HS.go_past k L (sk + 1) (by simpa using hk) (fun i hi => by simpa using h (i + 1) (by omega)), List.drop_succ_cons]
    congr 2
    omega
def bad3 : List UInt8 := (oneL 3).set 56 1
theorem bad3_skips : ∀ i, i < 63 → (frameR ((bad3 ++ oneL 4).drop i)).2.2.2 ≠ 0 ∧ (frameR ((bad3 ++ oneL 4).drop i)).2.2.2 ≠ 2 := by
  have h : (List.range 63).all (fun i => (frameR ((bad3 ++ oneL 4).drop i)).2.2.2 != 0 && (frameR ((bad3 ++ oneL 4).drop i)).2.2.2 != 2) = true := by kernel_rfl
  intro i hi
  have := List.all_eq_true.1 h i (List.mem_range.2 hi)
  simpa using this
theorem awake_one : (hs0.more (oneL 0 ++ (oneL 2).take 30)).go false = ⟨[⟨1, 0, 0, [hlA]⟩], (oneL 2).take 30, 1, 0, 0⟩ := by
  have e : hs0.more (oneL 0 ++ (oneL 2).take 30) = HS.mk [] ((fr1 0).text ++ (oneL 2).take 30) 0 0 0 := by rw [fr1_text]; rfl
  rw [e, HS.go_frame (n := 0) (fr1_ok 0 (by decide)) (Nat.zero_le _), HS.go_none]
  · rfl
  · refine HS.step_waits ?_
    have a := frame_at 2 0 0 [22, 0, 0, 1] [] (by decide) (by decide) (by decide) (by decide) (by decide)
    rw [List.append_nil] at a
    exact frame_cut a 30 (by decide)
theorem awake_two : (HS.mk [] ((oneL 2).take 30 ++ ((oneL 2).drop 30 ++ bad3 ++ oneL 4)) 1 0 0).go false = ⟨[⟨2, 1, 1, []⟩, ⟨1, 2, 0, [hlA]⟩, ⟨2, 3, 1, []⟩, ⟨1, 4, 0, [hlA]⟩], [], 5, 63, 2⟩ := by
  have e : (oneL 2).take 30 ++ ((oneL 2).drop 30 ++ bad3 ++ oneL 4) = (fr1 2).text ++ (bad3 ++ oneL 4) := by
    rw [fr1_text, List.append_assoc, ← List.append_assoc, List.take_append_drop]
  have hb : bad3.length = 63 := by unfold bad3; rw [List.length_set, oneL_len]
  rw [e, HS.go_frame (fr1_ok 2 (by decide)) (by decide), HS.go_past 63 (bad3 ++ oneL 4) 0 (by rw [List.length_append]; omega) bad3_skips, List.drop_append_of_le_length (by omega), List.drop_of_length_le (by omega)]
  simp only [List.nil_append]
  have e4 : oneL 4 = (fr1 4).text ++ [] := by rw [fr1_text, List.append_nil]
  rw [e4, HS.go_frame (fr1_ok 4 (by decide)) (by decide), HS.go_none (HS.step_end rfl)]
  rfl

end Go.Proofs.YtobioiicbdhboaaDoor

namespace Go.Proofs.YtobioiicbdhboaaDoor
open Go.RowKit
set_option linter.unusedVariables false
set_option linter.unusedSimpArgs false

theorem app_list (a b : ByteArray) : (a ++ b).data.toList = a.data.toList ++ b.data.toList := by rw [ByteArray.data_append, Array.toList_append]

/-- A hunter of the call's own. -/
structure HB (w W : World) (B b t : Nat) (v : Value) (s : HS) (cl : Bool) : Prop where
  hu : HuntAt W B b t v s cl
  evl : EvL W
  bel : Below B w W
  le : B ≤ W.heap.size
theorem HB.below {w W W' : World} {B b t : Nat} {v : Value} {s : HS} {cl : Bool} (h : HB w W B b t v s cl) (hb : Below W.heap.size W W') : HB w W' B b t v s cl :=
  ⟨h.hu.below hb, h.evl.below hb, h.bel.trans (hb.mono h.le), Nat.le_trans h.le hb.size⟩
theorem HB.fed {w W W' : World} {B b t : Nat} {v v' : Value} {s s' : HS} {cl cl' : Bool} {p : Prop} (h : HB w W B b t v s cl) (hV : 0 < B) (hu : HuntAt W' B b t v' s' cl') (ho : Only W W' (HF p B b W)) : HB w W' B b t v' s' cl' :=
  ⟨hu, h.evl.belowB (HF.below ho h.le) hV, h.bel.trans (HF.below ho h.le), Nat.le_trans h.le ho.size⟩
theorem hb_new {w w1 : World} {B t : Nat} (hB : B ≤ w1.heap.size) (hw : Below B w w1) (hL : EvL w1) (ht : TabK w1 t 256) :
    HB w (w1.alloc (.cells #[.pointer (some ⟨t, 0, none⟩), .slice none 0 0, .int .u64 0, .int .u64 0, .int .u64 0, .bool false] 60)) B w1.heap.size t (.slice none 0 0) hs0 false :=
  ⟨hunt_new w1 B t hB ht, hL.below ((Below.refl _ w1).alloc (Nat.le_refl _) _), hw.alloc hB _, by simp; omega⟩

theorem one3_56 : (oneL 3)[56]? = some 0 := by kernel_rfl
theorem brow_below {w w' : World} {g : Nat} {l : List UInt8} (h : BRow w g l) (hb : Below w.heap.size w w') : BRow w' g l := by
  obtain ⟨c, f, h1, r⟩ := h
  exact ⟨c, f, (hb.block g (blk_lt h1)).trans h1, r⟩
theorem brow_tag {w : World} {g : Nat} {l : List UInt8} (h : BRow w g l) : Tag w g 5 := by
  obtain ⟨c, f, h1, r⟩ := h
  exact ⟨c, f, h1⟩
theorem brow_only {w w' : World} {S : Nat → Prop} {g : Nat} {l : List UInt8} (h : BRow w g l) (ho : Only w w' S) (hn : ¬ S g) : BRow w' g l := by
  obtain ⟨c, f, h1, r⟩ := h
  exact ⟨c, f, (ho.block g (blk_lt h1) hn).trans h1, r⟩
/-- One byte of a row is turned, beside a hunter that has none. -/
theorem HB.beside {w W : World} {B b t g : Nat} {s : HS} {cl : Bool} {l : List UInt8} (h : HB w W B b t (.slice none 0 0) s cl) (hV : 0 < B) (hg : BRow W g l) (hBg : B ≤ g) (i : Nat) (u : Value) : HB w (W.setCell ⟨g, i, none⟩ u) B b t (.slice none 0 0) s cl := by
  have ho := Only.setCell W g i u (fun k => k = g) rfl
  have hb := ho.below h.le (fun k e => by rw [e]; exact hBg)
  exact ⟨h.hu.only ho (fun e => h.hu.tag.ne (brow_tag hg) (by decide) e) (fun k hk => by cases hk) (fun e => (tabK_tag h.hu.tab).ne (brow_tag hg) (by decide) e), h.evl.belowB hb hV, h.bel.trans hb, Nat.le_trans h.le ho.size⟩

def awk2 : List It := [⟨2, 1, 1, []⟩, ⟨1, 2, 0, [hlA]⟩, ⟨2, 3, 1, []⟩, ⟨1, 4, 0, [hlA]⟩]
theorem awake_feed {w W : World} {B b t : Nat} {v : Value} (hV : 0 < B) (h : HB w W B b t v ⟨[⟨1, 0, 0, [hlA]⟩], (oneL 2).take 30, 1, 0, 0⟩ false) (X : ByteArray) (hX : X.data.toList = (oneL 2).drop 30 ++ bad3 ++ oneL 4) (hz : X.size = 159) :
    Calls Tryd.prog 13 #[.pointer (some ⟨b, 0, none⟩), .string X] W fun r w' => ∃ (a2 : Option Addr) (p2 : Nat) (l2 : List Im) (v9 : Value), r = .returned (.slice a2 4 p2) ∧ OwnI B 0 w' (.slice a2 4 p2) l2 ∧ l2.map Im.it = awk2 ∧ HB w w' B b t v9 ⟨awk2, [], 5, 63, 2⟩ false := by
  have hwt : (frameR ((oneL 2).take 30)).2.2.2 = 2 := by
    have a := frame_at 2 0 0 [22, 0, 0, 1] [] (by decide) (by decide) (by decide) (by decide) (by decide)
    rw [List.append_nil] at a
    exact frame_cut a 30 (by decide)
  have hf := hfeed_any h.hu.mute h.le h.evl hV rfl (.inr hwt) X (by
    show ((oneL 2).take 30).length + _ ≤ _
    rw [List.length_take, oneL_len]; omega) (by decide) (by decide) (by decide)
  have e : ((HS.mute ⟨[⟨1, 0, 0, [hlA]⟩], (oneL 2).take 30, 1, 0, 0⟩).more X.data.toList).go false = ⟨awk2, [], 5, 63, 2⟩ := by
    rw [hX]; exact awake_two
  rw [e] at hf
  refine hf.mono ?_
  rintro r w' ⟨vt, l, v', rfl, o, hu, m, g⟩
  obtain ⟨a2, p2, hv⟩ := o.shape
  have hl : l.length = 4 := by have := congrArg List.length m; simpa [awk2] using this
  rw [hl] at hv
  subst hv
  exact ⟨a2, p2, l, v', rfl, o.base (Nat.zero_le _), m, h.fed hV hu g⟩

set_option maxRecDepth 100000 in
set_option maxHeartbeats 8000000 in
theorem awake9_any (w : World) (hL : EvL w) : Calls Tryd.prog 11 #[] w fun r w' => r = .returned (.bool true) ∧ Below w.heap.size w w' := by
  have hV := hL.lt
  have HL := Lib.hid hL
  obtain ⟨B, hB⟩ : ∃ B, w.heap.size = B := ⟨_, rfl⟩
  have HMk := Lib.hid (make_any w)
  rw [hB] at HMk hV ⊢
  have HBe := Lib.hid hB
  clear hL hB
  have H3 := Lib.hid (fun W => one_any 3 (by decide) W)
  have H0 := Lib.hid (fun W => one_any 0 (by decide) W)
  have H2 := Lib.hid (fun W => one_any 2 (by decide) W)
  have H4 := Lib.hid (fun W => one_any 4 (by decide) W)
  have z0 := oneB_size 0
  have z2 := oneB_size 2
  have z3 := oneB_size 3
  have z4 := oneB_size 4
  have e0 := oneB_list 0
  have e2 := oneB_list 2
  have e3 := oneB_list 3
  have e4 := oneB_list 4
  have hp1 : ((oneB 2).extract 0 30).data.toList = (oneL 2).take 30 := by rw [extract_part _ _ _ (by omega), List.drop_zero, e2]
  have hp2 : ((oneB 2).extract 30 63).data.toList = (oneL 2).drop 30 := by rw [← z2, extract_list, e2]
  have zp1 : ((oneB 2).extract 0 30).size = 30 := by rw [ByteArray.size_extract]; omega
  have zp2 : ((oneB 2).extract 30 63).size = 33 := by rw [ByteArray.size_extract]; omega
  obtain ⟨T0, h0⟩ : ∃ T, T = oneB 0 := ⟨_, rfl⟩
  obtain ⟨T2, h2⟩ : ∃ T, T = oneB 2 := ⟨_, rfl⟩
  obtain ⟨T3, h3⟩ : ∃ T, T = oneB 3 := ⟨_, rfl⟩
  obtain ⟨T4, h4⟩ : ∃ T, T = oneB 4 := ⟨_, rfl⟩
  rw [← h0] at H0 z0 e0
  rw [← h2] at H2 z2 e2 hp1 hp2 zp1 zp2
  rw [← h3] at H3 z3 e3
  rw [← h4] at H4 z4 e4
  rw [show ((0 : Nat) : Int) = 0 from rfl] at H0
  rw [show ((2 : Nat) : Int) = 2 from rfl] at H2
  rw [show ((3 : Nat) : Int) = 3 from rfl] at H3
  rw [show ((4 : Nat) : Int) = 4 from rfl] at H4
  clear h0 h2 h3 h4
  obtain ⟨P1, q1⟩ : ∃ P, T2.extract 0 30 = P := ⟨_, rfl⟩
  obtain ⟨P2, q2⟩ : ∃ P, T2.extract 30 63 = P := ⟨_, rfl⟩
  rw [q1] at hp1 zp1
  rw [q2] at hp2 zp2
  obtain ⟨X1, qx1⟩ : ∃ X, T0 ++ P1 = X := ⟨_, rfl⟩
  obtain ⟨Y3, qy3⟩ : ∃ Y : ByteArray, Y = ⟨bad3.toArray⟩ := ⟨_, rfl⟩
  have zy3 : Y3.size = 63 := by rw [qy3, mk_size]; unfold bad3; rw [List.length_set, oneL_len]
  obtain ⟨X2, qx2⟩ : ∃ X, P2 ++ Y3 = X := ⟨_, rfl⟩
  obtain ⟨X3, qx3⟩ : ∃ X, X2 ++ T4 = X := ⟨_, rfl⟩
  have zx1 : X1.size = 93 := by rw [← qx1, ByteArray.size_append]; omega
  have zx2 : X2.size = 96 := by rw [← qx2, ByteArray.size_append]; omega
  have zx3 : X3.size = 159 := by rw [← qx3, ByteArray.size_append]; omega
  have ex1 : Hid (X1.data.toList = oneL 0 ++ (oneL 2).take 30) := Lib.hid (by rw [← qx1, app_list, e0, hp1])
  have ex3 : Hid (X3.data.toList = (oneL 2).drop 30 ++ bad3 ++ oneL 4) := Lib.hid (by rw [← qx3, app_list, ← qx2, app_list, hp2, e4, qy3])
  have E3 := Lib.hid e3
  have QY := Lib.hid qy3
  clear e0 e2 e3 e4 hp1 hp2 qy3
  go_enter Tryd.func11, Tryd.ntmps11
  go_wp2_with fail
  refine HMk.out.mono ?_
  rintro r w1 ⟨rfl, t1, b1⟩
  have T1 := Lib.hid t1
  have B1 := Lib.hid b1
  have L1 := Lib.hid (HL.out.below (by rw [HBe.out]; exact b1))
  have S1 := Lib.hid (Nat.le_of_lt t1.lt)
  clear t1 b1 HMk
  go_wp2_with fail
  refine (hnew_any w1 B).mono ?_
  rintro r w2 ⟨rfl, hw2⟩
  have P2' := Lib.hid (show HB w w2 B w1.heap.size B (.slice none 0 0) hs0 false by rw [hw2]; exact hb_new S1.out B1.out L1.out T1.out)
  obtain ⟨b, hb⟩ : ∃ b, w1.heap.size = b := ⟨_, rfl⟩
  rw [hb] at P2' ⊢
  clear hw2 T1 B1 L1 S1 hb
  go_wp2_with fail
  refine (H3.out _).mono ?_
  rintro r w3 ⟨rfl, b3⟩
  have P3 := Lib.hid (P2'.out.below b3)
  clear b3 P2'
  have hcv := Lib.run_convert_string_bytes (P := Tryd.prog) w3 9 58 5 T3 Tryd.underlying9 Tryd.underlying58 Tryd.underlying5
  have r4 := brow_new w3 T3
  rw [E3.out] at r4
  have p4 := P3.out.below (bytes_below w3 5 T3)
  have hBg := P3.out.le
  generalize Lib.bytesWorld w3 5 T3 = w4 at *
  generalize grownCap w3 T3.size 0 5 = cp at *
  obtain ⟨g, hg⟩ : ∃ g, w3.heap.size = g := ⟨_, rfl⟩
  rw [hg] at hcv r4 hBg
  have cg := r4.cell 56 0 one3_56
  have fg := r4.thawed 56 (by rw [oneL_len]; decide)
  have r5 := r4.set 56 1 (by rw [oneL_len]; decide)
  have p5 := p4.beside hV r4 hBg 56 (.int .u8 ((1 : UInt8).toNat : Int))
  rw [show (((0 : UInt8).toNat : Nat) : Int) = 0 from rfl] at cg
  rw [show (((1 : UInt8).toNat : Nat) : Int) = 1 from rfl] at r5 p5
  obtain ⟨w5, x5⟩ : ∃ w5, w5 = w4.setCell ⟨g, 56, none⟩ (.int .u8 1) := ⟨_, rfl⟩
  rw [← x5] at r5 p5
  have R5 := Lib.hid (show BRow w5 g bad3 from r5)
  have P5 := Lib.hid p5
  clear r4 r5 p4 p5 P3 hg hBg
  go_wp2_with fail
  rw [show bits BinOp.xor IntKind.u8 0 1 = 1 from by kernel_rfl, ← x5]
  clear x5 cg fg hcv
  refine (H0.out _).mono ?_
  rintro r w6 ⟨rfl, b6⟩
  have P6 := Lib.hid (P5.out.below b6)
  have R6 := Lib.hid (brow_below R5.out b6)
  clear b6 P5 R5
  go_wp2_with fail
  refine (H2.out _).mono ?_
  rintro r w7 ⟨rfl, b7⟩
  have P7 := Lib.hid (P6.out.below b7)
  have R7 := Lib.hid (brow_below R6.out b7)
  clear b7 P6 R6
  have HF7 := Lib.hid (hfeed_foot P7.out.hu P7.out.le P7.out.evl hV rfl (.inl rfl) X1 (by rw [zx1]; decide) (by decide) (by decide) (by decide))
  rw [ex1.out, awake_one] at HF7
  have zz1 : ¬ 9223372036854775807 < T0.size + P1.size := by omega
  go_wp2_with fail
  refine HF7.out.mono ?_
  rintro r w8 ⟨vt1, l1, v8, rfl, o8, h8, m8, g8⟩
  have hl1 : l1.length = 1 := by have := congrArg List.length m8; simpa using this
  obtain ⟨a1, p1, hv1⟩ := o8.shape
  rw [hl1] at hv1
  subst hv1
  have P8 := Lib.hid (P7.out.fed (p := False) hV h8 (g8.mono fun k _ e => e.elim (fun e => ⟨by rw [e]; exact P7.out.hu.base, .inl e⟩) (fun e => by cases e)))
  have R8 := Lib.hid (brow_only R7.out g8 (fun e => e.elim (fun e => (brow_tag R7.out).ne P7.out.hu.tag (by decide) e) (fun e => by cases e)))
  clear o8 h8 m8 g8 hl1 P7 R7 HF7
  have hbl : bad3.length = 63 := by unfold bad3; rw [List.length_set, oneL_len]
  have HC := Lib.hid (fun W (h : BRow W g bad3) => (by have := h.conv cp; rw [hbl, ← QY.out] at this; exact this))
  clear hbl
  have zz2 : ¬ 9223372036854775807 < P2.size + Y3.size := by omega
  have zz3 : ¬ 9223372036854775807 < X2.size + T4.size := by omega
  go_upto_region 7 with fail
  go_cut [5] (fun x5 wx => ∃ (a2 : Option Addr) (p2 : Nat) (l2 : List Im) (v9 : Value), x5 = .slice a2 4 p2 ∧ OwnI B 0 wx (.slice a2 4 p2) l2 ∧ l2.map Im.it = awk2 ∧ HB w wx B b B v9 ⟨awk2, [], 5, 63, 2⟩ false)
  case first =>
    have P8d := Lib.hid (P8.out.below (below_drewN (Below.refl _ _) 1))
    have R8d := Lib.hid (brow_below R8.out (below_drewN (Below.refl _ _) 1))
    have hcvA := HC.out w8.drew R8d.out
    clear P8 R8
    go_region_with (first
      | (go_at_call_of 20 (Value.int .u32 2); refine (H2.out _).mono ?_; rintro r w9 ⟨rfl, b9⟩; have P9 := Lib.hid (P8d.out.below b9); have R9 := Lib.hid (brow_below R8d.out b9); have hcvB := HC.out _ R9.out; clear b9)
      | (go_at_call_of 20 (Value.int .u32 4); refine (H4.out _).mono ?_; rintro r w10 ⟨rfl, b10⟩; have P10 := Lib.hid (P9.out.below b10); have R10 := Lib.hid (brow_below R9.out b10); have hcvC := HC.out _ R10.out; clear b10)
      | (go_at_call 13; refine (awake_feed hV P10.out X3 ex3.out zx3).mono ?_; rintro r w11 ⟨a2, p2, l2, v9, rfl, o11, m11, h11⟩; have O11 := Lib.hid o11; have M11 := Lib.hid m11; have H11 := Lib.hid h11; clear o11 m11 h11))
    all_goals
      go_wp2_with fail
      go_meet
      exact ⟨_, _, _, _, rfl, O11.out, M11.out, H11.out⟩
  case rest =>
  obtain ⟨a2, p2, l2, v9, rfl, o9, m9, h9⟩ := hcut
  have hl2 : l2.length = 4 := by have := congrArg List.length m9; simpa [awk2] using this
  match l2, hl2 with
  | [m0, m1, m2, m3], _ =>
    simp only [awk2, List.map_cons, List.map_nil, List.cons.injEq, and_true] at m9
    obtain ⟨i0, i1, i2, i3⟩ := m9
    obtain ⟨g2, ha, c0, c1, c2, -⟩ := o9.at 0 (by simp)
    obtain ⟨g3, ha3, -, d1, -, -⟩ := o9.at 3 (by simp)
    rw [ha] at ha3
    obtain rfl : g2 = g3 := by cases ha3; rfl
    subst ha
    simp only [List.getElem_cons_zero, List.getElem_cons_succ, i0, i3, Nat.zero_mul, Nat.zero_add] at c0 c1 c2 d1
    have HX := Lib.hid h9
    have N9 := Lib.hid (hnext_any h9.hu)
    have L9 := Lib.hid (hlost_any h9.hu)
    have S9 := Lib.hid (hskip_any h9.hu)
    clear o9 h9 i0 i1 i2 i3 ha3
    go_wp2_with fail
    refine N9.out.mono ?_
    rintro r w12 ⟨rfl, rfl⟩
    go_wp2_with fail
    refine L9.out.mono ?_
    rintro r w12 ⟨rfl, rfl⟩
    go_wp2_with fail
    refine S9.out.mono ?_
    rintro r w12 ⟨rfl, rfl⟩
    go_wp2_with fail
    go_ret
    exact ⟨by simp, HX.out.bel⟩

end Go.Proofs.YtobioiicbdhboaaDoor

namespace Go.Proofs.YtobioiicbdhboaaDoor
open Go.RowKit
set_option linter.unusedVariables false
set_option linter.unusedSimpArgs false

/-! ### Texts that come in -/

theorem seen_below {w w' : World} {ao : Option Addr} {len cap : Nat} {f : Nat → Value} (h : Seen w ao len cap f) (hb : Below w.heap.size w w') : Seen w' ao len cap f :=
  ⟨h.mx, h.lc, fun i hi => by
    obtain ⟨b, off, h1, h2, h3⟩ := h.row i hi
    exact ⟨b, off, h1, Nat.lt_of_lt_of_le h2 hb.size, fun j hj => (hb.cell (p := ⟨b, off + j, none⟩) h2).trans (h3 j hj)⟩⟩
theorem text_max {ss : List ByteArray} (h : ∀ s ∈ ss, s.size ≤ maxLen) (k : Nat) : (ss.getD k ByteArray.empty).size ≤ maxLen := by
  rw [List.getD_eq_getElem?_getD]
  cases hk : ss[k]? with
  | none => exact Nat.zero_le _
  | some s => exact h s (List.mem_of_getElem? hk)
/-- Each text is small where all are. -/
theorem text_small {f : Nat → ByteArray} {len k : Nat} (h : len + sumT f len ≤ 4000) (hk : k < len) : (f k).size ≤ 4000 ∧ sumT f (k + 1) = sumT f k + (f k).size ∧ sumT f (k + 1) ≤ 4000 := by
  have h1 := sumT_mono f (k + 1) len hk
  have h2 : sumT f (k + 1) = sumT f k + min (f k).size 65536 := rfl
  omega

/-! ### In plain words -/

theorem HS.more_more (s : HS) (X Y : List UInt8) : (s.more X).more Y = s.more (X ++ Y) := by unfold HS.more; simp
theorem HS.go_mute (cl : Bool) (s : HS) : (s.go cl).told = s.told ++ (s.mute.go cl).told ∧ (s.go cl).mute = (s.mute.go cl).mute := by
  have e := HS.go_told cl s
  constructor
  · rw [e]; rfl
  · rw [e]; rfl
theorem HS.mute_more (s : HS) (X : List UInt8) : (s.more X).mute = s.mute.more X := rfl
theorem HS.mute_mute (s : HS) : s.mute.mute = s.mute := rfl
/-- What was fed so far. -/
def fedS (L : List UInt8) : HS := (hs0.more L).go false
theorem fed_more (L X : List UInt8) : (fedS (L ++ X)).told = (fedS L).told ++ (((fedS L).mute.more X).go false).told ∧ (fedS (L ++ X)).mute = (((fedS L).mute.more X).go false).mute := by
  have e : fedS (L ++ X) = ((fedS L).more X).go false := by unfold fedS; rw [HS.go_more, HS.more_more]
  have h := HS.go_mute false ((fedS L).more X)
  rw [e]
  exact ⟨h.1, h.2⟩
def shutS (L : List UInt8) : HS := (hs0.more L).go true
theorem shut_fed (L : List UInt8) : (shutS L).told = (fedS L).told ++ ((fedS L).mute.go true).told ∧ (shutS L).mute = ((fedS L).mute.go true).mute := by
  have e : shutS L = (fedS L).go true := by unfold shutS fedS; rw [HS.go_close]
  have h := HS.go_mute true (fedS L)
  rw [e]
  exact h
theorem fed_bounds (L : List UInt8) : (fedS L).next ≤ 4294967296 ∧ (fedS L).skip + (fedS L).rest.length ≤ L.length ∧ (fedS L).lost ≤ (fedS L).next ∧ (fedS L).told.length ≤ 2 * L.length ∧ ((fedS L).rest = [] ∨ (frameR (fedS L).rest).2.2.2 = 2) := by
  have h1 := HS.go_small false (hs0.more L) (show (0 : Nat) ≤ 4294967296 by decide)
  have h2 := HS.lost_small false (hs0.more L) (show (0 : Nat) ≤ 4294967296 by decide)
  have e1 : (hs0.more L).rest = L := rfl
  have e2 : (hs0.more L).skip = 0 := rfl
  have e3 : (hs0.more L).next = 0 := rfl
  have e4 : (hs0.more L).lost = 0 := rfl
  have e5 : (hs0.more L).told = [] := rfl
  rw [e1] at h1 h2
  rw [e2] at h1 h2
  rw [e4] at h1 h2
  rw [e3] at h2
  rw [e5] at h1
  refine ⟨h1.1, ?_, ?_, ?_, HS.go_waits _⟩
  · have := h2.1; unfold fedS; omega
  · have := h2.2; unfold fedS; omega
  · have := h1.2.2.2.2; unfold fedS; simp only [List.length_nil] at this; omega

/-! ### In memory -/

/-- A hunter that was fed L, and what it told, in a row of the call's own. -/
structure Run9 (w wr : World) (B C b t : Nat) (v : Value) (va : Value) (la : List Im) (L : List UInt8) : Prop where
  hb : HB w wr B b t v (fedS L).mute false
  own : OwnI B C wr va la
  hBC : B ≤ C
  hC : C ≤ wr.heap.size
  tl : la.map Im.it = (fedS L).told
  hV : 0 < B
theorem run9_new {w w1 : World} {B C b t : Nat} (h : HB w w1 B b t (.slice none 0 0) hs0 false) (hV : 0 < B) (hBC : B ≤ C) (hC : C ≤ w1.heap.size) : Run9 w w1 B C b t (.slice none 0 0) (.slice none 0 0) [] [] := by
  have e : fedS [] = hs0 := by unfold fedS; rw [HS.go_none (HS.step_end rfl)]; rfl
  refine ⟨?_, ownI_nil _ _ _, hBC, hC, by rw [e]; rfl, hV⟩
  rw [e]; exact h
theorem Run9.below {w wr wr' : World} {B C b t : Nat} {v va : Value} {la : List Im} {L : List UInt8} (h : Run9 w wr B C b t v va la L) (hb : Below wr.heap.size wr wr') : Run9 w wr' B C b t v va la L := ⟨h.hb.below hb, h.own.below hb, h.hBC, Nat.le_trans h.hC hb.size, h.tl, h.hV⟩
/-- Items are appended: hunters stay. -/
theorem HB.items {w W W' : World} {B C b t : Nat} {v va : Value} {s : HS} {cl : Bool} {la : List Im} (h : HB w W B b t v s cl) (hV : 0 < B) (ho : OwnI B C W va la) (hBC : B ≤ C) (hg : W.grownBy W' va.ownBlock) : HB w W' B b t v s cl := by
  have o : Only W W' (fun k => va.ownBlock = some k) := Only.of_grown hg (fun k e => e)
  have hb := o.below h.le (fun k e => Nat.le_trans hBC (ho.tag e).1)
  exact ⟨h.hu.onlyTag o _ (fun k hk => (ho.tag hk).2) (by decide) (by decide) (by decide), h.evl.belowB hb hV, h.bel.trans hb, Nat.le_trans h.le hg.size⟩
/-- Another hunter, which has no row, or one of its own. -/
theorem HB.other {w W W' : World} {B b t b2 t2 : Nat} {v v2 : Value} {s s2 : HS} {cl cl2 : Bool} (h : HB w W B b t v s cl) (h2 : HB w W B b2 t2 v2 s2 cl2) (hV : 0 < B) (hne : b2 ≠ b) (hv : ∀ k, v2.ownBlock = some k → v.ownBlock ≠ some k) (ho : Only W W' (fun k => k = b ∨ v.ownBlock = some k)) : HB w W' B b2 t2 v2 s2 cl2 := by
  have hb := ho.below h.le (fun k e => e.elim (fun e => by rw [e]; exact h.hu.base) (fun e => (h.hu.row.tag e).1))
  refine ⟨h2.hu.only ho ?_ ?_ ?_, h2.evl.belowB hb hV, h2.bel.trans hb, Nat.le_trans h2.le ho.size⟩
  · rintro (e | e)
    · exact hne e
    · exact h2.hu.tag.ne (h.hu.row.tag e).2 (by decide) rfl
  · rintro k hk (e | e)
    · exact (h2.hu.row.tag hk).2.ne h.hu.tag (by decide) e
    · exact hv k hk e
  · rintro (e | e)
    · exact (tabK_tag h2.hu.tab).ne h.hu.tag (by decide) e
    · exact (tabK_tag h2.hu.tab).ne (h.hu.row.tag e).2 (by decide) rfl
theorem HB.other0 {w W W' : World} {B b t b2 t2 : Nat} {v v2 : Value} {s s2 : HS} {cl cl2 : Bool} (h : HB w W B b t v s cl) (h2 : HB w W B b2 t2 v2 s2 cl2) (hV : 0 < B) (hne : b2 ≠ b) (ho : Only W W' (fun k => k = b)) : HB w W' B b2 t2 v2 s2 cl2 := by
  have hb := ho.below h.le (fun k e => by rw [e]; exact h.hu.base)
  exact ⟨h2.hu.only ho hne (fun k hk e => (h2.hu.row.tag hk).2.ne h.hu.tag (by decide) e) (fun e => (tabK_tag h2.hu.tab).ne h.hu.tag (by decide) e), h2.evl.belowB hb hV, h2.bel.trans hb, Nat.le_trans h2.le ho.size⟩
theorem foot_hf {W W' : World} {B b t : Nat} {v : Value} {s : HS} {cl : Bool} (h : HuntAt W B b t v s cl) (ho : Only W W' (fun k => k = b ∨ v.ownBlock = some k)) : Only W W' (HF True B b W) :=
  ho.mono fun k _ e => e.elim (fun e => ⟨by rw [e]; exact h.base, .inl e⟩) (fun e => HF.row h.row k e)

/-- A piece is fed: what Feed leaves, and what append makes of it. -/
theorem Run9.feed {w wr : World} {B C b t : Nat} {v va : Value} {la : List Im} {L : List UInt8} (h : Run9 w wr B C b t v va la L) (X : ByteArray) (hX : L.length + X.size ≤ 4000) :
    Calls Tryd.prog 13 #[.pointer (some ⟨b, 0, none⟩), .string X] wr fun r w' => ∃ (vg : Option Addr) (lg : List Im) (cp : Nat) (v' : Value), r = .returned (.slice vg lg.length cp) ∧ w'.ownsRow 0 44 4 (.slice vg lg.length cp) lg.length (imRow lg) ∧
      w'.ownsRow C 44 4 va la.length (imRow la) ∧ C ≤ w'.heap.size ∧ la.length + lg.length ≤ 100000 ∧ Only wr w' (fun k => k = b ∨ v.ownBlock = some k) ∧ OwnI B C w' va la ∧
      ∀ va' w'', w''.ownsRow C 44 4 va' (la ++ lg).length (imRow (la ++ lg)) → w'.grownBy w'' va.ownBlock → Run9 w w'' B C b t v' va' (la ++ lg) (L ++ X.data.toList) := by
  have bd := fed_bounds L
  have hm := fed_more L X.data.toList
  have b2 := fed_bounds (L ++ X.data.toList)
  refine (hfeed_foot h.hb.hu h.hb.le h.hb.evl h.hV rfl bd.2.2.2.2 X (by show (fedS L).rest.length + _ ≤ _; omega) bd.1 (by show (fedS L).skip ≤ _; omega) (by show (fedS L).lost ≤ _; omega)).mono ?_
  rintro r w' ⟨vt, l, v', rfl, o, hu, m1, g⟩
  obtain ⟨vg, cp, rfl⟩ := o.shape
  have hf := foot_hf h.hb.hu g
  have hown := h.own.hf h.hb.hu.tag hf
  have hbn := h.hb.fed h.hV hu hf
  have hlen : la.length + l.length ≤ 100000 := by
    have e1 : la.length = (fedS L).told.length := by rw [← h.tl]; simp
    have e2 : l.length = ((((fedS L).mute.more X.data.toList).go false).told).length := by rw [← m1]; simp
    have e3 := b2.2.2.2.1
    rw [hm.1, List.length_append, List.length_append, show X.data.toList.length = X.size from rfl] at e3
    omega
  refine ⟨vg, l, cp, v', rfl, (o.base (Nat.zero_le _)).row, hown.row, Nat.le_trans h.hC g.size, hlen, g, hown, fun va' w'' hr hg => ?_⟩
  · refine ⟨?_, hown.app (C2 := 0) (vx := .slice none 0 0) o.ok h.hBC hr hg, h.hBC, Nat.le_trans (Nat.le_trans h.hC g.size) hg.size, by rw [List.map_append, h.tl, m1, hm.1], h.hV⟩
    rw [hm.2]
    have := hbn.items h.hV hown h.hBC hg
    exact ⟨this.hu.mute, this.evl, this.bel, this.le⟩
/-- It is closed. -/
theorem Run9.close {w wr : World} {B C b t : Nat} {v va : Value} {la : List Im} {L : List UInt8} (h : Run9 w wr B C b t v va la L) (hX : L.length ≤ 4000) :
    Calls Tryd.prog 14 #[.pointer (some ⟨b, 0, none⟩)] wr fun r w' => ∃ (vg : Option Addr) (lg : List Im) (cp : Nat) (v' : Value), r = .returned (.slice vg lg.length cp) ∧ w'.ownsRow 0 44 4 (.slice vg lg.length cp) lg.length (imRow lg) ∧
      w'.ownsRow C 44 4 va la.length (imRow la) ∧ C ≤ w'.heap.size ∧ la.length + lg.length ≤ 100000 ∧ Only wr w' (fun k => k = b) ∧ OwnI B C w' va la ∧
      ∀ va' w'', w''.ownsRow C 44 4 va' (la ++ lg).length (imRow (la ++ lg)) → w'.grownBy w'' va.ownBlock → HB w w'' B b t v' (shutS L).mute true ∧ OwnI B C w'' va' (la ++ lg) ∧ (la ++ lg).map Im.it = (shutS L).told := by
  have bd := fed_bounds L
  have hm := shut_fed L
  refine (hclose_any h.hb.hu h.hb.le h.hb.evl h.hV rfl (by show (fedS L).rest.length ≤ _; omega) bd.1 (by show (fedS L).skip ≤ _; omega) (by show (fedS L).lost ≤ _; omega)).mono ?_
  rintro r w' ⟨vt, l, v', rfl, o, hu, m1, g⟩
  obtain ⟨vg, cp, rfl⟩ := o.shape
  have hown := h.own.hf h.hb.hu.tag g
  have hbn := h.hb.fed h.hV hu g
  have hlen : la.length + l.length ≤ 100000 := by
    have e1 : la.length = (fedS L).told.length := by rw [← h.tl]; simp
    have e2 : l.length = (((fedS L).mute.go true).told).length := by rw [← m1]; simp
    have e3 := (HS.go_small true (fedS L).mute bd.1).2.2.2.2
    have e4 : (fedS L).mute.rest.length = (fedS L).rest.length := rfl
    have e5 : (fedS L).mute.told.length = 0 := rfl
    omega
  refine ⟨vg, l, cp, v', rfl, (o.base (Nat.zero_le _)).row, hown.row, Nat.le_trans h.hC g.size, hlen, g.mono (fun k _ e => e.2.elim id (fun e => e.1.elim)), hown, fun va' w'' hr hg => ⟨?_, hown.app (C2 := 0) (vx := .slice none 0 0) o.ok h.hBC hr hg, by rw [List.map_append, h.tl, m1, hm.1]⟩⟩
  rw [hm.2]
  have := hbn.items h.hV hown h.hBC hg
  exact ⟨this.hu.mute, this.evl, this.bel, this.le⟩

end Go.Proofs.YtobioiicbdhboaaDoor
