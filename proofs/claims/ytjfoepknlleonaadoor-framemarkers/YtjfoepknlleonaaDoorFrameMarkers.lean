/-
  FrameMarkers: for all pairs of frames with a burst the statement's function answers true: the marker stands nowhere but where it stood. Conditions: none beyond the card's own: the listed package variables start as the program's text lays them, which the card ties to that text.
-/
import Derived.Test.YtjfoepknlleonaaDoorFrZ
import Derived.Test.YtjfoepknlleonaaDoorTie
import Derived.Test.YtjfoepknlleonaaDoorCards
import Derived.ProofKit
import Derived.OpenShut
import Derived.ShutString
import Derived.LaidMore
import Derived.Lay
import Derived.SevenTiedAt
import Derived.Stop.Joined
import Derived.Deep.DeepHandedRow
namespace Go.Proofs.YtjfoepknlleonaaDoor.FrameMarkers
open Go.ChangeShapes Go.WideShapes Go.ChangeAt Go.RowKit
open Go.ChangeMaps (open_string shut_string)
set_option linter.unusedVariables false
set_option linter.unusedSimpArgs false

theorem print_len (q : Nat) (l : List Ev) : (frameP q l).1.length ≤ 179 := by
  unfold frameP
  split
  · simp
  · split
    · split
      · simp only [frameB_len]; omega
      · simp
    · simp

def prO (q : Nat) (ao : Option Addr) (len cap : Nat) (q' : Nat) (bo : Option Addr) (len' cbp : Nat) (k : Int) (p : Nat) : Obj := .cells #[.int .u32 (q : Int), .slice ao len cap, .int .u32 (q' : Int), .slice bo len' cbp, .int .i64 k, .int .u32 (p : Int)] 48 (0, 0)
theorem prcells {w : World} {D q : Nat} {ao : Option Addr} {len cap q' : Nat} {bo : Option Addr} {len' cbp : Nat} {k : Int} {p : Nat} (h : w.heap[D]? = some (prO q ao len cap q' bo len' cbp k p)) :
    w.cell? ⟨D, 0, none⟩ = some (.int .u32 (q : Int)) ∧ w.cell? ⟨D, 1, none⟩ = some (.slice ao len cap) ∧ w.cell? ⟨D, 2, none⟩ = some (.int .u32 (q' : Int)) ∧ w.cell? ⟨D, 3, none⟩ = some (.slice bo len' cbp) ∧ w.cell? ⟨D, 4, none⟩ = some (.int .i64 k) ∧ w.cell? ⟨D, 5, none⟩ = some (.int .u32 (p : Int)) := by
  refine ⟨?_, ?_, ?_, ?_, ?_, ?_⟩ <;> simp [World.cell?, h, prO]

set_option maxRecDepth 100000 in
set_option maxHeartbeats 4000000 in
theorem walk_out1 (q : Nat) (ao : Option Addr) (len cap : Nat) (q' : Nat) (bo : Option Addr) (len' cbp : Nat) (k : Int) (p : Nat) (h1 : decide ((100 : Int) < (len : Int)) = true) (w : World) (hL : EvL w) :
    Calls Tryd.prog 9 #[.agg #[.int .u32 (q : Int), .slice ao len cap, .int .u32 (q' : Int), .slice bo len' cbp, .int .i64 k, .int .u32 (p : Int)]] w fun r w' => r = .returned (.bool true) ∧ Below w.heap.size w w' := by
  obtain ⟨w1, x1⟩ : ∃ w1, w1 = w.alloc (prO q ao len cap q' bo len' cbp k p) := ⟨_, rfl⟩
  obtain ⟨s1, n1, b1⟩ := new_size x1
  have HA := Lib.hid (awake7_any w1 (hL.below b1))
  have HL := Lib.hid hL
  have N1 := Lib.hid n1
  have B1 := Lib.hid b1
  obtain ⟨D, hD⟩ : ∃ D, w.heap.size = D := ⟨_, rfl⟩
  rw [hD] at N1 B1
  have HD := Lib.hid hD
  have hDw : D ≤ w1.heap.size := by omega
  have HDw := Lib.hid hDw
  unfold prO at x1
  clear s1 n1 b1 hD hDw hL
  go_enter Tryd.func9, Tryd.ntmps9
  go_wp2_with fail
  rw [← x1, HD.out]
  clear x1
  refine HA.out.mono ?_
  rintro r w2 ⟨rfl, h2⟩
  have N2 := Lib.hid ((h2.block _ (blk_lt N1.out)).trans N1.out)
  have B2 := Lib.hid (B1.out.trans (h2.mono HDw.out))
  have D2 := Lib.hid (Nat.le_trans HDw.out h2.size)
  have hDl : D < w2.heap.size := blk_lt N2.out
  clear h2 HA N1 B1 HDw
  obtain ⟨c0, c1, c2, c3, c4, c5⟩ := prcells N2.out
  go_wp2_with fail
  refine (awake7_any w2 (HL.out.below (by rw [HD.out]; exact B2.out))).mono ?_
  rintro r w3 ⟨rfl, h3⟩
  have B3 := Lib.hid (B2.out.trans (h3.mono D2.out))
  clear h3
  go_wp2_with fail
  go_ret
  exact ⟨rfl, by rw [HD.out]; exact B3.out⟩

set_option maxRecDepth 100000 in
set_option maxHeartbeats 4000000 in
theorem walk_out2 (q : Nat) (ao : Option Addr) (len cap : Nat) (q' : Nat) (bo : Option Addr) (len' cbp : Nat) (k : Int) (p : Nat) (h1 : decide ((100 : Int) < (len : Int)) = false) (h2 : decide ((100 : Int) < (len' : Int)) = true) (w : World) (hL : EvL w) :
    Calls Tryd.prog 9 #[.agg #[.int .u32 (q : Int), .slice ao len cap, .int .u32 (q' : Int), .slice bo len' cbp, .int .i64 k, .int .u32 (p : Int)]] w fun r w' => r = .returned (.bool true) ∧ Below w.heap.size w w' := by
  obtain ⟨w1, x1⟩ : ∃ w1, w1 = w.alloc (prO q ao len cap q' bo len' cbp k p) := ⟨_, rfl⟩
  obtain ⟨s1, n1, b1⟩ := new_size x1
  have HA := Lib.hid (awake7_any w1 (hL.below b1))
  have HL := Lib.hid hL
  have N1 := Lib.hid n1
  have B1 := Lib.hid b1
  obtain ⟨D, hD⟩ : ∃ D, w.heap.size = D := ⟨_, rfl⟩
  rw [hD] at N1 B1
  have HD := Lib.hid hD
  have hDw : D ≤ w1.heap.size := by omega
  have HDw := Lib.hid hDw
  unfold prO at x1
  clear s1 n1 b1 hD hDw hL
  go_enter Tryd.func9, Tryd.ntmps9
  go_wp2_with fail
  rw [← x1, HD.out]
  clear x1
  refine HA.out.mono ?_
  rintro r w2 ⟨rfl, h2⟩
  have N2 := Lib.hid ((h2.block _ (blk_lt N1.out)).trans N1.out)
  have B2 := Lib.hid (B1.out.trans (h2.mono HDw.out))
  have D2 := Lib.hid (Nat.le_trans HDw.out h2.size)
  have hDl : D < w2.heap.size := blk_lt N2.out
  clear h2 HA N1 B1 HDw
  obtain ⟨c0, c1, c2, c3, c4, c5⟩ := prcells N2.out
  go_wp2_with fail
  refine (awake7_any w2 (HL.out.below (by rw [HD.out]; exact B2.out))).mono ?_
  rintro r w3 ⟨rfl, h3⟩
  have B3 := Lib.hid (B2.out.trans (h3.mono D2.out))
  clear h3
  go_wp2_with fail
  go_ret
  exact ⟨rfl, by rw [HD.out]; exact B3.out⟩

set_option maxRecDepth 100000 in
set_option maxHeartbeats 4000000 in
theorem walk_out3 (q : Nat) (ao : Option Addr) (len cap : Nat) (q' : Nat) (bo : Option Addr) (len' cbp : Nat) (k : Int) (p : Nat) (h1 : decide ((100 : Int) < (len : Int)) = false) (h2 : decide ((100 : Int) < (len' : Int)) = false) (h3 : decide (k < 0) = true) (w : World) (hL : EvL w) :
    Calls Tryd.prog 9 #[.agg #[.int .u32 (q : Int), .slice ao len cap, .int .u32 (q' : Int), .slice bo len' cbp, .int .i64 k, .int .u32 (p : Int)]] w fun r w' => r = .returned (.bool true) ∧ Below w.heap.size w w' := by
  obtain ⟨w1, x1⟩ : ∃ w1, w1 = w.alloc (prO q ao len cap q' bo len' cbp k p) := ⟨_, rfl⟩
  obtain ⟨s1, n1, b1⟩ := new_size x1
  have HA := Lib.hid (awake7_any w1 (hL.below b1))
  have HL := Lib.hid hL
  have N1 := Lib.hid n1
  have B1 := Lib.hid b1
  obtain ⟨D, hD⟩ : ∃ D, w.heap.size = D := ⟨_, rfl⟩
  rw [hD] at N1 B1
  have HD := Lib.hid hD
  have hDw : D ≤ w1.heap.size := by omega
  have HDw := Lib.hid hDw
  unfold prO at x1
  clear s1 n1 b1 hD hDw hL
  go_enter Tryd.func9, Tryd.ntmps9
  go_wp2_with fail
  rw [← x1, HD.out]
  clear x1
  refine HA.out.mono ?_
  rintro r w2 ⟨rfl, h2⟩
  have N2 := Lib.hid ((h2.block _ (blk_lt N1.out)).trans N1.out)
  have B2 := Lib.hid (B1.out.trans (h2.mono HDw.out))
  have D2 := Lib.hid (Nat.le_trans HDw.out h2.size)
  have hDl : D < w2.heap.size := blk_lt N2.out
  clear h2 HA N1 B1 HDw
  obtain ⟨c0, c1, c2, c3, c4, c5⟩ := prcells N2.out
  go_wp2_with fail
  refine (awake7_any w2 (HL.out.below (by rw [HD.out]; exact B2.out))).mono ?_
  rintro r w3 ⟨rfl, h3⟩
  have B3 := Lib.hid (B2.out.trans (h3.mono D2.out))
  clear h3
  go_wp2_with fail
  go_ret
  exact ⟨rfl, by rw [HD.out]; exact B3.out⟩

set_option maxRecDepth 100000 in
set_option maxHeartbeats 4000000 in
theorem walk_out4 (q : Nat) (ao : Option Addr) (len cap : Nat) (q' : Nat) (bo : Option Addr) (len' cbp : Nat) (k : Int) (p : Nat) (h1 : decide ((100 : Int) < (len : Int)) = false) (h2 : decide ((100 : Int) < (len' : Int)) = false) (h3 : decide (k < 0) = false) (h4 : decide ((4000 : Int) < k) = true) (w : World) (hL : EvL w) :
    Calls Tryd.prog 9 #[.agg #[.int .u32 (q : Int), .slice ao len cap, .int .u32 (q' : Int), .slice bo len' cbp, .int .i64 k, .int .u32 (p : Int)]] w fun r w' => r = .returned (.bool true) ∧ Below w.heap.size w w' := by
  obtain ⟨w1, x1⟩ : ∃ w1, w1 = w.alloc (prO q ao len cap q' bo len' cbp k p) := ⟨_, rfl⟩
  obtain ⟨s1, n1, b1⟩ := new_size x1
  have HA := Lib.hid (awake7_any w1 (hL.below b1))
  have HL := Lib.hid hL
  have N1 := Lib.hid n1
  have B1 := Lib.hid b1
  obtain ⟨D, hD⟩ : ∃ D, w.heap.size = D := ⟨_, rfl⟩
  rw [hD] at N1 B1
  have HD := Lib.hid hD
  have hDw : D ≤ w1.heap.size := by omega
  have HDw := Lib.hid hDw
  unfold prO at x1
  clear s1 n1 b1 hD hDw hL
  go_enter Tryd.func9, Tryd.ntmps9
  go_wp2_with fail
  rw [← x1, HD.out]
  clear x1
  refine HA.out.mono ?_
  rintro r w2 ⟨rfl, h2⟩
  have N2 := Lib.hid ((h2.block _ (blk_lt N1.out)).trans N1.out)
  have B2 := Lib.hid (B1.out.trans (h2.mono HDw.out))
  have D2 := Lib.hid (Nat.le_trans HDw.out h2.size)
  have hDl : D < w2.heap.size := blk_lt N2.out
  clear h2 HA N1 B1 HDw
  obtain ⟨c0, c1, c2, c3, c4, c5⟩ := prcells N2.out
  go_wp2_with fail
  refine (awake7_any w2 (HL.out.below (by rw [HD.out]; exact B2.out))).mono ?_
  rintro r w3 ⟨rfl, h3⟩
  have B3 := Lib.hid (B2.out.trans (h3.mono D2.out))
  clear h3
  go_wp2_with fail
  go_ret
  exact ⟨rfl, by rw [HD.out]; exact B3.out⟩

set_option maxRecDepth 100000 in
set_option maxHeartbeats 4000000 in
theorem walk_few (q : Nat) (hq : q < 4294967296) (ao : Option Addr) (cap : Nat) (l : List Ev) (q' : Nat) (hq' : q' < 4294967296) (bo : Option Addr) (cbp : Nat) (m : List Ev) (k p : Nat) (hp : p < 4294967296) (h1 : decide ((100 : Int) < (l.length : Int)) = false) (h2 : decide ((100 : Int) < (m.length : Int)) = false) (h3 : decide ((k : Int) < 0) = false) (h4 : decide ((4000 : Int) < (k : Int)) = false) (w : World)
    (hs : SeenE w ao cap l) (hf : ∀ e ∈ l, EvFits e) (hs' : SeenE w bo cbp m) (hf' : ∀ e ∈ m, EvFits e) (hL : EvL w) :
    Calls Tryd.prog 9 #[.agg #[.int .u32 (q : Int), .slice ao l.length cap, .int .u32 (q' : Int), .slice bo m.length cbp, .int .i64 (k : Int), .int .u32 (p : Int)]] w fun r w' => r = .returned (.bool true) ∧ Below w.heap.size w w' := by
  have Hn := Lib.hid (show l.length ≤ 1000000 by rw [decide_eq_false_iff_not] at h1; omega)
  have Hm := Lib.hid (show m.length ≤ 1000000 by rw [decide_eq_false_iff_not] at h2; omega)
  have HS := Lib.hid hs
  have HS' := Lib.hid hs'
  obtain ⟨S, hS⟩ : ∃ S : ByteArray, S = ⟨(frameP q l).1.toArray⟩ := ⟨_, rfl⟩
  obtain ⟨c, hc⟩ : ∃ c : Int, c = (frameP q l).2 := ⟨_, rfl⟩
  obtain ⟨S', hS'⟩ : ∃ S : ByteArray, S = ⟨(frameP q' m).1.toArray⟩ := ⟨_, rfl⟩
  obtain ⟨c', hc'⟩ : ∃ c : Int, c = (frameP q' m).2 := ⟨_, rfl⟩
  have HP : Hid (∀ t bo bc w', TabK w' t 256 → SeenE w' bo bc l → EvL w' → Calls Tryd.prog 12 #[.pointer (some ⟨t, 0, none⟩), .agg #[.int .u32 (q : Int), .slice bo l.length bc]] w' fun r w'' => r = .returned (.tuple #[.string S, .int .i64 c]) ∧ Below w'.heap.size w' w'') :=
    Lib.hid (by rw [hS, hc]; exact fun t bo bc w' h1 h2 h3 => fprint_any t q hq bo bc l w' h1 h2 h3 hf Hn.out)
  have HP' : Hid (∀ t bo bc w', TabK w' t 256 → SeenE w' bo bc m → EvL w' → Calls Tryd.prog 12 #[.pointer (some ⟨t, 0, none⟩), .agg #[.int .u32 (q' : Int), .slice bo m.length bc]] w' fun r w'' => r = .returned (.tuple #[.string S', .int .i64 c']) ∧ Below w'.heap.size w' w'') :=
    Lib.hid (by rw [hS', hc']; exact fun t bo bc w' h1 h2 h3 => fprint_any t q' hq' bo bc m w' h1 h2 h3 hf' Hm.out)
  have hSl : S.data.toList = (frameP q l).1 := by rw [hS]
  have hSl' : S'.data.toList = (frameP q' m).1 := by rw [hS']
  have hSz : S.size ≤ 179 := by rw [hS, mk_size]; exact print_len q l
  have hSz' : S'.size ≤ 179 := by rw [hS', mk_size]; exact print_len q' m
  have hk : k ≤ 4000 := by rw [decide_eq_false_iff_not] at h4; omega
  obtain ⟨U, hU⟩ : ∃ U, S ++ S' = U := ⟨_, rfl⟩
  have zU : U.size = S.size + S'.size := by rw [← hU, ByteArray.size_append]
  have Z1 : ¬ 9223372036854775807 < S.size + S'.size := by omega
  have HB := Lib.hid (fun w' => spoil_any U (by unfold maxLen; omega) k p (by omega) hp w')
  have hUl : U.data.toList = (frameP q l).1 ++ (frameP q' m).1 := by rw [← hU, ByteArray.data_append, Array.toList_append, hSl, hSl']
  have hSs : S.size = (frameP q l).1.length := by rw [hS, mk_size]
  have HK : Hid (c = 0 → c' = 0 → ∀ (x : List UInt8), x.length = U.data.toList.length → num x = num U.data.toList ^^^ burst k p (8 * U.data.toList.length) → ∀ i, i + 22 ≤ x.length → (x.drop i).take 22 = markL → i = 0 ∨ i = S.size) := Lib.hid (by
    intro h0 h0' x hx hn i hi he
    rw [hUl] at hx hn
    have tw := two_printed hf hf' (by rw [← hc]; exact h0) (by rw [← hc']; exact h0')
    rw [hSs]
    refine marker_places tw hx (bytes_kept hp hx hn) hi (fun j hj => ?_)
    have := congrArg (fun y => y[j]?) he
    simp only [List.getElem?_take, hj, if_true, List.getElem?_drop] at this
    exact this)
  generalize U.data.toList = UL at *
  generalize burst k p (8 * UL.length) = bu at *
  generalize decide (bu ≠ 0) = D1 at *
  have HUL := Lib.hid (show UL.length ≤ 358 by
    rw [hUl, List.length_append]
    have := print_len q l
    have := print_len q' m
    omega)
  clear hs hf hs' hf' hSl hSl' hS hS' hc hc' hq hq' hk zU hUl hSs hp
  obtain ⟨w1, x1⟩ : ∃ w1, w1 = w.alloc (prO q ao l.length cap q' bo m.length cbp (k : Int) p) := ⟨_, rfl⟩
  obtain ⟨s1, n1, b1⟩ := new_size x1
  have HA := Lib.hid (awake7_any w1 (hL.below b1))
  have HL := Lib.hid hL
  have N1 := Lib.hid n1
  have B1 := Lib.hid b1
  obtain ⟨D, hD⟩ : ∃ D, w.heap.size = D := ⟨_, rfl⟩
  rw [hD] at N1 B1
  have HD := Lib.hid hD
  have hDw : D ≤ w1.heap.size := by omega
  have HDw := Lib.hid hDw
  unfold prO at x1
  clear s1 n1 b1 hD hDw hL
  go_enter Tryd.func9, Tryd.ntmps9
  go_wp2_with fail
  rw [← x1, HD.out]
  clear x1
  refine HA.out.mono ?_
  rintro r w2 ⟨rfl, h2⟩
  have N2 := Lib.hid ((h2.block _ (blk_lt N1.out)).trans N1.out)
  have B2 := Lib.hid (B1.out.trans (h2.mono HDw.out))
  have D2 := Lib.hid (Nat.le_trans HDw.out h2.size)
  have hDl : D < w2.heap.size := blk_lt N2.out
  clear h2 HA N1 B1 HDw
  obtain ⟨c0, c1, c2, c3, c4, c5⟩ := prcells N2.out
  go_wp2_with fail
  refine (make_any w2).mono ?_
  rintro r w3 ⟨rfl, t3, g3⟩
  have N3 := Lib.hid ((g3.block _ (blk_lt N2.out)).trans N2.out)
  have B3 := Lib.hid (B2.out.trans (g3.mono D2.out))
  have D3 := Lib.hid (Nat.le_trans D2.out g3.size)
  have T3 := Lib.hid t3
  obtain ⟨t, ht⟩ : ∃ t, w2.heap.size = t := ⟨_, rfl⟩
  rw [ht] at T3 ⊢
  clear g3 t3 N2 B2 D2 ht c0 c1 c2 c3 c4 c5 hDl
  obtain ⟨c0, c1, c2, c3, c4, c5⟩ := prcells N3.out
  go_wp2_with fail
  refine (own_any q ao cap l w3 (HS.out.below (by rw [HD.out]; exact B3.out)) Hn.out).mono ?_
  rintro r w4 ⟨go4, gc4, rfl, s4, g4⟩
  have N4 := Lib.hid ((g4.block _ (blk_lt N3.out)).trans N3.out)
  have B4 := Lib.hid (B3.out.trans (g4.mono D3.out))
  have D4 := Lib.hid (Nat.le_trans D3.out g4.size)
  have T4 := Lib.hid (T3.out.below g4 T3.out.lt)
  have S4 := Lib.hid s4
  clear g4 s4 N3 B3 D3 T3 c0 c1 c2 c3 c4 c5
  go_wp2_with fail
  refine (HP.out t go4 gc4 w4 T4.out S4.out (HL.out.below (by rw [HD.out]; exact B4.out))).mono ?_
  rintro r w5 ⟨rfl, g5⟩
  have N5 := Lib.hid ((g5.block _ (blk_lt N4.out)).trans N4.out)
  have B5 := Lib.hid (B4.out.trans (g5.mono D4.out))
  have D5 := Lib.hid (Nat.le_trans D4.out g5.size)
  have T5 := Lib.hid (T4.out.below g5 T4.out.lt)
  clear g5 N4 B4 D4 T4 S4
  obtain ⟨c0, c1, c2, c3, c4, c5⟩ := prcells N5.out
  go_wp2_with fail
  refine (own_any q' bo cbp m w5 (HS'.out.below (by rw [HD.out]; exact B5.out)) Hm.out).mono ?_
  rintro r w6 ⟨go6, gc6, rfl, s6, g6⟩
  have N6 := Lib.hid ((g6.block _ (blk_lt N5.out)).trans N5.out)
  have B6 := Lib.hid (B5.out.trans (g6.mono D5.out))
  have D6 := Lib.hid (Nat.le_trans D5.out g6.size)
  have T6 := Lib.hid (T5.out.below g6 T5.out.lt)
  have S6 := Lib.hid s6
  clear g6 s6 N5 B5 D5 T5 c0 c1 c2 c3 c4 c5
  go_wp2_with fail
  refine (HP'.out t go6 gc6 w6 T6.out S6.out (HL.out.below (by rw [HD.out]; exact B6.out))).mono ?_
  rintro r w7 ⟨rfl, g7⟩
  have N7 := Lib.hid ((g7.block _ (blk_lt N6.out)).trans N6.out)
  have B7 := Lib.hid (B6.out.trans (g7.mono D6.out))
  have D7 := Lib.hid (Nat.le_trans D6.out g7.size)
  have T7 := Lib.hid (T6.out.below g7 T6.out.lt)
  clear g7 N6 B6 D6 T6 S6
  by_cases hc0 : c = 0
  · have hcb : (c != 0) = false := by rw [hc0]; rfl
    by_cases hc1 : c' = 0
    · have hcb' : (c' != 0) = false := by rw [hc1]; rfl
      have HK := Lib.hid (HK.out hc0 hc1)
      clear hc0 hc1
      obtain ⟨c0, c1, c2, c3, c4, c5⟩ := prcells N7.out
      go_wp2_with fail
      refine (HB.out w7).mono ?_
      rintro r w8 ⟨tl, htl, htn, rfl, g8⟩
      have B8 := Lib.hid (B7.out.trans (g8.mono D7.out))
      have HK := Lib.hid (HK.out tl htl htn)
      obtain ⟨x, hx⟩ : ∃ x : ByteArray, x = ⟨tl.toArray⟩ := ⟨_, rfl⟩
      have hxl : x.data.toList = tl := by rw [hx]
      have hxz : tl.length = x.size := by rw [hx, mk_size]
      have hxm : x.size ≤ 358 := by rw [← hxz, htl]; exact HUL.out
      rw [hxz] at HK
      rw [← hx]
      have HKx : Hid (∀ i, i + 22 ≤ x.size → (x.extract i (i + 22)).toList = markB.toList → i = 0 ∨ i = S.size) := Lib.hid (fun i hi he => HK.out i hi (by
        rw [ByteArray.toList_eq, ByteArray.toList_eq, extract_part x i (i + 22) hi, hxl, show i + 22 - i = 22 by omega] at he
        exact he))
      have hms : markB.size = 22 := rfl
      clear g8 N7 B7 D7 T7 HB HK htl htn hx hxl hxz c0 c1 c2 c3 c4 c5 HUL
      go_wp2_with fail
      refine (fmarker_any w8).mono ?_
      rintro r w9 ⟨rfl, rfl⟩
      generalize markB = mb at *
      go_wp2_with fail
      go_loop [11] (fun v => ∃ i : Nat, v = .int .i64 i ∧ i ≤ x.size + 1) (fun v => x.size + 1 - (intOf v).toNat)
      case atStart => exact ⟨0, rfl, by omega⟩
      case round =>
        obtain ⟨i, rfl, hi⟩ := hrel
        by_cases hlt : i + 22 ≤ x.size
        · have hd : decide ((i : Int) + 22 ≤ (x.size : Int)) = true := by rw [decide_eq_true_iff]; omega
          obtain ⟨e, he⟩ : ∃ e, e = i + 22 := ⟨_, rfl⟩
          have heI : (i : Int) + 22 = (e : Int) := by omega
          have hde : decide ((e : Int) ≤ (x.size : Int)) = true := by rw [decide_eq_true_iff]; omega
          have hex : e ≤ x.size := by omega
          have hie : i ≤ e := by omega
          have hk := HKx.out i hlt
          rw [← he] at hk
          have Hi := Lib.hid (show i + 1 ≤ x.size + 1 by omega)
          by_cases hq : (x.extract i e).toList = mb.toList
          · have hb : ((x.extract i e).toList == mb.toList) = true := by rw [hq]; simp
            rcases hk hq with h0 | h0
            · have hb0 : ((i : Int) != 0) = false := by rw [h0]; rfl
              clear hq hk h0 he hlt
              go_wp2_with fail
              go_round
              case rel => exact ⟨i + 1, by go_num, Hi.out⟩
              case measure => simp [intOf]; omega
            · have hb1 : ((i : Int) != (S.size : Int)) = false := by rw [h0, bne_self_eq_false]
              by_cases h00 : i = 0
              · have hb0 : ((i : Int) != 0) = false := by rw [h00]; rfl
                clear hq hk h0 he hlt h00
                go_wp2_with fail
                go_round
                case rel => exact ⟨i + 1, by go_num, Hi.out⟩
                case measure => simp [intOf]; omega
              · have hb0 : ((i : Int) != 0) = true := by rw [bne_iff_ne]; omega
                clear hq hk h0 he hlt h00
                go_wp2_with fail
                go_round
                case rel => exact ⟨i + 1, by go_num, Hi.out⟩
                case measure => simp [intOf]; omega
          · have hb : ((x.extract i e).toList == mb.toList) = false := by rw [beq_eq_false_iff_ne]; exact hq
            clear hq hk he hlt
            go_wp2_with fail
            go_round
            case rel => exact ⟨i + 1, by go_num, Hi.out⟩
            case measure => simp [intOf]; omega
        · have hd : decide ((i : Int) + 22 ≤ (x.size : Int)) = false := by rw [decide_eq_false_iff_not]; omega
          go_wp2_with fail
          go_ret
          exact ⟨rfl, by rw [HD.out]; exact B8.out⟩
    · have hcb' : (c' != 0) = true := by rw [bne_iff_ne]; exact hc1
      clear hc0 hc1
      go_wp2_with fail
      go_ret
      exact ⟨rfl, by rw [HD.out]; exact B7.out⟩
  · have hcb : (c != 0) = true := by rw [bne_iff_ne]; exact hc0
    clear hc0
    go_wp2_with fail
    go_ret
    exact ⟨rfl, by rw [HD.out]; exact B7.out⟩

theorem walk {w : World} (q : Nat) (ao : Option Addr) (cap : Nat) (l : List Ev) (q' : Nat) (bo : Option Addr) (cbp : Nat) (m : List Ev) (k : Int) (p : Nat) (h : q < 4294967296 ∧ SeenE w ao cap l ∧ (∀ e ∈ l, EvFits e) ∧ q' < 4294967296 ∧ SeenE w bo cbp m ∧ (∀ e ∈ m, EvFits e) ∧ (-9223372036854775808 ≤ k ∧ k ≤ 9223372036854775807) ∧ p < 4294967296) (hL : EvL w) :
    Calls Tryd.prog 9 #[.agg #[.int .u32 (q : Int), .slice ao l.length cap, .int .u32 (q' : Int), .slice bo m.length cbp, .int .i64 k, .int .u32 (p : Int)]] w fun r w' => r = .returned (.bool true) ∧ Below w.heap.size w w' := by
  obtain ⟨g1, g2, g3, g4, g5, g6, g7, g8⟩ := h
  by_cases e1 : (100 : Int) < (l.length : Int)
  · exact walk_out1 q ao _ cap q' bo _ cbp k p (by rw [decide_eq_true_iff]; exact e1) w hL
  · have d1 : decide ((100 : Int) < (l.length : Int)) = false := by rw [decide_eq_false_iff_not]; exact e1
    by_cases e2 : (100 : Int) < (m.length : Int)
    · exact walk_out2 q ao _ cap q' bo _ cbp k p d1 (by rw [decide_eq_true_iff]; exact e2) w hL
    · have d2 : decide ((100 : Int) < (m.length : Int)) = false := by rw [decide_eq_false_iff_not]; exact e2
      by_cases e3 : k < 0
      · exact walk_out3 q ao _ cap q' bo _ cbp k p d1 d2 (by rw [decide_eq_true_iff]; exact e3) w hL
      · have d3 : decide (k < 0) = false := by rw [decide_eq_false_iff_not]; exact e3
        by_cases e4 : (4000 : Int) < k
        · exact walk_out4 q ao _ cap q' bo _ cbp k p d1 d2 d3 (by rw [decide_eq_true_iff]; exact e4) w hL
        · obtain ⟨k, rfl⟩ := Int.eq_ofNat_of_zero_le (show 0 ≤ k by omega)
          exact walk_few q g1 ao cap l q' g4 bo cbp m k p g8 d1 d2 d3 (by rw [decide_eq_false_iff_not]; exact e4) w g2 g3 g5 g6 hL

theorem own : ownKnob Tryd.prog.godebug = none := by kernel_rfl
theorem laidOut : laidOutB Tryd.prog = true := by kernel_rfl

set_option maxRecDepth 100000 in
theorem lifted (os : Os) (started : os.Started) (H : Type) (enc : TypeId × Value → H) :
    ReturnsInHanded {} Tryd.checked os 9 .any (fun w args => (Rows.frameMarkersSpec.pre enc Tryd.prog Tryd.f9 Rows.frameMarkersRow.domain false w args ∧ laidMetH Tryd.prog laidL w) ∧ sizedMet enc Tryd.prog Tryd.f9 (OpenSpec.ofChange Rows.frameMarkersSpec) false w args) (Rows.frameMarkersSpec.post enc Tryd.prog Tryd.f9 false true false false) := by
  refine returnsInHanded_of_row (s := OpenSpec.ofChange Rows.frameMarkersSpec) (F := fun _ _ _ => 0) (laid := laidL) (C := Tryd.checked) own started (by kernel_rfl) Tryd.func9
    (ChangeSpec.witness_shaped (enc := enc) (C := Tryd.checked) (os := os) (s := Rows.frameMarkersSpec) (X := fun w _ => laidMetH Tryd.prog laidL w) false (World.laidAll Tryd.prog os laidL) #[.agg #[.int .u32 0, .slice none 0 0, .int .u32 0, .slice none 0 0, .int .i64 0, .int .u32 0]] 8 (World.laidAll_os _ _ _)
      (World.shaped_of_ZipB (by kernel_rfl) (by kernel_rfl)) (by kernel_rfl) (by kernel_rfl) (by kernel_rfl)
      (by rw [MakeChecks.laidMetH_plain _ _ _ (by kernel_rfl)]; exact laidMet_laidAll _ (by kernel_rfl) (by kernel_rfl))) ?_
  intro W base args ds gs before hval0 hW hcnd _ hsz0 hL hsh _
  have hval : ∀ (j : Nat) t v, Tryd.f9.params[j]? = some t → args[j]? = some v → Value.okWide Tryd.prog W .any base t v := hval0
  have hW' := hW
  obtain ⟨p, q, hA0, hV, rfl, hfz, hnd⟩ := hW
  have hA : DataW.TrodAll enc Tryd.prog W 0 (fun _ => true) true Tryd.f9.params.toList args.toList ds p := hA0
  rw [Tryd.params9] at hA hval
  obtain ⟨v0, vs0, d0, ds0, p0, q0, hargs, rfl, rfl, h0, r0⟩ := trodAll_cons hA
  obtain ⟨rfl, rfl, rfl⟩ := trodAll_nil r0
  obtain rfl : args = #[v0] := by cases args; simp_all
  obtain ⟨rfl, rfl⟩ := trodVars_none hV
  have k0 := h0
  have lt0 : ∀ x ∈ p0, x.block < W.heap.size := by obtain ⟨m, hm⟩ := k0; exact DataW.trod_lt m _ _ _ hm
  obtain ⟨a0, ao0, cap0, z0, b0, bo0, cb0, y0, at0, pt0, rfl, w0⟩ := open_pair (hval 0 48 v0 rfl rfl) h0
  clear hA0 hval0
  refine (walk (w := W) a0 ao0 cap0 z0 b0 bo0 cb0 y0 at0 pt0 w0 (of_laid hL hsh)).mono fun e W' ⟨he, bel⟩ => ?_
  subst he
  exact ⟨_, rfl, _, _, _, [], _, [], hW', trodAll_mk1 (shut_bool Tryd.underlying4 _), (trodAll_cons_mk (Below.trod laidOut (by kernel_rfl) (of_decide_eq_true (by kernel_rfl)) k0 bel lt0) trodAll_mk0), rfl, bel.frame _, fun h => by cases h⟩

theorem over : Rows.FrameMarkersSaid :=
  OpenClaim.holds_of_wide 9 Tryd.f9 rfl rfl rfl rfl rfl rfl rfl ⟨rfl, rfl, rfl, rfl, rfl⟩ rfl rfl rfl rfl rfl (by kernel_rfl) Tryd.func9 (by kernel_rfl)
    (of_decide_eq_true (by kernel_rfl)) (by unfold Func.isWrapper; first | (rw [if_pos (by decide +kernel)]; kernel_rfl) | (rw [if_neg (by decide +kernel)]; exact ⟨rfl, rfl⟩))
    (fun os started H enc _ => lifted os started H enc)

theorem proved : Rows.FrameMarkersCardSaid :=
  Claim7.holds_tied_plain_at .later [] _ true _ false over (fun _ h => by cases h) (by kernel_rfl) (fun _ h => by cases h) frameMarkers_row_tie rfl ⟨rfl, rfl⟩ (by kernel_rfl) rfl
    (fun f fn hf hfn => by
      obtain rfl : f = 9 := Option.some.inj ((show Tryd.prog.funcNamed "taffrail/taffraillaw07.FrameMarkers" = some 9 by kernel_rfl).symm.trans hf) |>.symm
      obtain rfl : fn = Tryd.f9 := (Option.some.inj (Tryd.func9.symm.trans hfn)).symm
      refine ⟨by kernel_rfl, fun j t ht => ?_⟩
      rw [Tryd.params9] at ht
      have hm : t ∈ [48] := by simpa using Array.mem_of_getElem? ht
      have hall : ([48].all fun u => !Tryd.prog.wantsStandIn u) = true := by kernel_rfl
      exact (show Tryd.prog.wantsStandIn t = false by simpa using List.all_eq_true.1 hall t hm))
    (by kernel_rfl)
#print axioms proved

end Go.Proofs.YtjfoepknlleonaaDoor.FrameMarkers
