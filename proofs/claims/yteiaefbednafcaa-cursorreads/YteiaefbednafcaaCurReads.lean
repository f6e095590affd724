/-
  CursorReads is true for every input: in every order of calls a reader answers as the document says, and stands where it says. No condition.
-/
import Derived.Test.YteiaefbednafcaaCurOps
namespace Go.Proofs.Yteiaefbednafcaa.cursorReads
open Go.ChangeShapes Go.WideShapes Go.ChangeAt Go.RowKit
open Go.ChangeMaps (open_string shut_string)
set_option linter.unusedVariables false

theorem rd_alloc {w : World} {b : Nat} {s : ByteArray} {k : Nat} (h : Rd w b s k) (o : Obj) : Rd (w.alloc o) b s k :=
  h.kept (World.grownBy_alloc w o none) (by simp)

theorem first_byte (s : ByteArray) (p : Nat) (h : p < s.size) : ∃ t : ByteArray, t = s.extract p (p + 1) ∧ ∃ h1 : 0 < t.size, t[0] = s[p] :=
  ⟨_, rfl, by simp; omega, by simp [ByteArray.getElem_extract]⟩

set_option maxHeartbeats 1000000 in
set_option maxRecDepth 100000 in
theorem walk_long (s : ByteArray) (hs : s.size ≤ maxLen) (ao : Option Addr) (len cap : Nat) (f : Nat → Int × Int × ByteArray) (hl : len * 32 ≤ 140737488351232) (w : World) (hseen : SeenOps w ao len cap f) (hm : HasLen w)
    (hbig : 1000 < s.size ∨ 2000 < len + tot f len) :
    Calls Try.prog 3 #[.string s, .slice ao len cap] w fun e w' => e = .returned (.bool true) ∧ Below w.heap.size w w' := by
  have hlg := fun w1 (hb : Below w.heap.size w w1) => long_any s hs ao len cap f hl w1 (hseen.below hb)
  rw [show decide (1000 < s.size ∨ 2000 < len + tot f len) = true from by simpa using hbig] at hlg
  have Hlg := Lib.hid hlg
  have Hm := Lib.hid hm
  clear hm hlg hseen hbig
  go_enter Try.func3, Try.ntmps3
  go_wp2_with fail
  refine (awake_any _ Hm.out).mono ?_
  rintro e w1 ⟨rfl, b1⟩
  go_wp2_with fail
  refine (Hlg.out w1 b1).mono ?_
  rintro e w2 ⟨rfl, b2⟩
  have b3 := b1.trans (b2.mono b1.size)
  clear b1 b2
  go_wp2_with fail
  refine (awake_any _ (Hm.out.below b3)).mono ?_
  rintro e w4 ⟨rfl, b4⟩
  go_wp2
  go_ret
  exact ⟨rfl, b3.trans (b4.mono b3.size)⟩

set_option maxHeartbeats 4000000 in
set_option maxRecDepth 100000 in
theorem walk_short (s : ByteArray) (hs : s.size ≤ 1000) (ao : Option Addr) (len cap : Nat) (f : Nat → Int × Int × ByteArray) (hl : len ≤ 2000) (hft : tot f len ≤ 2000) (w : World) (hseen : SeenOps w ao len cap f) (hm : HasLen w)
    (hsmall : decide (1000 < s.size ∨ 2000 < len + tot f len) = false) :
    Calls Try.prog 3 #[.string s, .slice ao len cap] w fun e w' => e = .returned (.bool true) ∧ Below w.heap.size w w' := by
  have hlg := fun w1 (hb : Below w.heap.size w w1) => long_any s (by unfold maxLen; omega) ao len cap f (by omega) w1 (hseen.below hb)
  rw [hsmall] at hlg
  have Hlg := Lib.hid hlg
  have Hm := Lib.hid hm
  have Hs := Lib.hid hseen
  have Hone := Lib.hid (one_small f len)
  have Hft := Lib.hid hft
  clear hm hlg hseen hsmall hft
  go_enter Try.func3, Try.ntmps3
  go_wp2_with fail
  refine (awake_any _ Hm.out).mono ?_
  rintro e w1 ⟨rfl, b1⟩
  go_wp2_with fail
  refine (Hlg.out w1 b1).mono ?_
  clear Hlg
  rintro e w2 ⟨rfl, b2⟩
  have b3 := b1.trans (b2.mono b1.size)
  clear b1 b2
  go_wp2_with fail
  refine (new_any _ s).mono ?_
  rintro e w3 ⟨rfl, hw3⟩
  have r3 : Rd w3 w2.heap.size s 0 := by rw [hw3]; exact rd_new w2 s (by unfold maxLen; omega)
  have b4 : Below w.heap.size w w3 := by rw [hw3]; exact b3.alloc b3.size _
  have hz2 := b3.size
  clear hw3 b3
  go_wp2_with fail
  go_loopw [6, 32] (fun a i wr => ∃ k p : Nat, k ≤ len ∧ i = .int .i64 k ∧ a = .int .i64 p ∧ Rd wr w2.heap.size s p ∧ Below w.heap.size w wr) (fun _ i _ => len - (intOf i).toNat)
  case atStart => exact ⟨0, 0, Nat.zero_le _, rfl, rfl, r3, b4⟩
  case round =>
    clear r3 b4
    obtain ⟨k, p, hk, rfl, rfl, r4, b4⟩ := hrel
    have hz := b4.size
    by_cases hlt : k < len
    · obtain ⟨b, off, hao, hbw, hcell⟩ := Hs.out.row k hlt
      subst hao
      obtain ⟨h0, h1, h2⟩ := hcell k hlt
      have c0 := (b4.cell (p := ⟨b, off + k * 3, none⟩) hbw).trans h0
      have c1 := (b4.cell (p := ⟨b, off + k * 3 + 1, none⟩) hbw).trans h1
      have c2 := (b4.cell (p := ⟨b, off + k * 3 + 2, none⟩) hbw).trans h2
      have htx := Hone.out k hlt Hft.out
      have hm4 := Hm.out.below b4
      have hblt := r4.lt
      have hpl := r4.le
      clear hcell h0 h1 h2
      generalize (f k).1 = kd at *
      generalize (f k).2.1 = n at *
      generalize (f k).2.2 = tx at *
      have Hm4 := Lib.hid hm4
      clear hm4
      have r5 := fun kd : Int => rd_alloc r4 (.cells #[.int .i64 kd, .int .i64 n, .string tx] 28)
      have b5 := fun kd : Int => b4.alloc hz (.cells #[.int .i64 kd, .int .i64 n, .string tx] 28)
      have on1 : ∀ kd : Int, (wr.alloc (.cells #[.int .i64 kd, .int .i64 n, .string tx] 28)).cell? ⟨wr.heap.size, 1, none⟩ = some (.int .i64 n) := by intro kd; simp
      have R5 := Lib.hid r5
      have B5 := Lib.hid b5
      have On1 := Lib.hid on1
      clear r5 b5 on1 r4 b4
      rcases (show kd = 1 ∨ kd = 2 ∨ kd = 3 ∨ kd = 4 ∨ kd = 5 ∨ (kd ≠ 1 ∧ kd ≠ 2 ∧ kd ≠ 3 ∧ kd ≠ 4 ∧ kd ≠ 5) from by omega) with hkd | hkd | hkd | hkd | hkd | hkd
      · subst hkd
        have r5 := R5.out 1
        have b5 := B5.out 1
        clear R5 B5 On1
        by_cases hp : p < s.size
        · obtain ⟨t1, ht1, hpos, hg0⟩ := first_byte s p hp
          have hby := byte_any _ _ s p r5 hp
          have hrt := fun W => rtake_any W s p 1 (by unfold maxLen; omega) hp
          obtain ⟨p', hp'⟩ : ∃ p', p' = p + 1 := ⟨_, rfl⟩
          rw [← hp'] at hby hrt ht1
          rw [← ht1] at hrt
          rw [← hg0] at hby
          have Hby := Lib.hid hby
          have Hrt := Lib.hid hrt
          clear hby hrt ht1 hg0
          go_wp2_with fail
          refine Hby.out.mono ?_
          clear Hby
          rintro e w6 ⟨rfl, r6, g6⟩
          have b6 : Below w.heap.size w w6 := b5.grown g6 b5.size (fun q hq => by simp at hq; omega)
          clear r5 b5 g6 hp'
          go_wp2_with fail
          refine (Hrt.out _).mono ?_
          rintro e w7 ⟨rfl, rfl⟩
          have hat := at_any _ _ s p' r6
          have hlf := left_any _ _ s p' r6
          rw [show ((s.size - p' : Nat) : Int) = (s.size : Int) - (p' : Int) from by have := r6.le; omega] at hlf
          have Hat := Lib.hid hat
          have Hlf := Lib.hid hlf
          have hple := r6.le
          clear hat hlf
          go_wp2_with fail
          refine Hat.out.mono ?_
          clear Hat
          rintro e w8 ⟨rfl, rfl⟩
          go_wp2_with fail
          refine Hlf.out.mono ?_
          clear Hlf
          rintro e w8 ⟨rfl, hw8⟩
          have r8 := r6.drawn hw8
          have b8 := below_drawn b6 hw8
          clear r6 b6 hw8
          go_wp2
          go_roundw
          case rel => exact ⟨k + 1, p', by omega, by go_num, rfl, r8, b8⟩
          case measure => simp [intOf]; omega
        · have hpe : p = s.size := by omega
          have hby := byte_end _ _ s p r5 (by omega)
          have hrt := fun W => rtake_end W s p hpl (by unfold maxLen; omega) 1 (by omega)
          have Hby := Lib.hid hby
          have Hrt := Lib.hid hrt
          clear hby hrt hpe
          go_wp2_with fail
          refine Hby.out.mono ?_
          clear Hby
          rintro e w6 ⟨rfl, hw6⟩
          have r6 := r5.drawn hw6
          have b6 := below_drawn b5 hw6
          clear r5 b5 hw6
          go_wp2_with fail
          refine (Hrt.out _).mono ?_
          rintro e w7 ⟨rfl, rfl⟩
          have hat := at_any _ _ s p r6
          have hlf := left_any _ _ s p r6
          rw [show ((s.size - p : Nat) : Int) = (s.size : Int) - (p : Int) from by have := r6.le; omega] at hlf
          have Hat := Lib.hid hat
          have Hlf := Lib.hid hlf
          have hple := r6.le
          clear hat hlf
          go_wp2_with fail
          refine Hat.out.mono ?_
          clear Hat
          rintro e w8 ⟨rfl, rfl⟩
          go_wp2_with fail
          refine Hlf.out.mono ?_
          clear Hlf
          rintro e w8 ⟨rfl, hw8⟩
          have r8 := r6.drawn hw8
          have b8 := below_drawn b6 hw8
          clear r6 b6 hw8
          go_wp2
          go_roundw
          case rel => exact ⟨k + 1, p, by omega, by go_num, rfl, r8, b8⟩
          case measure => simp [intOf]; omega
      · subst hkd
        have r5 := R5.out 2
        have b5 := B5.out 2
        have on5 := On1.out 2
        clear R5 B5 On1
        rcases (show n < 0 ∨ ((s.size - p : Nat) : Int) < n ∨ (0 ≤ n ∧ n ≤ ((s.size - p : Nat) : Int)) from by omega) with hn | hn | hn
        · have Htk := Lib.hid (take_neg (wr.alloc (.cells #[.int .i64 2, .int .i64 n, .string tx] 28)) w2.heap.size n hn)
          have Hrt := Lib.hid (fun W => rtake_neg W s p n hn)
          go_wp2_with fail
          refine Htk.out.mono ?_
          clear Htk
          rintro e w6 ⟨rfl, rfl⟩
          go_wp2_with fail
          refine (Hrt.out _).mono ?_
          rintro e w7 ⟨rfl, rfl⟩
          have hat := at_any _ _ s p r5
          have hlf := left_any _ _ s p r5
          rw [show ((s.size - p : Nat) : Int) = (s.size : Int) - (p : Int) from by have := r5.le; omega] at hlf
          have Hat := Lib.hid hat
          have Hlf := Lib.hid hlf
          have hple := r5.le
          clear hat hlf
          go_wp2_with fail
          refine Hat.out.mono ?_
          clear Hat
          rintro e w8 ⟨rfl, rfl⟩
          go_wp2_with fail
          refine Hlf.out.mono ?_
          clear Hlf
          rintro e w8 ⟨rfl, hw8⟩
          have r8 := r5.drawn hw8
          have b8 := below_drawn b5 hw8
          clear r5 b5 hw8
          go_wp2
          go_roundw
          case rel => exact ⟨k + 1, p, by omega, by go_num, rfl, r8, b8⟩
          case measure => simp [intOf]; omega
        · have Htk := Lib.hid (take_end _ _ s p r5 n hn)
          have Hrt := Lib.hid (fun W => rtake_end W s p hpl (by unfold maxLen; omega) n hn)
          go_wp2_with fail
          refine Htk.out.mono ?_
          clear Htk
          rintro e w6 ⟨rfl, hw6⟩
          have r6 := r5.drawn hw6
          have b6 := below_drawn b5 hw6
          have on6 := (grown_drewN hw6).cell on5 (by simp)
          clear r5 b5 hw6 on5
          go_wp2_with fail
          refine (Hrt.out _).mono ?_
          rintro e w7 ⟨rfl, rfl⟩
          have hat := at_any _ _ s p r6
          have hlf := left_any _ _ s p r6
          rw [show ((s.size - p : Nat) : Int) = (s.size : Int) - (p : Int) from by have := r6.le; omega] at hlf
          have Hat := Lib.hid hat
          have Hlf := Lib.hid hlf
          have hple := r6.le
          clear hat hlf
          go_wp2_with fail
          refine Hat.out.mono ?_
          clear Hat
          rintro e w8 ⟨rfl, rfl⟩
          go_wp2_with fail
          refine Hlf.out.mono ?_
          clear Hlf
          rintro e w8 ⟨rfl, hw8⟩
          have r8 := r6.drawn hw8
          have b8 := below_drawn b6 hw8
          clear r6 b6 hw8
          go_wp2
          go_roundw
          case rel => exact ⟨k + 1, p, by omega, by go_num, rfl, r8, b8⟩
          case measure => simp [intOf]; omega
        · obtain ⟨m, rfl⟩ := Int.eq_ofNat_of_zero_le hn.1
          have hpm : p + m ≤ s.size := by omega
          have htk := take_any _ _ s p r5 m hpm
          have hrt := fun W => rtake_any W s p m (by unfold maxLen; omega) hpm
          obtain ⟨p', hp'⟩ : ∃ p', p' = p + m := ⟨_, rfl⟩
          rw [← hp'] at htk hrt
          generalize s.extract p p' = t1 at htk hrt
          have Htk := Lib.hid htk
          have Hrt := Lib.hid hrt
          clear htk hrt hp'
          go_wp2_with fail
          refine Htk.out.mono ?_
          clear Htk
          rintro e w6 ⟨rfl, r6, g6⟩
          have b6 : Below w.heap.size w w6 := b5.grown g6 b5.size (fun q hq => by simp at hq; omega)
          have on6 := g6.cell on5 (by simp; omega)
          clear r5 b5 g6 on5
          go_wp2_with fail
          refine (Hrt.out _).mono ?_
          rintro e w7 ⟨rfl, rfl⟩
          have hat := at_any _ _ s p' r6
          have hlf := left_any _ _ s p' r6
          rw [show ((s.size - p' : Nat) : Int) = (s.size : Int) - (p' : Int) from by have := r6.le; omega] at hlf
          have Hat := Lib.hid hat
          have Hlf := Lib.hid hlf
          have hple := r6.le
          clear hat hlf
          go_wp2_with fail
          refine Hat.out.mono ?_
          clear Hat
          rintro e w8 ⟨rfl, rfl⟩
          go_wp2_with fail
          refine Hlf.out.mono ?_
          clear Hlf
          rintro e w8 ⟨rfl, hw8⟩
          have r8 := r6.drawn hw8
          have b8 := below_drawn b6 hw8
          clear r6 b6 hw8
          go_wp2
          go_roundw
          case rel => exact ⟨k + 1, p', by omega, by go_num, rfl, r8, b8⟩
          case measure => simp [intOf]; omega
      · subst hkd
        have r5 := R5.out 3
        have b5 := B5.out 3
        have on5 := On1.out 3
        clear R5 B5 On1
        by_cases hn : n < 0 ∨ (s.size : Int) < n
        · have Hsk := Lib.hid (seek_bad _ _ s p r5 n hn)
          rcases (show (decide (0 ≤ n) = false) ∨ (decide (0 ≤ n) = true ∧ decide (n ≤ (s.size : Int)) = false) from by simp; omega) with hd | ⟨hd, hd2⟩
          · go_wp2_with fail
            refine Hsk.out.mono ?_
            clear Hsk
            rintro e w6 ⟨rfl, rfl⟩
            have hat := at_any _ _ s p r5
            have hlf := left_any _ _ s p r5
            rw [show ((s.size - p : Nat) : Int) = (s.size : Int) - (p : Int) from by have := r5.le; omega] at hlf
            have Hat := Lib.hid hat
            have Hlf := Lib.hid hlf
            have hple := r5.le
            clear hat hlf
            go_wp2_with fail
            refine Hat.out.mono ?_
            clear Hat
            rintro e w8 ⟨rfl, rfl⟩
            go_wp2_with fail
            refine Hlf.out.mono ?_
            clear Hlf
            rintro e w8 ⟨rfl, hw8⟩
            have r8 := r5.drawn hw8
            have b8 := below_drawn b5 hw8
            clear r5 b5 hw8
            go_wp2
            go_roundw
            case rel => exact ⟨k + 1, p, by omega, by go_num, rfl, r8, b8⟩
            case measure => simp [intOf]; omega
          · go_wp2_with fail
            refine Hsk.out.mono ?_
            clear Hsk
            rintro e w6 ⟨rfl, rfl⟩
            have hat := at_any _ _ s p r5
            have hlf := left_any _ _ s p r5
            rw [show ((s.size - p : Nat) : Int) = (s.size : Int) - (p : Int) from by have := r5.le; omega] at hlf
            have Hat := Lib.hid hat
            have Hlf := Lib.hid hlf
            have hple := r5.le
            clear hat hlf
            go_wp2_with fail
            refine Hat.out.mono ?_
            clear Hat
            rintro e w8 ⟨rfl, rfl⟩
            go_wp2_with fail
            refine Hlf.out.mono ?_
            clear Hlf
            rintro e w8 ⟨rfl, hw8⟩
            have r8 := r5.drawn hw8
            have b8 := below_drawn b5 hw8
            clear r5 b5 hw8
            go_wp2
            go_roundw
            case rel => exact ⟨k + 1, p, by omega, by go_num, rfl, r8, b8⟩
            case measure => simp [intOf]; omega
        · obtain ⟨m, rfl⟩ := Int.eq_ofNat_of_zero_le (show 0 ≤ n by omega)
          have hd : decide ((0 : Int) ≤ (m : Int)) = true := by simp
          have hd2 : decide (m ≤ s.size) = true := by simp; omega
          have Hsk := Lib.hid (seek_any _ _ s p r5 m (by omega))
          go_wp2_with fail
          refine Hsk.out.mono ?_
          clear Hsk
          rintro e w6 ⟨rfl, r6, g6⟩
          have b6 : Below w.heap.size w w6 := b5.grown g6 b5.size (fun q hq => by simp at hq; omega)
          have on6 := g6.cell on5 (by simp; omega)
          clear r5 b5 g6 on5
          have hat := at_any _ _ s m r6
          have hlf := left_any _ _ s m r6
          rw [show ((s.size - m : Nat) : Int) = (s.size : Int) - (m : Int) from by have := r6.le; omega] at hlf
          have Hat := Lib.hid hat
          have Hlf := Lib.hid hlf
          have hple := r6.le
          clear hat hlf
          go_wp2_with fail
          refine Hat.out.mono ?_
          clear Hat
          rintro e w8 ⟨rfl, rfl⟩
          go_wp2_with fail
          refine Hlf.out.mono ?_
          clear Hlf
          rintro e w8 ⟨rfl, hw8⟩
          have r8 := r6.drawn hw8
          have b8 := below_drawn b6 hw8
          clear r6 b6 hw8
          go_wp2
          go_roundw
          case rel => exact ⟨k + 1, m, by omega, by go_num, rfl, r8, b8⟩
          case measure => simp [intOf]; omega
      · subst hkd
        have r5 := R5.out 4
        have b5 := B5.out 4
        clear R5 B5 On1
        have q1 := fun q => agree_any _ _ s p (r5.drewN q) tx (by unfold maxLen; omega)
        have q2 := fun W => ragree_any W s p hpl tx (by omega) (by omega)
        have H1 := Lib.hid q1
        have H2 := Lib.hid q2
        clear q1 q2
        go_wp2_with fail
        go_quiet (first | (go_at_call 15; exact Calls.quiet_of (H1.out _)) | (go_at_call 16; exact Calls.quiet_of (H2.out _)))
        clear H1 H2
        have r6 := r5.drewN nq
        have b6 := below_drawn b5 ⟨nq, rfl⟩
        clear r5 b5
        have hat := at_any _ _ s p r6
        have hlf := left_any _ _ s p r6
        rw [show ((s.size - p : Nat) : Int) = (s.size : Int) - (p : Int) from by have := r6.le; omega] at hlf
        have Hat := Lib.hid hat
        have Hlf := Lib.hid hlf
        have hple := r6.le
        clear hat hlf
        go_wp2_with fail
        refine Hat.out.mono ?_
        clear Hat
        rintro e w8 ⟨rfl, rfl⟩
        go_wp2_with fail
        refine Hlf.out.mono ?_
        clear Hlf
        rintro e w8 ⟨rfl, hw8⟩
        have r8 := r6.drawn hw8
        have b8 := below_drawn b6 hw8
        clear r6 b6 hw8
        go_wp2
        go_roundw
        case rel => exact ⟨k + 1, p, by omega, by go_num, rfl, r8, b8⟩
        case measure => simp [intOf]; omega
      · subst hkd
        have r5 := R5.out 5
        have b5 := B5.out 5
        clear R5 B5 On1
        have q1 := fun q => find_any _ _ s p (r5.drewN q) tx (by omega) (Hm.out.below (below_drawn b5 ⟨q, rfl⟩))
        have q2 := fun W => rfind_any W s p hpl tx (by omega) (by omega)
        have H1 := Lib.hid q1
        have H2 := Lib.hid q2
        clear q1 q2
        go_wp2_with fail
        go_quiet (first | (go_at_call 17; exact Calls.quiet_of (H1.out _)) | (go_at_call 18; exact Calls.quiet_of (H2.out _)))
        clear H1 H2
        have r6 := r5.drewN nq
        have b6 := below_drawn b5 ⟨nq, rfl⟩
        clear r5 b5
        have hat := at_any _ _ s p r6
        have hlf := left_any _ _ s p r6
        rw [show ((s.size - p : Nat) : Int) = (s.size : Int) - (p : Int) from by have := r6.le; omega] at hlf
        have Hat := Lib.hid hat
        have Hlf := Lib.hid hlf
        have hple := r6.le
        clear hat hlf
        go_wp2_with fail
        refine Hat.out.mono ?_
        clear Hat
        rintro e w8 ⟨rfl, rfl⟩
        go_wp2_with fail
        refine Hlf.out.mono ?_
        clear Hlf
        rintro e w8 ⟨rfl, hw8⟩
        have r8 := r6.drawn hw8
        have b8 := below_drawn b6 hw8
        clear r6 b6 hw8
        go_wp2
        go_roundw
        case rel => exact ⟨k + 1, p, by omega, by go_num, rfl, r8, b8⟩
        case measure => simp [intOf]; omega
      · obtain ⟨k1, k2, k3, k4, k5⟩ := hkd
        have e1 : (kd == 1) = false := beq_eq_false_iff_ne.2 k1
        have e2 : (kd == 2) = false := beq_eq_false_iff_ne.2 k2
        have e3 : (kd == 3) = false := beq_eq_false_iff_ne.2 k3
        have e4 : (kd == 4) = false := beq_eq_false_iff_ne.2 k4
        have e5 : (kd == 5) = false := beq_eq_false_iff_ne.2 k5
        have r5 := R5.out kd
        have b5 := B5.out kd
        clear R5 B5 On1 k1 k2 k3 k4 k5
        have hat := at_any _ _ s p r5
        have hlf := left_any _ _ s p r5
        rw [show ((s.size - p : Nat) : Int) = (s.size : Int) - (p : Int) from by have := r5.le; omega] at hlf
        have Hat := Lib.hid hat
        have Hlf := Lib.hid hlf
        have hple := r5.le
        clear hat hlf
        go_wp2_with fail
        refine Hat.out.mono ?_
        clear Hat
        rintro e w8 ⟨rfl, rfl⟩
        go_wp2_with fail
        refine Hlf.out.mono ?_
        clear Hlf
        rintro e w8 ⟨rfl, hw8⟩
        have r8 := r5.drawn hw8
        have b8 := below_drawn b5 hw8
        clear r5 b5 hw8
        go_wp2
        go_roundw
        case rel => exact ⟨k + 1, p, by omega, by go_num, rfl, r8, b8⟩
        case measure => simp [intOf]; omega
    · go_wp2
      go_ret
      exact ⟨rfl, b4⟩

theorem walk {w : World} (s : ByteArray) (hs : s.size ≤ maxLen) (ao : Option Addr) (len cap : Nat) (f : Nat → Int × Int × ByteArray) (h0 : SeenOps w ao len cap f ∧ True) (hl : len * 32 ≤ 140737488351232) (hm : HasLen w) :
    Calls Try.prog 3 #[.string s, .slice ao len cap] w fun e w' => e = .returned (.bool true) ∧ Below w.heap.size w w' := by
  by_cases h : 1000 < s.size ∨ 2000 < len + tot f len
  · exact walk_long s hs ao len cap f hl w h0.1 hm h
  · exact walk_short s (by omega) ao len cap f (by omega) (by omega) w h0.1 hm (by simpa using h)

theorem own : ownKnob Try.prog.godebug = none := by kernel_rfl
theorem laidOut : laidOutB Try.prog = true := by kernel_rfl

set_option maxRecDepth 100000 in
theorem lifted (os : Os) (started : os.Started) (H : Type) (enc : TypeId × Value → H) :
    ReturnsInHanded {} Try.checked os 3 .any (Rows.cursorReadsSpec.pre6 enc Try.prog Try.f3 Rows.cursorReadsRow.domain false) (Rows.cursorReadsSpec.post enc Try.prog Try.f3 false true false false) := by
  refine returnsInHanded_of_change_shaped (C := Try.checked) own started (by kernel_rfl) Try.func3
    (ChangeSpec.witness6 (enc := enc) (C := Try.checked) false ⟨#[], #[.string ByteArray.empty, .slice none 0 0], []⟩ 8 (by kernel_rfl) (by kernel_rfl) (by kernel_rfl) (by kernel_rfl)) ?_
  intro W base args ds gs before hval0 hW hcnd hsz0 hsh _
  have hval : ∀ (j : Nat) t v, Try.f3.params[j]? = some t → args[j]? = some v → Value.okWide Try.prog W .any base t v := hval0
  have hsz : (DataW.weightsEach Try.prog (Try.f3.params.toList ++ Rows.cursorReadsSpec.plain.varTypes Try.prog) (ds ++ gs)).all (· ≤ reachBytes) = true := hsz0
  have hW' := hW
  obtain ⟨p, q, hA0, hV, rfl, hfz, hnd⟩ := hW
  have hA : DataW.TrodAll enc Try.prog W 0 (fun _ => true) true Try.f3.params.toList args.toList ds p := hA0
  rw [Try.params3] at hA hval hsz
  obtain ⟨v0, vs0, d0, ds0, p0, q0, hargs, rfl, rfl, h0, r0⟩ := trodAll_cons hA
  obtain ⟨v1, vs1, d1, ds1, p1, q1, rfl, rfl, rfl, h1, r1⟩ := trodAll_cons r0
  obtain ⟨rfl, rfl, rfl⟩ := trodAll_nil r1
  obtain rfl : args = #[v0, v1] := by cases args; simp_all
  obtain ⟨rfl, rfl⟩ := trodVars_none hV
  have k0 := h0
  have lt0 : ∀ x ∈ p0, x.block < W.heap.size := by obtain ⟨m, hm⟩ := k0; exact DataW.trod_lt m _ _ _ hm
  have k1 := h1
  have lt1 : ∀ x ∈ p1, x.block < W.heap.size := by obtain ⟨m, hm⟩ := k1; exact DataW.trod_lt m _ _ _ hm
  obtain ⟨a0, rfl, rfl, rfl, w0⟩ := open_string Try.underlying9 (hval 0 9 v0 rfl rfl) h0
  obtain ⟨a1, len1, cap1, rfl⟩ := okWide_slice Try.underlying22 (hval 1 22 v1 rfl rfl)
  obtain ⟨z1, w1⟩ := open_ops h1
  have sz1 : len1 * 32 ≤ 140737488351232 := by
    rcases w1.2.2 with h | ⟨el, sp, hd, hl⟩
    · omega
    · rw [hd] at hsz
      have hq := sized_slice hsz (j := 1) (t := 22) (e := 28) rfl rfl Try.underlying22
      rw [show Try.prog.bytesOf 28 = 32 from by kernel_rfl] at hq
      simp only [reachBytes] at hq
      omega
  clear hA0 hval0
  refine (walk a0 w0 a1 len1 cap1 z1 ⟨w1.1, w1.2.1⟩ sz1 (hasLen W hsh)).mono fun e W' ⟨he, bel⟩ => ?_
  subst he
  exact ⟨_, rfl, _, _, _, [], _, [], hW', trodAll_mk1 (shut_bool Try.underlying4 _), (trodAll_cons_mk (Below.trod laidOut (by kernel_rfl) (of_decide_eq_true (by kernel_rfl)) k0 bel lt0) (trodAll_cons_mk (Below.trod laidOut (by kernel_rfl) (of_decide_eq_true (by kernel_rfl)) k1 bel lt1) trodAll_mk0)), rfl, bel.frame _, fun h => by cases h⟩

theorem over : Rows.cursorReadsRow.holds Try.pinned (OpenSpec.ofChange Rows.cursorReadsSpec) :=
  OpenClaim.holds_of_wide 3 Try.f3 rfl rfl rfl rfl rfl rfl rfl ⟨rfl, rfl, rfl, rfl, rfl⟩ rfl rfl rfl rfl rfl (by kernel_rfl) Try.func3 (by kernel_rfl)
    (of_decide_eq_true (by kernel_rfl)) (by unfold Func.isWrapper; first | (rw [if_pos (by decide +kernel)]; kernel_rfl) | (rw [if_neg (by decide +kernel)]; exact ⟨rfl, rfl⟩))
    (fun os started H enc _ => lifted os started H enc)

theorem proved : Rows.CursorReadsSaid :=
  over
#print axioms proved
end Go.Proofs.Yteiaefbednafcaa.cursorReads
