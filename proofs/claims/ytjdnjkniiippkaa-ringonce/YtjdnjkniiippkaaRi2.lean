/-
  What takes, oldest and drop of package ring do, and New. Over this seat's translation.
-/
import Derived.Test.YtjdnjkniiippkaaRi1
namespace Go.Proofs.Ytjdnjkniiippkaa
open Go.RowKit
set_option linter.unusedVariables false

/-- Can a frame of n bytes be held? -/
def RSt.takes (s : RSt) (n : Nat) : Bool := if s.pol = 1 then decide (n + s.rest ≤ s.cap) else decide (n + s.used ≤ s.cap)

set_option maxHeartbeats 400000 in
theorem rg_takes {w : World} {b : Nat} {v : Value} {s : RSt} (h : RingAt w b v s) (ok : s.Ok) (n : Nat) (hn : n ≤ 179) :
    Calls Try.prog 21 #[.pointer (some ⟨b, 0, none⟩), .int .i64 n] w fun e w' => e = .returned (.bool (s.takes n)) ∧ ∃ q, w' = w.drewN q := by
  obtain ⟨c0, c1, c2, c3, c4, c5⟩ := h.c
  have k1 := ok.c1
  have k2 := ok.c2
  have ku := ok.u
  have kr : s.rest ≤ s.used := by have := s.used_parts; omega
  have hrest : ∀ q, Calls Try.prog 29 #[.pointer (some ⟨b, 0, none⟩)] (w.drewN q) fun e w' => e = .returned (.int .i64 s.rest) ∧ w' = w.drewN q := fun q => (rg_rest (w := w.drewN q) (h.drewN q) ok).mono fun e w' h => ⟨h.1, h.2.symm⟩
  have HR := Lib.hid hrest
  have hT : s.takes n = if s.pol = 1 then decide (n + s.rest ≤ s.cap) else decide (n + s.used ≤ s.cap) := rfl
  generalize s.rest = rest at *
  generalize s.used = used at *
  generalize s.takes n = T at *
  rcases ok.p with hp | hp
  · rw [hp] at c1 hT
    simp at hT
    clear hrest HR ok h
    go_enter Try.func21, Try.ntmps21
    go_wp2
    go_quiet (fail)
    go_wp2
    go_ret
    refine ⟨?_, _, rfl⟩
    rw [hT]
    congr 2
    simp; omega
  · rw [hp] at c1 hT
    simp at hT
    clear hrest ok h
    go_enter Try.func21, Try.ntmps21
    go_wp2
    go_quiet (first | (go_at_call 29; exact Calls.quiet_of_same (HR.out _)))
    go_wp2
    go_ret
    refine ⟨?_, _, rfl⟩
    rw [hT]
    congr 2
    simp; omega

set_option maxHeartbeats 400000 in
theorem rg_new (w : World) (cap pol : Int) (h1 : 179 ≤ cap) (h2 : cap ≤ 1048576) (hp : pol = 0 ∨ pol = 1) :
    Calls Try.prog 8 #[.int .i64 cap, .int .i64 pol] w fun e w' => e = .returned (.tuple #[.pointer (some ⟨w.heap.size, 0, none⟩), .int .i64 0]) ∧
      w' = w.alloc (.cells #[.int .i64 cap, .int .i64 pol, .slice none 0 0, .int .i64 0, .bool false, .int .u64 0] 46) := by
  rcases hp with rfl | rfl
  · go_enter Try.func8, Try.ntmps8
    go_wp2
    go_ret2
    exact ⟨rfl, rfl⟩
  · go_enter Try.func8, Try.ntmps8
    go_wp2
    go_ret2
    exact ⟨rfl, rfl⟩

set_option maxHeartbeats 400000 in
theorem rg_new_bad (w : World) (cap pol : Int) (h : cap < 179 ∨ 1048576 < cap ∨ (pol ≠ 0 ∧ pol ≠ 1)) :
    Calls Try.prog 8 #[.int .i64 cap, .int .i64 pol] w fun e w' => e = .returned (.tuple #[.pointer none, .int .i64 1]) ∧ w = w' := by
  by_cases h1 : cap < 179
  · clear h
    go_enter Try.func8, Try.ntmps8
    go_wp2
    go_ret2
    exact ⟨rfl, rfl⟩
  · by_cases h2 : 1048576 < cap
    · clear h
      go_enter Try.func8, Try.ntmps8
      go_wp2
      go_ret2
      exact ⟨rfl, rfl⟩
    · obtain ⟨h3, h4⟩ : pol ≠ 0 ∧ pol ≠ 1 := by omega
      have e3 : (pol != 0) = true := by simpa using h3
      have e4 : (pol != 1) = true := by simpa using h4
      clear h
      go_enter Try.func8, Try.ntmps8
      go_wp2
      go_ret2
      exact ⟨rfl, rfl⟩

theorem ring_new (w : World) (cap pol : Nat) : RingAt (w.alloc (.cells #[.int .i64 cap, .int .i64 pol, .slice none 0 0, .int .i64 0, .bool false, .int .u64 0] 46)) w.heap.size (.slice none 0 0) ⟨cap, pol, [], false, 0, []⟩ :=
  ⟨heap_alloc_new w _, Txts.nil _, by simp [Value.ownBlock]⟩
theorem ok_new (cap pol : Nat) (h1 : 179 ≤ cap) (h2 : cap ≤ 1048576) (hp : pol = 0 ∨ pol = 1) : (⟨cap, pol, [], false, 0, []⟩ : RSt).Ok :=
  ⟨h1, h2, hp, Nat.zero_le _, by simp, by simp⟩

set_option maxHeartbeats 1000000 in
theorem rg_oldest {w : World} {b : Nat} {v : Value} {s : RSt} (h : RingAt w b v s) (ok : s.Ok) (n : Nat) (hn : n ≤ 179) :
    Calls Try.prog 30 #[.pointer (some ⟨b, 0, none⟩), .int .i64 n] w fun e w' => e = .returned (.tuple #[.int .i64 (s.shed n), .int .i64 (sz (s.tail.take (s.shed n)))]) ∧ ∃ q, w' = w.drewN q := by
  obtain ⟨c0, c1, c2, c3, c4, c5⟩ := h.c
  have k1 := ok.c1
  have k2 := ok.c2
  have ku := ok.u
  have hrow := h.row
  have hfirst : s.first = if s.begun then 1 else 0 := rfl
  have htail : s.tail = s.fs.drop s.first := rfl
  have hsum := s.used_parts
  have hsh : s.shed n = shed s.cap s.used n 0 s.tail := rfl
  have hlen := len_le_sz s.fs ok.e
  have hlu : sz s.fs = s.used := rfl
  obtain ⟨ao, cap, rfl, hc⟩ := hrow.shape
  have Hrow := Lib.hid hrow
  have Htail := Lib.hid htail
  have Hsh := Lib.hid hsh
  have Hsum := Lib.hid hsum
  have Hfirst := Lib.hid hfirst
  clear h hrow htail hsh hfirst hsum
  generalize hM : s.fs.length = M at *
  go_enter Try.func30, Try.ntmps30
  go_wp2_with fail
  go_step3
  go_wp2_with fail
  go_step3
  go_wp2_with fail
  go_loopw [4, 5, 13] (fun cnt size i wr => ∃ k c z q : Nat, k ≤ M ∧ i = .int .i64 k ∧ cnt = .int .i64 c ∧ size = .int .i64 z ∧ wr = w.drewN q ∧
    c ≤ k ∧ z = sz (s.tail.take c) ∧ c + shed s.cap s.used n z (s.tail.drop c) = s.shed n ∧ (k = c + s.first ∨ (k = 0 ∧ c = 0))) (fun _ _ i _ => M - (intOf i).toNat)
  case atStart => exact ⟨0, 0, 0, 0, Nat.zero_le _, rfl, rfl, rfl, rfl, Nat.le_refl _, rfl, by rw [Hsh.out]; simp, .inr ⟨rfl, rfl⟩⟩
  case round =>
    obtain ⟨k, c, z, q, hk, rfl, rfl, rfl, rfl, hck, hz, hsc, hkc⟩ := hrel
    have hzu : z ≤ s.used := by have h1 := sz_take_drop s.tail c; have h2 := Hsum.out; omega
    have Hz := Lib.hid hz
    have Hsc := Lib.hid hsc
    clear hz hsc
    have HM := Lib.hid hM
    clear hM
    by_cases hlt : k < M
    · obtain ⟨g, off, cap', hv, -, -, hcell, -⟩ := Hrow.out.at k (by rw [HM.out]; exact hlt)
      simp only [Value.slice.injEq] at hv
      obtain ⟨rfl, -, rfl⟩ := hv
      have hget : s.fs[k]? = some (s.fs[k]'(by rw [HM.out]; exact hlt)) := List.getElem?_eq_getElem _
      generalize s.fs[k]'(by rw [HM.out]; exact hlt) = f at hget
      have d0 := hcell k f hget
      have Hget := Lib.hid hget
      clear hcell hget
      by_cases hfit : n + s.used ≤ s.cap + z
      · have hd : decide ((n : Int) ≤ (s.cap : Int) - (s.used : Int) + (z : Int)) = true := by simp; omega
        have hfin : c = s.shed n := by have := Hsc.out; rw [shed_zero hfit] at this; omega
        have hfz : z = sz (s.tail.take (s.shed n)) := by rw [← hfin]; exact Hz.out
        have Hfz := Lib.hid hfz
        have Hfin := Lib.hid hfin
        clear hfz hfin hkc
        go_wp2_with fail
        go_quiet (fail)
        go_wp2
        (try rw [Exit.noGoto_ret])
        go_ret2
        refine ⟨by rw [← Hfz.out, ← Hfin.out]; rfl, _, World.drewN_drewN _ _ _⟩
      · have hd : decide ((n : Int) ≤ (s.cap : Int) - (s.used : Int) + (z : Int)) = false := by simp; omega
        by_cases hk0 : k = 0 ∧ s.begun = true
        · obtain ⟨hk1, hbg⟩ := hk0
          rw [hbg] at c4
          have hf1 : s.first = 1 := by rw [Hfirst.out, hbg]; rfl
          have he : ((k : Int) == 0) = true := by rw [hk1]; rfl
          have Hk := Lib.hid (show k + 1 ≤ M ∧ c ≤ k + 1 ∧ k + 1 = c + s.first by omega)
          clear hk1 hf1 hkc hbg
          go_wp2_with fail
          go_quiet (fail)
          go_wp2
          go_roundw
          case rel => exact ⟨k + 1, c, z, _, Hk.out.1, by go_num, rfl, rfl, rfl, Hk.out.2.1, Hz.out, Hsc.out, .inl Hk.out.2.2⟩
          case measure => simp [intOf]; omega
        · have hkc' : k = c + s.first := by
            rcases hkc with h | ⟨h1, h2⟩
            · exact h
            · have : s.begun = false := by
                cases hb : s.begun with
                | false => rfl
                | true => exact absurd ⟨h1, hb⟩ hk0
              have := Hfirst.out
              simp [*] at this
              omega
          have hdrop : s.tail.drop c = f :: s.tail.drop (c + 1) := by
            have h1 := Hget.out
            rw [Htail.out]
            rw [List.drop_drop, List.drop_drop, show s.first + c = k by omega, show s.first + (c + 1) = k + 1 by omega]
            obtain ⟨h2, h3⟩ := List.getElem?_eq_some_iff.1 h1
            rw [← h3]
            exact List.drop_eq_getElem_cons h2
          have htake : sz (s.tail.take (c + 1)) = sz (s.tail.take c) + f.size := by
            have h1 := sz_take_drop s.tail c
            have h2 := sz_take_drop s.tail (c + 1)
            rw [hdrop] at h1
            simp only [sz] at h1
            omega
          have hsc' : c + 1 + shed s.cap s.used n (z + f.size) (s.tail.drop (c + 1)) = s.shed n := by
            have := Hsc.out
            rw [hdrop, shed_cons hfit] at this
            omega
          have hfs : f.size ≤ s.used := by have h1 := sz_take_drop s.tail (c + 1); have h2 := Hsum.out; omega
          have Hz' := Lib.hid (show z + f.size = sz (s.tail.take (c + 1)) by rw [htake, ← Hz.out])
          have Hsc' := Lib.hid hsc'
          have Hk := Lib.hid (show k + 1 ≤ M ∧ c + 1 ≤ k + 1 ∧ k + 1 = c + 1 + s.first by omega)
          have hdk : k = 0 ∨ k ≠ 0 := by omega
          clear hdrop htake hsc' hkc hkc'
          rcases hdk with hk1 | hdk
          · have hbf : s.begun = false := by
              cases hb : s.begun with
              | false => rfl
              | true => exact absurd ⟨hk1, hb⟩ hk0
            rw [hbf] at c4
            have he : ((k : Int) == 0) = true := by rw [hk1]; rfl
            clear hk0 hk1 hbf
            go_wp2_with fail
            go_quiet (fail)
            go_wp2
            go_roundw
            case rel => exact ⟨k + 1, c + 1, z + f.size, _, Hk.out.1, by go_num, by go_num, by go_num, rfl, Hk.out.2.1, Hz'.out, Hsc'.out, .inl Hk.out.2.2⟩
            case measure => simp [intOf]; omega
          · have he : ((k : Int) == 0) = false := by simp; omega
            clear hk0
            go_wp2_with fail
            go_quiet (fail)
            go_wp2
            go_roundw
            case rel => exact ⟨k + 1, c + 1, z + f.size, _, Hk.out.1, by go_num, by go_num, by go_num, rfl, Hk.out.2.1, Hz'.out, Hsc'.out, .inl Hk.out.2.2⟩
            case measure => simp [intOf]; omega
    · have hfin : c = s.shed n := by
        have h1 := Hsc.out
        have : s.tail.drop c = [] := by
          refine List.drop_eq_nil_of_le ?_
          rw [Htail.out, List.length_drop, HM.out]
          omega
        rw [this] at h1
        simp [shed] at h1
        omega
      have hkM : k = M := by omega
      subst hkM
      have hfz : z = sz (s.tail.take (s.shed n)) := by rw [← hfin]; exact Hz.out
      have Hfz := Lib.hid hfz
      have Hfin := Lib.hid hfin
      clear hfz hfin hkc
      go_wp2
      (try rw [Exit.noGoto_ret])
      go_ret2
      refine ⟨by rw [← Hfz.out, ← Hfin.out]; rfl, _, rfl⟩

end Go.Proofs.Ytjdnjkniiippkaa
