/-
  CrcParts is true for every input: how bytes are parted plays no part, nor which table is taken; with its sum behind any text holds. No condition.
-/
import Derived.Test.YtencmjkenhnhgaaCrcRel
import Derived.ProofKit
import Derived.OpenShut
import Derived.ShutString
import Derived.HandedShaped
namespace Go.Proofs.Ytencmjkenhnhgaa.crcParts
open Go.ChangeShapes Go.WideShapes Go.ChangeAt Go.RowKit
open Go.ChangeMaps (open_string shut_string)
set_option linter.unusedVariables false

theorem Seen.below {w w' : World} {ao : Option Addr} {len cap : Nat} {f : Nat → Value} (h : Seen w ao len cap f) (hb : Below w.heap.size w w') : Seen w' ao len cap f :=
  ⟨h.mx, h.lc, fun i hi => by
    obtain ⟨b, off, e, hlt, hc⟩ := h.row i hi
    exact ⟨b, off, e, Nat.lt_of_lt_of_le hlt hb.size, fun j hj => by rw [hb.cell (by exact hlt)]; exact hc j hj⟩⟩

/-- What the lengths come to, each counted up to 65536. -/
def weight (ss : List ByteArray) : Nat → Nat
  | 0 => 0
  | k + 1 => weight ss k + min (ss.getD k ByteArray.empty).size 65536
theorem weight_le (ss : List ByteArray) (k : Nat) : weight ss k ≤ 65536 * k := by
  induction k with
  | zero => simp [weight]
  | succ k ih => rw [weight]; omega
theorem weight_mono (ss : List ByteArray) {j k : Nat} (h : j ≤ k) : weight ss j ≤ weight ss k := by
  induction k with
  | zero => obtain rfl : j = 0 := by omega
            exact Nat.le_refl _
  | succ k ih =>
    by_cases e : j = k + 1
    · rw [e]; exact Nat.le_refl _
    · have := ih (by omega)
      rw [weight]; omega
theorem catL_length (ss : List ByteArray) (k : Nat) (h : weight ss k ≤ 2000) : (catL ss k).length = weight ss k := by
  induction k with
  | zero => rfl
  | succ k ih =>
    rw [weight] at h
    rw [catL, weight, List.length_append, ih (by omega)]
    have e : (ss.getD k ByteArray.empty).data.toList.length = (ss.getD k ByteArray.empty).size := by simp
    rw [e]; omega

set_option maxRecDepth 100000 in
set_option maxHeartbeats 2000000 in
theorem walk_any (ao : Option Addr) (len cap : Nat) (ss : List ByteArray) (w : World) (hs : Seen w ao len cap (fun i => .string (ss.getD i ByteArray.empty))) (hmx : ∀ i, (ss.getD i ByteArray.empty).size ≤ maxLen) (hsz : len * 16 ≤ 140737488351232) :
    Calls Try.prog 4 #[.slice ao len cap] w fun e w' => e = .returned (.bool true) ∧ Below w.heap.size w w' := by
  have Hs := Lib.hid hs
  have Hmx := Lib.hid hmx
  clear hs hmx
  go_enter Try.func4, Try.ntmps4
  go_wp2_with fail
  go_loopw [3, 15] (fun n i wr => ∃ k : Nat, n = .int .i64 ((len + weight ss k : Nat) : Int) ∧ i = .int .i64 k ∧ k ≤ len ∧ w = wr) (fun _ i _ => len - (intOf i).toNat)
  case atStart => exact ⟨0, rfl, rfl, Nat.zero_le _, rfl⟩
  case round =>
    obtain ⟨k, rfl, rfl, hk, rfl⟩ := hrel
    have hwk := weight_le ss k
    by_cases h : k < len
    · obtain ⟨g, off, rfl, hg, hcell⟩ := Hs.out.row k h
      have hc := hcell k h
      obtain ⟨s, hs⟩ : ∃ s, s = ss.getD k ByteArray.empty := ⟨_, rfl⟩
      rw [← hs] at hc
      have hss : s.size < 9223372036854775808 := by rw [hs]; exact Nat.lt_of_le_of_lt (Hmx.out k) (by decide)
      obtain ⟨W, hW⟩ : ∃ W, W = len + weight ss k := ⟨_, rfl⟩
      have hWb : W ≤ 9000000000000000000 := by omega
      obtain ⟨m, hm⟩ : ∃ m : Nat, m = min s.size 65536 := ⟨_, rfl⟩
      have hmi : min (s.size : Int) 65536 = (m : Int) := by omega
      have hm' : m ≤ 65536 := by omega
      have HN := Lib.hid (show W + m = len + weight ss (k + 1) from by rw [hW, weight, ← hs, hm, Nat.add_assoc])
      rw [← hW]
      have HW := Lib.hid hW
      clear hcell hs hW hm hwk
      go_wp2_with fail
      go_roundw
      case rel => exact ⟨k + 1, by rw [← HN.out]; go_num, by go_num, by omega, trivial⟩
      case measure => simp [intOf]; omega
    · obtain rfl : len = k := by omega
      obtain ⟨W, hW⟩ : ∃ W, W = len + weight ss len := ⟨_, rfl⟩
      rw [← hW]
      by_cases hbig : 2000 < W
      · have hd : decide (2000 < (W : Int)) = true := by simp; omega
        clear hW hwk
        go_wp2_with fail
        refine (awake3_any _).mono ?_
        rintro e w1 ⟨rfl, b1⟩
        go_wp2_with fail
        refine (awake3_any _).mono ?_
        rintro e w2 ⟨rfl, b2⟩
        go_wp2
        go_ret
        exact ⟨rfl, b1.trans (b2.mono b1.size)⟩
      · have hd : decide (2000 < (W : Int)) = false := by simp; omega
        have hall := catL_length ss len (by omega)
        have hall2 : (catL ss len).length ≤ 2000 := by omega
        have hlens : ∀ k, k ≤ len → (catL ss k).length ≤ 2000 := fun k hk => by
          have h1 := weight_mono ss hk
          rw [catL_length ss k (by omega)]
          omega
        have Hlen := Lib.hid hlens
        clear hlens
        have hlen : len ≤ 2000 := by omega
        have HW := Lib.hid hW
        clear hW hwk hbig hall hall2
        go_wp2_with fail
        refine (awake3_any _).mono ?_
        rintro e w1 ⟨rfl, b1⟩
        have B1 := Lib.hid b1
        clear b1
        go_wp2_with fail
        refine (make_any _).mono ?_
        rintro e w2 ⟨rfl, t2, b2⟩
        have T2 := Lib.hid t2
        have B2 := Lib.hid (B1.out.trans (b2.mono B1.out.size))
        have S2 := Lib.hid (Seen.below Hs.out B2.out)
        clear t2 b2
        generalize w1.heap.size = t at *
        go_wp2_with fail
        go_loopw [7, 35] (fun v i wr => ∃ (X : ByteArray) (k : Nat), v = .string X ∧ i = .int .i64 k ∧ k ≤ len ∧ X.data.toList = catL ss k ∧ w2 = wr) (fun _ i _ => len - (intOf i).toNat)
        case atStart => exact ⟨⟨#[]⟩, 0, rfl, rfl, Nat.zero_le _, rfl, rfl⟩
        case round =>
          obtain ⟨X, k, rfl, rfl, hk, hX, rfl⟩ := hrel
          have hXs : X.size ≤ 2000 := by
            have := Hlen.out k hk
            rw [← hX] at this
            simpa using this
          by_cases hkl : k < len
          · obtain ⟨g, off, rfl, hg, hcell⟩ := S2.out.row k hkl
            have hc := hcell k hkl
            obtain ⟨s, hs⟩ : ∃ s, s = ss.getD k ByteArray.empty := ⟨_, rfl⟩
            rw [← hs] at hc
            have HX := Lib.hid (show (X ++ s).data.toList = catL ss (k + 1) from by rw [catL, ← hX, ← hs]; simp [ByteArray.data_append])
            have hss : (X ++ s).size ≤ 2000 := by
              have := Hlen.out (k + 1) hkl
              rw [← HX.out] at this
              simpa using this
            rw [ByteArray.size_append] at hss
            clear hcell hs hX
            go_wp2_with fail
            go_roundw
            case rel => exact ⟨X ++ s, k + 1, rfl, by go_num, by omega, HX.out, trivial⟩
            case measure => simp [intOf]; omega
          · obtain rfl : len = k := by omega
            have hXm : X.size ≤ maxLen := by unfold maxLen; omega
            obtain ⟨S, hS⟩ : ∃ S, S = sumL (catL ss len) := ⟨_, rfl⟩
            have hSl : S < 4294967296 := by rw [hS]; exact sumL_lt _
            have HSl := Lib.hid hSl
            have Hsum := Lib.hid (sum_any w2 t T2.out ao len cap ss S2.out Hmx.out)
            rw [← hS] at Hsum
            have Hone := Lib.hid (fun (w' : World) (b : Nat) (ht : TabK w' b 256) => sum_one w' b ht X hXm)
            rw [hX, ← hS] at Hone
            have Hbytes := Lib.hid (bytes_any S hSl)
            have Hrbytes := Lib.hid (rbytes_any S hSl)
            obtain ⟨D, hD⟩ : ∃ D : ByteArray, D = ⟨(bytesL S).toArray⟩ := ⟨_, rfl⟩
            rw [← hD] at Hbytes Hrbytes
            have hDs : D.size = 4 := by rw [hD]; rfl
            have hwhole : holdsB (X ++ D).data.toList = true := by
              rw [holdsB_iff, show (X ++ D).data.toList = catL ss len ++ bytesL (sumL (catL ss len)) from by rw [← hS, ← hX, hD]; simp [ByteArray.data_append]]
              exact holdsL_whole _
            have hho : ∀ (w' : World) (b : Nat), TabK w' b 256 → Calls Try.prog 14 #[.pointer (some ⟨b, 0, none⟩), .string (X ++ D)] w' fun e w2 => e = .returned (.bool true) ∧ Below w'.heap.size w' w2 := by
              intro w' b ht
              have := holds_any w' b ht (X ++ D) (by rw [ByteArray.size_append, hDs]; unfold maxLen; omega)
              rw [hwhole] at this
              exact this
            have Hho := Lib.hid hho
            have hDle : D.size ≤ 4 := by omega
            clear hho hwhole hDs hD hS hX hXm hSl
            go_wp2_with fail
            refine Hsum.out.mono ?_
            rintro e w3 ⟨rfl, n3, rfl⟩
            have T3 := Lib.hid (show TabK (w2.drewN n3) t 256 from T2.out)
            have B3 := Lib.hid (below_drewN B2.out n3)
            generalize w2.drewN n3 = w3 at *
            go_wp2_with fail
            refine (make_any _).mono ?_
            rintro e w4 ⟨rfl, t4, b4⟩
            have Q4 := Lib.hid t4
            have T4 := Lib.hid (T3.out.below b4 T3.out.lt)
            have B4 := Lib.hid (B3.out.trans (b4.mono B3.out.size))
            clear t4 b4
            go_wp2_with fail
            refine (Hone.out _ _ Q4.out).mono ?_
            rintro e w5 ⟨rfl, b5⟩
            have T5 := Lib.hid (T4.out.below b5 T4.out.lt)
            have B5 := Lib.hid (B4.out.trans (b5.mono B4.out.size))
            clear b5
            go_wp2_with fail
            refine (Hbytes.out _).mono ?_
            rintro e w6 ⟨rfl, b6⟩
            have T6 := Lib.hid (T5.out.below b6 T5.out.lt)
            have B6 := Lib.hid (B5.out.trans (b6.mono B5.out.size))
            clear b6
            go_wp2_with fail
            refine (Hrbytes.out _).mono ?_
            rintro e w7 ⟨rfl, b7⟩
            have T7 := Lib.hid (T6.out.below b7 T6.out.lt)
            have B7 := Lib.hid (B6.out.trans (b7.mono B6.out.size))
            clear b7
            go_wp2_with fail
            refine (Hbytes.out _).mono ?_
            rintro e w8 ⟨rfl, b8⟩
            have T8 := Lib.hid (T7.out.below b8 T7.out.lt)
            have B8 := Lib.hid (B7.out.trans (b8.mono B7.out.size))
            clear b8
            go_wp2_with fail
            refine (Hho.out _ _ T8.out).mono ?_
            rintro e w9 ⟨rfl, b9⟩
            have B9 := Lib.hid (B8.out.trans (b9.mono B8.out.size))
            clear b9
            go_wp2
            go_ret
            exact ⟨rfl, B9.out⟩

theorem walk {w : World} (ao : Option Addr) (len cap : Nat) (ss : List ByteArray) (hs : Seen w ao len cap (fun i => .string (ss.getD i ByteArray.empty)) ∧ ∀ s ∈ ss, s.size ≤ maxLen) (hsz : len * 16 ≤ 140737488351232) :
    Calls Try.prog 4 #[.slice ao len cap] w fun e w' => e = .returned (.bool true) ∧ Below w.heap.size w w' :=
  walk_any ao len cap ss w hs.1 (fun i => by
    rw [List.getD_eq_getElem?_getD]
    cases h : ss[i]? with
    | none => simp [ByteArray.size]
    | some x => exact hs.2 x (List.mem_of_getElem? h)) hsz

theorem own : ownKnob Try.prog.godebug = none := by kernel_rfl
theorem laidOut : laidOutB Try.prog = true := by kernel_rfl

set_option maxRecDepth 100000 in
theorem lifted (os : Os) (started : os.Started) (H : Type) (enc : TypeId × Value → H) :
    ReturnsInHanded {} Try.checked os 4 .any (Rows.crcPartsSpec.pre6 enc Try.prog Try.f4 Rows.crcPartsRow.domain false) (Rows.crcPartsSpec.post enc Try.prog Try.f4 false true false false) := by
  refine returnsInHanded_of_change_shaped (C := Try.checked) own started (by kernel_rfl) Try.func4
    (ChangeSpec.witness6 (enc := enc) (C := Try.checked) false ⟨#[], #[.slice none 0 0], []⟩ 8 (by kernel_rfl) (by kernel_rfl) (by kernel_rfl) (by kernel_rfl)) ?_
  intro W base args ds gs before hval0 hW hcnd hsz0 hsh _
  have hval : ∀ (j : Nat) t v, Try.f4.params[j]? = some t → args[j]? = some v → Value.okWide Try.prog W .any base t v := hval0
  have hsz : (DataW.weightsEach Try.prog (Try.f4.params.toList ++ Rows.crcPartsSpec.plain.varTypes Try.prog) (ds ++ gs)).all (· ≤ reachBytes) = true := hsz0
  have hW' := hW
  obtain ⟨p, q, hA0, hV, rfl, hfz, hnd⟩ := hW
  have hA : DataW.TrodAll enc Try.prog W 0 (fun _ => true) true Try.f4.params.toList args.toList ds p := hA0
  rw [Try.params4] at hA hval hsz
  obtain ⟨v0, vs0, d0, ds0, p0, q0, hargs, rfl, rfl, h0, r0⟩ := trodAll_cons hA
  obtain ⟨rfl, rfl, rfl⟩ := trodAll_nil r0
  obtain rfl : args = #[v0] := by cases args; simp_all
  obtain ⟨rfl, rfl⟩ := trodVars_none hV
  have k0 := h0
  have lt0 : ∀ x ∈ p0, x.block < W.heap.size := by obtain ⟨m, hm⟩ := k0; exact DataW.trod_lt m _ _ _ hm
  obtain ⟨a0, len0, cap0, rfl⟩ := okWide_slice Try.underlying31 (hval 0 31 v0 rfl rfl)
  obtain ⟨z0, w0⟩ := open_strs h0
  have sz0 : len0 * 16 ≤ 140737488351232 := by
    rcases w0.2.2 with h | ⟨el, sp, hd, hl⟩
    · omega
    · rw [hd] at hsz
      have hq := sized_slice hsz (j := 0) (t := 31) (e := 9) rfl rfl Try.underlying31
      rw [show Try.prog.bytesOf 9 = 16 from by kernel_rfl] at hq
      simp only [reachBytes] at hq
      omega
  clear hA0 hval0
  refine (walk a0 len0 cap0 z0 ⟨w0.1, w0.2.1⟩ sz0).mono fun e W' ⟨he, bel⟩ => ?_
  subst he
  exact ⟨_, rfl, _, _, _, [], _, [], hW', trodAll_mk1 (shut_bool Try.underlying4 _), (trodAll_cons_mk (Below.trod laidOut (by kernel_rfl) (of_decide_eq_true (by kernel_rfl)) k0 bel lt0) trodAll_mk0), rfl, bel.frame _, fun h => by cases h⟩

theorem over : Rows.crcPartsRow.holds Try.pinned (OpenSpec.ofChange Rows.crcPartsSpec) :=
  OpenClaim.holds_of_wide 4 Try.f4 rfl rfl rfl rfl rfl rfl rfl ⟨rfl, rfl, rfl, rfl, rfl⟩ rfl rfl rfl rfl rfl (by kernel_rfl) Try.func4 (by kernel_rfl)
    (of_decide_eq_true (by kernel_rfl)) (by unfold Func.isWrapper; first | (rw [if_pos (by decide +kernel)]; kernel_rfl) | (rw [if_neg (by decide +kernel)]; exact ⟨rfl, rfl⟩))
    (fun os started H enc _ => lifted os started H enc)

theorem proved : Rows.CrcPartsSaid :=
  over
#print axioms proved
end Go.Proofs.Ytencmjkenhnhgaa.crcParts
