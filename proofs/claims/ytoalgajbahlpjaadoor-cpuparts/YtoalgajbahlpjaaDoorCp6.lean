/-
  What Run of package cpu does to a context of one's own. Conditions: the table's cells (IsL).
-/
import Derived.Test.YtoalgajbahlpjaaDoorCp5
namespace Go.Proofs.YtoalgajbahlpjaaDoor
open Go Go.RowKit
set_option linter.unusedVariables false
set_option linter.unusedSimpArgs false

set_option maxRecDepth 100000 in
theorem crun_nil (v : Value) (most : Int) (w : World) :
    Calls Tryd.prog 14 #[.pointer none, v, .int .i64 most] w fun e w' => e = .returned (.tuple #[.int .i64 0, .int .i64 16]) ∧ w = w' := by
  go_enter Tryd.func14, Tryd.ntmps14
  go_wp2_with fail
  go_ret2
  exact ⟨rfl, rfl⟩

theorem getD_at {l : List Ins} {p : Nat} (h : p < l.length) : l.getD p ins0 = l[p] := by rw [List.getD_eq_getElem?_getD, List.getElem?_eq_getElem h]; rfl

theorem SeenI.onlyS {w w1 : World} {ao : Option Addr} {cap : Nat} {l : List Ins} {S : Nat → Prop} (h : SeenI w ao cap l) (ho : Only w w1 S) (hS : ∀ a, ao = some a → l ≠ [] → ¬ S a.block) : SeenI w1 ao cap l := by
  refine ⟨h.mx, h.lc, h.nn, fun i hi => ?_⟩
  obtain ⟨b, off, h1, h2, h3⟩ := h.row i hi
  have hne : l ≠ [] := fun e => by rw [e] at hi; simp at hi
  exact ⟨b, off, h1, Nat.lt_of_lt_of_le h2 ho.size, fun j hj => (h3 j hj).same (ho.block b h2 (hS _ h1 hne))⟩

/-- As far as k steps of m: what is still to come. -/
def Came (code : List Ins) (m k : Nat) (x y : Ctx) : Prop := k ≤ m ∧ runE code m x = (k + (runE code (m - k) y).1, (runE code (m - k) y).2)
theorem came_start (code : List Ins) (m : Nat) (x : Ctx) : Came code m 0 x x := ⟨Nat.zero_le _, by simp⟩
theorem Came.out {code : List Ins} {m k : Nat} {x y : Ctx} (h : Came code m k x y) (hc : k = m ∨ ¬ (0 ≤ y.pl ∧ y.pl < (code.length : Int))) : runE code m x = (k, y, 0) := by
  rw [h.2]
  rcases hc with rfl | hc
  · rw [Nat.sub_self]; rfl
  · cases hq : m - k with
    | zero => rfl
    | succ n => simp only [runE, if_neg hc, Nat.add_zero]
theorem Came.bad {code : List Ins} {m k : Nat} {x y : Ctx} (h : Came code m k x y) (hk : k < m) (h1 : 0 ≤ y.pl) (h2 : y.pl < (code.length : Int)) (he : doE y (code.getD y.pl.toNat ins0) ≠ 0) : runE code m x = (k, y, doE y (code.getD y.pl.toNat ins0)) := by
  rw [h.2]
  cases hq : m - k with
  | zero => omega
  | succ n => simp only [runE, if_pos (show 0 ≤ y.pl ∧ y.pl < (code.length : Int) from ⟨h1, h2⟩), if_neg he, Nat.add_zero]
theorem Came.next {code : List Ins} {m k : Nat} {x y : Ctx} (h : Came code m k x y) (hk : k < m) (h1 : 0 ≤ y.pl) (h2 : y.pl < (code.length : Int)) (he : doE y (code.getD y.pl.toNat ins0) = 0) : Came code m (k + 1) x (doC y (code.getD y.pl.toNat ins0)) := by
  refine ⟨hk, ?_⟩
  rw [h.2]
  cases hq : m - k with
  | zero => omega
  | succ n =>
    obtain rfl : n = m - (k + 1) := by omega
    simp only [runE, if_pos (show 0 ≤ y.pl ∧ y.pl < (code.length : Int) from ⟨h1, h2⟩), if_pos he]
    rw [Nat.add_assoc, Nat.add_comm 1]

set_option maxRecDepth 100000 in
set_option maxHeartbeats 4000000 in
theorem crun_any (code : List Ins) (aoc : Option Addr) (capc : Nat) (most : Int) (w : World) (hL : IsL w) (B b cap : Nat) (ao : Option Addr) (x : Ctx) (h : Cx w B b ao cap x)
    (hB : 0 < B) (hmo : most ≤ 9223372036854775807) (hs : SeenI w aoc capc code) (hc : ∀ a, aoc = some a → code ≠ [] → ¬ cxS b ao a.block) (hf : ∀ i ∈ code, InsFits i) :
    Calls Tryd.prog 14 #[.pointer (some ⟨b, 0, none⟩), .slice aoc code.length capc, .int .i64 most] w fun e w' =>
      e = .returned (.tuple #[.int .i64 ((runE code most.toNat x).1 : Nat), .int .i64 (runE code most.toNat x).2.2]) ∧ Cx w' B b ao cap (runE code most.toNat x).2.1 ∧ Only w w' (cxS b ao) := by
  have HL := Lib.hid hL
  have HX := Lib.hid h
  have HS := Lib.hid hs
  have HC := Lib.hid hc
  have HF := Lib.hid hf
  have hmx := hs.mx
  unfold maxLen at hmx
  obtain ⟨m, hm⟩ : ∃ m, most.toNat = m := ⟨_, rfl⟩
  rw [hm]
  have HM := Lib.hid hm
  clear hL h hs hc hf hm
  go_enter Tryd.func14, Tryd.ntmps14
  go_wp2_with fail
  go_loopw [8] (fun v wr => ∃ (k : Nat) (y : Ctx), v = .int .i64 k ∧ Hid (Came code m k x y) ∧ Hid (Cx wr B b ao cap y) ∧ Hid (Only w wr (cxS b ao))) (fun v _ => m - (intOf v).toNat)
  case atStart => exact ⟨0, x, rfl, Lib.hid (came_start _ _ _), HX, Lib.hid (Only.refl _ _)⟩
  case round =>
    obtain ⟨k, y, rfl, CM, CX, CO⟩ := hrel
    have hkm := CM.out.1
    obtain ⟨xp, -, -⟩ := CX.out.at
    by_cases hlt : k < m
    case neg =>
      have hd : decide ((k : Int) < most) = false := by have := HM.out; simp; omega
      have R := CM.out.out (.inl (by omega))
      have HR := Lib.hid R
      clear hlt xp R hkm
      go_wp2_with fail
      go_ret2
      rw [HR.out]
      exact ⟨rfl, CX.out, CO.out⟩
    have hd : (k : Int) < most := by have := HM.out; omega
    obtain ⟨pl, hpl⟩ : ∃ pl, y.pl = pl := ⟨_, rfl⟩
    have HPL := Lib.hid hpl
    rw [hpl] at xp
    have HLT := Lib.hid hlt
    clear hkm hpl hlt
    by_cases h0 : 0 ≤ pl
    case neg =>
      have hd0 : decide (0 ≤ pl) = false := by simp; omega
      have HR := Lib.hid (CM.out.out (.inr (by rw [HPL.out]; omega)))
      clear h0
      go_wp2_with fail
      go_ret2
      rw [HR.out]
      exact ⟨rfl, CX.out, CO.out⟩
    by_cases h1 : pl < (code.length : Int)
    case neg =>
      have hd1 : decide (pl < (code.length : Int)) = false := by simp; omega
      have HR := Lib.hid (CM.out.out (.inr (by rw [HPL.out]; omega)))
      clear h1
      go_wp2_with fail
      go_ret2
      rw [HR.out]
      exact ⟨rfl, CX.out, CO.out⟩
    obtain ⟨p, rfl⟩ : ∃ p : Nat, pl = (p : Int) := ⟨pl.toNat, by omega⟩
    have hp : p < code.length := by omega
    have hw : Below B w wr := HX.out.belowB CO.out
    obtain ⟨g, off, rfl, -, ai⟩ := (HS.out.onlyS CO.out HC.out).at p hp
    obtain ⟨c0, c1, c2, c3, c4, c5⟩ := ai
    have HI : code.getD y.pl.toNat ins0 = code[p] := by rw [HPL.out, Int.toNat_natCast]; exact getD_at hp
    have HI := Lib.hid HI
    have hk : code[p].k < 4294967296 := (HF.out _ (List.getElem_mem hp)).k
    have HD := Lib.hid (cdo_any code[p] hk wr (HL.out.belowB hw hB) B b cap ao y CX.out)
    have P0 := Lib.hid h0
    have P1 := Lib.hid h1
    have hdv := HI.out
    obtain ⟨e, he⟩ : ∃ e, doE y code[p] = e := ⟨_, rfl⟩
    rw [he] at HD
    have HE := Lib.hid he
    clear hw hk hdv he
    generalize hI : code[p] = I at *
    clear hI
    obtain ⟨op, a, b', c', d, q⟩ := I
    unfold insV at HD
    simp only at *
    by_cases h9 : e = 0
    · subst h9
      go_wp2_with fail
      refine HD.out.mono ?_
      rintro r w2 ⟨rfl, h2, h3⟩
      have NX := Lib.hid (CM.out.next HLT.out (by rw [HPL.out]; exact P0.out) (by rw [HPL.out]; exact P1.out) (by rw [HI.out]; exact HE.out))
      have X2 := Lib.hid h2
      have O2 := Lib.hid (CO.out.trans h3 (fun _ _ h => h))
      clear h2 h3 c0 c1 c2 c3 c4 c5 xp
      go_wp2_with fail
      go_roundw
      case rel => exact ⟨k + 1, _, by go_num, NX, by rw [HI.out]; exact X2, O2⟩
      case measure => have := HLT.out; simp [intOf]; omega
    · have h9' : (e != 0) = true := by simp [h9]
      have HR := Lib.hid (CM.out.bad HLT.out (by rw [HPL.out]; exact P0.out) (by rw [HPL.out]; exact P1.out) (by rw [HI.out, HE.out]; exact h9))
      have HB := Lib.hid (show doC y ⟨op, a, b', c', d, q⟩ = y from doC_bad (by rw [HE.out]; exact h9))
      go_wp2_with fail
      refine HD.out.mono ?_
      rintro r w2 ⟨rfl, h2, h3⟩
      have X2 := Lib.hid h2
      have O2 := Lib.hid (CO.out.trans h3 (fun _ _ h => h))
      clear h2 h3 c0 c1 c2 c3 c4 c5 xp h9
      go_wp2_with fail
      (try simp only [Exit.inBlock, Exit.then])
      go_ret2
      rw [HR.out]
      have X3 := X2.out
      rw [HB.out] at X3
      rw [HI.out, HE.out]
      exact ⟨rfl, X3, O2.out⟩

end Go.Proofs.YtoalgajbahlpjaaDoor
