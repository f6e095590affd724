/-
  The mathematics of listing, over lists of bytes: the words and the line of an instruction, which instruction a line is, the text of a program, which program a text is; and that each leads back. No condition.
-/
import Derived.Test.YtlnlfeninjjkmaaDoorIs0
import Derived.Test.YtlnlfeninjjkmaaDoorEv0
namespace Go.Proofs.YtlnlfeninjjkmaaDoor
open Go
set_option linter.unusedVariables false
set_option linter.unusedSimpArgs false

/-- A register's word; a mode's. -/
def regW (n : Nat) : List UInt8 := 114 :: Lib.decDigits n
def modeW (d : Nat) : List UInt8 := if d = 0 then [119, 97, 105, 116] else if d = 1 then [116, 114, 121] else [116, 105, 109, 101, 100]
/-- Which register, which mode a word is. -/
def regN : List UInt8 → Option Nat
  | [c, d] => if c = 114 ∧ 48 ≤ d.toNat ∧ d.toNat < 56 then some (d.toNat - 48) else none
  | _ => none
def modeN (l : List UInt8) : Option Nat := if l = modeW 0 then some 0 else if l = modeW 1 then some 1 else if l = modeW 2 then some 2 else none

theorem regW_small {n : Nat} (h : n < 8) : regW n = [114, UInt8.ofNat (48 + n)] := by
  unfold regW
  rw [Lib.decDigits_one (by omega)]
theorem regN_iff (l : List UInt8) (n : Nat) : regN l = some n ↔ l = regW n ∧ n < 8 := by
  constructor
  · intro h
    unfold regN at h
    split at h
    · rename_i c d
      split at h
      · rename_i hc
        obtain ⟨rfl, h1, h2⟩ := hc
        cases h
        refine ⟨?_, by omega⟩
        rw [regW_small (by omega), show 48 + (d.toNat - 48) = d.toNat by omega, UInt8.ofNat_toNat]
      · cases h
    · cases h
  · rintro ⟨rfl, h⟩
    rw [regW_small h]
    have e := ofNat_dig n (by omega)
    unfold regN
    simp only [e]
    rw [if_pos ⟨by trivial, by omega, by omega⟩]
    congr 1
    omega
theorem regN_nil : regN [] = none := rfl
theorem modeN_iff (l : List UInt8) (n : Nat) : modeN l = some n ↔ l = modeW n ∧ n < 3 := by
  constructor
  · intro h
    unfold modeN at h
    split at h
    · cases h; exact ⟨by assumption, by omega⟩
    · split at h
      · cases h; exact ⟨by assumption, by omega⟩
      · split at h
        · cases h; exact ⟨by assumption, by omega⟩
        · cases h
  · rintro ⟨rfl, h⟩
    have : n = 0 ∨ n = 1 ∨ n = 2 := by omega
    rcases this with rfl | rfl | rfl <;> decide +kernel
theorem modeN_nil : modeN [] = none := by decide +kernel
theorem num32_nil : numOk 32 [] = none := by decide +kernel

def optW (h : Bool) (x : List UInt8) : List (List UInt8) := if h then [x] else []
/-- The words of an instruction, and its line. -/
def wordsI (i : Ins) : List (List UInt8) := inameL i.op.toNat :: (optW (hasF 0 i.op) (regW i.a.toNat) ++ (optW (hasF 1 i.op) (regW i.b.toNat) ++ (optW (hasF 3 i.op) (modeW i.d.toNat) ++ (optW (cHas i.op i.d) (regW i.c.toNat) ++ optW (hasF 4 i.op) (Lib.decDigits i.k)))))
def lineL (i : Ins) : List UInt8 := unwords (wordsI i)

/-- A field that the words go on with; the instruction that words are. -/
def fieldO (has : Bool) (f : List UInt8 → Option Nat) (ws : List (List UInt8)) : Option (Nat × List (List UInt8)) :=
  if has then match ws with
    | [] => none
    | x :: t => match f x with
      | some n => some (n, t)
      | none => none
  else some (0, ws)
def readO (ws : List (List UInt8)) : Option Ins := match ws with
  | [] => none
  | x :: t => if opOf x = 0 then none else
    match fieldO (hasF 0 (opOf x)) regN t with
    | none => none
    | some (a, t1) => match fieldO (hasF 1 (opOf x)) regN t1 with
      | none => none
      | some (b, t2) => match fieldO (hasF 3 (opOf x)) modeN t2 with
        | none => none
        | some (d, t3) => match fieldO (cHas (opOf x) d) regN t3 with
          | none => none
          | some (c, t4) => match fieldO (hasF 4 (opOf x)) (numOk 32) t4 with
            | none => none
            | some (k, t5) => if t5 = [] then some ⟨opOf x, a, b, c, d, k⟩ else none

theorem fieldO_iff {f : List UInt8 → Option Nat} {g : Nat → List UInt8} {m : Nat} (hf : ∀ l n, f l = some n ↔ l = g n ∧ n < m) (has : Bool) (ws t : List (List UInt8)) (n : Nat) :
    fieldO has f ws = some (n, t) ↔ ws = optW has (g n) ++ t ∧ (has = true → n < m) ∧ (has = false → n = 0) := by
  unfold fieldO optW
  cases has with
  | false =>
    simp only [Bool.false_eq_true, if_false, Option.some.injEq, Prod.mk.injEq, List.nil_append, false_implies, true_and, forall_const]
    constructor
    · rintro ⟨rfl, rfl⟩; exact ⟨rfl, rfl⟩
    · rintro ⟨rfl, rfl⟩; exact ⟨rfl, rfl⟩
  | true =>
    simp only [if_true]
    cases ws with
    | nil => simp
    | cons x t' =>
      simp only [List.cons_append, List.nil_append, List.cons.injEq, forall_const]
      cases hx : f x with
      | none =>
        constructor
        · intro h; cases h
        · rintro ⟨⟨rfl, rfl⟩, h, _⟩
          have := (hf _ n).2 ⟨rfl, h⟩
          rw [hx] at this; cases this
      | some k =>
        have hk := (hf x k).1 hx
        constructor
        · intro h
          cases h
          exact ⟨⟨hk.1, rfl⟩, hk.2, by simp⟩
        · rintro ⟨⟨rfl, rfl⟩, h, _⟩
          have := (hf _ n).2 ⟨rfl, h⟩
          rw [hx] at this
          cases this
          rfl

/-- An instruction whose fields have a word each, and are 0 where it has none. -/
structure NormI (i : Ins) : Prop where
  op : opB i.op = true
  a : 0 ≤ i.a ∧ i.a < 8
  b : 0 ≤ i.b ∧ i.b < 8
  c : 0 ≤ i.c ∧ i.c < 8
  d : 0 ≤ i.d ∧ i.d < 3
  k : i.k < 4294967296
  a0 : hasF 0 i.op = false → i.a = 0
  b0 : hasF 1 i.op = false → i.b = 0
  c0 : cHas i.op i.d = false → i.c = 0
  d0 : hasF 3 i.op = false → i.d = 0
  k0 : hasF 4 i.op = false → i.k = 0

theorem num32_iff (l : List UInt8) (n : Nat) : numOk 32 l = some n ↔ l = Lib.decDigits n ∧ n < 4294967296 := num_iff 32 (by omega) l n

theorem readO_iff (ws : List (List UInt8)) (i : Ins) : readO ws = some i ↔ ws = wordsI i ∧ NormI i := by
  cases ws with
  | nil => simp [readO, wordsI]
  | cons x t =>
    constructor
    · intro h
      unfold readO at h
      simp only at h
      split at h
      · cases h
      · rename_i hop
        split at h
        · cases h
        · rename_i a t1 e1
          split at h
          · cases h
          · rename_i b t2 e2
            split at h
            · cases h
            · rename_i d t3 e3
              split at h
              · cases h
              · rename_i c t4 e4
                split at h
                · cases h
                · rename_i k t5 e5
                  split at h
                  · rename_i h5
                    cases h
                    subst h5
                    obtain ⟨r1, p1, q1⟩ := (fieldO_iff regN_iff _ _ _ _).1 e1
                    obtain ⟨r2, p2, q2⟩ := (fieldO_iff regN_iff _ _ _ _).1 e2
                    obtain ⟨r3, p3, q3⟩ := (fieldO_iff modeN_iff _ _ _ _).1 e3
                    obtain ⟨r4, p4, q4⟩ := (fieldO_iff regN_iff _ _ _ _).1 e4
                    obtain ⟨r5, p5, q5⟩ := (fieldO_iff num32_iff _ _ _ _).1 e5
                    have hn := opOf_name hop
                    have hle := opOf_le x
                    refine ⟨?_, ⟨opB_nat (by omega) hle, ?_, ?_, ?_, ?_, ?_, ?_, ?_, ?_, ?_, ?_⟩⟩
                    · unfold wordsI
                      simp only [Int.toNat_natCast]
                      rw [hn, r1, r2, r3, r4, r5, List.append_nil]
                    · simp only; cases hh : hasF 0 (opOf x : Int) with
                      | true => have := p1 hh; omega
                      | false => have := q1 hh; omega
                    · simp only; cases hh : hasF 1 (opOf x : Int) with
                      | true => have := p2 hh; omega
                      | false => have := q2 hh; omega
                    · simp only; cases hh : cHas (opOf x : Int) (d : Int) with
                      | true => have := p4 hh; omega
                      | false => have := q4 hh; omega
                    · simp only; cases hh : hasF 3 (opOf x : Int) with
                      | true => have := p3 hh; omega
                      | false => have := q3 hh; omega
                    · simp only; cases hh : hasF 4 (opOf x : Int) with
                      | true => have := p5 hh; omega
                      | false => have := q5 hh; omega
                    · exact fun hh => by rw [q1 hh]; rfl
                    · exact fun hh => by rw [q2 hh]; rfl
                    · exact fun hh => by rw [q4 hh]; rfl
                    · exact fun hh => by rw [q3 hh]; rfl
                    · exact fun hh => q5 hh
                  · cases h
    · rintro ⟨hw, f⟩
      obtain ⟨op, a, b, c, d, k⟩ := i
      obtain ⟨n, hn, n1, n2⟩ := op_nat f.op
      simp only at hn
      subst hn
      obtain ⟨a', ha⟩ : ∃ m : Nat, a = m := ⟨a.toNat, by have := f.a.1; simp only at this; omega⟩
      obtain ⟨b', hb⟩ : ∃ m : Nat, b = m := ⟨b.toNat, by have := f.b.1; simp only at this; omega⟩
      obtain ⟨c', hc⟩ : ∃ m : Nat, c = m := ⟨c.toNat, by have := f.c.1; simp only at this; omega⟩
      obtain ⟨d', hd⟩ : ∃ m : Nat, d = m := ⟨d.toNat, by have := f.d.1; simp only at this; omega⟩
      subst ha hb hc hd
      have fa := f.a; have fb := f.b; have fc := f.c; have fd := f.d; have fk := f.k
      have za := f.a0; have zb := f.b0; have zc := f.c0; have zd := f.d0; have zk := f.k0
      simp only at fa fb fc fd fk za zb zc zd zk
      unfold wordsI at hw
      simp only [Int.toNat_natCast, List.cons.injEq] at hw
      obtain ⟨hx, ht⟩ := hw
      have ho : opOf x = n := opOf_is n1 n2 hx.symm
      unfold readO
      simp only [ho]
      rw [if_neg (by omega)]
      rw [(fieldO_iff regN_iff (hasF 0 n) t _ a').2 ⟨ht, fun _ => by omega, fun hh => by have := za hh; omega⟩]
      simp only
      rw [(fieldO_iff regN_iff (hasF 1 n) _ _ b').2 ⟨rfl, fun _ => by omega, fun hh => by have := zb hh; omega⟩]
      simp only
      rw [(fieldO_iff modeN_iff (hasF 3 n) _ _ d').2 ⟨rfl, fun _ => by omega, fun hh => by have := zd hh; omega⟩]
      simp only
      rw [(fieldO_iff regN_iff (cHas n d') _ _ c').2 ⟨rfl, fun _ => by omega, fun hh => by have := zc hh; omega⟩]
      simp only
      rw [(fieldO_iff num32_iff (hasF 4 n) _ [] k).2 ⟨(List.append_nil _).symm, fun _ => by omega, fun hh => by have := zk hh; omega⟩]
      simp

/-! ### As the code reads: on and on, with a flag -/

def fieldR (has : Bool) (f : List UInt8 → Option Nat) (ws : List (List UInt8)) (ok : Bool) : Nat × List (List UInt8) × Bool :=
  if has then ((f (ws.headD [])).getD 0, ws.tail, ok && (f (ws.headD [])).isSome) else (0, ws, ok)
theorem fieldR_false (has : Bool) (f : List UInt8 → Option Nat) (ws : List (List UInt8)) : (fieldR has f ws false).2.2 = false := by
  unfold fieldR; split <;> simp
theorem fieldR_cases (has : Bool) (f : List UInt8 → Option Nat) (hf : f [] = none) (ws : List (List UInt8)) :
    (∃ n t, fieldO has f ws = some (n, t) ∧ fieldR has f ws true = (n, t, true)) ∨ (fieldO has f ws = none ∧ (fieldR has f ws true).2.2 = false) := by
  unfold fieldO fieldR
  cases has with
  | false => exact .inl ⟨0, ws, rfl, rfl⟩
  | true =>
    simp only [if_true]
    cases ws with
    | nil => exact .inr ⟨rfl, by simp [hf]⟩
    | cons x t =>
      cases hx : f x with
      | none => exact .inr ⟨by simp [hx], by simp [hx]⟩
      | some n => exact .inl ⟨n, t, by simp [hx], by simp [hx]⟩

def readI (ws : List (List UInt8)) : Ins × Bool := match ws with
  | [] => (ins0, false)
  | x :: t =>
    let op := opOf x
    let A := fieldR (hasF 0 op) regN t (decide (op ≠ 0))
    let B := fieldR (hasF 1 op) regN A.2.1 A.2.2
    let D := fieldR (hasF 3 op) modeN B.2.1 B.2.2
    let C := fieldR (cHas op D.1) regN D.2.1 D.2.2
    let K := fieldR (hasF 4 op) (numOk 32) C.2.1 C.2.2
    (⟨op, A.1, B.1, C.1, D.1, K.1⟩, K.2.2 && K.2.1.isEmpty)

theorem inames_ne (l : List UInt8) (h : opOf l ≠ 0) : l ≠ [] := by
  intro e
  have hn := opOf_name h
  have := inames_some ⟨opOf l - 1, by have := opOf_le l; omega⟩
  simp only [show opOf l - 1 + 1 = opOf l by omega] at this
  exact this (hn.trans e)

theorem readI_opt (ws : List (List UInt8)) : (readI ws).2 = true ∧ readO ws = some (readI ws).1 ∨ (readI ws).2 = false ∧ readO ws = none := by
  cases ws with
  | nil => exact .inr ⟨rfl, rfl⟩
  | cons x t =>
    unfold readI readO
    simp only
    have fl : ∀ (has : Bool) (f : List UInt8 → Option Nat) (P Q : Nat × List (List UInt8) × Bool), P.2.2 = false → fieldR has f P.2.1 P.2.2 = Q → Q.2.2 = false := fun has f P Q h e => by
      rw [h] at e; rw [← e]; exact fieldR_false _ _ _
    generalize hA : fieldR (hasF 0 (opOf x : Int)) regN t (decide (opOf x ≠ 0)) = A
    generalize hB : fieldR (hasF 1 (opOf x : Int)) regN A.2.1 A.2.2 = B
    generalize hD : fieldR (hasF 3 (opOf x : Int)) modeN B.2.1 B.2.2 = D
    generalize hC : fieldR (cHas (opOf x : Int) (D.1 : Int)) regN D.2.1 D.2.2 = C
    generalize hK : fieldR (hasF 4 (opOf x : Int)) (numOk 32) C.2.1 C.2.2 = K
    by_cases h0 : opOf x = 0
    · refine .inr ⟨?_, by rw [if_pos h0]⟩
      have : decide (opOf x ≠ 0) = false := by simp [h0]
      rw [this] at hA
      have qA : A.2.2 = false := by rw [← hA]; exact fieldR_false _ _ _
      rw [fl _ _ _ _ (fl _ _ _ _ (fl _ _ _ _ (fl _ _ _ _ qA hB) hD) hC) hK]
      rfl
    · rw [if_neg h0]
      have : decide (opOf x ≠ 0) = true := by simp [h0]
      rw [this] at hA
      rcases fieldR_cases (hasF 0 (opOf x)) regN regN_nil t with ⟨a, t1, e1, r1⟩ | ⟨e1, r1⟩
      · rw [e1]; rw [r1] at hA; subst hA; simp only at hB ⊢
        rcases fieldR_cases (hasF 1 (opOf x)) regN regN_nil t1 with ⟨b, t2, e2, r2⟩ | ⟨e2, r2⟩
        · rw [e2]; rw [r2] at hB; subst hB; simp only at hD ⊢
          rcases fieldR_cases (hasF 3 (opOf x)) modeN modeN_nil t2 with ⟨d, t3, e3, r3⟩ | ⟨e3, r3⟩
          · rw [e3]; rw [r3] at hD; subst hD; simp only at hC ⊢
            rcases fieldR_cases (cHas (opOf x) d) regN regN_nil t3 with ⟨c, t4, e4, r4⟩ | ⟨e4, r4⟩
            · rw [e4]; rw [r4] at hC; subst hC; simp only at hK ⊢
              rcases fieldR_cases (hasF 4 (opOf x)) (numOk 32) num32_nil t4 with ⟨k, t5, e5, r5⟩ | ⟨e5, r5⟩
              · rw [e5]; rw [r5] at hK; subst hK; simp only
                cases t5 with
                | nil => exact .inl ⟨rfl, rfl⟩
                | cons y t6 => exact .inr ⟨rfl, by simp⟩
              · rw [e5]; rw [← hK, r5]; exact .inr ⟨rfl, rfl⟩
            · rw [e4]; simp only
              have qC : C.2.2 = false := by rw [← hC, r4]
              rw [fl _ _ _ _ qC hK]; exact .inr ⟨rfl, trivial⟩
          · rw [e3]; simp only
            have qD : D.2.2 = false := by rw [← hD, r3]
            rw [fl _ _ _ _ (fl _ _ _ _ qD hC) hK]; exact .inr ⟨rfl, trivial⟩
        · rw [e2]; simp only
          have qB : B.2.2 = false := by rw [← hB, r2]
          rw [fl _ _ _ _ (fl _ _ _ _ (fl _ _ _ _ qB hD) hC) hK]; exact .inr ⟨rfl, trivial⟩
      · rw [e1]; simp only
        have qA : A.2.2 = false := by rw [← hA, r1]
        rw [fl _ _ _ _ (fl _ _ _ _ (fl _ _ _ _ (fl _ _ _ _ qA hB) hD) hC) hK]; exact .inr ⟨rfl, trivial⟩

/-! ### As the document reads: field by field, in their order -/

def setI (i : Ins) (c : UInt8) (n : Nat) : Ins := if c = 65 then { i with a := n } else if c = 66 then { i with b := n } else if c = 67 then { i with c := n } else if c = 68 then { i with d := n } else { i with k := n }
def fieldP (c : UInt8) (x : List UInt8) : Option Nat := if c = 68 then modeN x else if c = 75 then numOk 32 x else regN x
def goP (hD : Bool) : List UInt8 → List (List UInt8) → Ins → Option Ins
  | [], ws, i => if ws = [] then some i else none
  | c :: cs, ws, i => if (decide (c = 67) && (hD && decide (i.d ≠ 2))) = true then goP hD cs ws i else match ws with
    | [] => none
    | x :: t => match fieldP c x with
      | none => none
      | some n => goP hD cs t (setI i c n)
def oc (h : Bool) (c : UInt8) : List UInt8 := if h then [c] else []
def orderL (op : Int) : List UInt8 := oc (hasF 0 op) 65 ++ (oc (hasF 1 op) 66 ++ (oc (hasF 3 op) 68 ++ (oc (hasF 2 op) 67 ++ oc (hasF 4 op) 75)))
def readP (ws : List (List UInt8)) : Option Ins := match ws with
  | [] => none
  | x :: t => if opOf x = 0 then none else goP (hasF 3 (opOf x)) (orderL (opOf x)) t ⟨opOf x, 0, 0, 0, 0, 0⟩

theorem goP_step (hD h : Bool) (c : UInt8) (hc : c ≠ 67) (cs : List UInt8) (ws : List (List UInt8)) (i : Ins) :
    goP hD (oc h c ++ cs) ws i = match fieldO h (fieldP c) ws with | none => none | some (n, t) => goP hD cs t (if h then setI i c n else i) := by
  unfold oc fieldO
  cases h with
  | false => rfl
  | true =>
    simp only [if_true, List.cons_append, List.nil_append]
    rw [goP.eq_def]
    simp only
    rw [if_neg (by simp [hc])]
    cases ws with
    | nil => rfl
    | cons x t =>
      simp only
      cases fieldP c x <;> rfl
theorem goP_stepC (hD h : Bool) (cs : List UInt8) (ws : List (List UInt8)) (i : Ins) :
    goP hD (oc h 67 ++ cs) ws i = match fieldO (h && (!hD || decide (i.d = 2))) regN ws with | none => none | some (n, t) => goP hD cs t (if (h && (!hD || decide (i.d = 2))) then setI i 67 n else i) := by
  unfold oc fieldO
  cases h with
  | false => rfl
  | true =>
    simp only [if_true, List.cons_append, List.nil_append, Bool.true_and]
    rw [goP.eq_def]
    simp only
    by_cases hd : (!hD || decide (i.d = 2)) = true
    · rw [if_neg (by cases hD <;> simp_all), if_pos hd]
      cases ws with
      | nil => rfl
      | cons x t =>
        simp only [hd, if_true]
        have : fieldP 67 x = regN x := by simp [fieldP]
        rw [this]
        cases regN x <;> rfl
    · rw [if_pos (by cases hD <;> simp_all), if_neg hd]
      simp only [hd, Bool.false_eq_true, if_false]

theorem fieldO_zero {h : Bool} {f : List UInt8 → Option Nat} {ws t : List (List UInt8)} {n : Nat} (e : fieldO h f ws = some (n, t)) (hh : h = false) : n = 0 := by
  subst hh
  unfold fieldO at e
  simp only [Bool.false_eq_true, if_false, Option.some.injEq, Prod.mk.injEq] at e
  exact e.1.symm

theorem readP_is (ws : List (List UInt8)) : readP ws = readO ws := by
  cases ws with
  | nil => rfl
  | cons x t =>
    unfold readP readO
    simp only
    by_cases h0 : opOf x = 0
    · rw [if_pos h0, if_pos h0]
    · rw [if_neg h0, if_neg h0]
      unfold orderL
      rw [goP_step _ _ _ (by decide)]
      rw [show fieldP 65 = regN from funext fun l => by simp [fieldP]]
      cases e1 : fieldO (hasF 0 (opOf x)) regN t with
      | none => rfl
      | some p1 =>
        obtain ⟨a, t1⟩ := p1
        simp only
        rw [show (if hasF 0 (opOf x : Int) = true then setI ⟨opOf x, 0, 0, 0, 0, 0⟩ 65 a else ⟨opOf x, 0, 0, 0, 0, 0⟩) = (⟨opOf x, a, 0, 0, 0, 0⟩ : Ins) from by
          split
          · rfl
          · rename_i hq; rw [fieldO_zero e1 (by simpa using hq)]; rfl]
        rw [goP_step _ _ _ (by decide)]
        rw [show fieldP 66 = regN from funext fun l => by simp [fieldP]]
        cases e2 : fieldO (hasF 1 (opOf x)) regN t1 with
        | none => rfl
        | some p2 =>
          obtain ⟨b, t2⟩ := p2
          simp only
          rw [show (if hasF 1 (opOf x : Int) = true then setI ⟨opOf x, a, 0, 0, 0, 0⟩ 66 b else ⟨opOf x, a, 0, 0, 0, 0⟩) = (⟨opOf x, a, b, 0, 0, 0⟩ : Ins) from by
            split
            · rfl
            · rename_i hq; rw [fieldO_zero e2 (by simpa using hq)]; rfl]
          rw [goP_step _ _ _ (by decide)]
          rw [show fieldP 68 = modeN from funext fun l => by simp [fieldP]]
          cases e3 : fieldO (hasF 3 (opOf x)) modeN t2 with
          | none => rfl
          | some p3 =>
            obtain ⟨d, t3⟩ := p3
            simp only
            rw [show (if hasF 3 (opOf x : Int) = true then setI ⟨opOf x, a, b, 0, 0, 0⟩ 68 d else ⟨opOf x, a, b, 0, 0, 0⟩) = (⟨opOf x, a, b, 0, d, 0⟩ : Ins) from by
              split
              · rfl
              · rename_i hq; rw [fieldO_zero e3 (by simpa using hq)]; rfl]
            rw [goP_stepC]
            simp only
            rw [show (hasF 2 (opOf x : Int) && (!hasF 3 (opOf x : Int) || decide ((d : Int) = 2))) = cHas (opOf x) d from rfl]
            cases e4 : fieldO (cHas (opOf x) d) regN t3 with
            | none => rfl
            | some p4 =>
              obtain ⟨c, t4⟩ := p4
              simp only
              rw [show (if cHas (opOf x : Int) (d : Int) = true then setI ⟨opOf x, a, b, 0, d, 0⟩ 67 c else ⟨opOf x, a, b, 0, d, 0⟩) = (⟨opOf x, a, b, c, d, 0⟩ : Ins) from by
                split
                · rfl
                · rename_i hq; rw [fieldO_zero e4 (by simpa using hq)]; rfl]
              rw [← List.append_nil (oc (hasF 4 (opOf x : Int)) 75), goP_step _ _ _ (by decide)]
              rw [show fieldP 75 = numOk 32 from funext fun l => by simp [fieldP]]
              cases e5 : fieldO (hasF 4 (opOf x)) (numOk 32) t4 with
              | none => rfl
              | some p5 =>
                obtain ⟨k, t5⟩ := p5
                simp only
                rw [show (if hasF 4 (opOf x : Int) = true then setI ⟨opOf x, a, b, c, d, 0⟩ 75 k else ⟨opOf x, a, b, c, d, 0⟩) = (⟨opOf x, a, b, c, d, k⟩ : Ins) from by
                  split
                  · rfl
                  · rename_i hq; rw [fieldO_zero e5 (by simpa using hq)]]
                rw [goP]

/-! ### Lines -/

def parseO (o : Option Ins) : Ins × Int := match o with
  | none => (ins0, 3)
  | some i => if formI i = 0 then (i, 0) else (ins0, formI i)
/-- The instruction that a line is, and the error. -/
def parseI (l : List UInt8) : Ins × Int := parseO (readO (words l))

theorem parse_err {l : List UInt8} (h : (parseI l).2 ≠ 0) : (parseI l).1 = ins0 := by
  unfold parseI parseO at *
  split at h
  · rfl
  · split at h
    · exact absurd rfl h
    · rename_i hf; rw [if_neg hf]
theorem parse_errs (l : List UInt8) : (parseI l).2 = 0 ∨ (parseI l).2 = 3 ∨ (parseI l).2 = 5 ∨ (parseI l).2 = 14 := by
  unfold parseI parseO
  split
  · simp
  · split
    · simp
    · rename_i i _ _
      rcases form_two i with h | h | h <;> simp [h]

theorem form_norm {i : Ins} (h : formI i = 0) (hk : i.k < 4294967296) : NormI i := by
  obtain ⟨za, zb, zc, zd, zk⟩ := form_zero h
  have ho := form_op h
  unfold formI at h
  rw [ho] at h
  simp only [Bool.true_eq_false, if_false] at h
  split at h
  · cases h
  · rename_i h1
    split at h
    · cases h
    · rename_i h2
      simp only [Bool.not_eq_false, Bool.and_eq_true] at h1 h2
      obtain ⟨⟨wa, wb⟩, wc⟩ := h1
      obtain ⟨wd, wk⟩ := h2
      unfold within8 at wa wb wc wd
      simp only [Bool.or_eq_true, Bool.and_eq_true, decide_eq_true_eq] at wa wb wc wd
      refine ⟨ho, by omega, by omega, by omega, by omega, hk, za, zb, fun hc => ?_, zd, zk⟩
      rcases wc with h | h
      · exact h
      · rw [hc] at h; simp at h

theorem norm_fits {i : Ins} (h : NormI i) : InsFits i := by
  have ho := h.op
  simp only [opB, Bool.and_eq_true, decide_eq_true_eq] at ho
  have := h.a; have := h.b; have := h.c; have := h.d; have := h.k
  exact ⟨by omega, by omega, by omega, by omega, by omega, by omega, by omega, by omega, by omega, by omega, h.k⟩

/-- No blank and no line end stands in a word of an instruction. -/
theorem iname_plain : ∀ n : Fin 39, (32 : UInt8) ∉ inameL n.val ∧ (10 : UInt8) ∉ inameL n.val ∧ (inameL n.val).length ≤ 10 := by decide +kernel
theorem modeW_plain (n : Nat) : (32 : UInt8) ∉ modeW n ∧ (10 : UInt8) ∉ modeW n ∧ (modeW n).length ≤ 10 := by
  unfold modeW
  split
  · decide +kernel
  · split <;> decide +kernel
theorem dec_plain (n : Nat) : (32 : UInt8) ∉ Lib.decDigits n ∧ (10 : UInt8) ∉ Lib.decDigits n := by
  refine ⟨fun h => ?_, fun h => ?_⟩
  · have := (dec_dig n n (Nat.le_refl _)).1 _ h
    have e : (32 : UInt8).toNat = 32 := rfl
    omega
  · have := (dec_dig n n (Nat.le_refl _)).1 _ h
    have e : (10 : UInt8).toNat = 10 := rfl
    omega
theorem regW_plain (n : Nat) : (32 : UInt8) ∉ regW n ∧ (10 : UInt8) ∉ regW n := by
  obtain ⟨h1, h2⟩ := dec_plain n
  unfold regW
  refine ⟨fun h => ?_, fun h => ?_⟩
  · rcases List.mem_cons.1 h with h | h
    · exact absurd h (by decide)
    · exact h1 h
  · rcases List.mem_cons.1 h with h | h
    · exact absurd h (by decide)
    · exact h2 h
theorem ndig_le : ∀ (k u : Nat), u < 10 ^ (k + 1) → Lib.nDigits u ≤ k + 1
  | 0, u, h => by rw [Lib.nDigits_small (by omega)]; omega
  | k + 1, u, h => by
    by_cases h1 : u < 10
    · rw [Lib.nDigits_small h1]; omega
    · rw [Lib.nDigits_big h1]
      have := ndig_le k (u / 10) (by rw [Nat.pow_succ] at h; omega)
      omega
theorem dec32_len {n : Nat} (h : n < 4294967296) : (Lib.decDigits n).length ≤ 10 := by
  rw [Lib.decDigits_length]
  exact ndig_le 9 n (by omega)
theorem wordsI_plain {i : Ins} (h : NormI i) : ∀ w ∈ wordsI i, (32 : UInt8) ∉ w ∧ (10 : UInt8) ∉ w ∧ w.length ≤ 10 := by
  intro w hw
  have ho := h.op
  simp only [opB, Bool.and_eq_true, decide_eq_true_eq] at ho
  have hr : ∀ m : Int, 0 ≤ m ∧ m < 8 → (32 : UInt8) ∉ regW m.toNat ∧ (10 : UInt8) ∉ regW m.toNat ∧ (regW m.toNat).length ≤ 10 := fun m hm => by
    obtain ⟨p, q⟩ := regW_plain m.toNat
    exact ⟨p, q, by rw [regW_small (by omega)]; simp⟩
  have hopt : ∀ (hh : Bool) (x : List UInt8), w ∈ optW hh x → w = x := by
    intro hh x hx
    unfold optW at hx
    split at hx
    · simpa using hx
    · simp at hx
  unfold wordsI at hw
  rcases List.mem_cons.1 hw with rfl | hw
  · exact iname_plain ⟨i.op.toNat, by omega⟩
  rcases List.mem_append.1 hw with hw | hw
  · rw [hopt _ _ hw]; exact hr _ h.a
  rcases List.mem_append.1 hw with hw | hw
  · rw [hopt _ _ hw]; exact hr _ h.b
  rcases List.mem_append.1 hw with hw | hw
  · rw [hopt _ _ hw]; exact modeW_plain _
  rcases List.mem_append.1 hw with hw | hw
  · rw [hopt _ _ hw]; exact hr _ h.c
  · rw [hopt _ _ hw]
    obtain ⟨p, q⟩ := dec_plain i.k
    exact ⟨p, q, dec32_len h.k⟩
theorem optW_len (hh : Bool) (x : List UInt8) : (optW hh x).length ≤ 1 := by unfold optW; split <;> simp
theorem wordsI_len (i : Ins) : (wordsI i).length ≤ 6 := by
  unfold wordsI
  have := optW_len (hasF 0 i.op) (regW i.a.toNat)
  have := optW_len (hasF 1 i.op) (regW i.b.toNat)
  have := optW_len (hasF 3 i.op) (modeW i.d.toNat)
  have := optW_len (cHas i.op i.d) (regW i.c.toNat)
  have := optW_len (hasF 4 i.op) (Lib.decDigits i.k)
  simp only [List.length_cons, List.length_append]
  omega
theorem words_line {i : Ins} (h : NormI i) : words (lineL i) = wordsI i := words_unwords _ (by simp [wordsI]) (fun w hw => (wordsI_plain h w hw).1)

theorem parse_line {i : Ins} (h : formI i = 0) (hk : i.k < 4294967296) : parseI (lineL i) = (i, 0) := by
  have f := form_norm h hk
  unfold parseI
  rw [words_line f, (readO_iff _ i).2 ⟨rfl, f⟩]
  simp [parseO, h]
theorem line_parse {l : List UInt8} {i : Ins} (h : parseI l = (i, 0)) : lineL i = l ∧ formI i = 0 ∧ NormI i := by
  unfold parseI parseO at h
  split at h
  · cases h
  · rename_i j hj
    split at h
    · rename_i hf
      cases h
      obtain ⟨hw, f⟩ := (readO_iff _ i).1 hj
      refine ⟨?_, hf, f⟩
      unfold lineL
      rw [← hw, unwords_words]
    · rename_i hf
      simp only [Prod.mk.injEq] at h
      exact absurd h.2 hf

theorem unwords_mem {c : UInt8} (hc : c ≠ 32) : ∀ ws : List (List UInt8), c ∈ unwords ws → ∃ w ∈ ws, c ∈ w := by
  intro ws
  induction ws with
  | nil => intro h; simp [unwords] at h
  | cons x t ih =>
    intro h
    cases t with
    | nil => exact ⟨x, by simp, by simpa [unwords] using h⟩
    | cons y r =>
      have h' : c ∈ x ++ 32 :: unwords (y :: r) := h
      rcases List.mem_append.1 h' with h1 | h1
      · exact ⟨x, by simp, h1⟩
      · rcases List.mem_cons.1 h1 with h2 | h2
        · exact absurd h2 hc
        · obtain ⟨w, hw, hcw⟩ := ih h2
          exact ⟨w, List.mem_cons_of_mem _ hw, hcw⟩
theorem unwords_len (m : Nat) : ∀ ws : List (List UInt8), (∀ w ∈ ws, w.length ≤ m) → (unwords ws).length ≤ ws.length * (m + 1) := by
  intro ws
  induction ws with
  | nil => intro h; simp [unwords]
  | cons x t ih =>
    intro h
    have hx := h x (by simp)
    have h2 := ih (fun w hw => h w (List.mem_cons_of_mem _ hw))
    cases t with
    | nil => simp [unwords]; omega
    | cons y r =>
      have e : unwords (x :: y :: r) = x ++ 32 :: unwords (y :: r) := rfl
      rw [e, List.length_append, List.length_cons, List.length_cons, Nat.succ_mul]
      omega
theorem line_plain {i : Ins} (h : NormI i) : (10 : UInt8) ∉ lineL i := fun hc => by
  obtain ⟨w, hw, hcw⟩ := unwords_mem (by decide) _ hc
  exact (wordsI_plain h w hw).2.1 hcw
theorem line_len {i : Ins} (h : NormI i) : (lineL i).length ≤ 66 := by
  have := unwords_len 10 (wordsI i) (fun w hw => (wordsI_plain h w hw).2.2)
  have := wordsI_len i
  unfold lineL
  omega

/-! ### Texts -/

/-- The pieces of a text between line ends. -/
def lines : List UInt8 → List (List UInt8)
  | [] => [[]]
  | c :: r => if c = 10 then [] :: lines r else match lines r with
    | [] => [[c]]
    | x :: t => (c :: x) :: t
theorem lines_plain : ∀ l : List UInt8, (10 : UInt8) ∉ l → lines l = [l]
  | [], _ => rfl
  | c :: r, h => by
    have hc : c ≠ 10 := fun e => h (by simp [e])
    have ih := lines_plain r (fun e => h (List.mem_cons_of_mem _ e))
    unfold lines
    rw [if_neg hc, ih]
theorem lines_end : ∀ l r : List UInt8, (10 : UInt8) ∉ l → lines (l ++ 10 :: r) = l :: lines r
  | [], r, _ => by rw [List.nil_append, lines, if_pos rfl]
  | c :: l, r, h => by
    have hc : c ≠ 10 := fun e => h (by simp [e])
    have ih := lines_end l r (fun e => h (List.mem_cons_of_mem _ e))
    rw [List.cons_append, lines, if_neg hc, ih]
theorem lines_ne : ∀ l : List UInt8, lines l ≠ []
  | [] => by simp [lines]
  | c :: r => by
    unfold lines
    split
    · simp
    · split <;> simp
theorem first_end (s : UInt8) : ∀ l : List UInt8, s ∉ l ∨ ∃ a r, l = a ++ s :: r ∧ s ∉ a
  | [] => .inl (by simp)
  | c :: l => by
    by_cases hc : c = s
    · exact .inr ⟨[], l, by simp [hc], by simp⟩
    · rcases first_end s l with h | ⟨a, r, rfl, h⟩
      · exact .inl (by simp [h]; exact fun e => hc e.symm)
      · exact .inr ⟨c :: a, r, rfl, by simp [h]; exact fun e => hc e.symm⟩
/-- A text of which the pieces are just an empty one is empty. -/
theorem lines_nil {l : List UInt8} (h : lines l = [[]]) : l = [] := by
  cases l with
  | nil => rfl
  | cons c r =>
    unfold lines at h
    split at h
    · simp only [List.cons.injEq, true_and] at h
      exact absurd h (lines_ne r)
    · split at h <;> simp at h

def readG (acc : List Ins) : List (List UInt8) → List Ins × Nat × Int
  | [] => (acc, 0, 0)
  | p :: [] => if p = [] then (acc, 0, 0) else ([], acc.length + 1, if 256 ≤ acc.length then 4 else 3)
  | p :: q :: r => if 256 ≤ acc.length then ([], acc.length + 1, 4) else if (parseI p).2 ≠ 0 then ([], acc.length + 1, (parseI p).2) else readG (acc ++ [(parseI p).1]) (q :: r)
/-- The program that a text is, the line at which it is none, the error. -/
def readT (t : List UInt8) : List Ins × Nat × Int := readG [] (lines t)

def textL (code : List Ins) : List UInt8 := code.flatMap fun i => lineL i ++ [10]
theorem textL_cons (i : Ins) (code : List Ins) : textL (i :: code) = lineL i ++ 10 :: textL code := by
  unfold textL; rw [List.flatMap_cons, List.append_assoc]; rfl
theorem textL_app (a b : List Ins) : textL (a ++ b) = textL a ++ textL b := List.flatMap_append
def printG (acc : List UInt8) : List Ins → List UInt8 × Int
  | [] => (acc, 0)
  | i :: r => if formI i ≠ 0 then ([], formI i) else printG (acc ++ lineL i ++ [10]) r
/-- The text of a program, the error. -/
def printT (code : List Ins) : List UInt8 × Int := if 256 < code.length then ([], 4) else printG [] code

def FineI (i : Ins) : Prop := formI i = 0 ∧ i.k < 4294967296

theorem printG_ok : ∀ (code : List Ins) (acc t : List UInt8), printG acc code = (t, 0) → (∀ i ∈ code, formI i = 0) ∧ t = acc ++ textL code
  | [], acc, t, h => by
    simp only [printG, Prod.mk.injEq, and_true] at h
    exact ⟨by simp, by simp [textL, h]⟩
  | i :: r, acc, t, h => by
    unfold printG at h
    split at h
    · rename_i hf
      simp only [Prod.mk.injEq] at h
      exact absurd h.2 hf
    · rename_i hf
      have hf' : formI i = 0 := Decidable.byContradiction hf
      obtain ⟨h1, h2⟩ := printG_ok r _ t h
      refine ⟨fun j hj => ?_, ?_⟩
      · rcases List.mem_cons.1 hj with rfl | hj
        · exact hf'
        · exact h1 j hj
      · rw [h2, textL_cons]; simp
theorem printG_all : ∀ (code : List Ins) (acc : List UInt8), (∀ i ∈ code, formI i = 0) → printG acc code = (acc ++ textL code, 0)
  | [], acc, _ => by simp [printG, textL]
  | i :: r, acc, h => by
    unfold printG
    rw [if_neg (by simp [h i (by simp)]), printG_all r _ (fun j hj => h j (List.mem_cons_of_mem _ hj)), textL_cons]
    simp

/-- A program's text ahead of others. -/
theorem readG_text : ∀ (code acc : List Ins) (rest : List UInt8), (∀ i ∈ code, FineI i) → acc.length ≤ 256 →
    readG acc (lines (textL code ++ rest)) = if 256 < acc.length + code.length then ([], 257, 4) else readG (acc ++ code) (lines rest)
  | [], acc, rest, _, ha => by
    rw [if_neg (by simp; omega)]
    simp [textL]
  | i :: r, acc, rest, h, ha => by
    have hi := h i (by simp)
    have f := form_norm hi.1 hi.2
    have hp := parse_line hi.1 hi.2
    rw [textL_cons, show lineL i ++ 10 :: textL r ++ rest = lineL i ++ 10 :: (textL r ++ rest) by simp, lines_end _ _ (line_plain f)]
    obtain ⟨q, t, hq⟩ : ∃ q t, lines (textL r ++ rest) = q :: t := by
      cases hl : lines (textL r ++ rest) with
      | nil => exact absurd hl (lines_ne _)
      | cons q t => exact ⟨q, t, rfl⟩
    rw [hq, readG]
    by_cases hl : 256 ≤ acc.length
    · rw [if_pos hl, if_pos (by simp; omega), show acc.length = 256 by omega]
    · rw [if_neg hl, hp]
      simp only [ne_eq, not_true, if_false]
      rw [← hq, readG_text r (acc ++ [i]) rest (fun j hj => h j (List.mem_cons_of_mem _ hj)) (by simp; omega)]
      simp only [List.length_append, List.length_cons, List.length_nil, List.append_assoc, List.cons_append, List.nil_append]
      rw [show acc.length + (0 + 1) + r.length = acc.length + (r.length + 1) by omega]

theorem read_text (code : List Ins) (h : ∀ i ∈ code, FineI i) : readT (textL code) = if 256 < code.length then ([], 257, 4) else (code, 0, 0) := by
  have := readG_text code [] [] h (by simp)
  rw [List.append_nil] at this
  unfold readT
  rw [this]
  simp [lines, readG]

theorem readG_ok : ∀ (ps : List (List UInt8)) (acc z : List Ins) (at_ : Nat), acc.length ≤ 256 → ps ≠ [] → readG acc ps = (z, at_, 0) →
    ∃ code : List Ins, z = acc ++ code ∧ (∀ l, lines l = ps → l = textL code) ∧ (∀ i ∈ code, FineI i) ∧ z.length ≤ 256 ∧ at_ = 0
  | [], acc, z, at_, ha, hn, h => absurd rfl hn
  | [p], acc, z, at_, ha, hn, h => by
    unfold readG at h
    split at h
    · rename_i hp
      cases h
      exact ⟨[], by simp, fun l hl => by rw [hp] at hl; rw [lines_nil hl]; rfl, by simp, ha, rfl⟩
    · split at h <;> simp at h
  | p :: q :: r, acc, z, at_, ha, hn, h => by
    unfold readG at h
    split at h
    · simp at h
    · rename_i hl
      split at h
      · rename_i he
        simp only [Prod.mk.injEq] at h
        exact absurd h.2.2 he
      · rename_i he
        have he' : (parseI p).2 = 0 := Decidable.byContradiction he
        have hp : parseI p = ((parseI p).1, 0) := by rw [← he']
        obtain ⟨l1, l2, l3⟩ := line_parse hp
        obtain ⟨code, rfl, c2, c3, c4, c5⟩ := readG_ok (q :: r) (acc ++ [(parseI p).1]) z at_ (by simp; omega) (by simp) h
        refine ⟨(parseI p).1 :: code, by simp, fun l hll => ?_, fun i hi => ?_, c4, c5⟩
        · rcases first_end 10 l with hno | ⟨a, b, rfl, hno⟩
          · rw [lines_plain l hno] at hll; simp at hll
          · rw [lines_end a b hno] at hll
            simp only [List.cons.injEq] at hll
            obtain ⟨e1, e2⟩ := hll
            rw [textL_cons, l1, e1, ← c2 b e2]
        · rcases List.mem_cons.1 hi with rfl | hi
          · exact ⟨l2, l3.k⟩
          · exact c3 i hi

theorem read_ok {t : List UInt8} {code : List Ins} {at_ : Nat} (h : readT t = (code, at_, 0)) : t = textL code ∧ (∀ i ∈ code, FineI i) ∧ code.length ≤ 256 ∧ at_ = 0 := by
  obtain ⟨c, h1, h2, h3, h4, h5⟩ := readG_ok (lines t) [] code at_ (by simp) (lines_ne t) h
  simp only [List.nil_append] at h1
  subst h1
  exact ⟨h2 t rfl, h3, h4, h5⟩
theorem read_err : ∀ (ps : List (List UInt8)) (acc : List Ins), (readG acc ps).2.2 ≠ 0 → (readG acc ps).1 = []
  | [], acc, h => absurd rfl h
  | [p], acc, h => by
    unfold readG at *
    split
    · rename_i hp; rw [if_pos hp] at h; exact absurd rfl h
    · rfl
  | p :: q :: r, acc, h => by
    unfold readG at *
    split
    · rfl
    · rename_i h1
      rw [if_neg h1] at h
      split
      · rfl
      · rename_i h2
        rw [if_neg h2] at h
        exact read_err (q :: r) _ h

/-- A program that is printed is read as it was. -/
theorem print_read {code : List Ins} {t : List UInt8} (hk : ∀ i ∈ code, i.k < 4294967296) (h : printT code = (t, 0)) : readT t = (code, 0, 0) := by
  unfold printT at h
  split at h
  · simp at h
  · rename_i hl
    obtain ⟨h1, h2⟩ := printG_ok code [] t h
    rw [h2, List.nil_append, read_text code (fun i hi => ⟨h1 i hi, hk i hi⟩), if_neg hl]
/-- A text that is read is printed as it was. -/
theorem read_print {t : List UInt8} {code : List Ins} {at_ : Nat} (h : readT t = (code, at_, 0)) : printT code = (t, 0) := by
  obtain ⟨h1, h2, h3, -⟩ := read_ok h
  unfold printT
  rw [if_neg (by omega), printG_all code [] (fun i hi => (h2 i hi).1), List.nil_append, h1]
/-- Two texts that are read are read together. -/
theorem read_parts {a b : List UInt8} {x y : List Ins} {m n : Nat} (ha : readT a = (x, m, 0)) (hb : readT b = (y, n, 0)) : readT (a ++ b) = if 256 < x.length + y.length then ([], 257, 4) else (x ++ y, 0, 0) := by
  obtain ⟨a1, a2, a3, -⟩ := read_ok ha
  obtain ⟨b1, b2, b3, -⟩ := read_ok hb
  rw [a1, b1, ← textL_app, read_text]
  · rw [List.length_append]
  · intro i hi
    rcases List.mem_append.1 hi with h | h
    · exact a2 i h
    · exact b2 i h
/-- So many lines of one instruction. -/
theorem read_many {i : Ins} (h : FineI i) (n : Nat) : readT (textL (List.replicate n i)) = if 256 < n then ([], 257, 4) else (List.replicate n i, 0, 0) := by
  rw [read_text _ (fun j hj => by rw [(List.mem_replicate.1 hj).2]; exact h), List.length_replicate]

theorem text_len : ∀ code : List Ins, (∀ i ∈ code, FineI i) → (textL code).length ≤ code.length * 67
  | [], _ => by simp [textL]
  | i :: r, h => by
    have hi := h i (by simp)
    have := line_len (form_norm hi.1 hi.2)
    have := text_len r (fun j hj => h j (List.mem_cons_of_mem _ hj))
    rw [textL_cons, List.length_append, List.length_cons, List.length_cons, Nat.succ_mul]
    omega

end Go.Proofs.YtlnlfeninjjkmaaDoor
