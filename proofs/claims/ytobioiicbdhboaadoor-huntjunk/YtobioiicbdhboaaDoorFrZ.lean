/-
  What frames are there and back, bursts, what comes in (FrM, FrB, FrOpen, FrOwn, FrAwake in one text).
-/
import Derived.Test.YtobioiicbdhboaaDoorFrA
import Derived.Test.YtobioiicbdhboaaDoorCrcSpoil
import Derived.Laws.AppendOwnNone
import Derived.Deep.RegionLaw
namespace Go.Proofs.YtobioiicbdhboaaDoor
open Go
set_option linter.unusedVariables false
set_option linter.unusedSimpArgs false

/-! ### What is printed is read -/

theorem drop_app {a b : List UInt8} {n : Nat} (h : a.length = n) : (a ++ b).drop n = b := by rw [← h]; exact List.drop_left
theorem take_app {a b : List UInt8} {n : Nat} (h : a.length = n) : (a ++ b).take n = a := by rw [← h]; exact List.take_left
theorem agr_self : ∀ (t r : List UInt8), agr (t ++ r) t = t.length
  | [], r => by cases r <;> rfl
  | a :: t, r => by simp [agr, agr_self t r]
theorem word_put (q : Nat) (hq : q < 4294967296) (X : List UInt8) : wordG (septL q 5 ++ X) = (q, 0) := by
  unfold wordG
  rw [septGet_put q 5 X (by omega) (Nat.lt_of_lt_of_le hq (by decide)) (by omega)]
  simp only [if_true]
  rw [if_pos (by omega)]
theorem sum_put (v : Nat) (hv : v < 4294967296) (X : List UInt8) : sumG (septL v 5 ++ X) v = 0 := by
  unfold sumG
  rw [word_put v hv X]
  simp only [if_true]
theorem nums_put (q cyc cnt z : Nat) (hq : q < 4294967296) (hcy : cyc < 18446744073709551616) (hcn : cnt < 18446744073709551616) (h1 : 1 ≤ z) (h2 : z ≤ 120) (X : List UInt8) :
    numsG (septL q 5 ++ (septL cyc 10 ++ (septL cnt 10 ++ (septL z 2 ++ X)))) = (⟨q, cyc, cnt, z⟩, 0) := by
  have d5 : (septL q 5 ++ (septL cyc 10 ++ (septL cnt 10 ++ (septL z 2 ++ X)))).drop 5 = septL cyc 10 ++ (septL cnt 10 ++ (septL z 2 ++ X)) := drop_app (septL_len _ _)
  have d15 : (septL q 5 ++ (septL cyc 10 ++ (septL cnt 10 ++ (septL z 2 ++ X)))).drop 15 = septL cnt 10 ++ (septL z 2 ++ X) := by
    rw [show 15 = 5 + 10 from rfl, ← List.drop_drop, d5]; exact drop_app (septL_len _ _)
  have d25 : (septL q 5 ++ (septL cyc 10 ++ (septL cnt 10 ++ (septL z 2 ++ X)))).drop 25 = septL z 2 ++ X := by
    rw [show 25 = 15 + 10 from rfl, ← List.drop_drop, d15]; exact drop_app (septL_len _ _)
  unfold numsG
  rw [d5, d15, d25, word_put q hq, septGet_put cyc 10 _ (by omega) (Nat.lt_of_lt_of_le hcy (by decide)) hcy, septGet_put cnt 10 _ (by omega) (Nat.lt_of_lt_of_le hcn (by decide)) hcn, septGet_put z 2 _ (by omega) (Nat.lt_of_le_of_lt h2 (by decide)) (by omega)]
  simp only [if_true]
  rw [if_pos ⟨h1, h2⟩]

/-- What is known of bytes that begin with a frame's. -/
structure FrameAt (L : List UInt8) (q cyc cnt : Nat) (p : List UInt8) : Prop where
  mg : markG L = 0
  nm : numsG (L.drop 22) = (⟨q, cyc, cnt, p.length⟩, 0)
  hs : sumG (L.drop 49) (sumL ((L.drop 16).take 33)) = 0
  py : payG (L.drop 54) p.length = (p, 0)
theorem frame_at (q cyc cnt : Nat) (p rest : List UInt8) (hq : q < 4294967296) (hcy : cyc < 18446744073709551616) (hcn : cnt < 18446744073709551616) (h1 : 1 ≤ p.length) (h2 : p.length ≤ 120) : FrameAt (frameB q cyc cnt p ++ rest) q cyc cnt p := by
  have e0 : frameB q cyc cnt p ++ rest = onesL ++ (headL q cyc cnt p.length ++ (septL (sumL (headL q cyc cnt p.length)) 5 ++ (p ++ (septL (sumL p) 5 ++ rest)))) := by
    simp only [frameB, sumd, List.append_assoc]
  have e1 : frameB q cyc cnt p ++ rest = markL ++ (septL q 5 ++ (septL cyc 10 ++ (septL cnt 10 ++ (septL p.length 2 ++ (septL (sumL (headL q cyc cnt p.length)) 5 ++ (p ++ (septL (sumL p) 5 ++ rest))))))) := by
    rw [e0, show markL = onesL ++ tafL from rfl]; simp only [headL, List.append_assoc]
  have d16 : (frameB q cyc cnt p ++ rest).drop 16 = headL q cyc cnt p.length ++ (septL (sumL (headL q cyc cnt p.length)) 5 ++ (p ++ (septL (sumL p) 5 ++ rest))) := by rw [e0]; exact drop_app rfl
  have d49 : (frameB q cyc cnt p ++ rest).drop 49 = septL (sumL (headL q cyc cnt p.length)) 5 ++ (p ++ (septL (sumL p) 5 ++ rest)) := by
    rw [show 49 = 16 + 33 from rfl, ← List.drop_drop, d16]; exact drop_app (head_len _ _ _ _)
  have d54 : (frameB q cyc cnt p ++ rest).drop 54 = p ++ (septL (sumL p) 5 ++ rest) := by
    rw [show 54 = 49 + 5 from rfl, ← List.drop_drop, d49]; exact drop_app (septL_len _ _)
  refine ⟨?_, ?_, ?_, ?_⟩
  · unfold markG
    rw [e1, agr_self, if_neg (by decide)]
  · rw [e1, drop_app (show markL.length = 22 from rfl)]
    exact nums_put q cyc cnt p.length hq hcy hcn h1 h2 _
  · rw [d49, d16, take_app (head_len _ _ _ _)]
    exact sum_put _ (sumL_lt _) _
  · rw [d54]
    unfold payG
    rw [take_app rfl, drop_app rfl, if_pos (by rw [List.length_append]; omega), sum_put _ (sumL_lt _), if_pos rfl]

theorem getD0 {l : List Ev} (h : 0 < l.length) : l[0]? = some (l.getD 0 ev0) := by
  rw [List.getD_eq_getElem?_getD, List.getElem?_eq_getElem h]; rfl
theorem evs_back {l : List Ev} (h : 0 < l.length) (hf : ∀ e ∈ l, EvFits e) (hc : (coilL l).2 = 0) : evsG (l.getD 0 ev0).cyc (l.getD 0 ev0).cnt (coilL l).1 = (l, 0) := by
  unfold evsG
  rw [coil_back (getD0 h) hf hc]
  simp
theorem coil_some {l : List Ev} (h : 0 < l.length) (hf : ∀ e ∈ l, EvFits e) (hc : (coilL l).2 = 0) : 1 ≤ (coilL l).1.length := by
  rcases Nat.eq_zero_or_pos (coilL l).1.length with h0 | h0
  · have e := coil_back (getD0 h) hf hc
    rw [List.eq_nil_of_length_eq_zero h0] at e
    have : (readL (l.getD 0 ev0).cyc (l.getD 0 ev0).cnt []).1 = [] := by simp [readL, readGo]
    rw [e] at this
    simp only at this
    rw [this] at h
    simp at h
  · exact h0
/-- What Print answers without an error. -/
theorem print_ok {q : Nat} {l : List Ev} (h : (frameP q l).2 = 0) : 0 < l.length ∧ (coilL l).2 = 0 ∧ (coilL l).1.length ≤ 120 ∧ frameP q l = (frameB q (l.getD 0 ev0).cyc (l.getD 0 ev0).cnt (coilL l).1, 0) := by
  unfold frameP at h ⊢
  by_cases h0 : l.length = 0
  · rw [if_pos h0] at h; simp at h
  · rw [if_neg h0] at h ⊢
    by_cases h1 : (coilL l).2 = 0
    · rw [if_pos h1] at h ⊢
      by_cases h2 : (coilL l).1.length ≤ 120
      · rw [if_pos h2]; exact ⟨by omega, h1, h2, rfl⟩
      · rw [if_neg h2] at h; simp at h
    · rw [if_neg h1] at h; exact absurd h h1
theorem getD_fits {l : List Ev} (h : 0 < l.length) (hf : ∀ e ∈ l, EvFits e) : EvFits (l.getD 0 ev0) := by
  rw [List.getD_eq_getElem?_getD, List.getElem?_eq_getElem h]
  exact hf _ (List.getElem_mem h)
theorem print_at {q : Nat} {l : List Ev} (hq : q < 4294967296) (hf : ∀ e ∈ l, EvFits e) (h : (frameP q l).2 = 0) (rest : List UInt8) : FrameAt ((frameP q l).1 ++ rest) q (l.getD 0 ev0).cyc (l.getD 0 ev0).cnt (coilL l).1 := by
  obtain ⟨h0, h1, h2, h3⟩ := print_ok h
  have fe := getD_fits h0 hf
  rw [h3]
  exact frame_at q _ _ _ rest hq fe.cyc fe.cnt (coil_some h0 hf h1) h2
theorem frame_back {q : Nat} {l : List Ev} (hq : q < 4294967296) (hf : ∀ e ∈ l, EvFits e) (h : (frameP q l).2 = 0) (rest : List UInt8) : frameR ((frameP q l).1 ++ rest) = (q, l, (frameP q l).1.length, 0) := by
  obtain ⟨h0, h1, h2, h3⟩ := print_ok h
  have a := print_at hq hf h rest
  rw [fr_ok a.mg a.nm a.hs a.py (evs_back h0 hf h1), h3]
  simp only [frameB_len]

/-! ### What is read is printed so -/

theorem frame_step {L : List UInt8} (h : (frameR L).2.2.2 = 0) : (headG L).2 = 0 ∧ (payG (L.drop 54) (headG L).1.size).2 = 0 ∧ (evsG (headG L).1.cyc (headG L).1.cnt (payG (L.drop 54) (headG L).1.size).1).2 = 0 ∧
    frameR L = ((headG L).1.seq, (evsG (headG L).1.cyc (headG L).1.cnt (payG (L.drop 54) (headG L).1.size).1).1, 59 + (headG L).1.size, 0) := by
  unfold frameR at h ⊢
  by_cases h1 : (headG L).2 = 0
  · rw [if_pos h1] at h ⊢
    by_cases h2 : (payG (L.drop 54) (headG L).1.size).2 = 0
    · rw [if_pos h2] at h ⊢
      by_cases h3 : (evsG (headG L).1.cyc (headG L).1.cnt (payG (L.drop 54) (headG L).1.size).1).2 = 0
      · rw [if_pos h3]; exact ⟨h1, h2, h3, rfl⟩
      · rw [if_neg h3] at h; exact absurd h h3
    · rw [if_neg h2] at h; simp only at h; omega
  · rw [if_neg h1] at h; simp only at h; omega
theorem evs_step {cyc cnt : Nat} {p : List UInt8} (h : (evsG cyc cnt p).2 = 0) : (readL cyc cnt p).2 = 0 ∧ ((readL cyc cnt p).1.getD 0 ev0).cyc = cyc ∧ ((readL cyc cnt p).1.getD 0 ev0).cnt = cnt ∧ (evsG cyc cnt p).1 = (readL cyc cnt p).1 := by
  unfold evsG at h ⊢
  by_cases h1 : (readL cyc cnt p).2 = 0
  · rw [if_pos h1] at h ⊢
    by_cases h2 : ((readL cyc cnt p).1.getD 0 ev0).cyc = cyc ∧ ((readL cyc cnt p).1.getD 0 ev0).cnt = cnt
    · rw [if_pos h2]; exact ⟨h1, h2.1, h2.2, rfl⟩
    · rw [if_neg h2] at h; simp at h
  · rw [if_neg h1] at h; exact absurd h h1
theorem agr_pre : ∀ (l t : List UInt8), l.take (agr l t) = t.take (agr l t)
  | [], t => by cases t <;> simp [agr]
  | a :: l, [] => by simp [agr]
  | a :: l, c :: t => by
    simp only [agr]
    split
    · rename_i e; simp [e, agr_pre l t]
    · simp
theorem sept_take {L : List UInt8} {c : Nat} (h : (septGet L c).2.1 = 0) : L.take c = septL (septGet L c).1 c := by
  have e : septGet L c = septScan 0 0 c L := by simp [septGet, septAt, val]
  obtain ⟨h1, h2, h3, -⟩ := septScan_ok c L 0 0 (by rw [← e]; exact h)
  rw [e, h3]
  have hl : (L.take c).length = c := by rw [List.length_take]; omega
  have := septL_val (L.take c) h2
  rw [hl] at this
  simp only [Nat.zero_add, Nat.pow_zero, Nat.one_mul]
  exact this.symm
theorem sept_part {L : List UInt8} {c : Nat} (h : (septGet L c).2.1 = 0) : L = septL (septGet L c).1 c ++ L.drop c := by
  rw [← sept_take h, List.take_append_drop]
/-- Bytes that are read are a frame's. -/
theorem frame_one {L : List UInt8} {q : Nat} {l : List Ev} {n : Nat} (h : frameR L = (q, l, n, 0)) :
    ∃ (cyc cnt : Nat) (p rest : List UInt8), L = frameB q cyc cnt p ++ rest ∧ n = 59 + p.length ∧ q < 4294967296 ∧ cyc < 18446744073709551616 ∧ cnt < 18446744073709551616 ∧ 1 ≤ p.length ∧ p.length ≤ 120 ∧ evsG cyc cnt p = (l, 0) ∧ frameP q l = (frameB q cyc cnt p, 0) ∧ (∀ e ∈ l, EvFits e) := by
  obtain ⟨h1, h2, h3, h4⟩ := frame_step (L := L) (by rw [h])
  obtain ⟨m1, m2, m3, m4⟩ := head_step h1
  obtain ⟨n1, n2, n3, n4, n5, n6, n7⟩ := nums_step m2
  obtain ⟨y1, y2, y3⟩ := pay_step h2
  rw [h4] at h
  rw [y3] at h h3
  rw [m4, n6] at y1 y2 h3 h
  clear y3 h2 h4 n6 m4 m2 h1
  simp only [List.drop_drop, Nat.reduceAdd] at n2 n3 n4 n5 y1 y2 h3 h
  obtain ⟨w1, w2, w3, w4⟩ := word_step n1
  obtain ⟨s1, s2, s3⟩ := sum_step m3
  obtain ⟨u1, u2, u3⟩ := sum_step y2
  obtain ⟨a1, a2⟩ := mark_step m1
  have v1 := word_step s1
  have v2 := word_step u1
  have p22 : L = markL ++ L.drop 22 := by
    have := agr_pre L markL
    rw [a1, show markL.take 22 = markL from rfl] at this
    rw [← this, List.take_append_drop]
  have p27 := sept_part w1
  have p37 := sept_part n2
  have p47 := sept_part n3
  have p49 := sept_part n4
  have p54 := sept_part v1.1
  have pz := sept_part v2.1
  rw [← v1.2.2.1, s2] at p54
  rw [← v2.2.2.1, u2] at pz
  rw [← w3] at p27
  simp only [List.drop_drop, Nat.reduceAdd] at p27 p37 p47 p49 p54 pz
  have hq := wordG_lt (L.drop 22)
  have hcy := septGet_lt (L.drop 27) 10 (by omega)
  have hcn := septGet_lt (L.drop 37) 10 (by omega)
  generalize (wordG (L.drop 22)).1 = q' at *
  generalize (septGet (L.drop 27) 10).1 = cy at *
  generalize (septGet (L.drop 37) 10).1 = cn at *
  generalize (septGet (L.drop 47) 2).1 = z at *
  obtain ⟨p, hp⟩ : ∃ p, p = (L.drop 54).take z := ⟨_, rfl⟩
  have hpl : p.length = z := by rw [hp, List.length_take]; omega
  have pp : L.drop 54 = p ++ L.drop (54 + z) := by rw [hp, ← List.drop_drop, List.take_append_drop]
  rw [← hp] at h h3 pz
  simp only [Prod.mk.injEq] at h
  obtain ⟨rfl, rfl, rfl, -⟩ := h
  have hH : (L.drop 16).take 33 = headL q' cy cn p.length := by
    have e : L = onesL ++ (headL q' cy cn p.length ++ L.drop 49) := by
      have e0 : onesL ++ (headL q' cy cn z ++ L.drop 49) = markL ++ (septL q' 5 ++ (septL cy 10 ++ (septL cn 10 ++ (septL z 2 ++ L.drop 49)))) := by
        rw [show markL = onesL ++ tafL from rfl]; simp only [headL, List.append_assoc]
      rw [hpl, e0, ← p49, ← p47, ← p37, ← p27, ← p22]
    have := (congrArg (List.drop 16) e).trans (drop_app (show onesL.length = 16 from rfl))
    rw [this, take_app (head_len _ _ _ _)]
  rw [hH] at p54
  obtain ⟨e1, e2, e3, e4⟩ := evs_step h3
  have hev : evsG cy cn p = ((evsG cy cn p).1, 0) := by rw [← h3]
  have hp0 : p ≠ [] := by intro e; rw [e] at hpl; simp at hpl; omega
  have hl := read_some hp0 e1
  have hco : coilL (evsG cy cn p).1 = (p, 0) := by
    rw [e4]
    refine print_one (cyc := cy) (cnt := cn) (by rw [← e1]) (fun e he => ?_)
    rw [getD0 hl] at he
    cases he
    exact ⟨e2, e3⟩
  have hL : L = frameB q' cy cn p ++ L.drop (54 + z + 5) := by
    have e0 : frameB q' cy cn p ++ L.drop (54 + z + 5) = markL ++ (septL q' 5 ++ (septL cy 10 ++ (septL cn 10 ++ (septL p.length 2 ++ (septL (sumL (headL q' cy cn p.length)) 5 ++ (p ++ (septL (sumL p) 5 ++ L.drop (54 + z + 5)))))))) := by
      rw [show markL = onesL ++ tafL from rfl]; simp only [frameB, sumd, headL, List.append_assoc]
    rw [e0, ← pz, ← pp, ← p54, hpl, ← p49, ← p47, ← p37, ← p27, ← p22]
  refine ⟨cy, cn, p, L.drop (54 + z + 5), hL, by rw [hpl], hq, hcy, hcn, by omega, by omega, hev, ?_, ?_⟩
  · unfold frameP
    rw [hco, if_neg (by rw [e4]; omega), if_pos rfl, if_pos (by simp only; omega), e4, e2, e3]
  · rw [e4]; exact readL_fits cy cn p

/-! ### A frame cut off -/

theorem septScan_front : ∀ (c : Nat) (L : List UInt8) (k a n : Nat), c ≤ n → septScan k a c (L.take n) = septScan k a c L
  | 0, L, k, a, n, h => by cases L <;> cases n <;> simp [septScan]
  | c + 1, [], k, a, n, h => by simp
  | c + 1, b :: L, k, a, 0, h => by omega
  | c + 1, b :: L, k, a, n + 1, h => by
    simp only [List.take_succ_cons, septScan]
    rw [septScan_front c L _ _ n (by omega)]
theorem septScan_short : ∀ (c : Nat) (L : List UInt8) (k a n : Nat), n < c → (septScan k a c L).2.1 = 0 → (septScan k a c (L.take n)).2.1 = 2
  | 0, L, k, a, n, h, h0 => by omega
  | c + 1, [], k, a, n, h, h0 => by simp [septScan] at h0
  | c + 1, b :: L, k, a, 0, h, h0 => by simp [septScan]
  | c + 1, b :: L, k, a, n + 1, h, h0 => by
    simp only [List.take_succ_cons, septScan] at h0 ⊢
    split
    · rename_i hb; rw [if_pos hb] at h0; simp at h0
    · rename_i hb; rw [if_neg hb] at h0; exact septScan_short c L _ _ n (by omega) h0
theorem septGet_scan (L : List UInt8) (c : Nat) : septGet L c = septScan 0 0 c L := by simp [septGet, septAt, val]
theorem septGet_front (L : List UInt8) (c n : Nat) (h : c ≤ n) : septGet (L.take n) c = septGet L c := by rw [septGet_scan, septGet_scan, septScan_front c L 0 0 n h]
theorem septGet_short {L : List UInt8} {c n : Nat} (h : n < c) (h0 : (septGet L c).2.1 = 0) : (septGet (L.take n) c).2.1 = 2 := by
  rw [septGet_scan] at h0 ⊢; exact septScan_short c L 0 0 n h h0
theorem word_front (L : List UInt8) (n : Nat) (h : 5 ≤ n) : wordG (L.take n) = wordG L := by unfold wordG; rw [septGet_front L 5 n h]
theorem word_short {L : List UInt8} {n : Nat} (h : n < 5) (h0 : (wordG L).2 = 0) : (wordG (L.take n)).2 = 2 := by
  have := septGet_short h (word_step h0).1
  unfold wordG
  rw [if_neg (by omega), this]
theorem sum_front (L : List UInt8) (n v : Nat) (h : 5 ≤ n) : sumG (L.take n) v = sumG L v := by unfold sumG; rw [word_front L n h]
theorem sum_short {L : List UInt8} {n v : Nat} (h : n < 5) (h0 : sumG L v = 0) : sumG (L.take n) v = 2 := by
  have := word_short h (sum_step h0).1
  unfold sumG
  rw [if_neg (by omega), this]
theorem agr_take : ∀ (L t : List UInt8) (n : Nat), agr (L.take n) t = min n (agr L t)
  | [], t, n => by cases t <;> simp [agr]
  | a :: L, [], n => by cases n <;> simp [agr]
  | a :: L, c :: t, 0 => by simp [agr]
  | a :: L, c :: t, n + 1 => by
    simp only [List.take_succ_cons, agr]
    split
    · rw [agr_take L t n]; omega
    · omega
theorem mark_front {L : List UInt8} {n : Nat} (h : markG L = 0) (hn : 22 ≤ n) : markG (L.take n) = 0 := by
  have := (mark_step h).1
  unfold markG
  rw [agr_take, this, if_neg (by omega)]
theorem mark_short {L : List UInt8} {n : Nat} (h : markG L = 0) (hn : n < 22) : markG (L.take n) = 2 := by
  have := mark_step h
  unfold markG
  rw [agr_take, this.1, if_pos (by omega), if_neg (by rw [List.length_take]; omega)]
theorem nums_front (L : List UInt8) (n : Nat) (h : 27 ≤ n) : numsG (L.take n) = numsG L := by
  unfold numsG
  rw [word_front L n (by omega), List.drop_take, List.drop_take, List.drop_take, septGet_front _ 10 _ (by omega), septGet_front _ 10 _ (by omega), septGet_front _ 2 _ (by omega)]
theorem nums_short {L : List UInt8} {n : Nat} (h : n < 27) (h0 : (numsG L).2 = 0) : (numsG (L.take n)).2 = 2 := by
  obtain ⟨h1, h2, h3, h4, h5, -, -⟩ := nums_step h0
  unfold numsG
  rw [List.drop_take, List.drop_take, List.drop_take]
  by_cases c1 : n < 5
  · have := word_short c1 h1
    rw [if_neg (by omega), this]
  · rw [word_front L n (by omega), if_pos h1]
    by_cases c2 : n < 15
    · have := septGet_short (n := n - 5) (by omega) h2
      rw [if_neg (by omega), this]
    · rw [septGet_front _ 10 _ (by omega), if_pos h2]
      by_cases c3 : n < 25
      · have := septGet_short (n := n - 15) (by omega) h3
        rw [if_neg (by omega), this]
      · rw [septGet_front _ 10 _ (by omega), if_pos h3]
        have := septGet_short (n := n - 25) (by omega) h4
        rw [if_neg (by omega), this]
/-- A frame that is cut off lacks bytes. -/
theorem frame_cut {L : List UInt8} {q cyc cnt : Nat} {p : List UInt8} (a : FrameAt L q cyc cnt p) (n : Nat) (hn : n < 59 + p.length) : (frameR (L.take n)).2.2.2 = 2 := by
  by_cases c1 : n < 22
  · rw [fr_mark (by rw [mark_short a.mg c1]; decide), mark_short a.mg c1]; rfl
  · have m := mark_front (n := n) a.mg (by omega)
    have d22 : (L.take n).drop 22 = (L.drop 22).take (n - 22) := List.drop_take
    by_cases c2 : n < 49
    · have := nums_short (n := n - 22) (by omega) (show (numsG (L.drop 22)).2 = 0 by rw [a.nm])
      rw [fr_nums (c := 2) (H := (numsG ((L.drop 22).take (n - 22))).1) m (by rw [d22, ← this]) (by decide)]
      rfl
    · have nm : numsG ((L.take n).drop 22) = (⟨q, cyc, cnt, p.length⟩, 0) := by rw [d22, nums_front _ _ (by omega), a.nm]
      have d16 : ((L.take n).drop 16).take 33 = (L.drop 16).take 33 := by rw [List.drop_take, List.take_take, Nat.min_eq_left (by omega)]
      have d49 : (L.take n).drop 49 = (L.drop 49).take (n - 49) := List.drop_take
      by_cases c3 : n < 54
      · rw [fr_sum (c := 2) m nm (by rw [d16, d49]; exact sum_short (by omega) a.hs) (by decide)]; rfl
      · have hs : sumG ((L.take n).drop 49) (sumL (((L.take n).drop 16).take 33)) = 0 := by rw [d16, d49, sum_front _ _ _ (by omega), a.hs]
        have d54 : (L.take n).drop 54 = (L.drop 54).take (n - 54) := List.drop_take
        obtain ⟨y1, y2, y3⟩ := pay_step (L := L.drop 54) (z := p.length) (by rw [a.py])
        by_cases c4 : n - 54 < p.length
        · rw [fr_pay (c := 2) (p := []) m nm hs (by
            unfold payG
            rw [d54, if_neg (by rw [List.length_take]; simp only; omega)]) (by decide)]
          rfl
        · have hz := sum_short (n := n - 54 - p.length) (by omega) y2
          rw [fr_pay (c := 2) (p := []) m nm hs (by
            unfold payG
            simp only
            rw [d54, if_pos (by rw [List.length_take]; omega), List.drop_take, List.take_take, Nat.min_eq_left (by omega), hz, if_neg (by decide)]) (by decide)]
          rfl

end Go.Proofs.YtobioiicbdhboaaDoor

namespace Go.Proofs.YtobioiicbdhboaaDoor
open Go
set_option linter.unusedVariables false
set_option linter.unusedSimpArgs false

/-! ### Windows of 32 bits -/

def Win (d : Nat) : Prop := ∃ a p, p < 4294967296 ∧ d = p * 2 ^ a
theorem Win.div {d : Nat} (h : Win d) (j : Nat) : Win (d / 2 ^ j) := by
  obtain ⟨a, p, hp, rfl⟩ := h
  rcases Nat.le_total a j with h | h
  · obtain ⟨k, rfl⟩ : ∃ k, j = a + k := ⟨j - a, by omega⟩
    refine ⟨0, p / 2 ^ k, Nat.lt_of_le_of_lt (Nat.div_le_self _ _) hp, ?_⟩
    rw [Nat.pow_add, Nat.mul_comm p, Nat.mul_div_mul_left _ _ (Nat.pow_pos (by omega)), Nat.pow_zero, Nat.mul_one]
  · obtain ⟨k, rfl⟩ : ∃ k, a = j + k := ⟨a - j, by omega⟩
    refine ⟨k, p, hp, ?_⟩
    rw [Nat.pow_add, ← Nat.mul_assoc, Nat.mul_right_comm, Nat.mul_div_cancel _ (Nat.pow_pos (by omega))]
theorem Win.mod {d : Nat} (h : Win d) (j : Nat) : Win (d % 2 ^ j) := by
  obtain ⟨a, p, hp, rfl⟩ := h
  rcases Nat.le_total a j with h | h
  · obtain ⟨k, rfl⟩ : ∃ k, j = a + k := ⟨j - a, by omega⟩
    refine ⟨a, p % 2 ^ k, Nat.lt_of_le_of_lt (Nat.mod_le _ _) hp, ?_⟩
    rw [Nat.pow_add, Nat.mul_comm p, Nat.mul_mod_mul_left, Nat.mul_comm]
  · obtain ⟨k, rfl⟩ : ∃ k, a = j + k := ⟨a - j, by omega⟩
    refine ⟨0, 0, by omega, ?_⟩
    rw [Nat.zero_mul]
    exact Nat.mod_eq_zero_of_dvd (Nat.dvd_trans (Nat.pow_dvd_pow 2 (by omega)) (Nat.dvd_mul_left _ _))
theorem win_burst (a p n : Nat) (hp : p < 4294967296) : Win (burst a p n) := Win.mod (d := p * 2 ^ a) ⟨a, p, hp, rfl⟩ n

/-! ### Numbers of parts -/

theorem num_append : ∀ (a b : List UInt8), num (a ++ b) = num a + 2 ^ (8 * a.length) * num b
  | [], b => by simp [num]
  | c :: a, b => by
    have e : 2 ^ (8 * (a.length + 1)) * num b = 256 * (2 ^ (8 * a.length) * num b) := by
      rw [show 8 * (a.length + 1) = 8 * a.length + 8 by omega, Nat.pow_add, Nat.mul_assoc, Nat.mul_left_comm]
    rw [List.cons_append, num, num, num_append a b, List.length_cons, e, Nat.mul_add]
    omega
theorem num_lt2 (l : List UInt8) : num l < 2 ^ (8 * l.length) := by
  have := numb_lt l
  rwa [show (256 : Nat) = 2 ^ 8 from rfl, ← Nat.pow_mul] at this
theorem num_parts (a b : List UInt8) : num (a ++ b) / 2 ^ (8 * a.length) = num b ∧ num (a ++ b) % 2 ^ (8 * a.length) = num a := by
  have h := num_lt2 a
  rw [num_append]
  constructor
  · rw [Nat.add_mul_div_left _ _ (Nat.pow_pos (by omega)), Nat.div_eq_of_lt h, Nat.zero_add]
  · rw [Nat.add_mul_mod_self_left, Nat.mod_eq_of_lt h]
/-- The number of a part in the middle. -/
theorem num_mid (a b c : List UInt8) : num (a ++ (b ++ c)) / 2 ^ (8 * a.length) % 2 ^ (8 * b.length) = num b := by
  rw [(num_parts a (b ++ c)).1, (num_parts b c).2]
theorem mid_win {s t : List UInt8} (h : Win (num s ^^^ num t)) {a b c a' b' c' : List UInt8} (hs : s = a ++ (b ++ c)) (ht : t = a' ++ (b' ++ c')) (ha : a'.length = a.length) (hb : b'.length = b.length) : Win (num b ^^^ num b') := by
  have h1 := num_mid a b c
  have h2 := num_mid a' b' c'
  rw [ha, hb] at h2
  rw [← hs] at h1
  rw [← ht] at h2
  have := (h.div (8 * a.length)).mod (8 * b.length)
  rw [Nat.xor_div_two_pow, Nat.xor_mod_two_pow, h1, h2] at this
  exact this

theorem xor_byte (x y a b : Nat) (ha : a < 256) (hb : b < 256) : (256 * x + a) ^^^ (256 * y + b) = 256 * (x ^^^ y) + (a ^^^ b) := by
  have hab : a ^^^ b < 2 ^ 8 := Nat.xor_lt_two_pow ha hb
  have e1 := nxor_high 8 x a ha
  have e2 := nxor_high 8 y b hb
  have e3 := nxor_high 8 (x ^^^ y) (a ^^^ b) hab
  have e4 : 2 ^ 8 * (x ^^^ y) = 2 ^ 8 * x ^^^ 2 ^ 8 * y := by
    have := Nat.shiftLeft_xor_distrib (a := x) (b := y) (i := 8)
    simp only [Nat.shiftLeft_eq] at this
    rw [Nat.mul_comm, this, Nat.mul_comm x, Nat.mul_comm y]
  rw [show (256 : Nat) = 2 ^ 8 from rfl, ← e1, ← e2, ← e3, e4]
  rw [Nat.xor_assoc, Nat.xor_assoc, nxor_lcomm a]
theorem sept_xor : ∀ (c a b : Nat), num (septL (a ^^^ b) c) = num (septL a c) ^^^ num (septL b c)
  | 0, a, b => by simp [septL, num]
  | c + 1, a, b => by
    have e : ∀ n : Nat, (UInt8.ofNat (n % 128)).toNat = n % 128 := fun n => by simp; omega
    simp only [septL, num, e]
    rw [xor_byte _ _ _ _ (by omega) (by omega), ← sept_xor c, show (128 : Nat) = 2 ^ 7 from rfl, Nat.xor_div_two_pow, Nat.xor_mod_two_pow]
theorem sept_ge : ∀ (c v : Nat), v < 128 ^ c → v ≤ num (septL v c)
  | 0, v, h => by simp at h; omega
  | c + 1, v, h => by
    have e : (UInt8.ofNat (v % 128)).toNat = v % 128 := by simp; omega
    have := sept_ge c (v / 128) (by rw [Nat.pow_succ] at h; omega)
    simp only [septL, num, e]
    omega

theorem xor_two (A B C o : Nat) : (A ^^^ B ^^^ o) ^^^ (A ^^^ C ^^^ o) = B ^^^ C := by
  apply Nat.eq_of_testBit_eq
  intro i
  simp only [Nat.testBit_xor]
  cases A.testBit i <;> cases B.testBit i <;> cases C.testBit i <;> cases o.testBit i <;> rfl

/-- Of two texts of one length, with their sums behind, which part by 32 bits at most: they are one. -/
theorem sumd_win {x y : List UInt8} (hl : y.length = x.length) (h : Win (num (sumd x) ^^^ num (sumd y))) : x = y := by
  obtain ⟨n, hn⟩ : ∃ n, n = 8 * x.length := ⟨_, rfl⟩
  have hx := num_lt2 x
  have hy := num_lt2 y
  rw [hl] at hy
  rw [← hn] at hx hy
  have hdx : num x ^^^ num y < 2 ^ n := Nat.xor_lt_two_pow hx hy
  -- the sums part as the shift of what parts the texts
  have hc : sumL x ^^^ sumL y = shn n (num x ^^^ num y) := by
    unfold sumL
    rw [turnL_num, turnL_num, hl, ← hn, shn_xor, shn_xor, shn_xor]
    exact xor_two _ _ _ _
  have hc32 : sumL x ^^^ sumL y < 2 ^ 32 := Nat.xor_lt_two_pow (sumL_lt x) (sumL_lt y)
  have hge := sept_ge 5 (sumL x ^^^ sumL y) (Nat.lt_of_lt_of_le hc32 (by decide))
  have hD : num (sumd x) ^^^ num (sumd y) = (num x ^^^ num y) + 2 ^ n * num (septL (sumL x ^^^ sumL y) 5) := by
    unfold sumd
    rw [num_append, num_append, hl, ← hn, sept_xor]
    have e1 := nxor_high n (num (septL (sumL x) 5)) (num x) hx
    have e2 := nxor_high n (num (septL (sumL y) 5)) (num y) hy
    have e3 := nxor_high n (num (septL (sumL x) 5) ^^^ num (septL (sumL y) 5)) (num x ^^^ num y) hdx
    have e4 : 2 ^ n * (num (septL (sumL x) 5) ^^^ num (septL (sumL y) 5)) = 2 ^ n * num (septL (sumL x) 5) ^^^ 2 ^ n * num (septL (sumL y) 5) := by
      have := Nat.shiftLeft_xor_distrib (a := num (septL (sumL x) 5)) (b := num (septL (sumL y) 5)) (i := n)
      simp only [Nat.shiftLeft_eq] at this
      rw [Nat.mul_comm, this, Nat.mul_comm (num (septL (sumL x) 5)), Nat.mul_comm (num (septL (sumL y) 5))]
    rw [Nat.add_comm (num x), Nat.add_comm (num y), Nat.add_comm (num x ^^^ num y), ← e1, ← e2, ← e3, e4]
    rw [Nat.xor_assoc, Nat.xor_assoc, nxor_lcomm (num x)]
  rw [hc] at hD hge
  have hz : num x ^^^ num y = 0 := by
    obtain ⟨a, p, hp, e⟩ := h
    rw [hD] at e
    generalize num x ^^^ num y = dx at *
    generalize hs : num (septL (shn n dx) 5) = E at *
    have hm : (dx + 2 ^ n * E) % 2 ^ n = dx := by rw [Nat.add_mul_mod_self_left, Nat.mod_eq_of_lt hdx]
    have hd : (dx + 2 ^ n * E) / 2 ^ n = E := by rw [Nat.add_mul_div_left _ _ (Nat.pow_pos (by omega)), Nat.div_eq_of_lt hdx, Nat.zero_add]
    rw [e] at hm hd
    rcases Nat.le_total n a with h | h
    · rw [← hm]
      exact Nat.mod_eq_zero_of_dvd (Nat.dvd_trans (Nat.pow_dvd_pow 2 h) (Nat.dvd_mul_left _ _))
    · obtain ⟨k, rfl⟩ : ∃ k, n = a + k := ⟨n - a, by omega⟩
      rw [Nat.pow_add, Nat.mul_comm p, Nat.mul_mod_mul_left] at hm
      rw [Nat.pow_add, Nat.mul_comm p, Nat.mul_div_mul_left _ _ (Nat.pow_pos (by omega))] at hd
      have hle : p % 2 ^ k + 2 ^ k * shn (a + k) dx < 4294967296 := by
        have h1 := Nat.mod_add_div p (2 ^ k)
        have h2 := Nat.mul_le_mul_left (2 ^ k) hge
        rw [hd] at h1
        omega
      have hsh : shn k (p % 2 ^ k + 2 ^ k * shn (a + k) dx) = 0 := by
        have e5 := nxor_high k (shn (a + k) dx) (p % 2 ^ k) (Nat.mod_lt _ (Nat.pow_pos (by omega)))
        rw [Nat.add_comm, ← e5, shn_xor, shn_mul]
        have e6 : shn k (p % 2 ^ k) = shn (a + k) dx := by rw [← hm, shn_add, shn_mul]
        rw [e6, Nat.xor_self]
      have h0 := shn_eq_zero k hle hsh
      have h1 : p % 2 ^ k = 0 := by omega
      rw [← hm, h1, Nat.mul_zero]
  exact num_inj hl.symm (nxor_eq_zero hz)

/-! ### A frame behind a burst -/

theorem head_size {q cyc cnt z q' cyc' cnt' z' : Nat} (hz : z ≤ 120) (hz' : z' ≤ 120) (h : headL q cyc cnt z = headL q' cyc' cnt' z') : z = z' := by
  have e : ∀ q cyc cnt z, (headL q cyc cnt z).drop 31 = septL z 2 := by
    intro q cyc cnt z
    have : headL q cyc cnt z = (tafL ++ (septL q 5 ++ (septL cyc 10 ++ septL cnt 10))) ++ septL z 2 := by simp only [headL, List.append_assoc]
    rw [this]
    exact drop_app (by simp [tafL, septL_len])
  have h2 := congrArg (List.drop 31) h
  rw [e, e] at h2
  exact septL_inj (Nat.lt_of_le_of_lt hz (by decide)) (Nat.lt_of_le_of_lt hz' (by decide)) h2
theorem burst_zero_of {a b d : Nat} (h : a = b ^^^ d) (e : a = b) : d = 0 := by
  have := nxor_cancel b d
  rw [← h, e, Nat.xor_self] at this
  exact this.symm
theorem frame_burst {q : Nat} {l : List Ev} (hf : ∀ e ∈ l, EvFits e) (h : (frameP q l).2 = 0) {t : List UInt8} {a p : Nat} (hp : p < 4294967296) (hl : t.length = (frameP q l).1.length)
    (ht : num t = num (frameP q l).1 ^^^ burst a p (8 * (frameP q l).1.length)) (h0 : (frameR t).2.2.2 = 0) : burst a p (8 * (frameP q l).1.length) = 0 := by
  obtain ⟨g0, g1, g2, g3⟩ := print_ok h
  obtain ⟨cyc, cnt, p', rest, e1, -, -, -, -, e6, e7, -, -, -⟩ := frame_one (L := t) (q := (frameR t).1) (l := (frameR t).2.1) (n := (frameR t).2.2.1) (by rw [← h0])
  have hw : Win (num (frameP q l).1 ^^^ num t) := by
    rw [ht, nxor_cancel]; exact win_burst a p _ hp
  refine burst_zero_of ht ?_
  rw [g3] at hw hl ⊢
  simp only at hw hl ⊢
  have f1 := coil_len
  generalize (coilL l).1 = P at *
  generalize (l.getD 0 ev0).cyc = cy at *
  generalize (l.getD 0 ev0).cnt = cn at *
  generalize (frameR t).1 = q' at *
  have s1 : frameB q cy cn P = onesL ++ (sumd (headL q cy cn P.length) ++ sumd P) := rfl
  have t1 : t = onesL ++ (sumd (headL q' cyc cnt p'.length) ++ (sumd p' ++ rest)) := by rw [e1]; simp only [frameB, List.append_assoc]
  have w1 := mid_win hw s1 t1 rfl (by rw [sumd_len, sumd_len, head_len, head_len])
  have hH := sumd_win (by rw [head_len, head_len]) w1
  have hz := head_size (by omega) (by omega) hH
  have s2 : frameB q cy cn P = (onesL ++ sumd (headL q cy cn P.length)) ++ (sumd P ++ []) := by rw [s1, List.append_nil, List.append_assoc]
  have t2 : t = (onesL ++ sumd (headL q' cyc cnt p'.length)) ++ (sumd p' ++ rest) := by rw [t1, List.append_assoc]
  have w2 := mid_win hw s2 t2 (by rw [List.length_append, List.length_append, sumd_len, sumd_len, head_len, head_len]) (by rw [sumd_len, sumd_len, hz])
  have hP := sumd_win hz.symm w2
  have hr : rest = [] := by
    have := congrArg List.length e1
    rw [List.length_append, frameB_len, hl, frameB_len] at this
    exact List.eq_nil_of_length_eq_zero (by omega)
  rw [t1, s1, hr, hH, hP, List.append_nil]

/-! ### Where the marker stands -/

theorem low_run0 : ∀ (l : List UInt8), (∀ x ∈ l, x.toNat < 128) → runOk 0 l ∧ runEnd 0 l = 0
  | [], _ => ⟨trivial, rfl⟩
  | c :: l, h => by
    have hc : c.toNat < 128 := h c List.mem_cons_self
    have e : runN 0 c = 0 := by unfold runN; rw [if_neg (by omega)]
    simp only [runOk, runEnd, e]
    have := low_run0 l (fun x hx => h x (List.mem_cons_of_mem _ hx))
    exact ⟨⟨by omega, this.1⟩, this.2⟩
theorem sept_run0 (v c : Nat) : runOk 0 (septL v c) ∧ runEnd 0 (septL v c) = 0 := low_run0 _ (fun x hx => septL_low c v x hx)
theorem sumd_run0 {l : List UInt8} (h : runOk 0 l ∧ runEnd 0 l = 0) : runOk 0 (sumd l) ∧ runEnd 0 (sumd l) = 0 := join_run0 h (sept_run0 _ _)
theorem head_run0 (q cyc cnt z : Nat) : runOk 0 (headL q cyc cnt z) ∧ runEnd 0 (headL q cyc cnt z) = 0 :=
  join_run0 (low_run0 tafL (by decide)) (join_run0 (sept_run0 _ _) (join_run0 (sept_run0 _ _) (join_run0 (sept_run0 _ _) (sept_run0 _ _))))
theorem run_many {X : List UInt8} {k : Nat} : ∀ (m : Nat), k + m ≤ X.length → (∀ j, j < m → X[k + j]? = some 255) → m ≤ runEnd 0 (X.take (k + m))
  | 0, _, _ => by omega
  | m + 1, h, h5 => by
    have ih := run_many m (by omega) (fun j hj => h5 j (by omega))
    have hm := h5 m (by omega)
    have hlt : k + m < X.length := by omega
    rw [List.getElem?_eq_getElem hlt] at hm
    have e := runEnd_step X 0 (k + m) hlt
    rw [show k + (m + 1) = k + m + 1 by omega, e, Option.some.inj hm]
    unfold runN
    rw [if_pos (by decide)]
    omega
theorem no5 {X : List UInt8} (h : runOk 0 X) {k : Nat} (hk : k + 5 ≤ X.length) (h5 : ∀ j, j < 5 → X[k + j]? = some 255) : False := by
  have h4 := run_many (X := X) (k := k) 4 (by omega) (fun j hj => h5 j (by omega))
  have hlt : k + 4 < X.length := by omega
  have := runOk_at X 0 (k + 4) hlt h
  have hm := h5 4 (by omega)
  rw [List.getElem?_eq_getElem hlt] at hm
  rw [Option.some.inj hm] at this
  unfold runN at this
  rw [if_pos (by decide)] at this
  omega

theorem mk_ones : ∀ j, j < 16 → markL[j]? = some 255 := by decide
theorem mk_T : markL[16]? = some 84 := by decide
theorem mk_L : markL[21]? = some 76 := by decide
theorem mk_notL : ∀ j, j < 21 → markL[j]? ≠ some 76 := by decide
theorem mk_notT : ∀ j, j < 16 → markL[j]? ≠ some 84 := by decide

/-- Two frames' bytes, seen from the marker's places. -/
structure Two (s : List UInt8) (o : Nat) : Prop where
  len : o + 22 ≤ s.length
  lo : 38 ≤ o
  m0 : ∀ j, j < 22 → s[j]? = markL[j]?
  m1 : ∀ j, j < 22 → s[o + j]? = markL[j]?
  x0 : ∀ k, 16 ≤ k → k + 5 ≤ o → ¬ ∀ j, j < 5 → s[k + j]? = some 255
  x1 : ∀ k, o + 16 ≤ k → k + 5 ≤ s.length → ¬ ∀ j, j < 5 → s[k + j]? = some 255
theorem two_frames {X Y : List UInt8} (hX : runOk 0 (tafL ++ X)) (hY : runOk 0 (tafL ++ Y)) (hl : 16 ≤ X.length) : Two (onesL ++ (tafL ++ X) ++ (onesL ++ (tafL ++ Y))) (22 + X.length) := by
  have e0 : onesL ++ (tafL ++ X) ++ (onesL ++ (tafL ++ Y)) = markL ++ (X ++ (markL ++ Y)) := by
    rw [show markL = onesL ++ tafL from rfl]; simp only [List.append_assoc]
  have e1 : onesL ++ (tafL ++ X) ++ (onesL ++ (tafL ++ Y)) = (markL ++ X) ++ (markL ++ Y) := by rw [e0, List.append_assoc]
  have e2 : onesL ++ (tafL ++ X) ++ (onesL ++ (tafL ++ Y)) = (onesL ++ (tafL ++ X)) ++ (markL ++ Y) := by
    rw [show markL = onesL ++ tafL from rfl]; simp only [List.append_assoc]
  have hm : markL.length = 22 := rfl
  have ho : onesL.length = 16 := rfl
  have ht : tafL.length = 6 := rfl
  refine ⟨?_, by omega, ?_, ?_, ?_, ?_⟩
  · rw [e1, List.length_append, List.length_append, List.length_append]; omega
  · intro j hj
    rw [e0, List.getElem?_append_left (by omega)]
  · intro j hj
    rw [e1, List.getElem?_append_right (by rw [List.length_append]; omega), List.length_append, show 22 + X.length + j - (markL.length + X.length) = j by omega, List.getElem?_append_left (by omega)]
  · intro k h1 h2 h5
    refine no5 hX (k := k - 16) (by rw [List.length_append]; omega) (fun j hj => ?_)
    have := h5 j hj
    rw [e2, List.getElem?_append_left (by rw [List.length_append, List.length_append]; omega), List.getElem?_append_right (by omega), ho, show k + j - 16 = k - 16 + j by omega] at this
    exact this
  · intro k h1 h2 h5
    refine no5 hY (k := k - (38 + X.length)) (by rw [List.length_append] at h2 ⊢; simp only [List.length_append] at h2; omega) (fun j hj => ?_)
    have := h5 j hj
    rw [show onesL ++ (tafL ++ X) ++ (onesL ++ (tafL ++ Y)) = (onesL ++ (tafL ++ X) ++ onesL) ++ (tafL ++ Y) by simp only [List.append_assoc], List.getElem?_append_right (by simp only [List.length_append]; omega)] at this
    rw [show k + j - (onesL ++ (tafL ++ X) ++ onesL).length = k - (38 + X.length) + j by simp only [List.length_append]; omega] at this
    exact this
theorem marker_places {s t : List UInt8} {o v i : Nat} (h : Two s o) (hl : t.length = s.length) (hk : ∀ j, j < v ∨ v + 5 ≤ j → t[j]? = s[j]?) (hi : i + 22 ≤ t.length) (hm : ∀ j, j < 22 → t[i + j]? = markL[j]?) : i = 0 ∨ i = o := by
  have ch : ∀ j, t[j]? ≠ s[j]? → v ≤ j ∧ j < v + 5 := by
    intro j hj
    constructor
    · rcases Nat.lt_or_ge j v with h | h
      · exact absurd (hk j (.inl h)) hj
      · exact h
    · rcases Nat.lt_or_ge j (v + 5) with h | h
      · exact h
      · exact absurd (hk j (.inr h)) hj
  -- a marker that begins within the bytes 255 of one at place u
  have near : ∀ u, (∀ j, j < 22 → s[u + j]? = markL[j]?) → u < i → i < u + 16 → False := by
    intro u hu h1 h2
    have c1 := ch (u + 16) (by
      have := hm (u + 16 - i) (by omega)
      rw [show i + (u + 16 - i) = u + 16 by omega, mk_ones _ (by omega)] at this
      rw [this, hu 16 (by omega), mk_T]
      decide)
    have c2 := ch (u + 21) (by
      have := hm (u + 21 - i) (by omega)
      rw [show i + (u + 21 - i) = u + 21 by omega] at this
      rw [this, hu 21 (by omega), mk_L]
      exact mk_notL _ (by omega))
    omega
  -- one that begins a little ahead of one at place u
  have ahead : ∀ u, (∀ j, j < 22 → s[u + j]? = markL[j]?) → i < u → u < i + 16 → False := by
    intro u hu h1 h2
    have c1 := ch (i + 16) (by
      have := hu (i + 16 - u) (by omega)
      rw [show u + (i + 16 - u) = i + 16 by omega] at this
      rw [this, hm 16 (by omega), mk_T]
      exact fun e => mk_notT _ (by omega) e.symm)
    have c2 := ch (i + 21) (by
      have := hu (i + 21 - u) (by omega)
      rw [show u + (i + 21 - u) = i + 21 by omega] at this
      rw [this, hm 21 (by omega), mk_L]
      exact fun e => mk_notL _ (by omega) e.symm)
    omega
  have far : ∀ k, i ≤ k → k + 5 ≤ i + 16 → (k + 5 ≤ v ∨ v + 5 ≤ k) → ∀ j, j < 5 → s[k + j]? = some 255 := by
    intro k h1 h2 h3 j hj
    rw [← hk (k + j) (by omega)]
    have := hm (k + j - i) (by omega)
    rw [show i + (k + j - i) = k + j by omega, mk_ones _ (by omega)] at this
    exact this
  have pick : ∃ k, i ≤ k ∧ k + 5 ≤ i + 16 ∧ (k + 5 ≤ v ∨ v + 5 ≤ k) := by
    rcases Nat.lt_or_ge v (i + 5) with h | h
    · exact ⟨i + 10, by omega, by omega, by omega⟩
    · exact ⟨i, by omega, by omega, by omega⟩
  rcases Nat.eq_zero_or_pos i with h0 | h0
  · exact .inl h0
  · right
    rcases Nat.lt_trichotomy i o with h1 | h1 | h1
    · exfalso
      rcases Nat.lt_or_ge i 16 with h2 | h2
      · exact near 0 (fun j hj => by rw [Nat.zero_add]; exact h.m0 j hj) h0 (by omega)
      · rcases Nat.lt_or_ge o (i + 16) with h3 | h3
        · exact ahead o h.m1 h1 h3
        · obtain ⟨k, k1, k2, k3⟩ := pick
          exact h.x0 k (by omega) (by omega) (far k k1 k2 k3)
    · exact h1
    · exfalso
      rcases Nat.lt_or_ge i (o + 16) with h2 | h2
      · exact near o h.m1 h1 h2
      · obtain ⟨k, k1, k2, k3⟩ := pick
        exact h.x1 k (by omega) (by omega) (far k k1 k2 k3)

theorem num_at : ∀ (l : List UInt8) (j : Nat) (x : UInt8), l[j]? = some x → num l / 2 ^ (8 * j) % 256 = x.toNat
  | [], j, x, h => by simp at h
  | c :: l, 0, x, h => by
    simp only [List.getElem?_cons_zero, Option.some.injEq] at h
    have := byte_lt c
    rw [num, h] at *
    simp only [Nat.mul_zero, Nat.pow_zero, Nat.div_one]
    omega
  | c :: l, j + 1, x, h => by
    have ih := num_at l j x (by simpa using h)
    have := byte_lt c
    rw [num, show 8 * (j + 1) = 8 + 8 * j by omega, Nat.pow_add, ← Nat.div_div_eq_div_mul, show (256 * num l + c.toNat) / 2 ^ 8 = num l by omega]
    exact ih
theorem burst_far (a p n j : Nat) (hp : p < 4294967296) (hj : 8 * j + 8 ≤ n) (h : j < a / 8 ∨ a / 8 + 5 ≤ j) : burst a p n / 2 ^ (8 * j) % 2 ^ 8 = 0 := by
  unfold burst
  rcases h with h | h
  · obtain ⟨u, hu⟩ : ∃ u, a = (8 * j + 8) + u := ⟨a - (8 * j + 8), by omega⟩
    obtain ⟨m, hm⟩ : ∃ m, n = (8 * j + 8) + m := ⟨n - (8 * j + 8), by omega⟩
    rw [hu, hm, Nat.pow_add, Nat.pow_add 2 (8 * j + 8) m, Nat.mul_left_comm, Nat.mul_mod_mul_left, Nat.pow_add 2 (8 * j) 8, Nat.mul_assoc, Nat.mul_div_cancel_left _ (Nat.pow_pos (by omega)), Nat.mul_mod_right]
  · have h1 : p * 2 ^ a < 2 ^ (8 * j) := by
      have : 2 ^ (32 + a) ≤ 2 ^ (8 * j) := Nat.pow_le_pow_right (by omega) (by omega)
      rw [Nat.pow_add] at this
      have h2 := Nat.mul_lt_mul_of_pos_right (k := 2 ^ a) (show p < 2 ^ 32 from hp) (Nat.pow_pos (by omega))
      omega
    rw [Nat.div_eq_of_lt (Nat.lt_of_le_of_lt (Nat.mod_le _ _) h1), Nat.zero_mod]
/-- Bytes away from the burst are as they were. -/
theorem bytes_kept {s t : List UInt8} {a p : Nat} (hp : p < 4294967296) (hl : t.length = s.length) (ht : num t = num s ^^^ burst a p (8 * s.length)) : ∀ j, j < a / 8 ∨ a / 8 + 5 ≤ j → t[j]? = s[j]? := by
  intro j hj
  rcases Nat.lt_or_ge j s.length with h | h
  · have h' : j < t.length := by omega
    have e1 := num_at t j t[j] (List.getElem?_eq_getElem h')
    have e2 := num_at s j s[j] (List.getElem?_eq_getElem h)
    have e3 := burst_far a p (8 * s.length) j hp (by omega) hj
    rw [show (256 : Nat) = 2 ^ 8 from rfl] at e1 e2
    rw [ht, Nat.xor_div_two_pow, Nat.xor_mod_two_pow, e3, Nat.xor_zero, e2] at e1
    rw [List.getElem?_eq_getElem h', List.getElem?_eq_getElem h, u8_eq e1.symm]
  · rw [List.getElem?_eq_none (by omega), List.getElem?_eq_none h]

/-- Two frames that are printed. -/
theorem two_printed {q r : Nat} {l m : List Ev} (hf : ∀ e ∈ l, EvFits e) (hg : ∀ e ∈ m, EvFits e) (h1 : (frameP q l).2 = 0) (h2 : (frameP r m).2 = 0) : Two ((frameP q l).1 ++ (frameP r m).1) (frameP q l).1.length := by
  obtain ⟨-, -, -, a4⟩ := print_ok h1
  obtain ⟨-, -, -, b4⟩ := print_ok h2
  have run : ∀ (q cyc cnt : Nat) (l : List Ev), (∀ e ∈ l, EvFits e) → runOk 0 (sumd (headL q cyc cnt (coilL l).1.length) ++ sumd (coilL l).1) := fun q cyc cnt l hf =>
    (join_run0 (sumd_run0 (head_run0 _ _ _ _)) (sumd_run0 (coil_run0 l _ hf))).1
  have ra := run q (l.getD 0 ev0).cyc (l.getD 0 ev0).cnt l hf
  have rb := run r (m.getD 0 ev0).cyc (m.getD 0 ev0).cnt m hg
  have cut : ∀ (q cyc cnt : Nat) (p : List UInt8), ∃ X, sumd (headL q cyc cnt p.length) ++ sumd p = tafL ++ X ∧ frameB q cyc cnt p = onesL ++ (tafL ++ X) ∧ X.length = 37 + p.length := by
    intro q cyc cnt p
    refine ⟨(septL q 5 ++ (septL cyc 10 ++ (septL cnt 10 ++ septL p.length 2))) ++ (septL (sumL (headL q cyc cnt p.length)) 5 ++ sumd p), ?_, ?_, ?_⟩
    · simp only [sumd, headL, List.append_assoc]
    · simp only [frameB, sumd, headL, List.append_assoc]
    · simp only [List.length_append, septL_len, sumd_len]; omega
  obtain ⟨X, x1, x2, x3⟩ := cut q (l.getD 0 ev0).cyc (l.getD 0 ev0).cnt (coilL l).1
  obtain ⟨Y, y1, y2, -⟩ := cut r (m.getD 0 ev0).cyc (m.getD 0 ev0).cnt (coilL m).1
  rw [x1] at ra
  rw [y1] at rb
  have := two_frames ra rb (by omega)
  rw [a4, b4]
  simp only [x2, y2]
  have hlen : (onesL ++ (tafL ++ X)).length = 22 + X.length := by simp only [List.length_append, show onesL.length = 16 from rfl, show tafL.length = 6 from rfl]; omega
  rw [hlen]
  exact this

end Go.Proofs.YtobioiicbdhboaaDoor

namespace Go.Proofs.YtobioiicbdhboaaDoor
open Go.ChangeShapes Go.WideShapes Go.ChangeAt Go.RowKit
set_option linter.unusedVariables false

set_option maxRecDepth 100000 in
theorem fr_cells2 {H : Type} {enc : TypeId × Value → H} {W : World} {fuel : Nat} {cs : List Value} {x : DataW H × List MemPlace}
    (h : DataW.trod enc Tryd.prog W 0 (fun _ => true) true fuel 48 cs = some x) :
    ∃ (q : Nat) (ao : Option Addr) (cap : Nat) (l : List Ev), cs = [.int .u32 (q : Int), .slice ao l.length cap] ∧ q < 4294967296 ∧ SeenE W ao cap l ∧ ∀ e ∈ l, EvFits e := by
  obtain ⟨xs, n, _, _, hl, hxl, hg⟩ := DataW.trod_struct Tryd.underlying48 h
  rw [show Tryd.prog.cellsOf 48 = 2 from by kernel_rfl] at hl
  match cs, hl with
  | [c0, c1], _ =>
    have hx : xs.length = 2 := hxl
    match xs, hx with
    | [y0, y1], _ =>
      have f0 : DataW.trod enc Tryd.prog W 0 (fun _ => true) true n 41 (([c0, c1].drop 0).take (Tryd.prog.cellsOf 41)) = some y0 := hg 0 _ rfl
      have f1 : DataW.trod enc Tryd.prog W 0 (fun _ => true) true n 42 (([c0, c1].drop 1).take (Tryd.prog.cellsOf 42)) = some y1 := hg 1 _ rfl
      rw [show Tryd.prog.cellsOf 41 = 1 from by kernel_rfl] at f0
      rw [show Tryd.prog.cellsOf 42 = 1 from by kernel_rfl] at f1
      obtain ⟨z0, e0, _, g0⟩ := DataW.trod_int Tryd.underlying41 f0
      simp at e0
      obtain ⟨q, rfl, hq⟩ := wf_u32 g0
      have f1' : DataW.trod enc Tryd.prog W 0 (fun _ => true) true n 42 [c1] = some y1 := f1
      have hsl : ∃ ao len cap, c1 = .slice ao len cap := by
        rcases Deep.open_slice Tryd.underlying42 f1' with ⟨hcs, _⟩ | ⟨x, ll, c, m, n, D, Pl, hcs, _⟩
        · simp at hcs; exact ⟨_, _, _, hcs⟩
        · simp at hcs; exact ⟨_, _, _, hcs⟩
      obtain ⟨ao, len, cap, rfl⟩ := hsl
      obtain ⟨l, rfl, hs, hf⟩ := open_evs (H := H) (enc := enc) (W := W) (ao := ao) (len := len) (cap := cap) (d := y1.1) (ps := y1.2) ⟨n, f1'⟩
      exact ⟨q, ao, cap, l, by rw [e0], hq, hs, hf⟩

set_option maxRecDepth 100000 in
theorem open_frame {H : Type} {enc : TypeId × Value → H} {W : World} {r : Reach} {b0 : Nat} {v : Value} {d : DataW H} {ps : List MemPlace}
    (hv : Value.okWide Tryd.prog W r b0 48 v) (h : DataW.Trod enc Tryd.prog W 0 (fun _ => true) true 48 v d ps) :
    ∃ (q : Nat) (ao : Option Addr) (cap : Nat) (l : List Ev), v = .agg #[.int .u32 (q : Int), .slice ao l.length cap] ∧ q < 4294967296 ∧ SeenE W ao cap l ∧ ∀ e ∈ l, EvFits e := by
  obtain ⟨cs, rfl, hsz⟩ := okWide_struct Tryd.underlying48 hv
  obtain ⟨fuel, hf⟩ := h
  obtain ⟨l⟩ := cs
  obtain ⟨q, ao, cap, m, e, h⟩ := fr_cells2 (cs := l) hf
  exact ⟨q, ao, cap, m, by rw [e], h⟩


end Go.Proofs.YtobioiicbdhboaaDoor

namespace Go.Proofs.YtobioiicbdhboaaDoor
open Go.RowKit
set_option linter.unusedVariables false
set_option linter.unusedSimpArgs false

theorem results_cell1 {fn : Func} {p : Tmp} {ty : TypeId} (h : fn.results = #[.cell p ty]) (tmps : Array Value) (P : Program) (w : World) :
    (results fn tmps).run P w = ((asAddr (tmps.getD p undef)).run P w).andThen fun a w₁ => (loadVar ty a).run P w₁ := by
  simp only [results, h]
  simp [Sem.run_bind, Result.andThen]

/-- append([]api.Event{}, l...), as one step of a region that draws. -/
theorem step_copy {ops : Array Oper} {o : Oper} {a : Act} {w : World} {K : Act → World → Prop} {Q : Exit → Act → World → Prop} {E : Prop} (hgd : o.guard = none) (s x : Operand)
    (ho : o.op = .call { callee := .builtin .append, args := #[s, x], argTypes := #[42, 42] }) (base : Nat) (v : Value) (hs : a.eval s = v)
    (hown : w.ownsRow base 69 6 v 0 []) (ao : Option Addr) (cap : Nat) (l : List Ev) (hx : a.eval x = .slice ao l.length cap) (hl : SeenE w ao cap l) (hn : l.length ≤ 1000000) (hbase : base ≤ w.heap.size)
    (h : ∀ bo bc w', OwnE w' base (.slice bo l.length bc) l → w.grownBy w' v.ownBlock → K (a.put o.dst (.slice bo l.length bc)) w') : if Region.wanted o (yielded ops a.tmps) = true then Oper.wp Tryd.prog o a w K Q else E := by
  obtain ⟨i0, hi, hz0, hz1, hz2⟩ := Tryd.infoEv3
  have hw : Region.wanted o (yielded ops a.tmps) = true := by simp [Region.wanted, hgd]
  rw [if_pos hw]
  cases ao with
  | none =>
    obtain ⟨rfl, rfl⟩ := hl.nn rfl
    have hrun := run_append_owned_none (P := Tryd.prog) (w := w) base 42 o.type 69 i0 6 Tryd.underlying42 hi v 0 [] hown
    have hx' : a.eval x = .slice none 0 0 := hx
    unfold Oper.wp
    simp [execOp, ho, resolve, invoke, builtin, hs, hx', hrun, Result.andThen]
    obtain ⟨bo, bc, rfl, -, -⟩ := OwnE.seen (l := []) hown
    exact h bo bc w hown ⟨rfl, rfl, rfl, Nat.le_refl _, fun _ _ _ => rfl⟩
  | some ad =>
    refine wp_append_own w s x 42 ho base 69 i0 _ 6 40 Tryd.underlying42 hi hz0 hz1 hz2 rfl (by decide) v 0 [] hs hown ad l.length cap (evRow l) hx (evRow_len l) hl.seg (evRow_cell l) (by unfold maxLen; omega) (by omega) hbase ?_
    intro v' w' h1 h2 _
    rw [Nat.zero_add, List.nil_append] at h1
    obtain ⟨bo, bc, rfl, -, -⟩ := OwnE.seen (l := l) h1
    exact h bo bc w' h1 h2

theorem own_end {w w3 w4 : World} {D E q : Nat} {bo : Option Addr} {bc : Nat} {l : List Ev} (h4 : OwnE w4 E (.slice bo l.length bc) l) (N4 : w4.heap[D]? = some (frO 0 none 0 0)) (g4 : w3.grownBy w4 (Value.slice (some ⟨E, 0, none⟩) 0 0).ownBlock) (B3 : Below w.heap.size w w3) (Z3 : E ≤ w3.heap.size) (hE : w.heap.size ≤ D ∧ w.heap.size ≤ E) :
    SeenE (frSt w4 D q bo l.length bc) bo bc l ∧ Below w.heap.size w (frSt w4 D q bo l.length bc) := by
  have B4 := B3.grown g4 (by omega) (fun j hj => by simp [Value.ownBlock] at hj; omega)
  obtain ⟨ao4, cap4, e, s4, -⟩ := h4.seen
  cases e
  have hst := fr_stored (q := q) (ao := bo) (n := l.length) (cap := bc) N4
  exact ⟨s4.frame N4 hst.2, below_grown B4 B4.size hE.1 hst.2⟩


end Go.Proofs.YtobioiicbdhboaaDoor

namespace Go.Proofs.YtobioiicbdhboaaDoor
open Go.RowKit
set_option linter.unusedVariables false
set_option linter.unusedSimpArgs false

/-- A row of events that is laid. -/
theorem seen_litF {w : World} {B : Nat} {l : List Ev} (h : w.heap[B]? = some (.cells (evRow l).toArray 69 (0, 0))) (hm : l.length ≤ maxLen) : SeenE w (some ⟨B, 0, none⟩) l.length l := by
  refine ⟨hm, Nat.le_refl _, (fun h => by cases h), fun i hi => ⟨B, 0, rfl, blk_lt h, fun j hj => ?_⟩⟩
  have key : ∀ d, d < 6 → w.cell? ⟨B, 0 + j * 6 + d, none⟩ = (ev6 l[j])[d]? := by
    intro d hd
    rw [Nat.zero_add, ← evRow_at l j hj d hd]
    simp [World.cell?, h]
  exact ⟨key 0 (by omega), key 1 (by omega), key 2 (by omega), key 3 (by omega), key 4 (by omega), key 5 (by omega)⟩

def fwA : Ev := ⟨22, 9, 5, 3, 0, 0⟩
theorem fw_fits : ∀ e ∈ [fwA], EvFits e := by
  intro e he
  simp only [List.mem_cons, List.not_mem_nil, or_false] at he
  subst he
  exact ⟨by decide, by decide, by decide, by decide, by decide, by decide, by decide⟩
theorem fw_coil : coilL [fwA] = ([22, 0, 0, 3], 0) := by kernel_rfl
theorem fw_print : frameP 7 [fwA] = (frameB 7 9 5 [22, 0, 0, 3], 0) := by
  unfold frameP
  rw [fw_coil, if_neg (by simp), if_pos rfl, if_pos (by simp)]
  rfl
theorem fw_len : (frameP 7 [fwA]).1.length = 63 := by rw [fw_print]; simp only [frameB_len]; rfl
def fwS : ByteArray := ⟨(frameP 7 [fwA]).1.toArray⟩
theorem fwS_size : fwS.size = 63 := by unfold fwS; rw [mk_size, fw_len]
theorem fwS_list : fwS.data.toList = (frameP 7 [fwA]).1 := rfl
theorem fw_back : frameR (((⟨#[120]⟩ : ByteArray) ++ fwS ++ (⟨#[121]⟩ : ByteArray)).data.toList.drop 1) = (7, [fwA], 63, 0) := by
  have e : ((⟨#[120]⟩ : ByteArray) ++ fwS ++ (⟨#[121]⟩ : ByteArray)).data.toList = 120 :: ((frameP 7 [fwA]).1 ++ [121]) := by
    rw [ByteArray.data_append, ByteArray.data_append, Array.toList_append, Array.toList_append, fwS_list]; rfl
  rw [e, List.drop_succ_cons, List.drop_zero, frame_back (by decide) fw_fits (by rw [fw_print]), fw_len]
theorem fw_cut : (frameR ((fwS.extract 0 60).data.toList.drop 0)).2.2.2 = 2 := by
  have e : (fwS.extract 0 60).data.toList = (frameP 7 [fwA]).1.take 60 := by rw [extract_part _ _ _ (by rw [fwS_size]; decide), List.drop_zero, fwS_list]
  have a := print_at (q := 7) (l := [fwA]) (by decide) fw_fits (by rw [fw_print]) []
  rw [List.append_nil, fw_coil] at a
  rw [List.drop_zero, e]
  exact frame_cut a 60 (by decide)
theorem fr_err {L : List UInt8} {c : Int} (h : (frameR L).2.2.2 = c) (hc : c ≠ 0) : frameR L = (0, [], 0, c) := by
  unfold frameR at h ⊢
  by_cases h1 : (headG L).2 = 0
  · rw [if_pos h1] at h ⊢
    by_cases h2 : (payG (L.drop 54) (headG L).1.size).2 = 0
    · rw [if_pos h2] at h ⊢
      by_cases h3 : (evsG (headG L).1.cyc (headG L).1.cnt (payG (L.drop 54) (headG L).1.size).1).2 = 0
      · rw [if_pos h3] at h; exact absurd h.symm hc
      · rw [if_neg h3] at h ⊢; rw [← h]
    · rw [if_neg h2] at h ⊢; rw [← h]
  · rw [if_neg h1] at h ⊢; rw [← h]


end Go.Proofs.YtobioiicbdhboaaDoor
