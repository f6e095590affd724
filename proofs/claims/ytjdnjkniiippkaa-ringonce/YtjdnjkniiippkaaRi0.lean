/-
  A ring in plain words: its frames, what is lost, what is drained. Nothing of the translation is named here.
-/
import Derived.WalkKit
namespace Go.Proofs.Ytjdnjkniiippkaa
set_option linter.unusedVariables false

/-- The bytes of all. -/
def sz : List ByteArray → Nat
  | [] => 0
  | f :: l => f.size + sz l
theorem sz_append : ∀ l m : List ByteArray, sz (l ++ m) = sz l + sz m
  | [], m => by simp [sz]
  | f :: l, m => by simp only [List.cons_append, sz, sz_append l m]; omega
theorem sz_one (f : ByteArray) : sz [f] = f.size := by simp [sz]
theorem sz_take_drop (l : List ByteArray) (k : Nat) : sz (l.take k) + sz (l.drop k) = sz l := by
  rw [← sz_append, List.take_append_drop]
theorem len_le_sz : ∀ l : List ByteArray, (∀ f ∈ l, 1 ≤ f.size) → l.length ≤ sz l
  | [], _ => Nat.le_refl _
  | f :: l, h => by
    have h1 := len_le_sz l (fun g hg => h g (List.mem_cons_of_mem _ hg))
    have h2 := h f List.mem_cons_self
    simp only [List.length_cons, sz]
    omega
/-- The bytes of all, in their order. -/
def bys : List ByteArray → List UInt8
  | [] => []
  | f :: l => f.data.toList ++ bys l
theorem bys_len : ∀ l : List ByteArray, (bys l).length = sz l
  | [] => rfl
  | f :: l => by rw [bys, List.length_append, bys_len l, sz, Array.length_toList]; rfl

/-- A ring, by its frames; of a begun one what is left; the frames that were lost, in order. -/
structure RSt where
  cap : Nat
  pol : Nat
  fs : List ByteArray
  begun : Bool
  lost : Nat
  gone : List ByteArray

def RSt.used (s : RSt) : Nat := sz s.fs
def RSt.first (s : RSt) : Nat := if s.begun then 1 else 0
def RSt.head (s : RSt) : List ByteArray := s.fs.take s.first
def RSt.tail (s : RSt) : List ByteArray := s.fs.drop s.first
def RSt.rest (s : RSt) : Nat := sz s.head

/-- What always holds. -/
structure RSt.Ok (s : RSt) : Prop where
  c1 : 179 ≤ s.cap
  c2 : s.cap ≤ 1048576
  p : s.pol = 0 ∨ s.pol = 1
  u : s.used ≤ s.cap
  e : ∀ f ∈ s.fs, 1 ≤ f.size
  b : s.begun = true → s.fs ≠ []

/-- How many of the oldest are lost, till there is room; so many bytes are lost already. -/
def shed (room used n : Nat) : Nat → List ByteArray → Nat
  | _, [] => 0
  | size, f :: r => if n + used ≤ room + size then 0 else shed room used n (size + f.size) r + 1

theorem shed_le (room used n : Nat) : ∀ (l : List ByteArray) (size : Nat), shed room used n size l ≤ l.length
  | [], _ => Nat.le_refl _
  | f :: l, size => by
    have := shed_le room used n l (size + f.size)
    simp only [shed]
    split
    · omega
    · simp; omega
theorem shed_more (room used n : Nat) : ∀ (l : List ByteArray) (size k : Nat), k < shed room used n size l → room + size + sz (l.take k) < n + used
  | [], size, k, h => by simp [shed] at h
  | f :: l, size, 0, h => by
    simp only [shed] at h
    split at h
    · omega
    · simp [sz]; omega
  | f :: l, size, k + 1, h => by
    simp only [shed] at h
    split at h
    · omega
    · have := shed_more room used n l (size + f.size) k (by omega)
      simp only [List.take_succ_cons, sz]
      omega
theorem shed_done (room used n : Nat) : ∀ (l : List ByteArray) (size : Nat), shed room used n size l < l.length → n + used ≤ room + size + sz (l.take (shed room used n size l))
  | [], size, h => by simp [shed] at h
  | f :: l, size, h => by
    by_cases h0 : n + used ≤ room + size
    · have : shed room used n size (f :: l) = 0 := by simp only [shed]; rw [if_pos h0]
      rw [this]
      omega
    · have e : shed room used n size (f :: l) = shed room used n (size + f.size) l + 1 := by simp only [shed]; rw [if_neg h0]
      rw [e] at h ⊢
      have := shed_done room used n l (size + f.size) (by simp at h; omega)
      simp only [List.take_succ_cons, sz]
      omega
theorem shed_zero {room used n size : Nat} (h : n + used ≤ room + size) (l : List ByteArray) : shed room used n size l = 0 := by
  cases l with
  | nil => rfl
  | cons f l => simp only [shed]; rw [if_pos h]
theorem shed_cons {room used n size : Nat} (h : ¬ n + used ≤ room + size) (f : ByteArray) (l : List ByteArray) : shed room used n size (f :: l) = shed room used n (size + f.size) l + 1 := by
  simp only [shed]; rw [if_neg h]

/-- The k oldest that aren't begun are lost. -/
def RSt.losing (s : RSt) (k : Nat) : RSt := { s with fs := s.head ++ s.tail.drop k, lost := s.lost + k, gone := s.gone ++ s.tail.take k }
def RSt.shed (s : RSt) (n : Nat) : Nat := Proofs.Ytjdnjkniiippkaa.shed s.cap s.used n 0 s.tail
def RSt.holding (s : RSt) (t : ByteArray) : RSt := { s with fs := s.fs ++ [t] }
def RSt.losing1 (s : RSt) (t : ByteArray) : RSt := { s with lost := s.lost + 1, gone := s.gone ++ [t] }

def RSt.put (s : RSt) (t : ByteArray) : Nat × RSt :=
  if t.size < 1 ∨ 179 < t.size then (1, s)
  else if s.cap < t.size + s.used ∧ (s.pol = 0 ∨ s.cap < t.size + s.rest) then (7, s.losing1 t)
  else (0, (s.losing (s.shed t.size)).holding t)

theorem RSt.used_parts (s : RSt) : s.rest + sz s.tail = s.used := sz_take_drop _ _
theorem RSt.losing_zero (s : RSt) : s.losing 0 = s := by
  cases s
  simp [RSt.losing, RSt.head, RSt.tail, List.take_append_drop]
theorem RSt.losing_first (s : RSt) (k : Nat) (h : s.Ok) : (s.losing k).first = s.first ∧ (s.losing k).head = s.head ∧ (s.losing k).tail = s.tail.drop k := by
  have hf : (s.losing k).first = s.first := rfl
  have hl : s.head.length = s.first := by
    have hb := h.b
    unfold RSt.head RSt.first
    cases hb' : s.begun with
    | false => simp
    | true =>
      have := hb hb'
      cases hfs : s.fs with
      | nil => exact absurd hfs this
      | cons a l => simp
  refine ⟨hf, ?_, ?_⟩
  · show ((s.losing k).fs).take s.first = s.head
    show (s.head ++ s.tail.drop k).take s.first = s.head
    rw [← hl]
    exact List.take_left
  · show (s.head ++ s.tail.drop k).drop s.first = s.tail.drop k
    rw [← hl]
    exact List.drop_left
theorem RSt.head_len (s : RSt) (h : s.Ok) : s.head.length = s.first := by
  have hb := h.b
  unfold RSt.head RSt.first
  cases hb' : s.begun with
  | false => simp
  | true =>
    have := hb hb'
    cases hfs : s.fs with
    | nil => exact absurd hfs this
    | cons a l => simp
theorem RSt.fs_parts (s : RSt) : s.head ++ s.tail = s.fs := List.take_append_drop _ _
theorem RSt.losing_used (s : RSt) (k : Nat) : (s.losing k).used + sz (s.tail.take k) = s.used := by
  show sz (s.head ++ s.tail.drop k) + _ = _
  have h1 := s.used_parts
  have h2 := sz_take_drop s.tail k
  rw [sz_append]
  show s.rest + _ + _ = _
  omega
theorem RSt.shed_le (s : RSt) (n : Nat) : s.shed n ≤ s.tail.length := Proofs.Ytjdnjkniiippkaa.shed_le _ _ _ _ _
theorem RSt.shed_more (s : RSt) (n k : Nat) (h : k < s.shed n) : s.cap + sz (s.tail.take k) < n + s.used := by
  have := Proofs.Ytjdnjkniiippkaa.shed_more _ _ _ _ _ _ h
  simpa using this
theorem RSt.shed_done (s : RSt) (n : Nat) (h : n + s.rest ≤ s.cap) : n + s.used ≤ s.cap + sz (s.tail.take (s.shed n)) := by
  rcases Nat.lt_or_ge (s.shed n) s.tail.length with h1 | h1
  · have := Proofs.Ytjdnjkniiippkaa.shed_done _ _ _ _ _ h1
    simpa [RSt.shed] using this
  · have hu := s.used_parts
    rw [List.take_of_length_le h1]
    omega
theorem RSt.shed_fits (s : RSt) (n : Nat) (h : n + s.used ≤ s.cap) : s.shed n = 0 := shed_zero (by simpa using h) _
theorem RSt.ok_losing {s : RSt} (h : s.Ok) (k : Nat) : (s.losing k).Ok := by
  have hu := s.losing_used k
  have hl := s.head_len h
  refine ⟨h.c1, h.c2, h.p, by have := h.u; show (s.losing k).used ≤ s.cap; omega, fun f hf => ?_, fun hb => ?_⟩
  · have : f ∈ s.head ++ s.tail.drop k := hf
    refine h.e f ?_
    rw [← s.fs_parts]
    rcases List.mem_append.1 this with h1 | h1
    · exact List.mem_append_left _ h1
    · exact List.mem_append_right _ (List.mem_of_mem_drop h1)
  · have hb' : s.begun = true := hb
    show s.head ++ s.tail.drop k ≠ []
    intro e
    have := congrArg List.length e
    rw [List.length_append, hl] at this
    unfold RSt.first at this
    rw [hb'] at this
    simp at this
theorem RSt.ok_put {s : RSt} (h : s.Ok) (t : ByteArray) : (s.put t).2.Ok := by
  unfold RSt.put
  split
  · exact h
  · rename_i hn
    split
    · exact ⟨h.c1, h.c2, h.p, h.u, h.e, h.b⟩
    · rename_i hc
      have h1 := RSt.ok_losing h (s.shed t.size)
      have hr : t.size + s.rest ≤ s.cap := by
        have := s.used_parts
        omega
      have hd := s.shed_done t.size hr
      have hu := s.losing_used (s.shed t.size)
      refine ⟨h.c1, h.c2, h.p, ?_, fun f hf => ?_, fun _ => ?_⟩
      · show sz ((s.losing (s.shed t.size)).fs ++ [t]) ≤ s.cap
        rw [sz_append, sz_one]
        have : sz (s.losing (s.shed t.size)).fs = (s.losing (s.shed t.size)).used := rfl
        omega
      · rcases List.mem_append.1 hf with h2 | h2
        · exact h1.e f h2
        · simp at h2; subst h2; omega
      · show (s.losing (s.shed t.size)).fs ++ [t] ≠ []
        simp

/-- What is drained: the bytes, what is left, is it begun? -/
def drn : List ByteArray → Nat → Bool → List UInt8 × List ByteArray × Bool
  | [], _, b => ([], [], b)
  | f :: r, m, b =>
    if m = 0 then ([], f :: r, b)
    else if f.size ≤ m then (f.data.toList ++ (drn r (m - f.size) false).1, (drn r (m - f.size) false).2)
    else (f.data.toList.take m, f.extract m f.size :: r, true)

def RSt.drained (s : RSt) (m : Nat) : List UInt8 := (drn s.fs m s.begun).1
def RSt.drain (s : RSt) (m : Nat) : RSt := { s with fs := (drn s.fs m s.begun).2.1, begun := (drn s.fs m s.begun).2.2 }

theorem drn_zero (l : List ByteArray) (b : Bool) : drn l 0 b = ([], l, b) := by cases l <;> simp [drn]
theorem drn_nil (m : Nat) (b : Bool) : drn [] m b = ([], [], b) := rfl
theorem drn_whole {f : ByteArray} {r : List ByteArray} {m : Nat} {b : Bool} (h0 : m ≠ 0) (h : f.size ≤ m) : drn (f :: r) m b = (f.data.toList ++ (drn r (m - f.size) false).1, (drn r (m - f.size) false).2) := by
  rw [drn, if_neg h0, if_pos h]
theorem drn_part {f : ByteArray} {r : List ByteArray} {m : Nat} {b : Bool} (h0 : m ≠ 0) (h : ¬ f.size ≤ m) : drn (f :: r) m b = (f.data.toList.take m, f.extract m f.size :: r, true) := by
  rw [drn, if_neg h0, if_neg h]
theorem size_list (f : ByteArray) : f.data.toList.length = f.size := Array.length_toList
theorem size_extract (f : ByteArray) (m : Nat) (h : m ≤ f.size) : (f.extract m f.size).size = f.size - m := by simp
theorem list_extract (f : ByteArray) (m : Nat) : (f.extract m f.size).data.toList = f.data.toList.drop m := by
  rw [ByteArray.data_extract, Array.toList_extract, List.extract_eq_take_drop]
  rw [List.take_of_length_le]
  rw [List.length_drop, size_list]
  exact Nat.le_refl _
theorem drn_bytes : ∀ (l : List ByteArray) (m : Nat) (b : Bool), (drn l m b).1 ++ bys (drn l m b).2.1 = bys l
  | [], m, b => rfl
  | f :: r, m, b => by
    by_cases h0 : m = 0
    · subst h0; rw [drn_zero]; rfl
    · by_cases h : f.size ≤ m
      · rw [drn_whole h0 h]
        have := drn_bytes r (m - f.size) false
        simp only [List.append_assoc, this]
        rfl
      · rw [drn_part h0 h]
        simp only [bys, list_extract]
        rw [← List.append_assoc, List.take_append_drop]
theorem drn_sz (l : List ByteArray) (m : Nat) (b : Bool) : (drn l m b).1.length + sz (drn l m b).2.1 = sz l := by
  have := congrArg List.length (drn_bytes l m b)
  rwa [List.length_append, bys_len, bys_len] at this
theorem drn_len : ∀ (l : List ByteArray) (m : Nat) (b : Bool), (drn l m b).2.1.length ≤ l.length
  | [], m, b => Nat.le_refl _
  | f :: r, m, b => by
    by_cases h0 : m = 0
    · subst h0; rw [drn_zero]; exact Nat.le_refl _
    · by_cases h : f.size ≤ m
      · rw [drn_whole h0 h]
        have := drn_len r (m - f.size) false
        simp; omega
      · rw [drn_part h0 h]
        simp
theorem drn_e : ∀ (l : List ByteArray) (m : Nat) (b : Bool), (∀ f ∈ l, 1 ≤ f.size) → ∀ f ∈ (drn l m b).2.1, 1 ≤ f.size
  | [], m, b, _ => by simp [drn]
  | f :: r, m, b, he => by
    by_cases h0 : m = 0
    · subst h0; rw [drn_zero]; exact he
    · by_cases h : f.size ≤ m
      · rw [drn_whole h0 h]
        exact drn_e r (m - f.size) false fun g hg => he g (List.mem_cons_of_mem _ hg)
      · rw [drn_part h0 h]
        intro g hg
        rcases List.mem_cons.1 hg with rfl | hg
        · rw [size_extract f m (by omega)]; omega
        · exact he g (List.mem_cons_of_mem _ hg)
theorem drn_b : ∀ (l : List ByteArray) (m : Nat) (b : Bool), (b = true → l ≠ []) → (drn l m b).2.2 = true → (drn l m b).2.1 ≠ []
  | [], m, b, hb, h => hb h
  | f :: r, m, b, hb, h => by
    by_cases h0 : m = 0
    · subst h0; rw [drn_zero]; simp
    · by_cases hf : f.size ≤ m
      · rw [drn_whole h0 hf] at h ⊢
        exact drn_b r (m - f.size) false (by simp) h
      · rw [drn_part h0 hf]; simp
theorem drn_all : ∀ (l : List ByteArray) (m : Nat) (b : Bool), sz l ≤ m → (∀ f ∈ l, 1 ≤ f.size) → (b = true → l ≠ []) → drn l m b = (bys l, [], false)
  | [], m, b, _, _, hb => by
    cases b with
    | false => rfl
    | true => exact absurd rfl (hb rfl)
  | f :: r, m, b, hm, he, hb => by
    have h1 := he f List.mem_cons_self
    simp only [sz] at hm
    rw [drn_whole (by omega) (by omega), drn_all r (m - f.size) false (by omega) (fun g hg => he g (List.mem_cons_of_mem _ hg)) (by simp)]
    rfl
theorem RSt.ok_drain {s : RSt} (h : s.Ok) (m : Nat) : (s.drain m).Ok := by
  have h1 := drn_sz s.fs m s.begun
  refine ⟨h.c1, h.c2, h.p, ?_, drn_e _ _ _ h.e, drn_b _ _ _ h.b⟩
  have := h.u
  show sz (drn s.fs m s.begun).2.1 ≤ s.cap
  have : sz s.fs = s.used := rfl
  omega

end Go.Proofs.Ytjdnjkniiippkaa
