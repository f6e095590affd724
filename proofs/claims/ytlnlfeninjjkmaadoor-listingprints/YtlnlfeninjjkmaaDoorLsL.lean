/-
  What the listed package-level variables give the walks of layer 11: the cells of isa's table, of listing's words for modes, of the powers of ten, of strconv's two errors, and that internal/bytealg.MaxLen holds some int. Conditions: the row's own list of variables, which the card ties to the program's text.
-/
import Derived.Test.YtlnlfeninjjkmaaDoorIsL
import Derived.Test.YtlnlfeninjjkmaaDoorLs0
import Derived.Test.YtlnlfeninjjkmaaDoorShelf
namespace Go.Proofs.YtlnlfeninjjkmaaDoor
open Go.ChangeShapes Go.WideShapes Go.ChangeAt Go.RowKit
set_option linter.unusedVariables false

def laidL : List (String × DataW Unit) := Rows.listingLinesRow.laid
theorem laid_pow : (Rows.laid_internal_strconv_uint64pow10 : DataW Unit) = Lib.tabData .u64 Lib.pow10Tab := by kernel_rfl
theorem laid_modes : (Rows.laid_taffrail_listing_modes : DataW Unit) = .agg ([modeW 0, modeW 1, modeW 2].map fun l => .lit (.string l)) := by kernel_rfl

/-- What the walks ask of a world. -/
structure LsL (w : World) : Prop where
  is : IsL w
  pow : Lib.TabIs Tryd.prog w "internal/strconv.uint64pow10" .u64 Lib.pow10Tab
  mx : ∃ m, w.cell? ⟨3, 0, none⟩ = some (.int .i64 m)
  syn : ∃ te pe, w.cell? ⟨6, 0, none⟩ = some (.iface te pe)
  rng : ∃ te pe, w.cell? ⟨7, 0, none⟩ = some (.iface te pe)
  md : ∀ k, k < 3 → w.cell? ⟨0, k, none⟩ = some (.string (bytesOf (modeW k)))

theorem LsL.below {w w' : World} (h : LsL w) (hb : Below w.heap.size w w') : LsL w' := by
  refine ⟨h.is.below hb, ?_, ?_, ?_, ?_, fun k hk => cell_kept hb (h.md k hk)⟩
  · have hp := h.pow
    have hg : Tryd.prog.globalNamed "internal/strconv.uint64pow10" = some 2 := by kernel_rfl
    unfold Lib.TabIs World.var? at hp ⊢
    rw [hg] at hp ⊢
    simp only [Option.bind_some] at hp ⊢
    have hlt : 2 < w.heap.size := by
      rcases Nat.lt_or_ge 2 w.heap.size with h' | h'
      · exact h'
      · rw [Array.getElem?_eq_none h'] at hp; cases hp
    rw [hb.block _ hlt]
    exact hp
  · obtain ⟨m, hm⟩ := h.mx; exact ⟨m, cell_kept hb hm⟩
  · obtain ⟨a, b, hm⟩ := h.syn; exact ⟨a, b, cell_kept hb hm⟩
  · obtain ⟨a, b, hm⟩ := h.rng; exact ⟨a, b, cell_kept hb hm⟩

set_option maxRecDepth 100000 in
theorem iface_var {W : World} {n nm : String} {d : DataW Unit} {r : List (String × DataW Unit)} {g : Nat} (h : laidMet Tryd.prog ((n, .iface nm d) :: r) W)
    (hg : Tryd.prog.globalNamed n = some g) (ht : (Tryd.prog.globals[g]?).map (·.type) = some 76) : ∃ te pe, W.cell? ⟨g, 0, none⟩ = some (.iface te pe) := by
  obtain ⟨ps, ⟨g0, t0, cs0, f0, p0, q0, hg0, ht0, hv0, hd0, _, _⟩, _, _⟩ := h
  obtain rfl := Option.some.inj (hg.symm.trans hg0)
  obtain rfl := Option.some.inj (ht.symm.trans ht0)
  obtain ⟨_, u, v, hcs, _, _⟩ := iface_of_trod Tryd.underlying76 hd0
  refine ⟨u, v, ?_⟩
  rw [World.var?_cell hg0 hv0 0, Array.eq_one_of_toList hcs]
  rfl

set_option maxRecDepth 100000 in
theorem of_laid {W : World} (h : laidMetH Tryd.prog laidL W) (hsh : W.ShapedOpen Tryd.prog) : LsL W := by
  rw [MakeChecks.laidMetH_plain _ _ _ (by kernel_rfl)] at h
  have h2 := h.tail.tail
  have h3 := h2.tail
  have h4 := h3.tail
  have h5 := h4.tail
  have h6 := h5.tail
  refine ⟨isL_of h3, ?_, ?_, ?_, ?_, ?_⟩
  · have h2' : laidMet Tryd.prog (("internal/strconv.uint64pow10", Lib.tabData .u64 Lib.pow10Tab) :: _) W := laid_pow ▸ h2
    exact Lib.tabIs_of_head (g := 2) (by kernel_rfl) (by kernel_rfl) Tryd.underlying107 Tryd.underlying58 (by kernel_rfl) (by kernel_rfl) h2'
  · exact Tryd.laysM145.s1_3 W hsh
  · exact iface_var h5 (by kernel_rfl) (by kernel_rfl)
  · exact iface_var h4 (by kernel_rfl) (by kernel_rfl)
  · obtain ⟨ps, ⟨g0, t0, cs0, f0, p0, q0, hg0, ht0, hv0, hd0, _, _⟩, _, _⟩ := h6
    obtain rfl := Option.some.inj ((show Tryd.prog.globalNamed "taffrail/listing.modes" = some 0 by kernel_rfl).symm.trans hg0)
    obtain rfl := Option.some.inj ((show (Tryd.prog.globals[0]?).map (·.type) = some 55 by kernel_rfl).symm.trans ht0)
    obtain ⟨xs, m, _, ex, hlen, hl, hel⟩ := DataW.trod_array Tryd.underlying55 hd0
    rw [show Tryd.prog.cellsOf 9 = 1 from by kernel_rfl] at hel
    have hmap : [modeW 0, modeW 1, modeW 2].map (fun l => (DataW.lit (.string l) : DataW Unit)) = xs.map (·.1) := DataW.agg.inj (laid_modes.symm.trans (Prod.mk.inj ex).1)
    intro k hk
    have hE := hel k hk
    rw [List.getElem?_eq_getElem (by omega)] at hE
    obtain ⟨s, hs, hy, _⟩ := DataW.trod_string Tryd.underlying9 hE
    have hx1 : (xs[k]'(by omega)).1 = .lit (.string (modeW k)) := by
      have e := congrArg (·[k]?) hmap
      simp only [List.getElem?_map, List.getElem?_eq_getElem (show k < xs.length by omega), Option.map_some] at e
      have : k = 0 ∨ k = 1 ∨ k = 2 := by omega
      rcases this with rfl | rfl | rfl <;> exact (Option.some.inj e).symm
    rw [hy] at hx1
    simp only [DataW.lit.injEq, Lit.string.injEq] at hx1
    rw [World.var?_cell hg0 hv0]
    have h1 := congrArg (·[0]?) hs
    simp only [List.getElem?_take, List.getElem?_drop, Nat.mul_one, Nat.add_zero, Nat.zero_lt_one, if_true, List.getElem?_cons_zero] at h1
    rw [← hx1, bytesOf_list]
    rw [Array.getElem?_toList] at h1
    exact h1

end Go.Proofs.YtlnlfeninjjkmaaDoor
