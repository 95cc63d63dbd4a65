/- What the program lays in its rows. -/
import Derived.Test.YtnbpadnbmbdfeaaDoorU
import Derived.Test.YtnbpadnbmbdfeaaDoorTie
import Derived.LaidMore
import Derived.Stop.Joined
namespace Go.Proofs.YtnbpadnbmbdfeaaDoor
open Go.RowKit Go.Deep Go.Joins
open Go.ChangeShapes Go.WideShapes Go.ChangeAt Go.WideMaps Go.WideElems
theorem own : ownKnob Tryd.prog.godebug = none := by kernel_rfl
def laidL : List (String × DataW Unit) := Rows.decodeTellsRow.laid
theorem g_branches : Tryd.prog.globalNamed "tandem/decode.branches" = some 0 := by kernel_rfl
theorem t_branches : (Tryd.prog.globals[0]?).map (·.type) = some 44 := by kernel_rfl
theorem g_loads : Tryd.prog.globalNamed "tandem/decode.loads" = some 1 := by kernel_rfl
theorem t_loads : (Tryd.prog.globals[1]?).map (·.type) = some 44 := by kernel_rfl
theorem g_stores : Tryd.prog.globalNamed "tandem/decode.stores" = some 2 := by kernel_rfl
theorem t_stores : (Tryd.prog.globals[2]?).map (·.type) = some 44 := by kernel_rfl
theorem g_numbers : Tryd.prog.globalNamed "tandem/decode.numbers" = some 4 := by kernel_rfl
theorem t_numbers : (Tryd.prog.globals[4]?).map (·.type) = some 44 := by kernel_rfl
theorem g_sums : Tryd.prog.globalNamed "tandem/decode.sums" = some 5 := by kernel_rfl
theorem t_sums : (Tryd.prog.globals[5]?).map (·.type) = some 44 := by kernel_rfl
theorem g_products : Tryd.prog.globalNamed "tandem/decode.products" = some 6 := by kernel_rfl
theorem t_products : (Tryd.prog.globals[6]?).map (·.type) = some 44 := by kernel_rfl
theorem g_others : Tryd.prog.globalNamed "tandem/decode.others" = some 7 := by kernel_rfl
theorem t_others : (Tryd.prog.globals[7]?).map (·.type) = some 44 := by kernel_rfl
theorem g_wordSums : Tryd.prog.globalNamed "tandem/decode.wordSums" = some 8 := by kernel_rfl
theorem t_wordSums : (Tryd.prog.globals[8]?).map (·.type) = some 44 := by kernel_rfl
theorem g_wordProducts : Tryd.prog.globalNamed "tandem/decode.wordProducts" = some 9 := by kernel_rfl
theorem t_wordProducts : (Tryd.prog.globals[9]?).map (·.type) = some 44 := by kernel_rfl
theorem g_wordOthers : Tryd.prog.globalNamed "tandem/decode.wordOthers" = some 10 := by kernel_rfl
theorem t_wordOthers : (Tryd.prog.globals[10]?).map (·.type) = some 44 := by kernel_rfl
theorem g_fences : Tryd.prog.globalNamed "tandem/decode.fences" = some 3 := by kernel_rfl
theorem t_fences : (Tryd.prog.globals[3]?).map (·.type) = some 44 := by kernel_rfl
theorem g_registers : Tryd.prog.globalNamed "tandem/decode.registers" = some 11 := by kernel_rfl
theorem t_registers : (Tryd.prog.globals[11]?).map (·.type) = some 44 := by kernel_rfl
theorem c3 : Tryd.prog.cellsOf 3 = 1 := by kernel_rfl
theorem one_row {W : World} {n : String} {g0 : Nat} {L : List Int} {rest : List (String × DataW Unit)} {ps : List MemPlace} (hn : Tryd.prog.globalNamed n = some g0) (ht0 : (Tryd.prog.globals[g0]?).map (·.type) = some 44) (hL : L.length = 8)
    (h : DataW.LaidVars Tryd.prog W ((n, .agg (L.map fun x => .lit (.int .i64 x))) :: rest) ps) :
    (∀ (j : Nat) (v : Int), L[j]? = some v → W.cell? ⟨g0, j, none⟩ = some (.int .i64 v)) ∧ ∃ ps', DataW.LaidVars Tryd.prog W rest ps' := by
  obtain ⟨g, t, cs, f, p, q, hg, ht, hv, hd, hr, _⟩ := h
  obtain rfl := Option.some.inj (hn.symm.trans hg)
  obtain rfl := Option.some.inj (ht0.symm.trans ht)
  refine ⟨?_, _, hr⟩
  obtain ⟨xs, m, rfl, hx, hlen, hn8, hel⟩ := DataW.trod_array Tryd.underlying44 hd
  intro j v hv'
  have hj : j < 8 := by
    have := (List.getElem?_eq_some_iff.1 hv').1
    omega
  have h1 := hel j hj
  rw [c3, Nat.mul_one] at h1
  have hxs : xs[j]? = some (xs[j]'(by omega)) := List.getElem?_eq_getElem _
  rw [hxs] at h1
  obtain ⟨k, e1, e2, _⟩ := DataW.trod_int Tryd.underlying3 h1
  have hL2 : L.map (fun x => (DataW.lit (Lit.int IntKind.i64 x) : DataW Unit)) = xs.map (fun x => x.fst) := by
    have := congrArg Prod.fst hx
    injection this
  have hLj := congrArg (fun l => l[j]?) hL2
  simp only [List.getElem?_map, hv', hxs, Option.map_some] at hLj
  rw [e2] at hLj
  have hk : v = k := by
    injection hLj with h2
    injection h2 with h3
    injection h3
  subst hk
  rw [World.var?_cell hn hv j]
  have h2 : cs.toList[j]? = some (.int .i64 v) := by
    have h3 : (List.take 1 (List.drop j cs.toList))[0]? = some (.int .i64 v) := by rw [e1]; rfl
    rw [List.getElem?_take_of_lt (by omega), List.getElem?_drop, Nat.add_zero] at h3
    exact h3
  rw [← Array.getElem?_toList]
  exact h2
theorem laid_of {W : World} (h : laidMetH Tryd.prog laidL W) : Laid W := by
  rw [MakeChecks.laidMetH_plain _ _ _ (by kernel_rfl)] at h
  obtain ⟨ps, h, _⟩ := h
  obtain ⟨r0, _, h⟩ := one_row (L := tab 0) g_branches t_branches rfl h
  obtain ⟨r1, _, h⟩ := one_row (L := tab 1) g_loads t_loads rfl h
  obtain ⟨r2, _, h⟩ := one_row (L := tab 2) g_stores t_stores rfl h
  obtain ⟨r4, _, h⟩ := one_row (L := tab 4) g_numbers t_numbers rfl h
  obtain ⟨r5, _, h⟩ := one_row (L := tab 5) g_sums t_sums rfl h
  obtain ⟨r6, _, h⟩ := one_row (L := tab 6) g_products t_products rfl h
  obtain ⟨r7, _, h⟩ := one_row (L := tab 7) g_others t_others rfl h
  obtain ⟨r8, _, h⟩ := one_row (L := tab 8) g_wordSums t_wordSums rfl h
  obtain ⟨r9, _, h⟩ := one_row (L := tab 9) g_wordProducts t_wordProducts rfl h
  obtain ⟨r10, _, h⟩ := one_row (L := tab 10) g_wordOthers t_wordOthers rfl h
  obtain ⟨r3, _, h⟩ := one_row (L := tab 3) g_fences t_fences rfl h
  obtain ⟨r11, _, h⟩ := one_row (L := tab 11) g_registers t_registers rfl h
  have hall : ∀ g j : Nat, g < 12 → j < 8 → W.cell? ⟨g, j, none⟩ = some (.int .i64 (row g j)) := by
    intro g j hg hj
    have hget : ∀ g < 12, ∀ j < 8, (tab g)[j]? = some (row g j) := by decide
    have hq := hget g hg j hj
    rcases (show g = 0 ∨ g = 1 ∨ g = 2 ∨ g = 3 ∨ g = 4 ∨ g = 5 ∨ g = 6 ∨ g = 7 ∨ g = 8 ∨ g = 9 ∨ g = 10 ∨ g = 11 by omega) with rfl | rfl | rfl | rfl | rfl | rfl | rfl | rfl | rfl | rfl | rfl | rfl
    · exact r0 j _ hq
    · exact r1 j _ hq
    · exact r2 j _ hq
    · exact r3 j _ hq
    · exact r4 j _ hq
    · exact r5 j _ hq
    · exact r6 j _ hq
    · exact r7 j _ hq
    · exact r8 j _ hq
    · exact r9 j _ hq
    · exact r10 j _ hq
    · exact r11 j _ hq
  refine ⟨?_, hall⟩
  exact World.block_lt_of_cell? W ⟨11, 0, none⟩ (hall 11 0 (by omega) (by omega))
theorem door_met (os : Os) (args : Array Value) : laidMetH Tryd.prog laidL ((World.doorLaid Tryd.prog 69 os).forCall (fun _ _ => 0) ⟨#[], args, []⟩).memory :=
  laidMetH_of_parts3 (fuel := 8) (laidMet_of_run' 8 (by kernel_rfl) (by kernel_rfl)) (by kernel_rfl) (by kernel_rfl)

end Go.Proofs.YtnbpadnbmbdfeaaDoor
