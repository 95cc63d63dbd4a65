/- HartInterrupted, the given statement: a step that takes an interrupt does nothing else, of every machine and every program: for every input; the rows of operations start as the program's own text lays them (tied). -/
import Derived.Test.YtjohcpokmdofkaaGreatDoorYHL
import Derived.Test.YtjohcpokmdofkaaGreatDoorYOE
import Derived.Test.YtjohcpokmdofkaaGreatDoorTie
import Derived.Test.YtjohcpokmdofkaaGreatDoorCards
import Derived.LaidMore
import Derived.Stop.Joined
import Derived.SevenTiedAt
import Derived.SizedLaws
import Derived.Carry
namespace Go.Proofs.YtjohcpokmdofkaaGreatDoor
open Go.RowKit Go.Deep Go.Joins Go.ChangeShapes Go.WideShapes Go.ChangeAt Go.WideMaps Go.WideElems
def laidL : List (String × DataW Unit) := Rows.hartInterruptedRow.laid
theorem g_branches : Tryz.prog.globalNamed "tandem/decode.branches" = some 0 := by kernel_rfl
theorem t_branches : (Tryz.prog.globals[0]?).map (·.type) = some 135 := by kernel_rfl
theorem g_loads : Tryz.prog.globalNamed "tandem/decode.loads" = some 1 := by kernel_rfl
theorem t_loads : (Tryz.prog.globals[1]?).map (·.type) = some 135 := by kernel_rfl
theorem g_stores : Tryz.prog.globalNamed "tandem/decode.stores" = some 2 := by kernel_rfl
theorem t_stores : (Tryz.prog.globals[2]?).map (·.type) = some 135 := by kernel_rfl
theorem g_numbers : Tryz.prog.globalNamed "tandem/decode.numbers" = some 4 := by kernel_rfl
theorem t_numbers : (Tryz.prog.globals[4]?).map (·.type) = some 135 := by kernel_rfl
theorem g_sums : Tryz.prog.globalNamed "tandem/decode.sums" = some 5 := by kernel_rfl
theorem t_sums : (Tryz.prog.globals[5]?).map (·.type) = some 135 := by kernel_rfl
theorem g_products : Tryz.prog.globalNamed "tandem/decode.products" = some 6 := by kernel_rfl
theorem t_products : (Tryz.prog.globals[6]?).map (·.type) = some 135 := by kernel_rfl
theorem g_others : Tryz.prog.globalNamed "tandem/decode.others" = some 7 := by kernel_rfl
theorem t_others : (Tryz.prog.globals[7]?).map (·.type) = some 135 := by kernel_rfl
theorem g_wordSums : Tryz.prog.globalNamed "tandem/decode.wordSums" = some 8 := by kernel_rfl
theorem t_wordSums : (Tryz.prog.globals[8]?).map (·.type) = some 135 := by kernel_rfl
theorem g_wordProducts : Tryz.prog.globalNamed "tandem/decode.wordProducts" = some 9 := by kernel_rfl
theorem t_wordProducts : (Tryz.prog.globals[9]?).map (·.type) = some 135 := by kernel_rfl
theorem g_wordOthers : Tryz.prog.globalNamed "tandem/decode.wordOthers" = some 10 := by kernel_rfl
theorem t_wordOthers : (Tryz.prog.globals[10]?).map (·.type) = some 135 := by kernel_rfl
theorem g_fences : Tryz.prog.globalNamed "tandem/decode.fences" = some 3 := by kernel_rfl
theorem t_fences : (Tryz.prog.globals[3]?).map (·.type) = some 135 := by kernel_rfl
theorem g_registers : Tryz.prog.globalNamed "tandem/decode.registers" = some 11 := by kernel_rfl
theorem t_registers : (Tryz.prog.globals[11]?).map (·.type) = some 135 := by kernel_rfl
theorem c3 : Tryz.prog.cellsOf 3 = 1 := by kernel_rfl
set_option maxRecDepth 100000 in
theorem one_row {W : World} {n : String} {g0 : Nat} {L : List Int} {rest : List (String × DataW Unit)} {ps : List MemPlace} (hn : Tryz.prog.globalNamed n = some g0) (ht0 : (Tryz.prog.globals[g0]?).map (·.type) = some 135) (hL : L.length = 8)
    (h : DataW.LaidVars Tryz.prog W ((n, .agg (L.map fun x => .lit (.int .i64 x))) :: rest) ps) :
    (∀ (j : Nat) (v : Int), L[j]? = some v → W.cell? ⟨g0, j, none⟩ = some (.int .i64 v)) ∧ ∃ ps', DataW.LaidVars Tryz.prog W rest ps' := by
  obtain ⟨g, t, cs, f, p, q, hg, ht, hv, hd, hr, _⟩ := h
  obtain rfl := Option.some.inj (hn.symm.trans hg)
  obtain rfl := Option.some.inj (ht0.symm.trans ht)
  refine ⟨?_, _, hr⟩
  obtain ⟨xs, m, rfl, hx, hlen, hn8, hel⟩ := DataW.trod_array Tryz.underlying135 hd
  intro j v hv'
  have hj : j < 8 := by
    have := (List.getElem?_eq_some_iff.1 hv').1
    omega
  have h1 := hel j hj
  rw [c3, Nat.mul_one] at h1
  have hxs : xs[j]? = some (xs[j]'(by omega)) := List.getElem?_eq_getElem _
  rw [hxs] at h1
  obtain ⟨k, e1, e2, _⟩ := DataW.trod_int Tryz.underlying3 h1
  have hL2 : L.map (fun x => (DataW.lit (Lit.int IntKind.i64 x) : DataW Unit)) = xs.map (fun x => x.fst) := by
    have := congrArg Prod.fst hx
    injection this
  have hLj := congrArg (fun l => l[j]?) hL2
  simp only [List.getElem?_map, hv', hxs, Option.map_some] at hLj
  rw [e2] at hLj
  have hk : v = k := by
    have h2 : (DataW.lit (Lit.int IntKind.i64 v) : DataW Unit) = DataW.lit (Lit.int IntKind.i64 k) := Option.some.inj hLj
    have h3 : Lit.int IntKind.i64 v = Lit.int IntKind.i64 k := DataW.lit.inj h2
    exact (Lit.int.inj h3).2
  subst hk
  rw [World.var?_cell hn hv j]
  have h2 : cs.toList[j]? = some (.int .i64 v) := by
    have h3 : (List.take 1 (List.drop j cs.toList))[0]? = some (.int .i64 v) := by rw [e1]; rfl
    rw [List.getElem?_take_of_lt (by omega), List.getElem?_drop, Nat.add_zero] at h3
    exact h3
  rw [← Array.getElem?_toList]
  exact h2
theorem laid_of {W : World} (h : laidMetH Tryz.prog laidL W) : LaidN W := by
  rw [MakeChecks.laidMetH_plain _ _ _ (by kernel_rfl)] at h
  obtain ⟨ps, h, _⟩ := h
  obtain ⟨r0, _, h⟩ := one_row (L := [5, 6, 0, 0, 7, 8, 9, 10]) g_branches t_branches rfl h
  obtain ⟨r1, _, h⟩ := one_row (L := [11, 12, 13, 14, 15, 16, 17, 0]) g_loads t_loads rfl h
  obtain ⟨r2, _, h⟩ := one_row (L := [18, 19, 20, 21, 0, 0, 0, 0]) g_stores t_stores rfl h
  obtain ⟨r4, _, h⟩ := one_row (L := [22, 0, 23, 24, 25, 0, 26, 27]) g_numbers t_numbers rfl h
  obtain ⟨r5, _, h⟩ := one_row (L := [31, 33, 34, 35, 36, 37, 39, 40]) g_sums t_sums rfl h
  obtain ⟨r6, _, h⟩ := one_row (L := [60, 61, 62, 63, 64, 65, 66, 67]) g_products t_products rfl h
  obtain ⟨r7, _, h⟩ := one_row (L := [32, 0, 0, 0, 0, 38, 0, 0]) g_others t_others rfl h
  obtain ⟨r8, _, h⟩ := one_row (L := [45, 47, 0, 0, 0, 48, 0, 0]) g_wordSums t_wordSums rfl h
  obtain ⟨r9, _, h⟩ := one_row (L := [68, 0, 0, 0, 69, 70, 71, 72]) g_wordProducts t_wordProducts rfl h
  obtain ⟨r10, _, h⟩ := one_row (L := [46, 0, 0, 0, 0, 49, 0, 0]) g_wordOthers t_wordOthers rfl h
  obtain ⟨r3, _, h⟩ := one_row (L := [50, 51, 0, 0, 0, 0, 0, 0]) g_fences t_fences rfl h
  obtain ⟨r11, _, h⟩ := one_row (L := [0, 54, 55, 56, 0, 57, 58, 59]) g_registers t_registers rfl h
  refine ⟨?_, r4 0 22 rfl⟩
  exact World.block_lt_of_cell? W ⟨11, 0, none⟩ (r11 0 0 rfl)
theorem door_met (os : Os) (args : Array Value) : laidMetH Tryz.prog laidL ((World.doorLaid Tryz.prog 69 os).forCall (fun _ _ => 0) ⟨#[], args, []⟩).memory :=
  laidMetH_of_parts3 (fuel := 8) (laidMet_of_run' 8 (by kernel_rfl) (by kernel_rfl)) (by kernel_rfl) (by kernel_rfl)
section
variable {H : Type} {enc : TypeId × Value → H} {w : World} {base : Nat} {spare : Nat → Bool} {held : Bool}
theorem open_words {fuel : Nat} {c : Value} {x : DataW H × List MemPlace} (h : DataW.trod enc Tryz.prog w base spare held fuel 43 [c] = some x) :
    ∃ (L : List Int) (q : Option Addr) (n : Nat), c = .slice q L.length n ∧ Reads w (.slice q L.length n) 1 L.length (L.map (.int .u32)) ∧ ∀ n ∈ L, 0 ≤ n ∧ n < 4294967296 := by
  rcases open_ints Tryz.underlying43 Tryz.underlying29 Pc.cells29 h with ⟨hcs, rfl⟩ | ⟨a, len, cap, zs, hcs, _, hl, hm, hz, rfl, hcell, hwf⟩
  · simp only [List.cons.injEq, and_true] at hcs
    subst hcs
    exact ⟨[], none, 0, rfl, ⟨rfl, .inl ⟨rfl, rfl⟩⟩, fun n hn => by (cases hn)⟩
  · simp only [List.cons.injEq, and_true] at hcs
    subst hcs
    have hlen : len ≤ zs.length := by rw [hz]; split <;> omega
    have hb : ∀ n ∈ zs, 0 ≤ n ∧ n < 4294967296 := fun n hn => by have b := bounds_u32 (hwf n hn); exact ⟨b.1, by omega⟩
    have hDl : (zs.take len).length = len := by simp; omega
    refine ⟨zs.take len, some a, cap, by rw [hDl], ⟨by rw [List.length_map, Nat.mul_one], .inr ⟨a, cap, by rw [hDl], by rw [hDl]; exact hl, hm, fun j u hu => ?_⟩⟩, fun n hn => hb n (List.mem_of_mem_take hn)⟩
    have hj : j < len := by
      have := (List.getElem?_eq_some_iff.1 hu).1
      rw [List.length_map, hDl] at this
      exact this
    rw [hcell j (by omega), ← hu]
    simp only [List.getElem?_map, List.getElem?_take_of_lt hj, List.getElem?_eq_getElem (show j < zs.length by omega), List.getD_eq_getElem?_getD, Option.map_some, Option.getD_some]
end
set_option maxRecDepth 100000 in
theorem hartInterrupted_lifted (os : Os) (started : os.Started) (H : Type) (enc : TypeId × Value → H) :
    ReturnsInHanded {} Tryz.checked os 6 .any (fun w args => (Rows.hartInterruptedSpec.pre enc Tryz.prog Tryz.f6 [] false w args ∧ laidMetH Tryz.prog laidL w) ∧ sizedMet enc Tryz.prog Tryz.f6 (OpenSpec.ofChange Rows.hartInterruptedSpec) false w args)
      (Rows.hartInterruptedSpec.post enc Tryz.prog Tryz.f6 false true false false) := by
  refine returnsInHanded_of_change_and (C := Tryz.checked) (X := fun w _ => laidMetH Tryz.prog laidL w) (fun _ _ _ hh h => h.of_heap hh) own started (by kernel_rfl) Tryz.func6
    (ChangeSpec.witness_shaped (enc := enc) (C := Tryz.checked) (os := os) (X := fun w _ => laidMetH Tryz.prog laidL w) false (World.doorLaid Tryz.prog 69 os) #[.agg Tryz.zeroCells42, .slice none 0 0] 8 rfl (World.shaped_of_RefB (by kernel_rfl) (by kernel_rfl)) (by kernel_rfl) (by kernel_rfl) (by kernel_rfl) (door_met os _)) ?_
  intro W base args ds gs before hval0 hW _ hsz hL _
  have hW' := hW
  obtain ⟨p, q, hA0, hV, rfl, hfz, hnd⟩ := hW
  have hval : ∀ (j : Nat) t v, Tryz.f6.params[j]? = some t → args[j]? = some v → Value.okWide Tryz.prog W .any base t v := hval0
  have hA : DataW.TrodAll enc Tryz.prog W 0 (fun _ => true) true Tryz.f6.params.toList args.toList ds p := hA0
  rw [Tryz.params6] at hA hval
  obtain ⟨v0, v1, d0, d1, p0, p1, rfl, rfl, rfl, h0, h1⟩ := trodAll_two hA
  obtain ⟨rfl, rfl⟩ := trodVars_none hV
  have hlt : ∀ x ∈ p0 ++ p1, x.block < W.heap.size := fun x hx => hW'.lt x (by simpa using hx)
  obtain ⟨m, q, rfl, hr, ok, hs, hwt⟩ := open_machine (hval 0 42 v0 rfl rfl) h0
  have hN : ∀ x ∈ d0.weights Tryz.prog 42, x ≤ 140737488351232 := fun x hx => by
    have := List.all_eq_true.1 hsz x (by
      show x ∈ DataW.weightsEach Tryz.prog (Tryz.f6.params.toList ++ _) _
      rw [Tryz.params6]
      simp [DataW.weightsEach, hx])
    exact of_decide_eq_true this
  obtain ⟨n1, n2, n3, n4⟩ := hwt _ hN
  obtain ⟨L, lq, lc, rfl, hR, hu⟩ := (show ∃ (L : List Int) (q : Option Addr) (n : Nat), v1 = .slice q L.length n ∧ Reads W (.slice q L.length n) 1 L.length (L.map (.int .u32)) ∧ ∀ n ∈ L, 0 ≤ n ∧ n < 4294967296 from by
    obtain ⟨fuel, hf⟩ := h1
    obtain ⟨q, n, c, rfl⟩ := okWide_slice Tryz.underlying43 (hval 1 43 v1 rfl rfl)
    exact open_words hf)
  have hLd := laid_of hL
  simp only [List.append_nil] at hW'
  refine (int_walk m q L lq lc W hr (by omega) (by omega) (by omega) (by omega) hR hu fun w hb => awake_w w (hLd.below hb)).mono fun e W' ⟨he, hb⟩ => ?_
  subst he
  refine ⟨_, rfl, _, _, _, [], p0 ++ p1, [], hW', trodAll_mk1 (shut_bool Tryz.underlying4 _), trodAll_mk2 (Below.trod laidOut (by kernel_rfl) (of_decide_eq_true (by kernel_rfl)) h0 hb fun x hx => hlt x (by simp [hx])) (Below.trod laidOut (by kernel_rfl) (of_decide_eq_true (by kernel_rfl)) h1 hb fun x hx => hlt x (by simp [hx])), rfl, hb.frame _, fun h => by cases h⟩
theorem hartInterrupted_holds : Rows.HartInterruptedSaid :=
  OpenClaim.holds_of_wide 6 Tryz.f6 rfl rfl rfl rfl rfl rfl rfl ⟨rfl, rfl, rfl, rfl, rfl⟩ rfl rfl rfl rfl rfl (by kernel_rfl) Tryz.func6 (by kernel_rfl)
    (of_decide_eq_true (by kernel_rfl)) (by unfold Func.isWrapper; first | (rw [if_pos (by decide +kernel)]; kernel_rfl) | (rw [if_neg (by decide +kernel)]; exact ⟨rfl, rfl⟩))
    (fun os started H enc _ => hartInterrupted_lifted os started H enc)
/-- The given statement. -/
theorem hartInterrupted_card : Rows.HartInterruptedCardSaid :=
  Claim7.holds_tied_plain_at .later [] [.data, .data, .data, .data, .data, .data, .data, .data, .data, .data, .data, .data] true (true, "746670e38f063c4fb9dd73e9f45c3c82c4d69c8ef48d124c48f1c9ac71c0569e") false
    hartInterrupted_holds (fun _ h => by cases h) (by kernel_rfl) (fun _ h => by cases h) hartInterrupted_row_tie rfl ⟨rfl, rfl⟩ (by kernel_rfl) rfl
    (fun f fn hf hfn => by
      obtain rfl : f = 6 := Option.some.inj ((show Tryz.prog.funcNamed "tandem/tandemlaw15.HartInterrupted" = some 6 by kernel_rfl).symm.trans hf) |>.symm
      obtain rfl : fn = Tryz.f6 := (Option.some.inj (Tryz.func6.symm.trans hfn)).symm
      exact ⟨by kernel_rfl, fun j t ht => by
        rw [Tryz.params6] at ht
        have hm : t ∈ [42, 43] := by simpa using Array.mem_of_getElem? ht
        have hall : ([42, 43].all fun u => !Tryz.prog.wantsStandIn u) = true := by kernel_rfl
        exact (show Tryz.prog.wantsStandIn t = false by simpa using List.all_eq_true.1 hall t hm)⟩)
    (by kernel_rfl)

end Go.Proofs.YtjohcpokmdofkaaGreatDoor
