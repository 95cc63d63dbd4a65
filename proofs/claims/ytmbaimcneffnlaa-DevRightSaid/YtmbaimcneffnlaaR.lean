/- Two boards that are alike. -/
import Derived.Test.YtmbaimcneffnlaaLZ
namespace Go.Proofs.Ytmbaimcneffnlaa
open Go.RowKit Go.Deep Go.Joins
theorem extract_get (cs : Array Value) (a n i : Nat) (hi : i < n) (hb : a + n ≤ cs.size) : (cs.extract a (a + n))[i]? = cs[a + i]? := by
  rw [Array.getElem?_extract, if_pos (by omega)]
theorem eqItems_refl (d : Nat) (e : TypeId) (c : Nat) (xs : Array Value) (w : World) : ∀ is : List Nat, (∀ i ∈ is, ∃ v, (part e xs (i * c)).run Try.prog w = .ok v w ∧ (Op.equalIn d e v v).run Try.prog w = .ok true w) → (Op.eqItems d e c xs xs is).run Try.prog w = .ok true w
  | [], _ => by simp [Op.eqItems]
  | i :: is, h => by
    obtain ⟨v, h1, h2⟩ := h i (by simp)
    have ih := eqItems_refl d e c xs w is fun j hj => h j (by simp [hj])
    simp only [Op.eqItems, Sem.run_bind, h1, h2, Result.andThen_ok]
    simpa using ih
theorem eqFields_refl (d : Nat) (xs : Array Value) (w : World) : ∀ fs : List Field, (∀ f ∈ fs, ∃ v, (part f.type xs f.offset).run Try.prog w = .ok v w ∧ (Op.equalIn d f.type v v).run Try.prog w = .ok true w) → (Op.eqFields d xs xs fs).run Try.prog w = .ok true w
  | [], _ => by simp [Op.eqFields]
  | f :: fs, h => by
    obtain ⟨v, h1, h2⟩ := h f (by simp)
    have ih := eqFields_refl d xs w fs fun j hj => h j (by simp [hj])
    simp only [Op.eqFields, Sem.run_bind, Sem.run_ite]
    split
    · simp only [h1, h2, Result.andThen_ok]
      simpa using ih
    · exact ih
theorem part_cell (t : TypeId) (d : TypeDesc) (cs : Array Value) (off : Nat) (v : Value) (w : World) (hu : Try.prog.underlying t = some d) (hd : (match d with | .struct _ | .array _ _ => true | _ => false) = false) (h : cs[off]? = some v) : (part t cs off).run Try.prog w = .ok v w := by
  have hagg : (isAgg t).run Try.prog w = .ok false w := by
    unfold isAgg
    rw [Sem.run_bind, run_underlying hu w]
    cases d <;> simp_all
  simp [part, Sem.run_bind, hagg, h]
theorem part_row (t : TypeId) (d : TypeDesc) (n : Nat) (cs : Array Value) (off : Nat) (w : World) (hu : Try.prog.underlying t = some d) (hd : (match d with | .struct _ | .array _ _ => true | _ => false) = true) (hi : (Try.prog.info? t).map (·.size) = some n) : (part t cs off).run Try.prog w = .ok (.agg (cs.extract off (off + n))) w := by
  have hagg : (isAgg t).run Try.prog w = .ok true w := by
    unfold isAgg
    rw [Sem.run_bind, run_underlying hu w]
    cases d <;> simp_all
  cases hq : Try.prog.info? t with
  | none => simp [hq] at hi
  | some i =>
    have hs : i.size = n := by simpa [hq] using hi
    simp [part, Sem.run_bind, hagg, sizeOf, typeInfo, hq, hs]
theorem eq_int (d : Nat) (t : TypeId) (k : IntKind) (a : Int) (w : World) (h : Try.prog.underlying t = some (.int k)) : (Op.equalIn (d + 1) t (.int k a) (.int k a)).run Try.prog w = .ok true w := by
  rw [run_equalIn_int w d t k k a a h]
  simp
theorem fields28 : (Try.prog.fieldsOf 28).toList.map (fun f => (f.type, f.offset)) = [(25, 0), (26, 4), (26, 6), (24, 8)] := by kernel_rfl
theorem fields42 : (Try.prog.fieldsOf 42).toList.map (fun f => (f.type, f.offset)) = [(3, 0), (9, 1)] := by kernel_rfl
theorem size25 : (Try.prog.info? 25).map (·.size) = some 4 := by kernel_rfl
theorem size26 : (Try.prog.info? 26).map (·.size) = some 2 := by kernel_rfl
theorem size24 : (Try.prog.info? 24).map (·.size) = some 1 := by kernel_rfl
theorem cellsOf24 : Try.prog.cellsOf 24 = 1 := by kernel_rfl
theorem info24 : ∃ i, Try.prog.info? 24 = some i := by
  cases h : Try.prog.info? 24 with
  | none => have := size24; rw [h] at this; cases this
  | some i => exact ⟨i, rfl⟩
theorem eq_arr (d t n : Nat) (hu : Try.prog.underlying t = some (.array n 24)) (cs : Array Value) (w : World) (h : ∀ i, i < n → ∃ a, cs[i]? = some (.int .u32 a)) : (Op.equalIn (d + 2) t (.agg cs) (.agg cs)).run Try.prog w = .ok true w := by
  obtain ⟨i, hi⟩ := info24
  rw [run_equalIn_array w (d + 1) cs cs hu hi]
  refine eqItems_refl _ _ _ _ _ _ fun j hj => ?_
  obtain ⟨a, ha⟩ := h j (by simpa using hj)
  rw [cellsOf24, Nat.mul_one]
  exact ⟨_, part_cell 24 _ cs j _ w Try.underlying24 rfl ha, eq_int d 24 .u32 a w Try.underlying24⟩
theorem plC_cell (p : Pl) (i : Nat) (hi : i < 9) : ∃ a, (plC p)[i]? = some (.int .u32 a) := by
  match i, hi with
  | 0, _ => exact ⟨_, rfl⟩
  | 1, _ => exact ⟨_, rfl⟩
  | 2, _ => exact ⟨_, rfl⟩
  | 3, _ => exact ⟨_, rfl⟩
  | 4, _ => exact ⟨_, rfl⟩
  | 5, _ => exact ⟨_, rfl⟩
  | 6, _ => exact ⟨_, rfl⟩
  | 7, _ => exact ⟨_, rfl⟩
  | 8, _ => exact ⟨_, rfl⟩
  | i + 9, hi => omega
theorem eq_pl (p : Pl) (w : World) : (Op.equalIn 10000 28 (.agg (plC p)) (.agg (plC p))).run Try.prog w = .ok true w := by
  rw [run_equalIn_struct w 9999 28 (plC p) (plC p) (by kernel_rfl) (by kernel_rfl)]
  refine eqFields_refl _ _ _ _ fun f hf => ?_
  have hm : (f.type, f.offset) ∈ (Try.prog.fieldsOf 28).toList.map (fun f => (f.type, f.offset)) := List.mem_map_of_mem hf
  rw [fields28] at hm
  simp only [List.mem_cons, List.not_mem_nil, or_false, Prod.mk.injEq] at hm
  rcases hm with ⟨e1, e2⟩ | ⟨e1, e2⟩ | ⟨e1, e2⟩ | ⟨e1, e2⟩
  all_goals rw [e1, e2]
  · refine ⟨_, part_row 25 _ 4 (plC p) 0 w Try.underlying25 rfl size25, eq_arr 9997 25 4 Try.underlying25 _ w fun i hi => ?_⟩
    rw [extract_get _ 0 4 i hi (by show 0 + 4 ≤ 9; omega), Nat.zero_add]
    exact plC_cell p i (by omega)
  · refine ⟨_, part_row 26 _ 2 (plC p) 4 w Try.underlying26 rfl size26, eq_arr 9997 26 2 Try.underlying26 _ w fun i hi => ?_⟩
    rw [extract_get _ 4 2 i hi (by show 4 + 2 ≤ 9; omega)]
    exact plC_cell p _ (by omega)
  · refine ⟨_, part_row 26 _ 2 (plC p) 6 w Try.underlying26 rfl size26, eq_arr 9997 26 2 Try.underlying26 _ w fun i hi => ?_⟩
    rw [extract_get _ 6 2 i hi (by show 6 + 2 ≤ 9; omega)]
    exact plC_cell p _ (by omega)
  · obtain ⟨a, ha⟩ := plC_cell p 8 (by omega)
    exact ⟨_, part_cell 24 _ _ 8 _ w Try.underlying24 rfl ha, eq_int 9998 24 .u32 _ w Try.underlying24⟩
theorem exec_pl {ρ : Operand → Value} {o : Oper} {x y : Operand} {t2 : TypeId} (p : Pl) (w : World) (ho : o.op = .binOp .eql 28 x y t2) (hx : ρ x = .agg (plC p)) (hy : ρ y = .agg (plC p)) : (execOp ρ o).run Try.prog w = .ok (.value (.bool true)) w := by
  unfold execOp
  simp [ho, hx, hy, Sem.run_bind, run_eqGuard_agg, run_eql_struct, eq_pl, Result.andThen]
theorem wpList_exec {w : World} {ops : Array Oper} {rest : List Oper} {o : Oper} {a : Act} {Q : Exit → Act → World → Prop} (hgd : Region.wanted o (yielded ops a.tmps) = true) {r : Value} (hrun : (execOp a.eval o).run Try.prog w = .ok (.value r) w)
    (h : wpList Try.prog ops Q rest (a.put o.dst r) w) : wpList Try.prog ops Q (o :: rest) a w := by
  refine wpList_step fun K hK => ?_
  rw [if_pos hgd]
  unfold Oper.wp
  rw [hrun]
  exact hK _ _ h
theorem KA.both (W : World) (a b : Bd) : KA W ((W.alloc (bdO a)).alloc (bdO b)) a b :=
  ⟨(Box.new W a).alloc _, by have k := Box.new (W.alloc (bdO a)) b; rwa [World.size_alloc] at k, below2 W _ _⟩
theorem Box.load_pl9 {w : World} {g : Nat} {b : Bd} (k : Box w g b) : (Instr.loadAt 28 (.pointer (some ⟨g, 12, none⟩))).run Try.prog w = .ok (.agg #[.int .u32 b.pl.p0, .int .u32 b.pl.p1, .int .u32 b.pl.p2, .int .u32 b.pl.p3, .int .u32 b.pl.e0, .int .u32 b.pl.e1, .int .u32 b.pl.l0, .int .u32 b.pl.l1, .int .u32 b.pl.cl]) w := k.load_pl
theorem Box.cat_msip {w : World} {g n c : Nat} {p : Option Addr} {b : Bd} (k : Box w g (b.at p n c)) : w.cell? ⟨g, 0, none⟩ = some (.bool b.msip) := k.cell_msip
theorem Box.cat_cmp {w : World} {g n c : Nat} {p : Option Addr} {b : Bd} (k : Box w g (b.at p n c)) : w.cell? ⟨g, 1, none⟩ = some (.int .u64 b.cmp) := k.cell_cmp
theorem Box.cat_inn {w : World} {g n c : Nat} {p : Option Addr} {b : Bd} (k : Box w g (b.at p n c)) : w.cell? ⟨g, 2, none⟩ = some (.string b.inn) := k.cell_inn
theorem Box.cat_ier {w : World} {g n c : Nat} {p : Option Addr} {b : Bd} (k : Box w g (b.at p n c)) : w.cell? ⟨g, 3, none⟩ = some (.bool b.ier) := k.cell_ier
theorem Box.cat_sec {w : World} {g n c : Nat} {p : Option Addr} {b : Bd} (k : Box w g (b.at p n c)) : w.cell? ⟨g, 4, none⟩ = some (.string b.sec) := k.cell_sec
theorem Box.cat_sector {w : World} {g n c : Nat} {p : Option Addr} {b : Bd} (k : Box w g (b.at p n c)) : w.cell? ⟨g, 5, none⟩ = some (.int .u64 b.sector) := k.cell_sector
theorem Box.cat_addr {w : World} {g n c : Nat} {p : Option Addr} {b : Bd} (k : Box w g (b.at p n c)) : w.cell? ⟨g, 6, none⟩ = some (.int .u64 b.addr) := k.cell_addr
theorem Box.cat_done {w : World} {g n c : Nat} {p : Option Addr} {b : Bd} (k : Box w g (b.at p n c)) : w.cell? ⟨g, 7, none⟩ = some (.bool b.done) := k.cell_done
theorem Box.cat_bad {w : World} {g n c : Nat} {p : Option Addr} {b : Bd} (k : Box w g (b.at p n c)) : w.cell? ⟨g, 8, none⟩ = some (.bool b.bad) := k.cell_bad
theorem Box.cat_nicA {w : World} {g n c : Nat} {p : Option Addr} {b : Bd} (k : Box w g (b.at p n c)) : w.cell? ⟨g, 10, none⟩ = some (.int .u64 b.nicA) := k.cell_nicA
theorem Box.cat_nicL {w : World} {g n c : Nat} {p : Option Addr} {b : Bd} (k : Box w g (b.at p n c)) : w.cell? ⟨g, 11, none⟩ = some (.int .u64 b.nicL) := k.cell_nicL
theorem Box.cat_fr {w : World} {g n c : Nat} {p : Option Addr} {b : Bd} (k : Box w g (b.at p n c)) : w.cell? ⟨g, 9, none⟩ = some (.slice p n c) := k.cell_fr
theorem Box.cat_pl {w : World} {g n c : Nat} {p : Option Addr} {b : Bd} (k : Box w g (b.at p n c)) : (Instr.loadAt 28 (.pointer (some ⟨g, 12, none⟩))).run Try.prog w = .ok (.agg #[.int .u32 b.pl.p0, .int .u32 b.pl.p1, .int .u32 b.pl.p2, .int .u32 b.pl.p3, .int .u32 b.pl.e0, .int .u32 b.pl.e1, .int .u32 b.pl.l0, .int .u32 b.pl.l1, .int .u32 b.pl.cl]) w := k.load_pl9
set_option maxRecDepth 100000 in
set_option maxHeartbeats 2000000 in
theorem same_none (b : Bd) (p q : Option Addr) (n c1 c2 : Nat) (W : World) (hn : n = 0) : Calls Try.prog 17 #[bdV (b.at p n c1), bdV (b.at q n c2)] W fun e W' => e = .returned (.bool true) ∧ Below W.heap.size W W' := by
  subst hn
  go_enter Try.func17, Try.ntmps17
  go_upto_region 1 with (fail)
  have X := Lib.hid (KA.both W (b.at p 0 c1) (b.at q 0 c2))
  generalize (W.alloc (bdO (b.at p 0 c1))).alloc (bdO (b.at q 0 c2)) = wx at X ⊢
  have m_fr := X.out.own.cat_fr
  have n_fr := X.out.res.cat_fr
  go_wp2_with fail
  go_loop [5] (fun i => i = .int .i64 0) (fun _ => 0)
  case atStart => rfl
  case round =>
    subst hrel
    have m_msip := X.out.own.cat_msip
    have n_msip := X.out.res.cat_msip
    have m_cmp := X.out.own.cat_cmp
    have n_cmp := X.out.res.cat_cmp
    have m_inn := X.out.own.cat_inn
    have n_inn := X.out.res.cat_inn
    have m_ier := X.out.own.cat_ier
    have n_ier := X.out.res.cat_ier
    have m_sec := X.out.own.cat_sec
    have n_sec := X.out.res.cat_sec
    have m_sector := X.out.own.cat_sector
    have n_sector := X.out.res.cat_sector
    have m_addr := X.out.own.cat_addr
    have n_addr := X.out.res.cat_addr
    have m_done := X.out.own.cat_done
    have n_done := X.out.res.cat_done
    have m_bad := X.out.own.cat_bad
    have n_bad := X.out.res.cat_bad
    have m_nicA := X.out.own.cat_nicA
    have n_nicA := X.out.res.cat_nicA
    have m_nicL := X.out.own.cat_nicL
    have n_nicL := X.out.res.cat_nicL
    go_wp2_with (first | ((with_reducible show wpList _ _ _ (⟨some 108, Op.load 28 (.tmp 107), _, _, _, _⟩ :: _) _ _); refine wpList_load_wanted (by kernel_rfl) rfl (Box.cat_pl X.out.own) rfl ?_; simp only [Act.put, List.setIfInBounds_toArray, List.set_cons_zero, List.set_cons_succ]) | ((with_reducible show wpList _ _ _ (⟨some 110, Op.load 28 (.tmp 109), _, _, _, _⟩ :: _) _ _); refine wpList_load_wanted (by kernel_rfl) rfl (Box.cat_pl X.out.res) rfl ?_; simp only [Act.put, List.setIfInBounds_toArray, List.set_cons_zero, List.set_cons_succ]) | ((with_reducible show wpList _ _ _ (⟨some 111, Op.binOp .eql 28 _ _ _, _, _, _, _⟩ :: _) _ _); refine wpList_exec (by kernel_rfl) (exec_pl b.pl _ rfl rfl rfl) ?_; simp only [Act.put, List.setIfInBounds_toArray, List.set_cons_zero, List.set_cons_succ]) | fail)
    go_ret
    exact ⟨rfl, X.out.below⟩
set_option maxRecDepth 100000 in
set_option maxHeartbeats 2000000 in
theorem same_some (b : Bd) (p q : Option Addr) (n c1 c2 : Nat) (W : World) (F : List ByteArray) (hn : n = F.length) (h0 : 0 < F.length) (hp : FAt W (.slice p n c1) F) (hq : FAt W (.slice q n c2) F) : Calls Try.prog 17 #[bdV (b.at p n c1), bdV (b.at q n c2)] W fun e W' => e = .returned (.bool true) ∧ Below W.heap.size W W' := by
  subst hn
  obtain ⟨g, off, cap, e, _, _, hg, hc⟩ := hp.cell h0
  simp only [Value.slice.injEq] at e
  obtain ⟨rfl, _, rfl⟩ := e
  obtain ⟨g2, off2, cap2, e, _, _, hg2, hc2⟩ := hq.cell h0
  simp only [Value.slice.injEq] at e
  obtain ⟨rfl, _, rfl⟩ := e
  have hF : F.length ≤ 9223372036854775807 := by unfold maxLen at *; omega
  clear hp hq
  go_enter Try.func17, Try.ntmps17
  go_upto_region 1 with (fail)
  have X := Lib.hid (KA.both W (b.at (some ⟨g, off, none⟩) F.length c1) (b.at (some ⟨g2, off2, none⟩) F.length c2))
  generalize (W.alloc (bdO (b.at (some ⟨g, off, none⟩) F.length c1))).alloc (bdO (b.at (some ⟨g2, off2, none⟩) F.length c2)) = wx at X ⊢
  have m_fr := X.out.own.cat_fr
  have n_fr := X.out.res.cat_fr
  have HC := Lib.hid (fun j (hj : j < F.length) => ((X.out.below.cell (p := ⟨g, off + j, none⟩) hg).trans (hc j hj)))
  have HC2 := Lib.hid (fun j (hj : j < F.length) => ((X.out.below.cell (p := ⟨g2, off2 + j, none⟩) hg2).trans (hc2 j hj)))
  clear hc hc2 hg hg2
  go_wp2_with fail
  go_loopw [5] (fun i wr => ∃ j : Nat, j ≤ F.length ∧ i = .int .i64 j ∧ ∃ m, wr = wx.drewN m) (fun i _ => F.length - (intOf i).toNat)
  case atStart => exact ⟨0, Nat.zero_le _, rfl, 0, rfl⟩
  case round =>
    obtain ⟨j, hj, rfl, m, rfl⟩ := hrel
    replace X := Lib.hid (X.out.drewN m)
    replace HC := Lib.hid (fun j (hj : j < F.length) => show (wx.drewN m).cell? _ = _ from HC.out j hj)
    replace HC2 := Lib.hid (fun j (hj : j < F.length) => show (wx.drewN m).cell? _ = _ from HC2.out j hj)
    have HN := Lib.hid (fun k => (⟨m + k, by unfold World.drewN; simp only [Nat.add_assoc]⟩ : ∃ m', (wx.drewN m).drewN k = wx.drewN m'))
    clear m_fr n_fr
    have m_fr := X.out.own.cat_fr
    have n_fr := X.out.res.cat_fr
    by_cases hlt : j < F.length
    · have c1 := HC.out j hlt
      have c2 := HC2.out j hlt
      generalize F[j] = X1 at *
      generalize wx.drewN m = wr at *
      go_wp2_with fail
      go_quiet (fail)
      go_wp2_with fail
      exact ⟨⟨j + 1, by omega, by go_num, HN.out _⟩, by simp [intOf]; omega⟩
    · generalize wx.drewN m = wr at *
      have m_msip := X.out.own.cat_msip
      have n_msip := X.out.res.cat_msip
      have m_cmp := X.out.own.cat_cmp
      have n_cmp := X.out.res.cat_cmp
      have m_inn := X.out.own.cat_inn
      have n_inn := X.out.res.cat_inn
      have m_ier := X.out.own.cat_ier
      have n_ier := X.out.res.cat_ier
      have m_sec := X.out.own.cat_sec
      have n_sec := X.out.res.cat_sec
      have m_sector := X.out.own.cat_sector
      have n_sector := X.out.res.cat_sector
      have m_addr := X.out.own.cat_addr
      have n_addr := X.out.res.cat_addr
      have m_done := X.out.own.cat_done
      have n_done := X.out.res.cat_done
      have m_bad := X.out.own.cat_bad
      have n_bad := X.out.res.cat_bad
      have m_nicA := X.out.own.cat_nicA
      have n_nicA := X.out.res.cat_nicA
      have m_nicL := X.out.own.cat_nicL
      have n_nicL := X.out.res.cat_nicL
      go_wp2_with (first | ((with_reducible show wpList _ _ _ (⟨some 108, Op.load 28 (.tmp 107), _, _, _, _⟩ :: _) _ _); refine wpList_load_wanted (by kernel_rfl) rfl (Box.cat_pl X.out.own) rfl ?_; simp only [Act.put, List.setIfInBounds_toArray, List.set_cons_zero, List.set_cons_succ]) | ((with_reducible show wpList _ _ _ (⟨some 110, Op.load 28 (.tmp 109), _, _, _, _⟩ :: _) _ _); refine wpList_load_wanted (by kernel_rfl) rfl (Box.cat_pl X.out.res) rfl ?_; simp only [Act.put, List.setIfInBounds_toArray, List.set_cons_zero, List.set_cons_succ]) | ((with_reducible show wpList _ _ _ (⟨some 111, Op.binOp .eql 28 _ _ _, _, _, _, _⟩ :: _) _ _); refine wpList_exec (by kernel_rfl) (exec_pl b.pl _ rfl rfl rfl) ?_; simp only [Act.put, List.setIfInBounds_toArray, List.set_cons_zero, List.set_cons_succ]) | fail)
      go_ret
      exact ⟨rfl, X.out.below⟩
theorem same_any (b : Bd) (p q : Option Addr) (n c1 c2 : Nat) (W : World) (F : List ByteArray) (hp : FAt W (.slice p n c1) F) (hq : FAt W (.slice q n c2) F) : Calls Try.prog 17 #[bdV (b.at p n c1), bdV (b.at q n c2)] W fun e W' => e = .returned (.bool true) ∧ Below W.heap.size W W' := by
  have hn := hp.len
  by_cases h0 : 0 < F.length
  · exact same_some b p q n c1 c2 W F hn h0 hp hq
  · exact same_none b p q n c1 c2 W (by omega)

end Go.Proofs.Ytmbaimcneffnlaa
