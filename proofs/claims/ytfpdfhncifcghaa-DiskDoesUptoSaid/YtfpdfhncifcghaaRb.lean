/- DiskOn: the walk. -/
import Derived.Test.YtfpdfhncifcghaaRa
namespace Go
open Go.RowKit
theorem step_append_first {P : Program} {ops : Array Oper} {o : Oper} {a : Act} {w : World} {K : Act → World → Prop} {Q : Exit → Act → World → Prop} {E : Prop} (hgd : o.guard = none) (s x : Operand) (t : TypeId)
    (ho : o.op = .call { callee := .builtin .append, args := #[s, x], argTypes := #[t, t] })
    (base : Nat) (e : TypeId) (i : TypeInfo) (z : Value) (size bytes : Nat) (ht : P.underlying t = some (.slice e)) (hi : P.info? e = some i) (hz : i.zero = some z)
    (hsize : i.size = size) (hby : i.bytes = bytes) (hzs : z.cells.size = size) (hsz : 0 < size)
    (v : Value) (hs : a.eval s = v) (hown : w.ownsRow base e size v 0 [])
    (src : Value) (m : Nat) (cells : List Value) (hx : a.eval x = src) (hr : Proofs.Ytfpdfhncifcghaa.Reads w src size m cells) (h1 : ∀ u ∈ cells, u.oneCell' = true)
    (h63 : m ≤ maxLen) (hbytes : m * bytes ≤ 140737488355328) (hbase : base ≤ w.heap.size)
    (h : ∀ p cap w', Hid (w'.ownsRow base e size (.slice p m cap) m cells) → w.grownBy w' v.ownBlock → K (a.put o.dst (.slice p m cap)) w') :
    if Region.wanted o (yielded ops a.tmps) = true then Oper.wp P o a w K Q else E :=
  step_append_reads hgd s x t ho base e i z size bytes ht hi hz hsize hby hzs hsz v 0 [] hs hown src m cells hx hr h1 (by omega) (by rw [Nat.zero_add]; exact hbytes) hbase fun p cap w' h2 h3 => by
    rw [Nat.zero_add, List.nil_append] at h2
    rw [Nat.zero_add]
    exact h p cap w' h2 h3
end Go
namespace Go.Proofs.Ytfpdfhncifcghaa
open Go.RowKit Go.Deep Go.Joins

/-- An empty row of operations that is the call's own. -/
def Emp (W : World) (B g : Nat) : Prop := W.ownsRow B 53 4 (.slice (some ⟨g, 0, none⟩) 0 0) 0 []
theorem emp_new {w : World} {B : Nat} (hB : B ≤ w.heap.size) : Emp (w.alloc (.cells #[] 53)) B w.heap.size := owns_empty (heap_alloc_new _ _) hB
theorem emp_new2 {w : World} {B : Nat} {o : Obj} (hB : B ≤ w.heap.size) : Emp ((w.alloc o).alloc (.cells #[] 53)) B (w.heap.size + 1) := by
  have h := owns_empty (w := (w.alloc o).alloc (.cells #[] 53)) (size := 4) (heap_alloc_new (w.alloc o) (.cells #[] 53)) (B := B) (by simp; omega)
  rw [World.size_alloc] at h
  exact h
theorem emp_old {w : World} {B g : Nat} (h : Emp w B g) (o : Obj) : Emp (w.alloc o) B g := owns_below h (below1 w o)
theorem emp_drew {w : World} {B g : Nat} (h : Emp w B g) : Emp w.drew B g := owns_below h (nb_drew (nb_refl _))
theorem varA {w w4 : World} {v : Value} (h : (((w.alloc (.cells #[v] 24)).alloc (.cells #[] 53)).drew).grownBy w4 (some (w.heap.size + 1))) : VarAt w4 w.heap.size v :=
  (h.block _ (by simp [World.drew]; omega) (by simp)).trans ((VarAt.new w v).old _)
theorem varB {w w4 : World} {v : Value} (h : (((w.alloc (.cells #[] 53)).alloc (.cells #[v] 24)).drew).grownBy w4 (some w.heap.size)) : VarAt w4 (w.heap.size + 1) v :=
  (h.block _ (by simp [World.drew]) (by simp)).trans (VarAt.new2 w _ v)
theorem below_grown {wo W w4 : World} {u : Value} {n size : Nat} {e : TypeId} {xs : List Value} (h : Below wo.heap.size wo W) (ho : W.ownsRow wo.heap.size e size u n xs) (hg : W.grownBy w4 u.ownBlock) : Below wo.heap.size wo w4 :=
  h.grown hg h.size fun k hk => (ho.lt k hk).1
/-- A disk that is the call's own, in its variable. -/
structure Var1 (wo W : World) (Y : Nat) (v : Value) (l : List Rw) : Prop where
  below : Below wo.heap.size wo W
  own : OwnE W wo.heap.size v l
  var : VarAt W Y v
theorem ownE_set {W : World} {B b : Nat} {u v : Value} {l : List Rw} (h : OwnE W B v l) (hv : VarAt W b u) (x : Value) : OwnE (W.setCell ⟨b, 0, none⟩ x) B v l :=
  ⟨owns_other h.1 (not_at h.1 hv (by decide)) _ _, fun r hr => owns_other (h.2.1 r hr) (not_at (h.2.1 r hr) hv (by decide)) _ _, h.2.2⟩
theorem var1_set {wo W : World} {Y : Nat} {u v : Value} {l : List Rw} (hb : Below wo.heap.size wo W) (ho : OwnE W wo.heap.size v l) (hv : VarAt W Y u) (hY : wo.heap.size ≤ Y) : Var1 wo (W.setCell ⟨Y, 0, none⟩ v) Y v l :=
  ⟨nb_set hY hb _ _, ownE_set ho hv _, hv.same v⟩
theorem var1_new {wo W : World} {v : Value} {l : List Rw} (hb : Below wo.heap.size wo W) (ho : OwnE W wo.heap.size v l) : Var1 wo (W.alloc (.cells #[v] 24)) W.heap.size v l :=
  ⟨nb_alloc hb _, ho.below (below1 W _), VarAt.new _ _⟩

set_option maxRecDepth 100000 in
set_option maxHeartbeats 1000000 in
theorem on_any (l : List Rw) (v : Value) (a : List DOp) (av : Value) (b : List DOp) (bv : Value) (n m : Nat) (w : World) (hr : Reads w v 3 l.length (rowCells l)) (ho : Opens w l)
    (ha : Reads w av 4 a.length (dopCells a)) (hbr : Reads w bv 4 b.length (dopCells b)) (hF : FitsF (l.map core) n m)
    (hn : n + (a.length + b.length) ≤ 1099511627776) (hm : m + (a.length + b.length) ≤ 1099511627776) (hoa : ∀ o ∈ a, o.pos ≤ 9223372036854775807 ∧ o.name.size ≤ 9223372036854775807)
    (hob : ∀ o ∈ b, o.pos ≤ 9223372036854775807 ∧ o.name.size ≤ 9223372036854775807) :
    Calls Try.prog 7 #[.agg #[v], av, bv] w fun e w' => e = .returned (.bool true) ∧ Below w.heap.size w w' := by
  obtain ⟨p, cap, rfl⟩ := hr.is
  obtain ⟨pa, ca, rfl⟩ := ha.is
  obtain ⟨pb, cb, rfl⟩ := hbr.is
  obtain ⟨i0, hi, hz0, hz1, hz2⟩ := info_parts (show (Try.prog.info? 53).map (fun i => (i.zero, i.size, i.bytes)) = some (some (.agg #[.int .i64 0, .string .empty, .int .i64 0, .string .empty]), 4, 48) by kernel_rfl)
  have hle := doF_le a (l.map core)
  have hall := doF_all a (l.map core)
  have hsome := doF_some a (l.map core)
  have happ := doF_append a b (l.map core)
  have hfit := doF_fits a (l.map core) n m hF
  obtain ⟨A1, na, ea, hA⟩ : ∃ A1 na ea, doF (l.map core) a = (A1, na, ea) := ⟨_, _, _, rfl⟩
  rw [hA] at hle hall hsome happ hfit
  dsimp only at hle hall hsome happ hfit
  have HALL := Lib.hid hall
  have HSOME := Lib.hid hsome
  have HAPP := Lib.hid happ
  have HFIT := Lib.hid hfit
  have HA := Lib.hid hA
  clear hall hsome happ hfit
  go_enter Try.func7, Try.ntmps7
  go_wp2_with fail
  refine (awake_any _).mono ?_
  rintro e w1 ⟨rfl, hb1⟩
  have hbw1 := below_then (below1 w _) hb1
  have f0 : w1.cell? ⟨w.heap.size, 0, none⟩ = some (.slice p l.length cap) := (hb1.cell (p := ⟨w.heap.size, 0, none⟩) (by simp)).trans (by simp)
  have hlt1 : w.heap.size < w1.heap.size := lt_of_cell f0
  have HBW1 := Lib.hid hbw1
  clear hbw1 hb1
  go_wp2_with fail
  refine (do_any l _ a _ n m _ (hr.below HBW1.out) (ho.below HBW1.out) (ha.below HBW1.out) hF (by omega) (by omega) hoa).mono ?_
  rintro e w2 ⟨v1, l1, rfl, hc1, hd1, hb2⟩
  rw [HA.out] at hc1 ⊢
  dsimp only at hc1 ⊢
  obtain ⟨q1, qc1, rfl⟩ := owns_shape hd1.1
  have f1 := below_cell hb2 f0
  have hlt2 : w.heap.size < w2.heap.size := lt_of_cell f1
  have HBW2 := Lib.hid (below_then HBW1.out hb2)
  have HD1 := Lib.hid hd1
  have HC1 := Lib.hid hc1
  clear hd1 hc1 hb2 HA hA
  by_cases he : ea = 0
  · have hna := HALL.out he
    subst he
    subst hna
    have happ := HAPP.out rfl
    have hle2 := doF_le b A1
    obtain ⟨A2, nb, eb, hB⟩ : ∃ A2 nb eb, doF A1 b = (A2, nb, eb) := ⟨_, _, _, rfl⟩
    rw [hB] at happ hle2
    dsimp only at happ hle2
    have HAP := Lib.hid happ
    have HBB := Lib.hid hB
    clear happ hB
    go_wp2_with fail
    refine (do_any l1 _ b _ (n + a.length) (m + a.length) _ ((reads_of_owns HD1.out.1).below (below1 w2 _)) ((opens_of_ownE HD1.out).below (below1 w2 _)) ((hbr.below HBW2.out).below (below1 w2 _)) (HC1.out ▸ HFIT.out) (by omega) (by omega) hob).mono ?_
    rintro e w3 ⟨v2, l2, rfl, hc2, hd2, hb3⟩
    rw [HC1.out, HBB.out] at hc2 ⊢
    dsimp only at hc2 ⊢
    obtain ⟨q2, qc2, rfl⟩ := owns_shape hd2.1
    have f2 := below_cell hb3 ((World.cell?_alloc_old _ _ _ (Nat.ne_of_lt hlt2)).trans f1)
    have hlt3 : w.heap.size < w3.heap.size := lt_of_cell f2
    have HBW3 := Lib.hid (below_then (below_then HBW2.out (below1 w2 _)) hb3)
    have HD2 := Lib.hid hd2
    have HC2 := Lib.hid hc2
    clear hd2 hc2 hb3
    go_wp2_with fail
    generalize hwo : w3.alloc (Obj.cells #[Value.slice q2 l2.length qc2] 24) = wo
    have hb3o : Below w3.heap.size w3 wo := hwo ▸ below1 w3 _
    have HBO := Lib.hid (below_then HBW3.out hb3o)
    have g0 := below_cell hb3o f2
    have X1 : VarAt wo w3.heap.size (.slice q2 l2.length qc2) := hwo ▸ VarAt.new w3 _
    have HD2o := Lib.hid (HD2.out.below hb3o)
    have HRA : Hid (∀ W, Below wo.heap.size wo W → Reads W (.slice pa a.length ca) 4 a.length (dopCells a)) := Lib.hid fun W hW => (ha.below HBO.out).below hW
    have HRB : Hid (∀ W, Below wo.heap.size wo W → Reads W (.slice pb b.length cb) 4 b.length (dopCells b)) := Lib.hid fun W hW => (hbr.below HBO.out).below hW
    have hcall : ∀ W q c, Below wo.heap.size wo W → W.ownsRow wo.heap.size 53 4 (.slice q (a.length + b.length) c) (a.length + b.length) (dopCells (a ++ b)) → Calls Try.prog 13 #[.agg #[.slice p l.length cap], .slice q (a.length + b.length) c] W fun e w' =>
        ∃ q3 qc3 l3, e = .returned (.tuple #[.agg #[.slice q3 (List.length l3) qc3], .int .i64 ((a.length : Int) + nb), .int .i64 eb]) ∧ Hid (l3.map core = A2) ∧ Hid (OwnE w' wo.heap.size (.slice q3 l3.length qc3) l3) ∧ Below wo.heap.size wo w' ∧ Below W.heap.size W w' := fun W q c hW hown => by
      have hlen : (a ++ b).length = a.length + b.length := List.length_append
      have hrd := reads_of_owns hown
      rw [← hlen] at hrd ⊢
      refine (do_any l _ (a ++ b) _ n m W ((hr.below HBO.out).below hW) ((ho.below HBO.out).below hW) hrd hF (by omega) (by omega) (fun o hm => (List.mem_append.1 hm).elim (hoa o) (hob o))).mono ?_
      rintro e w' ⟨v3, l3, rfl, h1, h2, h3⟩
      rw [HAP.out] at h1 ⊢
      obtain ⟨q3, qc3, rfl⟩ := owns_shape h2.1
      exact ⟨q3, qc3, l3, rfl, h1, ownE_mono h2 hW.size, below_then hW h3, h3⟩
    have HCALL := Lib.hid hcall
    clear hwo hb3o f0 f1 f2 HD1 HD2 hcall
    rename_i K0 hK0
    have hfit2 := doF_fits b A1 _ _ HFIT.out
    rw [HBB.out, ← HC2.out] at hfit2
    have HF2 := Lib.hid hfit2
    clear hfit2
    have hrest : ∀ (g : Nat) (p4 : Option Addr) (c4 : Nat) (p5 : Option Addr) (c5 : Nat) (q3 : Option Addr) (qc3 : Nat) (l3 : List Rw) (Y : Nat) (W : World), Hid (l3.map core = A2) → Var1 wo W Y (.slice q3 l3.length qc3) l3 → K0 ⟨#[.agg #[.slice p l.length cap], .slice pa a.length ca, .slice pb b.length cb, .pointer (some ⟨w.heap.size, 0, none⟩), undef, undef, .bool false, .pointer (some ⟨w2.heap.size, 0, none⟩), .int .i64 a.length, .int .i64 0, .pointer (some ⟨w3.heap.size, 0, none⟩), .int .i64 nb, .int .i64 eb, .pointer (some ⟨Y, 0, none⟩), .int .i64 ((a.length : Int) + nb), .int .i64 eb, .bool true, .bool false, .tuple #[.agg #[.slice q1 l1.length qc1], .int .i64 a.length, .int .i64 0], .agg #[.slice p l.length cap], .slice pa a.length ca, .tuple #[.agg #[.slice q1 l1.length qc1], .int .i64 a.length, .int .i64 0], .agg #[.slice q1 l1.length qc1], .int .i64 a.length, .int .i64 0, .int .i64 0, .bool false, undef, undef, undef, undef, .tuple #[.agg #[.slice q2 l2.length qc2], .int .i64 nb, .int .i64 eb], .agg #[.slice q1 l1.length qc1], .slice pb b.length cb, .tuple #[.agg #[.slice q2 l2.length qc2], .int .i64 nb, .int .i64 eb], .agg #[.slice q2 l2.length qc2], .int .i64 nb, .int .i64 eb, .tuple #[.agg #[.slice q3 l3.length qc3], .int .i64 ((a.length : Int) + nb), .int .i64 eb], .agg #[.slice p l.length cap], .slice (some ⟨g, 0, none⟩) 0 0, .slice pa a.length ca, .slice p4 a.length c4, .slice pb b.length cb, .slice p5 (a.length + b.length) c5, .tuple #[.agg #[.slice q3 l3.length qc3], .int .i64 ((a.length : Int) + nb), .int .i64 eb], .agg #[.slice q3 l3.length qc3], .int .i64 ((a.length : Int) + nb), .int .i64 eb, undef, undef, undef, undef, undef, undef, undef, undef, undef, undef, undef, undef, undef, undef, undef, undef, undef, undef, undef, undef, undef], []⟩ W := by
      intro g p4 c4 p5 c5 q3 qc3 l3 Y W hc3 hV
      refine hK0 _ _ ?_
      have z1 := (X1.keep hV.below).c
      have z2 := hV.var.c
      have z3 := lt_of_cell z1
      have z4 := lt_of_cell z2
      have hsame : Calls Try.prog 15 #[.agg #[.slice q2 l2.length qc2], .agg #[.slice q3 l3.length qc3]] W fun e w' => e = .returned (.bool true) ∧ Below W.heap.size W w' := by
        have h2 := HD2o.out.below hV.below
        refine same_true l2 l3 _ _ W (reads_of_owns h2.1) (opens_of_ownE h2) (reads_of_owns hV.own.1) (opens_of_ownE hV.own) (HC2.out.trans hc3.out.symm) ?_ (fun r hr => ?_)
        · have := HF2.out.files
          rw [List.length_map] at this
          omega
        · have : r.opens.length ≤ _ := HF2.out.opens (core r) (List.mem_map_of_mem hr)
          omega
      have HS := Lib.hid hsame
      have HV := Lib.hid hV
      have hle3 : (a.length : Int) + nb ≤ 1099511627776 := by omega
      clear hsame hV hK0 HCALL HRA HRB
      go_wp2_with (go_at_call 15; refine HS.out.mono ?_; rintro e w7 ⟨rfl, hb7⟩)
      go_ret
      exact ⟨ret_bool (by simp), below_then (below_then HBO.out HV.out.below) hb7⟩
    go_region_held3 (fun w' => w'.cell? ⟨w.heap.size, 0, none⟩ = some (.slice p l.length cap)) (first | with_reducible exact n6 | (with_reducible refine below_cell (w := wo) ?_ g0; (repeat (first | with_reducible exact N6 | with_reducible exact N5 | with_reducible exact N4 | with_reducible exact nb_refl _ | with_reducible refine nb_drew ?_ | with_reducible refine nb_alloc ?_ _ | with_reducible refine nb_set (by omega) ?_ _ _))))
      (first | (refine step_append_first rfl _ _ 25 rfl wo.heap.size 53 i0 (.agg #[.int .i64 0, .string .empty, .int .i64 0, .string .empty]) 4 48 Try.underlying25 hi hz0 hz1 hz2 rfl (by decide) _ rfl ?own (.slice pa a.length ca) a.length (dopCells a) rfl ?rd (dop_one a) ?m1 ?m2 ?m3 ?_; (case own => (show Emp _ _ _; (repeat (first | with_reducible exact emp_new (Nat.le_refl _) | with_reducible exact emp_new2 (Nat.le_refl _) | with_reducible refine emp_drew ?_ | with_reducible refine emp_old ?_ _)))); (case rd => exact HRA.out _ (by (repeat (first | with_reducible exact N6 | with_reducible exact N5 | with_reducible exact N4 | with_reducible exact nb_refl _ | with_reducible refine nb_drew ?_ | with_reducible refine nb_alloc ?_ _ | with_reducible refine nb_set (by omega) ?_ _ _)))); (case m1 => unfold maxLen; omega); (case m2 => omega); (case m3 => exact Below.size (by (repeat (first | with_reducible exact N6 | with_reducible exact N5 | with_reducible exact N4 | with_reducible exact nb_refl _ | with_reducible refine nb_drew ?_ | with_reducible refine nb_alloc ?_ _ | with_reducible refine nb_set (by omega) ?_ _ _)))); intro p4 c4 w4 hO4 hg4; have N4 : Below wo.heap.size wo w4 := below_grown (by (repeat (first | with_reducible exact N6 | with_reducible exact N5 | with_reducible exact N4 | with_reducible exact nb_refl _ | with_reducible refine nb_drew ?_ | with_reducible refine nb_alloc ?_ _ | with_reducible refine nb_set (by omega) ?_ _ _))) (show Emp _ _ _ by (repeat (first | with_reducible exact emp_new (Nat.le_refl _) | with_reducible exact emp_new2 (Nat.le_refl _) | with_reducible refine emp_drew ?_ | with_reducible refine emp_old ?_ _))) hg4; have s4 := N4.size; first | (have V1 := varA (w := wo) hg4; have v1 := V1.c; have y1 := V1.f; have k1 := V1.lt) | (have V1 := varB (w := wo) hg4; have v1 := V1.c; have y1 := V1.f; have k1 := V1.lt) | skip) | (refine step_append_reads rfl _ _ 25 rfl wo.heap.size 53 i0 (.agg #[.int .i64 0, .string .empty, .int .i64 0, .string .empty]) 4 48 Try.underlying25 hi hz0 hz1 hz2 rfl (by decide) _ a.length (dopCells a) rfl ?own (.slice pb b.length cb) b.length (dopCells b) rfl ?rd (dop_one b) ?m1 ?m2 ?m3 ?_; (case own => first | exact hO4.out | exact owns_below hO4.out (below1 _ _)); (case rd => exact HRB.out _ (by (repeat (first | with_reducible exact N6 | with_reducible exact N5 | with_reducible exact N4 | with_reducible exact nb_refl _ | with_reducible refine nb_drew ?_ | with_reducible refine nb_alloc ?_ _ | with_reducible refine nb_set (by omega) ?_ _ _)))); (case m1 => unfold maxLen; omega); (case m2 => omega); (case m3 => exact Below.size (by (repeat (first | with_reducible exact N6 | with_reducible exact N5 | with_reducible exact N4 | with_reducible exact nb_refl _ | with_reducible refine nb_drew ?_ | with_reducible refine nb_alloc ?_ _ | with_reducible refine nb_set (by omega) ?_ _ _)))); intro p5 c5 w5 hO5 hg5; have N5 : Below wo.heap.size wo w5 := below_grown (by (repeat (first | with_reducible exact N6 | with_reducible exact N5 | with_reducible exact N4 | with_reducible exact nb_refl _ | with_reducible refine nb_drew ?_ | with_reducible refine nb_alloc ?_ _ | with_reducible refine nb_set (by omega) ?_ _ _))) (by first | exact hO4.out | exact owns_below hO4.out (below1 _ _)) hg5; have s5 := N5.size; rw [← dopCells_append] at hO5; first | (have U1 := V1.grown hO4.out (by decide) hg5; have u1 := U1.c; have x1 := U1.f; have j1 := U1.lt) | (have U1 := VarAt.grown (VarAt.new w4 (.slice none 0 0)) (owns_below hO4.out (below1 _ _)) (by decide) hg5; have u1 := U1.c; have x1 := U1.f; have j1 := U1.lt) | skip) | (go_at_call 13; with_reducible refine (HCALL.out _ _ _ ?bel ?rows).mono ?_; (case bel => (repeat (first | with_reducible exact N6 | with_reducible exact N5 | with_reducible exact N4 | with_reducible exact nb_refl _ | with_reducible refine nb_drew ?_ | with_reducible refine nb_alloc ?_ _ | with_reducible refine nb_set (by omega) ?_ _ _))); (case rows => first | exact hO5.out | exact owns_below hO5.out (below1 _ _)); rintro e w6 ⟨q3, qc3, l3, rfl, hc3, hd3, N6, hb6⟩; have n6 := below_cell N6 g0; have s6 := N6.size; first | (have T1 := U1.keep hb6; have t1 := T1.c; have r1 := T1.f; have i1 := T1.lt) | (have T0 := back1 (w := w5) hb6; have T1 := T0.2; have t1 := T1.c; have r1 := T1.f; have i1 := T1.lt) | skip))
    all_goals
      show K0 _ _
      first
        | with_reducible exact hrest _ _ _ _ _ _ _ _ _ _ hc3 (var1_new N6 hd3.out)
        | with_reducible exact hrest _ _ _ _ _ _ _ _ _ _ hc3 (var1_set N6 hd3.out T1 (by omega))
  · have hlt := HSOME.out he
    have hne : (ea != 0) = true := by simpa using he
    go_wp2_with fail
    go_ret
    exact ⟨ret_bool (by simp), below_then HBW2.out (below1 _ _)⟩
end Go.Proofs.Ytfpdfhncifcghaa
