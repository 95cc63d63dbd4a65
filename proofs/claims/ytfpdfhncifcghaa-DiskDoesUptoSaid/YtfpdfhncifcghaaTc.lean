/- The reference's one: the operations that are refused. -/
import Derived.Test.YtfpdfhncifcghaaTb
namespace Go.Proofs.Ytfpdfhncifcghaa
open Go.RowKit Go.Deep Go.Joins

/-- What one operation of the reference leaves: the files and the error; it writes into the row of the disk and into new memory alone. -/
def One (w : World) (B : Nat) (v : Value) (fs : List Fl) (er : Int) (e : Ending) (w' : World) : Prop :=
  ∃ (v' : Value) (l' : List Rw), e = .returned (.tuple #[.agg #[v'], .int .i64 er]) ∧ l'.map core = fs ∧ OwnR w' B v' l' ∧ (er ≠ 0 → v' = v) ∧ w.grownBy w' v.ownBlock
theorem below_grownBy {w w' : World} {row : Option Nat} (h : Below w.heap.size w w') : w.grownBy w' row := ⟨h.os, h.tape, h.output, h.size, fun k hk _ => h.block k hk⟩
theorem one_same {w w' : World} {B : Nat} {v : Value} {l : List Rw} {er : Int} (h : OwnR w B v l) (hb : Below w.heap.size w w') : One w B v (l.map core) er (.returned (.tuple #[.agg #[v], .int .i64 er])) w' :=
  ⟨v, l, rfl, rfl, h.below hb, fun _ => rfl, below_grownBy hb⟩
abbrev opObj (o : DOp) : Obj := .cells #[.int .i64 o.kind, .string o.name, .int .i64 o.pos, .string o.bytes] 53

set_option maxRecDepth 100000 in
set_option maxHeartbeats 1000000 in
theorem one_bad (l : List Rw) (v : Value) (B : Nat) (o : DOp) (w : World) (hown : OwnR w B v l) (hbad : badOp o = true) (hn : o.name.size ≤ 1099511627776) :
    Calls Try.prog 24 #[.agg #[v], .agg #[.int .i64 o.kind, .string o.name, .int .i64 o.pos, .string o.bytes]] w (One w B v (l.map core) 1) := by
  have HOWN := Lib.hid hown
  obtain ⟨q, cap, rfl⟩ := owns_shape hown.1
  clear hown
  by_cases h1 : o.kind < 1
  · clear hbad
    go_enter Try.func24, Try.ntmps24
    go_wp2_with fail
    refine bodyPost_ret (v := .tuple #[.agg #[.slice q l.length cap], .int .i64 1]) (by simp [results, Try.results24, go_sem]) rfl (one_same HOWN.out ?_)
    exact ((below2 w _ _).alloc (by simp; omega) _)
  by_cases h2 : 4 < o.kind
  · clear hbad
    go_enter Try.func24, Try.ntmps24
    go_wp2_with fail
    refine bodyPost_ret (v := .tuple #[.agg #[.slice q l.length cap], .int .i64 1]) (by simp [results, Try.results24, go_sem]) rfl (one_same HOWN.out ?_)
    exact ((below2 w _ _).alloc (by simp; omega) _)
  have hnm : nameB o.name = false := by
    unfold badOp at hbad
    simp only [Bool.or_eq_true, decide_eq_true_eq, Bool.not_eq_true'] at hbad
    rcases hbad with (h | h) | h
    · exact absurd h h1
    · exact absurd h h2
    · exact h
  clear hbad
  go_enter Try.func24, Try.ntmps24
  go_wp2_with (go_at_call 11; refine (name2_any o.name _ hn).mono ?_; rintro e w1 ⟨rfl, rfl⟩; rw [hnm])
  refine bodyPost_ret (v := .tuple #[.agg #[.slice q l.length cap], .int .i64 1]) (by simp [results, Try.results24, go_sem]) rfl (one_same HOWN.out ?_)
  exact ((below2 w _ _).alloc (by simp; omega) _)

theorem grown_set {w w' : World} {row : Option Nat} {b : Nat} (h : w.grownBy w' row) (hb : some b = row ∨ w.heap.size ≤ b) (j : Nat) (x : Value) : w.grownBy (w'.setCell ⟨b, j, none⟩ x) row :=
  ⟨h.os, h.tape, h.output, by rw [World.size_setCell]; exact h.size, fun k hk hne => (heap_setCell_other w' _ k x (fun e => by
    rcases hb with hb | hb
    · exact hne (by rw [← hb]; exact congrArg some e)
    · have e2 : k = b := e
      omega)).trans (h.block k hk hne)⟩
theorem put_file {W : World} {B g n cap k : Nat} {l : List Rw} (h : OwnR W B (.slice (some ⟨g, 0, none⟩) n cap) l) (hn : n = l.length) (hk : k < l.length) (s : ByteArray) :
    OwnR ((W.setCell ⟨g, k * 3 + 1, none⟩ (.string s)).setCell ⟨g, k * 3 + 2, none⟩ (.slice none 0 0)) B (.slice (some ⟨g, 0, none⟩) n cap) (l.set k ⟨l[k].name, s, .slice none 0 0, []⟩) := by
  subst hn
  refine ⟨?_, fun r hr => ?_⟩
  · rw [List.length_set]
    exact owns_so h.1 k hk ⟨l[k].name, s, .slice none 0 0, []⟩ rfl
  · rcases List.mem_or_eq_of_mem_set hr with hr | rfl
    · have h2 := h.2 r hr
      have hne : r.ov.ownBlock ≠ some g := rows_apart h.1 h2 (by decide) rfl
      exact owns_other (owns_other h2 hne _ _) hne _ _
    · exact World.ownsRow_nil _ _ _ _

/-- The variables with which the function begins. -/
theorem start_keep {w w5 : World} {v : Value} {o : DOp} (hb : Below (((w.alloc (.cells #[v] 24)).alloc (opObj o)).alloc (.cells #[.slice none 0 0] 24)).heap.size (((w.alloc (.cells #[v] 24)).alloc (opObj o)).alloc (.cells #[.slice none 0 0] 24)) w5) :
    VarAt w5 w.heap.size v ∧ w5.heap[w.heap.size + 1]? = some (opObj o) ∧ VarAt w5 (w.heap.size + 1 + 1) (.slice none 0 0) := by
  refine ⟨VarAt.keep (((VarAt.new w v).old _).old _) hb, (hb.block _ (by simp)).trans ((heap_alloc_old _ _ (by simp)).trans (heap_alloc2_new w _ _)), VarAt.keep ?_ hb⟩
  have h := VarAt.new ((w.alloc (.cells #[v] 24)).alloc (opObj o)) (.slice none 0 0)
  rw [World.size_alloc, World.size_alloc] at h
  exact h

set_option maxRecDepth 100000 in
set_option maxHeartbeats 1000000 in
theorem one_gone (l : List Rw) (v : Value) (B : Nat) (o : DOp) (w : World) (hown : OwnR w B v l) (h2 : 2 ≤ o.kind) (h4 : o.kind ≤ 4) (hnm : nameB o.name = true) (hn : o.name.size ≤ 1099511627776) (hm : l.length ≤ 1099511627776) (hi : idx (sameName o.name) l = -1) :
    Calls Try.prog 24 #[.agg #[v], .agg #[.int .i64 o.kind, .string o.name, .int .i64 o.pos, .string o.bytes]] w (One w B v (l.map core) 20) := by
  have HOWN := Lib.hid hown
  obtain ⟨q, cap, rfl⟩ := owns_shape hown.1
  clear hown
  have a1 : ¬ o.kind < 1 := by omega
  have a2 : ¬ 4 < o.kind := by omega
  have a3 : (o.kind == 1) = false := by rw [beq_eq_false_iff_ne]; omega
  have hb0 : Below w.heap.size w (((w.alloc (.cells #[.slice q l.length cap] 24)).alloc (opObj o)).alloc (.cells #[.slice none 0 0] 24)) := (below2 w _ _).alloc (by simp; omega) _
  have HB0 := Lib.hid hb0
  have hfind := find2_any l (.slice q l.length cap) o.name _ ((reads_of_owns HOWN.out.1).below hb0) hm
  rw [hi] at hfind
  have HF := Lib.hid hfind
  clear hb0 hfind
  go_enter Try.func24, Try.ntmps24
  go_wp2_with (go_at_call 11; refine (name2_any o.name _ hn).mono ?_; rintro e w1 ⟨rfl, rfl⟩; rw [hnm])
  refine HF.out.mono ?_
  rintro e w5 ⟨rfl, hb5⟩
  obtain ⟨D5, O5, R5⟩ := start_keep hb5
  have d5 := D5.c
  have r5 := R5.c
  have z5 := R5.f
  have o5 : w5.cell? ⟨w.heap.size + 1, 0, none⟩ = some (.int .i64 o.kind) := by rw [cell_of_row _ _ _ _ 53 _ O5]; rfl
  have hb := below_then HB0.out hb5
  have HB := Lib.hid hb
  have l1 := lt_of_cell d5
  have l2 := lt_of_cell o5
  have l3 := lt_of_cell r5
  clear hb hb5
  go_wp2_with fail
  refine bodyPost_ret (v := .tuple #[.agg #[.slice q l.length cap], .int .i64 20]) (by simp [results, Try.results24, go_sem, r5]) rfl (one_same HOWN.out ?_)
  exact HB.out.setCell (by simp; omega) _

theorem VarAt.far {w : World} {b c : Nat} {v : Value} (h : VarAt w b v) (hc : c ≠ b) (j : Nat) (u : Value) : VarAt (w.setCell ⟨c, j, none⟩ u) b v := (heap_setCell_other w ⟨c, j, none⟩ b u (fun e => hc e.symm)).trans h
theorem grown_drew {w W : World} {row : Option Nat} (h : w.grownBy W row) : w.grownBy W.drew row := ⟨h.os, h.tape, h.output, h.size, h.block⟩
theorem OwnR.drew {w : World} {B : Nat} {v : Value} {l : List Rw} (h : OwnR w B v l) : OwnR w.drew B v l := h.below (nb_drew (nb_refl _))
/-- The world behind the stores, as a letter. -/
theorem one_end {K : Act → World → Prop} {Q : Exit → Act → World → Prop} {n : Nat} {a : Act} {w W : World} {B Z R g : Nat} {v : Value} {l : List Rw} (h1 : OwnR W B v l) (h2 : w.grownBy W (some g)) (h3 : VarAt W Z v) (h4 : VarAt W R (.slice none 0 0))
    (h : ∀ W, OwnR W B v l → w.grownBy W (some g) → VarAt W Z v → VarAt W R (.slice none 0 0) → Exit.inBlock n (Exit.then K Q) .normal a W.drew) : Exit.inBlock n (Exit.then K Q) .normal a W.drew := h W h1 h2 h3 h4

set_option maxRecDepth 100000 in
set_option maxHeartbeats 1000000 in
theorem one_sync (l : List Rw) (v : Value) (B k : Nat) (nm : ByteArray) (ps : Int) (bs : ByteArray) (w : World) (hown : OwnR w B v l) (hnm : nameB nm = true) (hn : nm.size ≤ 1099511627776) (hm : l.length ≤ 1099511627776) (hk : k < l.length)
    (hi : idx (sameName nm) l = (k : Int)) (hs : l[k].safe.size ≤ 1099511627776) (hol : l[k].opens.length ≤ 1099511627776) (hbs : ∀ x ∈ l[k].opens, x.bytes.size ≤ 1099510579200) :
    Calls Try.prog 24 #[.agg #[v], .agg #[.int .i64 2, .string nm, .int .i64 ps, .string bs]] w (One w B v ((l.map core).set k ⟨l[k].name, layB l[k].safe l[k].opens, []⟩) 0) := by
  have HOWN := Lib.hid hown
  have hop := reads_of_owns (hown.2 l[k] (List.getElem_mem _))
  obtain ⟨q, cap, rfl⟩ := owns_shape hown.1
  obtain ⟨g, hq, hg1, hg2, c0, c1, c2, fzz⟩ := owns_file hown.1 k hk (by omega)
  subst hq
  obtain ⟨p3, cap3, hov⟩ := hop.is
  rw [hov] at c2 hop
  have HOP := Lib.hid hop
  have HBS := Lib.hid hbs
  clear hown hop hov hbs
  have hb0 : Below w.heap.size w (((w.alloc (.cells #[.slice (some ⟨g, 0, none⟩) l.length cap] 24)).alloc (opObj ⟨2, nm, ps, bs⟩)).alloc (.cells #[.slice none 0 0] 24)) := (below2 w _ _).alloc (by simp; omega) _
  have HB0 := Lib.hid hb0
  have hfind := find2_any l (.slice (some ⟨g, 0, none⟩) l.length cap) nm _ ((reads_of_owns HOWN.out.1).below hb0) hm
  rw [hi] at hfind
  have HF := Lib.hid hfind
  clear hb0 hfind hi
  go_enter Try.func24, Try.ntmps24
  go_wp2_with (go_at_call 11; refine (name2_any nm _ hn).mono ?_; rintro e w1 ⟨rfl, rfl⟩; rw [hnm])
  refine HF.out.mono ?_
  rintro e w5 ⟨rfl, hb5⟩
  obtain ⟨D5, O5, R5⟩ := start_keep (o := ⟨2, nm, ps, bs⟩) hb5
  have d5 := D5.c
  have o5 : w5.cell? ⟨w.heap.size + 1, 0, none⟩ = some (.int .i64 2) := by rw [cell_of_row _ _ _ _ 53 _ O5]; rfl
  have hb := below_then HB0.out hb5
  have HB := Lib.hid hb
  have HD5 := Lib.hid D5
  have HR5 := Lib.hid R5
  have HO5 := Lib.hid O5
  have l1 := D5.lt
  have l2 := (Array.getElem?_eq_some_iff.1 O5).1
  have e0 := below_cell hb c0
  have e1 := below_cell hb c1
  have e2 := below_cell hb c2
  have lg := lt_of_cell e0
  clear hb hb5 D5 R5 O5
  go_wp2_with fail
  refine (whole_any l[k].name l[k].safe l[k].opens _ _ (HOP.out.below HB.out) hol hs HBS.out).mono ?_
  rintro e w6 ⟨rfl, hb6⟩
  have N6 := Lib.hid (below_then HB.out hb6)
  have D6 := HD5.out.keep hb6
  have R6 := HR5.out.keep hb6
  have O6 : w6.heap[w.heap.size + 1]? = some (opObj ⟨2, nm, ps, bs⟩) := (hb6.block _ l2).trans HO5.out
  have d6 := D6.c
  have dl6 := D6.lt
  have o6 : w6.cell? ⟨w.heap.size + 1, 0, none⟩ = some (.int .i64 2) := by rw [cell_of_row _ _ _ _ 53 _ O6]; rfl
  have ol6 := (Array.getElem?_eq_some_iff.1 O6).1
  have x0 := below_cell N6.out c0
  have x1 := below_cell N6.out c1
  have x2 := below_cell N6.out c2
  have y1 := (N6.out.frozen (p := ⟨g, k * 3 + 1, none⟩) hg2).trans (fzz _)
  have y2 := (N6.out.frozen (p := ⟨g, k * 3 + 2, none⟩) hg2).trans (fzz _)
  have hgw : g ≠ w.heap.size := by omega
  have hS1 : ∀ (w' : World) (j : Nat) (x : Value), w'.cell? ⟨w.heap.size, 0, none⟩ = some (.slice (some ⟨g, 0, none⟩) l.length cap) → (w'.setCell ⟨g, j, none⟩ x).cell? ⟨w.heap.size, 0, none⟩ = some (.slice (some ⟨g, 0, none⟩) l.length cap) := fun w' j x h => (World.cell?_setCell_far _ _ _ _ hgw).trans h
  have m5 : w6.drew.cell? ⟨w.heap.size, 0, none⟩ = some (.slice (some ⟨g, 0, none⟩) l.length cap) := d6
  have m6 := fun x => hS1 w6.drew (k * 3 + 1) x m5
  have m7 := fun x y => hS1 _ (k * 3 + 2) y (m6 x)
  have HD6 := Lib.hid D6
  have HR6 := Lib.hid R6
  clear hS1 hb6 D6 R6 O6 HF e0 e1 e2 d5 o5
  go_wp2_with fail
  go_region_held3 (fun w' => w'.cell? ⟨w.heap.size, 0, none⟩ = some (.slice (some ⟨g, 0, none⟩) l.length cap)) (first | with_reducible exact m5 | with_reducible exact m6 _ | with_reducible exact m7 _ _ | go_keep) (fail)
  have hput := put_file (HOWN.out.below N6.out) rfl hk (layB l[k].safe l[k].opens)
  have hgr : w.grownBy ((w6.setCell ⟨g, k * 3 + 1, none⟩ (.string (layB l[k].safe l[k].opens))).setCell ⟨g, k * 3 + 2, none⟩ (.slice none 0 0)) (some g) := grown_set (grown_set (below_grownBy N6.out) (.inl rfl) _ _) (.inl rfl) _ _
  have hd7 := (HD6.out.far hgw (k * 3 + 1) (.string (layB l[k].safe l[k].opens))).far hgw (k * 3 + 2) (.slice none 0 0)
  have hr7 := (HR6.out.far (show g ≠ w.heap.size + 1 + 1 by omega) (k * 3 + 1) (.string (layB l[k].safe l[k].opens))).far (show g ≠ w.heap.size + 1 + 1 by omega) (k * 3 + 2) (.slice none 0 0)
  refine one_end (W := (w6.setCell ⟨g, k * 3 + 1, none⟩ (.string (layB l[k].safe l[k].opens))).setCell ⟨g, k * 3 + 2, none⟩ (.slice none 0 0)) hput hgr hd7 hr7 ?_
  clear hput hgr hd7 hr7 m5 m6 m7 HD6 HR6 N6 HOWN x0 x1 x2 y1 y2 d6 o6 HB HD5 HR5 HO5 HOP HBS HB0 fzz c0 c1 c2
  intro W7 hput hgr hd7 hr7
  have d7 := hd7.c
  have r7 := hr7.c
  have z7 := hr7.f
  have l7 := hd7.lt
  have l8 := hr7.lt
  have HP := Lib.hid hput
  have HG := Lib.hid hgr
  have HR := Lib.hid hr7
  clear hput hgr hd7 hr7
  go_wp2_with fail
  have hgf : w.grownBy (W7.setCell ⟨w.heap.size + 1 + 1, 0, none⟩ (.slice (some ⟨g, 0, none⟩) l.length cap)) (some g) := grown_set HG.out (.inr (by omega)) 0 _
  refine bodyPost_ret (v := .tuple #[.agg #[.slice (some ⟨g, 0, none⟩) l.length cap], .int .i64 0]) (by simp [results, Try.results24, go_sem, r7]) rfl
    ⟨_, _, rfl, ?_, (HP.out.set HR.out _).drew, fun h => absurd rfl h, grown_drew hgf⟩
  rw [List.map_set]
  rfl
end Go.Proofs.Ytfpdfhncifcghaa
