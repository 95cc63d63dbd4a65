/- One operation. -/
import Derived.Test.YtfpdfhncifcghaaS
namespace Go.Proofs.Ytfpdfhncifcghaa
open Go.RowKit

structure DOp where
  kind : Int
  name : ByteArray
  pos : Int
  bytes : ByteArray

/-- All bytes of a file on the plain side. -/
def allF (f : Fl) : ByteArray := layB f.safe f.opens
def idxF (x : ByteArray) (fs : List Fl) : Int := match fs.findIdx? (fun f => sameN f.name x) with | some i => i | none => -1
def placeF (x : ByteArray) (fs : List Fl) : Nat := match fs.findIdx? (fun f => above f.name x) with | some i => i | none => fs.length
def putF (fs : List Fl) (o : DOp) : List Fl × Int :=
  if o.pos < 0 then (fs, 1)
  else if 1048576 < o.pos ∨ (o.bytes.size : Int) > 1048576 - o.pos then (fs, 2)
  else if idxF o.name fs < 0 then
    (if 32 ≤ fs.length then (fs, 4) else ((insertAt fs (placeF o.name fs) (newFile o.name)).modify (placeF o.name fs) (fun f => ⟨f.name, f.safe, f.opens ++ [⟨o.pos, o.bytes⟩]⟩), 0))
  else (fs.modify (idxF o.name fs).toNat (fun f => ⟨f.name, f.safe, f.opens ++ [⟨o.pos, o.bytes⟩]⟩), 0)
def badOp (o : DOp) : Bool := decide (o.kind < 1) || decide (4 < o.kind) || !nameB o.name
/-- The operation on the plain side: the files behind it, and the error. -/
def changeF (fs : List Fl) (o : DOp) : List Fl × Int :=
  if badOp o then (fs, 1)
  else if o.kind = 1 then putF fs o
  else if idxF o.name fs < 0 then (fs, 20)
  else if o.kind = 2 then (fs.modify (idxF o.name fs).toNat (fun f => ⟨f.name, allF f, []⟩), 0)
  else if o.kind = 3 then
    match fs[(idxF o.name fs).toNat]? with
    | none => (fs, 20)
    | some f => if o.pos < 0 ∨ ((allF f).size : Int) < o.pos then (fs, 1) else (fs.set (idxF o.name fs).toNat ⟨f.name, (allF f).extract 0 o.pos.toNat, []⟩, 0)
  else (fs.eraseIdx (idxF o.name fs).toNat, 0)

theorem findIdx_core (l : List Rw) (p : Rw → Bool) (q : Fl → Bool) (h : ∀ r, p r = q (core r)) : l.findIdx? p = (l.map core).findIdx? q := by
  induction l with
  | nil => rfl
  | cons x l ih => rw [List.findIdx?_cons, List.map_cons, List.findIdx?_cons, ih, h]
theorem idx_core (x : ByteArray) (l : List Rw) : idx (sameName x) l = idxF x (l.map core) := by
  unfold idx idxF; rw [findIdx_core l (sameName x) (fun f => sameN f.name x) (fun r => rfl)]; cases (l.map core).findIdx? (fun f => sameN f.name x) <;> rfl
theorem place_core (x : ByteArray) (l : List Rw) : (placeOf x l).toNat = placeF x (l.map core) := by
  unfold placeOf placeF
  rw [← findIdx_core l (aboveName x) (fun f => above f.name x) (fun r => rfl)]
  rcases idx_cases (aboveName x) l with ⟨_, hi⟩ | ⟨k, hk, hi, _⟩
  · rw [if_pos (by omega)]
    have : l.findIdx? (aboveName x) = none := by
      unfold idx at hi
      split at hi
      · omega
      · assumption
    rw [this]; simp
  · rw [if_neg (by omega), hi]
    have : l.findIdx? (aboveName x) = some k := by
      unfold idx at hi
      split at hi
      · rename_i i h; rw [h]; congr 1; omega
      · omega
    rw [this]; simp

/-- What an operation leaves. -/
def Done (w : World) (B pb : Nat) (fs : List Fl) (er : Int) (e : Ending) (w' : World) : Prop :=
  e = .returned (.int .i64 er) ∧ ∃ v' l', w'.heap[pb]? = some (.cells #[v'] 24 (0, 0)) ∧ OwnE w' B v' l' ∧ l'.map core = fs ∧ Only B pb w w'
theorem done_same {w w' : World} {B pb : Nat} {v : Value} {l : List Rw} {fs : List Fl} {er : Int} {e : Ending} (he : e = .returned (.int .i64 er)) (hp : w.heap[pb]? = some (.cells #[v] 24 (0, 0))) (hD : OwnE w B v l) (hl : l.map core = fs) (hB : B ≤ w.heap.size)
    (hb : Below w.heap.size w w') : Done w B pb fs er e w' :=
  ⟨he, v, l, (hb.block pb (Array.getElem?_eq_some_iff.1 hp).1).trans hp, hD.below hb, hl, only_of_below hb hB⟩

theorem put_full (l : List Rw) (v : Value) (pb : Nat) (kind : Int) (name : ByteArray) (pos : Int) (bytes : ByteArray) (w : World) (hr : Reads w v 3 l.length (rowCells l)) (hp : w.heap[pb]? = some (.cells #[v] 24 (0, 0)))
    (h0 : 0 ≤ pos) (h1 : pos ≤ 1048576) (h2 : (bytes.size : Int) ≤ 1048576 - pos) (hm : l.length ≤ 9223372036854775807) (hi : idx (sameName name) l = -1) (hlen : 32 ≤ l.length) :
    Calls Try.prog 32 #[.pointer (some ⟨pb, 0, none⟩), .agg #[.int .i64 kind, .string name, .int .i64 pos, .string bytes]] w fun e w' => e = .returned (.int .i64 4) ∧ Below w.heap.size w w' := by
  obtain ⟨q, cap, rfl⟩ := hr.is
  have hpl : pb < w.heap.size := (Array.getElem?_eq_some_iff.1 hp).1
  have p0 : w.cell? ⟨pb, 0, none⟩ = some (.slice q l.length cap) := by rw [cell_of_row w pb 0 _ 24 _ hp]; rfl
  have HR := Lib.hid hr
  have HI := Lib.hid hi
  clear hr hp hi
  go_enter Try.func32, Try.ntmps32
  go_wp2_with fail
  go_region_with (go_at_call 28; refine (find_any l _ name _ (HR.out.below (below1 w _).drew) hm).mono ?_; rintro e w1 ⟨rfl, hb1⟩; rw [HI.out])
  all_goals
    have hbw : Below w.heap.size w w1 := below_then (below1 w _).drew hb1
    have p1 : w1.cell? ⟨pb, 0, none⟩ = some (.slice q l.length cap) := (hbw.cell (p := ⟨pb, 0, none⟩) hpl).trans p0
    have hlen2 : (32 : Int) ≤ (l.length : Int) := by omega
    have HBW := Lib.hid hbw
    clear hb1 hbw
    go_wp2_with fail
    go_ret
    exact ⟨rfl, HBW.out⟩

theorem done_from {w W : World} {B pb : Nat} {fs : List Fl} {er : Int} {e : Ending} {w' : World} (h : Done W B pb fs er e w') (hb : Below w.heap.size w W) (hB : B ≤ w.heap.size) : Done w B pb fs er e w' := by
  obtain ⟨he, v', l', h1, h2, h3, h4⟩ := h
  exact ⟨he, v', l', h1, h2, h3, (only_of_below hb hB).trans h4⟩
/-- The sizes under which an operation is done as it should. -/
structure Fits (l : List Rw) : Prop where
  files : (l.length + 1) * 56 ≤ 140737488355328
  opens : ∀ r ∈ l, (r.opens.length + 1) * 24 ≤ 140737488355328
  okay : Okay l

theorem put_any (l : List Rw) (v : Value) (pb B : Nat) (o : DOp) (w : World) (hD : OwnE w B v l) (hp : w.heap[pb]? = some (.cells #[v] 24 (0, 0))) (hB : B ≤ w.heap.size) (hF : Fits l) (hpos : o.pos ≤ 9223372036854775807) :
    Calls Try.prog 32 #[.pointer (some ⟨pb, 0, none⟩), .agg #[.int .i64 o.kind, .string o.name, .int .i64 o.pos, .string o.bytes]] w (Done w B pb (putF (l.map core) o).1 (putF (l.map core) o).2) := by
  have hm : l.length ≤ 9223372036854775807 := by have := hF.files; omega
  unfold putF
  by_cases h0 : o.pos < 0
  · rw [if_pos h0]
    exact (put_neg _ _ _ _ _ w h0).mono fun e w' h => done_same h.1 hp hD rfl hB h.2
  rw [if_neg h0]
  by_cases h1 : 1048576 < o.pos ∨ (o.bytes.size : Int) > 1048576 - o.pos
  · rw [if_pos h1]
    exact (put_long _ _ _ _ _ w (by omega) h1 hpos).mono fun e w' h => done_same h.1 hp hD rfl hB h.2
  rw [if_neg h1, ← idx_core]
  rcases idx_cases (sameName o.name) l with ⟨_, hi⟩ | ⟨k, hk, hi, _⟩
  · rw [if_pos (by omega), List.length_map]
    by_cases h32 : 32 ≤ l.length
    · rw [if_pos h32]
      exact (put_full l v pb _ _ _ _ w hD.reads hp (by omega) (by omega) (by omega) hm hi h32).mono fun e w' h => done_same h.1 hp hD rfl hB h.2
    · rw [if_neg h32]
      refine (put_go l v pb B _ _ _ _ w hD hp hB (by omega) (by omega) (by omega) hF.files (fun _ => by omega) hF.opens).mono fun e w' h => ⟨h.1, ?_⟩
      have e : spot l o.name = (insertAt (l.map core) (placeF o.name (l.map core)) (newFile o.name), placeF o.name (l.map core)) := by
        unfold spot; rw [if_pos (by omega), place_core]
      rw [e] at h
      exact h.2
  · rw [if_neg (by omega)]
    refine (put_go l v pb B _ _ _ _ w hD hp hB (by omega) (by omega) (by omega) hF.files (fun h => by omega) hF.opens).mono fun e w' h => ⟨h.1, ?_⟩
    have e : spot l o.name = (l.map core, (idx (sameName o.name) l).toNat) := by unfold spot; rw [if_neg (by omega)]
    rw [e] at h
    exact h.2

theorem change_put (l : List Rw) (v : Value) (pb B : Nat) (o : DOp) (w : World) (hD : OwnE w B v l) (hp : w.heap[pb]? = some (.cells #[v] 24 (0, 0))) (hB : B ≤ w.heap.size) (hF : Fits l) (hpos : o.pos ≤ 9223372036854775807)
    (hk : o.kind = 1) (hnm : nameB o.name = true) (hn : o.name.size ≤ 9223372036854775807) :
    Calls Try.prog 23 #[.pointer (some ⟨pb, 0, none⟩), .agg #[.int .i64 o.kind, .string o.name, .int .i64 o.pos, .string o.bytes]] w (Done w B pb (putF (l.map core) o).1 (putF (l.map core) o).2) := by
  have HD := Lib.hid hD
  have HP := Lib.hid hp
  have HN := Lib.hid hnm
  have hput := put_any l v pb B o (w.alloc (.cells #[.int .i64 o.kind, .string o.name, .int .i64 o.pos, .string o.bytes] 53)) (hD.below (below1 w _)) (((below1 w _).block pb (Array.getElem?_eq_some_iff.1 hp).1).trans hp) (by simp; omega) hF hpos
  obtain ⟨kd, nm, ps, bs⟩ := o
  dsimp only at *
  subst hk
  have HPUT := Lib.hid hput
  clear hD hp hnm hput
  go_enter Try.func23, Try.ntmps23
  go_wp2_with (first | (go_at_call 10; refine (name_any _ _ hn).mono ?_; rintro e w1 ⟨rfl, rfl⟩; rw [HN.out]) | (go_at_call 32; refine HPUT.out.mono ?_; rintro e w1 ⟨rfl, hd⟩; have HDN := Lib.hid hd; clear hd))
  go_ret
  exact done_from ⟨rfl, HDN.out⟩ (below1 w _) hB

theorem change_gone (l : List Rw) (v : Value) (pb B : Nat) (o : DOp) (w : World) (hD : OwnE w B v l) (hp : w.heap[pb]? = some (.cells #[v] 24 (0, 0))) (hB : B ≤ w.heap.size) (hm : l.length ≤ 9223372036854775807)
    (hk : 2 ≤ o.kind) (hk4 : o.kind ≤ 4) (hnm : nameB o.name = true) (hn : o.name.size ≤ 9223372036854775807) (hi : idx (sameName o.name) l = -1) :
    Calls Try.prog 23 #[.pointer (some ⟨pb, 0, none⟩), .agg #[.int .i64 o.kind, .string o.name, .int .i64 o.pos, .string o.bytes]] w (Done w B pb (l.map core) 20) := by
  obtain ⟨q, cap, rfl⟩ := owns_shape hD.1
  have hpl : pb < w.heap.size := (Array.getElem?_eq_some_iff.1 hp).1
  have p0 : w.cell? ⟨pb, 0, none⟩ = some (.slice q l.length cap) := by rw [cell_of_row w pb 0 _ 24 _ hp]; rfl
  have hk1 : (o.kind == 1) = false := by rw [beq_eq_false_iff_ne]; omega
  have HD := Lib.hid hD
  have HP := Lib.hid hp
  have HN := Lib.hid hnm
  have HI := Lib.hid hi
  obtain ⟨kd, nm, ps, bs⟩ := o
  dsimp only at *
  clear hD hp hnm hi
  go_enter Try.func23, Try.ntmps23
  go_wp2_with (go_at_call 10; refine (name_any _ _ hn).mono ?_; rintro e w1 ⟨rfl, rfl⟩; rw [HN.out])
  go_region_with (go_at_call 28; refine (find_any l _ nm _ (HD.out.reads.below (below1 w _).drew) hm).mono ?_; rintro e w1 ⟨rfl, hb1⟩; rw [HI.out])
  all_goals
    go_wp2_with fail
    go_ret
    exact done_same rfl HP.out HD.out rfl hB (below_then (below1 w _).drew hb1)

/-- Two stores: other safe bytes, and no open write. -/
theorem safe_done {w w2 : World} {pb B g cap n k : Nat} {v : Value} {l : List Rw} (hk : k < l.length) (hD : OwnE w2 B (.slice (some ⟨g, 0, none⟩) n cap) l) (hv : v = .slice (some ⟨g, 0, none⟩) n cap)
    (hpb : w2.heap[pb]? = some (.cells #[v] 24 (0, 0))) (ho : Only B pb w w2) (s : ByteArray) :
    let w' := (w2.setCell ⟨g, k * 3 + 1, none⟩ (.string s)).setCell ⟨g, k * 3 + 2, none⟩ (.slice none 0 0)
    ∃ v' l', w'.heap[pb]? = some (.cells #[v'] 24 (0, 0)) ∧ OwnE w' B v' l' ∧ l'.map core = (l.map core).set k ⟨l[k].name, s, []⟩ ∧ Only B pb w w' := by
  intro w'
  have hn : n = l.length := by
    rcases hD.1.2 with ⟨h, _⟩ | ⟨_, _, _, h, _⟩
    · cases h
    · injection h
  subst hn
  have hgB : B ≤ g := (hD.1.lt g rfl).1
  have hgp : g ≠ pb := fun e => not_at hD.1 hpb (by decide) (by rw [← e]; rfl)
  have hst := ((hD.1.stored (k * 3 + 1) (.string s)).1.stored (k * 3 + 2) (.slice none 0 0)).1
  have hrow : ((rowCells l).set (k * 3 + 1) (.string s)).set (k * 3 + 2) (.slice none 0 0) = rowCells (l.set k ⟨l[k].name, s, .slice none 0 0, []⟩) := by
    rw [← rowCells_set l k ⟨l[k].name, s, .slice none 0 0, []⟩ hk]
    congr 2
    apply List.ext_getElem?
    intro j
    rw [List.getElem?_set]
    split
    · rename_i e
      subst e
      rw [(rowCells_get l k hk).1, if_pos (by rw [rowCells_length]; omega)]
    · rfl
  rw [hrow] at hst
  have hoth : ∀ r ∈ l, w'.ownsRow B 37 2 r.ov r.opens.length (wrCells r.opens) := fun r hr => by
    have h1 := hD.2.1 r hr
    have h2 := owns_other h1 (fun e => rows_apart h1 hD.1 (by decide) e rfl) (k * 3 + 1) (.string s)
    exact owns_other h2 (fun e => rows_apart h1 hD.1 (by decide) e rfl) _ _
  refine ⟨v, l.set k ⟨l[k].name, s, .slice none 0 0, []⟩, ?_, ?_, ?_, ?_⟩
  · rw [heap_setCell_other _ _ _ _ (fun e => hgp e.symm), heap_setCell_other _ _ _ _ (fun e => hgp e.symm)]; exact hpb
  · rw [hv]
    exact hD.set k hk _ (fun r hr _ => hoth r hr) (World.ownsRow_nil _ _ _ _) hst fun b hb => by cases hb
  · apply List.ext_getElem?
    intro j
    rw [List.getElem?_map, List.getElem?_set, List.getElem?_set, List.getElem?_map]
    by_cases e : k = j
    · subst e
      simp [hk, core]
    · simp [e]
  · exact (ho.trans (only_setCell _ _ _ _ (.inl hgB))).trans (only_setCell _ _ _ _ (.inl hgB))

set_option maxHeartbeats 1000000 in
theorem change_sync (l : List Rw) (v : Value) (pb B k : Nat) (o : DOp) (w : World) (hD : OwnE w B v l) (hp : w.heap[pb]? = some (.cells #[v] 24 (0, 0))) (hB : B ≤ w.heap.size) (hF : Fits l)
    (hk : o.kind = 2) (hnm : nameB o.name = true) (hn : o.name.size ≤ 9223372036854775807) (hkl : k < l.length) (hi : idx (sameName o.name) l = k) :
    Calls Try.prog 23 #[.pointer (some ⟨pb, 0, none⟩), .agg #[.int .i64 o.kind, .string o.name, .int .i64 o.pos, .string o.bytes]] w (Done w B pb ((l.map core).set k ⟨l[k].name, layB l[k].safe l[k].opens, []⟩) 0) := by
  obtain ⟨q, cap, rfl⟩ := owns_shape hD.1
  have hm : l.length ≤ 9223372036854775807 := by have := hF.files; omega
  have hpl : pb < w.heap.size := (Array.getElem?_eq_some_iff.1 hp).1
  have p0 : w.cell? ⟨pb, 0, none⟩ = some (.slice q l.length cap) := by rw [cell_of_row w pb 0 _ 24 _ hp]; rfl
  have hmem : l[k] ∈ l := List.getElem_mem _
  obtain ⟨hk1, hk2, hk3⟩ := hF.okay l[k] hmem
  have HK2 := Lib.hid hk2
  have HD := Lib.hid hD
  have HP := Lib.hid hp
  have HN := Lib.hid hnm
  have HI := Lib.hid hi
  obtain ⟨kd, nm, ps, bs⟩ := o
  dsimp only at *
  subst hk
  clear hD hp hnm hi hF hk2
  go_enter Try.func23, Try.ntmps23
  go_wp2_with (go_at_call 10; refine (name_any _ _ hn).mono ?_; rintro e w1 ⟨rfl, rfl⟩; rw [HN.out])
  go_region_with (go_at_call 28; refine (find_any l _ nm _ (HD.out.reads.below (below1 w _).drew) hm).mono ?_; rintro e w1 ⟨rfl, hb1⟩; rw [HI.out])
  all_goals
    have hbw : Below w.heap.size w w1 := below_then (below1 w _).drew hb1
    have p1 : w1.cell? ⟨pb, 0, none⟩ = some (.slice q l.length cap) := (hbw.cell (p := ⟨pb, 0, none⟩) hpl).trans p0
    have o0 := hb1.cell (p := ⟨w.heap.size, 0, none⟩) (by simp)
    have hD1 := HD.out.below hbw
    obtain ⟨g, hq, hg1, hg2, c0, c1, c2, fz⟩ := owns_file hD1.1 k hkl (by omega)
    subst hq
    obtain ⟨q2, qc2, hov⟩ := owns_shape (hD1.2.1 _ hmem)
    have hread := hD1.opens _ hmem
    rw [hov] at c2 hread
    have hpb1 := (hbw.block pb hpl).trans HP.out
    have HD1 := Lib.hid hD1
    have HRD := Lib.hid hread
    have HFZ := Lib.hid fz
    have HPB1 := Lib.hid hpb1
    have HBW := Lib.hid hbw
    clear hD1 hread fz hpb1 hbw hb1 hov hmem
    go_wp2_with (go_at_call 29; refine (all_any _ _ _ _ _ HRD.out (by omega) hk1 HK2.out).mono ?_; rintro e w2 ⟨rfl, hb2⟩; have e1 := hb2.cell (p := ⟨g, k * 3 + 1, none⟩) hg2; have e2 := hb2.cell (p := ⟨g, k * 3 + 2, none⟩) hg2; have z1 := (hb2.frozen (p := ⟨g, k * 3 + 1, none⟩) hg2).trans (HFZ.out _); have z2 := (hb2.frozen (p := ⟨g, k * 3 + 2, none⟩) hg2).trans (HFZ.out _); rw [c1] at e1; rw [c2] at e2)
    go_ret
    exact ⟨rfl, safe_done hkl (HD1.out.below hb2) rfl ((hb2.block pb (by have := HBW.out.size; omega)).trans HPB1.out) ((only_of_below HBW.out hB).trans (only_of_below hb2 (by have := HBW.out.size; omega))) _⟩

set_option maxHeartbeats 1000000 in
theorem change_cut (l : List Rw) (v : Value) (pb B k : Nat) (o : DOp) (w : World) (hD : OwnE w B v l) (hp : w.heap[pb]? = some (.cells #[v] 24 (0, 0))) (hB : B ≤ w.heap.size) (hF : Fits l)
    (hk : o.kind = 3) (hnm : nameB o.name = true) (hn : o.name.size ≤ 9223372036854775807) (hkl : k < l.length) (hi : idx (sameName o.name) l = k) (h0 : 0 ≤ o.pos) (h1 : o.pos ≤ (layB l[k].safe l[k].opens).size) :
    Calls Try.prog 23 #[.pointer (some ⟨pb, 0, none⟩), .agg #[.int .i64 o.kind, .string o.name, .int .i64 o.pos, .string o.bytes]] w (Done w B pb ((l.map core).set k ⟨l[k].name, (layB l[k].safe l[k].opens).extract 0 o.pos.toNat, []⟩) 0) := by
  obtain ⟨q, cap, rfl⟩ := owns_shape hD.1
  have hm : l.length ≤ 9223372036854775807 := by have := hF.files; omega
  have hpl : pb < w.heap.size := (Array.getElem?_eq_some_iff.1 hp).1
  have p0 : w.cell? ⟨pb, 0, none⟩ = some (.slice q l.length cap) := by rw [cell_of_row w pb 0 _ 24 _ hp]; rfl
  have hmem : l[k] ∈ l := List.getElem_mem _
  obtain ⟨hk1, hk2, hk3⟩ := hF.okay l[k] hmem
  have HK2 := Lib.hid hk2
  have HD := Lib.hid hD
  have HP := Lib.hid hp
  have HN := Lib.hid hnm
  have HI := Lib.hid hi
  obtain ⟨kd, nm, ps, bs⟩ := o
  dsimp only at *
  subst hk
  obtain ⟨t, rfl⟩ := Int.eq_ofNat_of_zero_le h0
  clear hD hp hnm hi hF hk2
  go_enter Try.func23, Try.ntmps23
  go_wp2_with (go_at_call 10; refine (name_any _ _ hn).mono ?_; rintro e w1 ⟨rfl, rfl⟩; rw [HN.out])
  go_region_with (go_at_call 28; refine (find_any l _ nm _ (HD.out.reads.below (below1 w _).drew) hm).mono ?_; rintro e w1 ⟨rfl, hb1⟩; rw [HI.out])
  all_goals
    have hbw : Below w.heap.size w w1 := below_then (below1 w _).drew hb1
    have p1 : w1.cell? ⟨pb, 0, none⟩ = some (.slice q l.length cap) := (hbw.cell (p := ⟨pb, 0, none⟩) hpl).trans p0
    have o0 := hb1.cell (p := ⟨w.heap.size, 0, none⟩) (by simp)
    have o2 := hb1.cell (p := ⟨w.heap.size, 2, none⟩) (by simp)
    have hs1 : w.heap.size < w1.heap.size := by have := hb1.size; simp at this; omega
    have hD1 := HD.out.below hbw
    obtain ⟨g, hq, hg1, hg2, c0, c1, c2, fz⟩ := owns_file hD1.1 k hkl (by omega)
    subst hq
    obtain ⟨q2, qc2, hov⟩ := owns_shape (hD1.2.1 _ hmem)
    have hread := hD1.opens _ hmem
    rw [hov] at c2 hread
    have hpb1 := (hbw.block pb hpl).trans HP.out
    have HD1 := Lib.hid hD1
    have HRD := Lib.hid hread
    have HFZ := Lib.hid fz
    have HPB1 := Lib.hid hpb1
    have HBW := Lib.hid hbw
    clear hD1 hread fz hpb1 hbw hb1 hov hmem
    go_wp2_with (go_at_call 29; refine (all_any _ _ _ _ _ HRD.out (by omega) hk1 HK2.out).mono ?_; rintro e w2 ⟨rfl, hb2⟩; have e1 := hb2.cell (p := ⟨g, k * 3 + 1, none⟩) hg2; have e2 := hb2.cell (p := ⟨g, k * 3 + 2, none⟩) hg2; have z1 := (hb2.frozen (p := ⟨g, k * 3 + 1, none⟩) hg2).trans (HFZ.out _); have z2 := (hb2.frozen (p := ⟨g, k * 3 + 2, none⟩) hg2).trans (HFZ.out _); rw [c1] at e1; rw [c2] at e2; have e3 := hb2.cell (p := ⟨w.heap.size, 2, none⟩) hs1)
    go_ret
    exact ⟨rfl, safe_done hkl (HD1.out.below hb2) rfl ((hb2.block pb (by have := HBW.out.size; omega)).trans HPB1.out) ((only_of_below HBW.out hB).trans (only_of_below hb2 (by have := HBW.out.size; omega))) _⟩

set_option maxHeartbeats 1000000 in
theorem change_nocut (l : List Rw) (v : Value) (pb B k : Nat) (o : DOp) (w : World) (hD : OwnE w B v l) (hp : w.heap[pb]? = some (.cells #[v] 24 (0, 0))) (hB : B ≤ w.heap.size) (hF : Fits l)
    (hk : o.kind = 3) (hnm : nameB o.name = true) (hn : o.name.size ≤ 9223372036854775807) (hkl : k < l.length) (hi : idx (sameName o.name) l = k) (h1 : o.pos < 0 ∨ ((layB l[k].safe l[k].opens).size : Int) < o.pos) :
    Calls Try.prog 23 #[.pointer (some ⟨pb, 0, none⟩), .agg #[.int .i64 o.kind, .string o.name, .int .i64 o.pos, .string o.bytes]] w (Done w B pb (l.map core) 1) := by
  obtain ⟨q, cap, rfl⟩ := owns_shape hD.1
  have hm : l.length ≤ 9223372036854775807 := by have := hF.files; omega
  have hpl : pb < w.heap.size := (Array.getElem?_eq_some_iff.1 hp).1
  have p0 : w.cell? ⟨pb, 0, none⟩ = some (.slice q l.length cap) := by rw [cell_of_row w pb 0 _ 24 _ hp]; rfl
  have hmem : l[k] ∈ l := List.getElem_mem _
  obtain ⟨hk1, hk2, hk3⟩ := hF.okay l[k] hmem
  have HK2 := Lib.hid hk2
  have HD := Lib.hid hD
  have HP := Lib.hid hp
  have HN := Lib.hid hnm
  have HI := Lib.hid hi
  obtain ⟨kd, nm, ps, bs⟩ := o
  dsimp only at *
  subst hk
  clear hD hp hnm hi hF hk2
  rcases (show ps < 0 ∨ (0 ≤ ps ∧ ((layB l[k].safe l[k].opens).size : Int) < ps) by omega) with hneg | ⟨hneg, hbg⟩
  all_goals
    clear h1
    go_enter Try.func23, Try.ntmps23
    go_wp2_with (go_at_call 10; refine (name_any _ _ hn).mono ?_; rintro e w1 ⟨rfl, rfl⟩; rw [HN.out])
    go_region_with (go_at_call 28; refine (find_any l _ nm _ (HD.out.reads.below (below1 w _).drew) hm).mono ?_; rintro e w1 ⟨rfl, hb1⟩; rw [HI.out])
    all_goals
      have hbw : Below w.heap.size w w1 := below_then (below1 w _).drew hb1
      have p1 : w1.cell? ⟨pb, 0, none⟩ = some (.slice q l.length cap) := (hbw.cell (p := ⟨pb, 0, none⟩) hpl).trans p0
      have o0 := hb1.cell (p := ⟨w.heap.size, 0, none⟩) (by simp)
      have o2 := hb1.cell (p := ⟨w.heap.size, 2, none⟩) (by simp)
      have hs1 : w.heap.size < w1.heap.size := by have := hb1.size; simp at this; omega
      have hD1 := HD.out.below hbw
      obtain ⟨g, hq, hg1, hg2, c0, c1, c2, fz⟩ := owns_file hD1.1 k hkl (by omega)
      subst hq
      obtain ⟨q2, qc2, hov⟩ := owns_shape (hD1.2.1 _ hmem)
      have hread := hD1.opens _ hmem
      rw [hov] at c2 hread
      have HRD := Lib.hid hread
      have HBW := Lib.hid hbw
      clear hD1 hread fz hbw hb1 hov hmem
      go_wp2_with (go_at_call 29; refine (all_any _ _ _ _ _ HRD.out (by omega) hk1 HK2.out).mono ?_; rintro e w2 ⟨rfl, hb2⟩; have e3 := hb2.cell (p := ⟨w.heap.size, 2, none⟩) hs1)
      go_ret
      exact done_same rfl HP.out HD.out rfl hB (below_then HBW.out hb2)
/-- A file taken out. -/
theorem drop_done {w w2 : World} {pb B n c k : Nat} {q : Option Addr} {v : Value} {l : List Rw} (hk : k < l.length) (ho : w2.ownsRow B 35 3 (.slice q n c) (l.length - 1) (rowCells (l.eraseIdx k))) (hop : ∀ r ∈ l, w2.ownsRow B 37 2 r.ov r.opens.length (wrCells r.opens))
    (hnd : (l.filterMap fun r => r.ov.ownBlock).Nodup) (hpb : w2.heap[pb]? = some (.cells #[v] 24 (0, 0))) (hon : Only B pb w w2) :
    let w' := w2.setCell ⟨pb, 0, none⟩ (.slice q n c)
    ∃ v' l', w'.heap[pb]? = some (.cells #[v'] 24 (0, 0)) ∧ OwnE w' B v' l' ∧ l'.map core = (l.map core).eraseIdx k ∧ Only B pb w w' := by
  intro w'
  refine ⟨.slice q n c, l.eraseIdx k, ?_, ⟨?_, fun r hr => ?_, ?_⟩, ?_, hon.trans (only_setCell _ _ _ _ (.inr rfl))⟩
  · rw [heap_setCell_same w2 pb 0 _ 24 _ hpb]; rfl
  · rw [List.length_eraseIdx, if_pos hk]; exact owns_other ho (not_at ho hpb (by decide)) _ _
  · have h := hop r (List.mem_of_mem_eraseIdx hr)
    exact owns_other h (not_at h hpb (by decide)) _ _
  · exact hnd.sublist ((List.eraseIdx_sublist l k).filterMap _)
  · rw [List.eraseIdx_eq_take_drop_succ, List.eraseIdx_eq_take_drop_succ, List.map_append, List.map_take, List.map_drop]

set_option maxHeartbeats 1000000 in
theorem change_drop (l : List Rw) (v : Value) (pb B k : Nat) (o : DOp) (w : World) (hD : OwnE w B v l) (hp : w.heap[pb]? = some (.cells #[v] 24 (0, 0))) (hB : B ≤ w.heap.size) (hF : Fits l)
    (hk : o.kind = 4) (hnm : nameB o.name = true) (hn : o.name.size ≤ 9223372036854775807) (hkl : k < l.length) (hi : idx (sameName o.name) l = k) :
    Calls Try.prog 23 #[.pointer (some ⟨pb, 0, none⟩), .agg #[.int .i64 o.kind, .string o.name, .int .i64 o.pos, .string o.bytes]] w (Done w B pb ((l.map core).eraseIdx k) 0) := by
  obtain ⟨q, cap, rfl⟩ := owns_shape hD.1
  have hm : l.length ≤ 9223372036854775807 := by have := hF.files; omega
  have hpl : pb < w.heap.size := (Array.getElem?_eq_some_iff.1 hp).1
  have p0 : w.cell? ⟨pb, 0, none⟩ = some (.slice q l.length cap) := by rw [cell_of_row w pb 0 _ 24 _ hp]; rfl
  have hm2 : l.length * 56 ≤ 140737488355328 := by have := hF.files; omega
  have HD := Lib.hid hD
  have HP := Lib.hid hp
  have HN := Lib.hid hnm
  have HI := Lib.hid hi
  obtain ⟨kd, nm, ps, bs⟩ := o
  dsimp only at *
  subst hk
  clear hD hp hnm hi hF
  go_enter Try.func23, Try.ntmps23
  go_wp2_with (go_at_call 10; refine (name_any _ _ hn).mono ?_; rintro e w1 ⟨rfl, rfl⟩; rw [HN.out])
  go_region_with (go_at_call 28; refine (find_any l _ nm _ (HD.out.reads.below (below1 w _).drew) hm).mono ?_; rintro e w1 ⟨rfl, hb1⟩; rw [HI.out])
  all_goals
    have hbw : Below w.heap.size w w1 := below_then (below1 w _).drew hb1
    have p1 : w1.cell? ⟨pb, 0, none⟩ = some (.slice q l.length cap) := (hbw.cell (p := ⟨pb, 0, none⟩) hpl).trans p0
    have o0 := hb1.cell (p := ⟨w.heap.size, 0, none⟩) (by simp)
    have hD1 := HD.out.below hbw
    obtain ⟨g, hq, hg1, hg2, c0, c1, c2, fz⟩ := owns_file hD1.1 k hkl (by omega)
    subst hq
    have hpb1 := (hbw.block pb hpl).trans HP.out
    have hs1 := hbw.size
    have hcall : Calls Try.prog 33 #[.slice (some ⟨g, 0, none⟩) l.length cap, .int .i64 (k : Int), .int .i64 ((k : Int) + 1)] w1 fun e w2 => ∃ q2 n2 c2, e = .returned (.slice q2 n2 c2) ∧ w2.ownsRow B 35 3 (.slice q2 n2 c2) (l.length - 1) (rowCells (l.eraseIdx k)) ∧
        (∀ r ∈ l, w2.ownsRow B 37 2 r.ov r.opens.length (wrCells r.opens)) ∧ Only B pb w w2 ∧ w2.heap[pb]? = some (.cells #[.slice (some ⟨g, 0, none⟩) l.length cap] 24 (0, 0)) := by
      refine (delete_any l _ k B w1 hD1.1 hkl hD1.one hm).mono ?_
      rintro e w2 ⟨v2, he, ho2, hgr⟩
      obtain ⟨q2, c2, rfl⟩ := owns_shape ho2
      refine ⟨q2, _, c2, he, ho2, fun r hr => wider (hD1.2.1 r hr) hD1.1 (by decide) hgr, (only_of_below hbw hB).trans (only_of_grown hgr (by omega) fun j hj => (hD1.1.lt j hj).1), ?_⟩
      exact (hgr.block pb (by omega) fun e => not_at hD1.1 hpb1 (by decide) e.symm).trans hpb1
    have HC := Lib.hid hcall
    clear hcall hD1 fz hbw hb1 c0 c1 c2
    go_wp2_with (go_at_call 33; refine HC.out.mono ?_; rintro e w2 ⟨q2, n2, c2, rfl, ho2, hop2, hon2, hpb2⟩; have HO2 := Lib.hid ho2; have HOP2 := Lib.hid hop2; have HON2 := Lib.hid hon2; have x2 : w2.cell? ⟨pb, 0, none⟩ = some (.slice (some ⟨g, 0, none⟩) l.length cap) := (by rw [cell_of_row w2 pb 0 _ 24 _ hpb2]; rfl); have z2 := frozen_of_row w2 pb 0 _ 24 hpb2; have HPB2 := Lib.hid hpb2; clear ho2 hop2 hon2 hpb2)
    go_ret
    exact ⟨rfl, drop_done hkl HO2.out HOP2.out HD.out.2.2 HPB2.out HON2.out⟩
theorem change_bad (o : DOp) (p : Value) (w : World) (h : badOp o = true) (hn : o.name.size ≤ 9223372036854775807) :
    Calls Try.prog 23 #[p, .agg #[.int .i64 o.kind, .string o.name, .int .i64 o.pos, .string o.bytes]] w fun e w' => e = .returned (.int .i64 1) ∧ Below w.heap.size w w' := by
  unfold badOp at h
  by_cases h1 : o.kind < 1
  · go_enter Try.func23, Try.ntmps23
    go_wp2_with fail
    go_ret
    exact ⟨rfl, below1 w _⟩
  by_cases h4 : 4 < o.kind
  · go_enter Try.func23, Try.ntmps23
    go_wp2_with fail
    go_ret
    exact ⟨rfl, below1 w _⟩
  have hnm : nameB o.name = false := by
    rw [decide_eq_false h1, decide_eq_false h4] at h
    simpa using h
  have HN := Lib.hid hnm
  clear h hnm
  go_enter Try.func23, Try.ntmps23
  go_wp2_with (go_at_call 10; refine (name_any _ _ hn).mono ?_; rintro e w1 ⟨rfl, rfl⟩; rw [HN.out])
  go_ret
  exact ⟨rfl, below1 w _⟩
end Go.Proofs.Ytfpdfhncifcghaa
