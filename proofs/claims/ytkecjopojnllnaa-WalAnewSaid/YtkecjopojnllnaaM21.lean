/- Behind its plan the log of any disk is whole, and tells the same (plain): run by run. -/
import Derived.Test.YtkecjopojnllnaaM08
import Derived.Test.YtkecjopojnllnaaM12
import Derived.Test.YtkecjopojnllnaaM13
import Derived.Test.YtkecjopojnllnaaM17
import Derived.Test.YtkecjopojnllnaaM20
namespace Go.Proofs.Ytkecjopojnllnaa
open Go.RowKit Go.Deep Go.Joins

/-- No two files of one name. -/
def Uniq (fs : List Fl) : Prop := fs.Pairwise (fun f g => f.name ≠ g.name)
/-- Segment number n is there, with these bytes. -/
def Has (p : ByteArray) (fs : List Fl) (n : Nat) (b : ByteArray) : Prop := ∃ f ∈ fs, numB p f.name = some n ∧ allF f = b
theorem Uniq.inj {fs : List Fl} (h : Uniq fs) {i j : Nat} (hi : i < fs.length) (hj : j < fs.length) (e : fs[i].name = fs[j].name) : i = j := by
  rcases Nat.lt_trichotomy i j with h1 | h1 | h1
  · exact absurd e (List.pairwise_iff_getElem.1 h i j hi hj h1)
  · exact h1
  · exact absurd e.symm (List.pairwise_iff_getElem.1 h j i hj hi h1)
theorem Uniq.of_inj {fs : List Fl} (h : ∀ i j (hi : i < fs.length) (hj : j < fs.length), fs[i].name = fs[j].name → i = j) : Uniq fs :=
  List.pairwise_iff_getElem.2 fun i j hi hj hij e => by have := h i j hi hj e; omega
theorem Has.at {p : ByteArray} {fs : List Fl} {n : Nat} {b : ByteArray} (h : Has p fs n b) : ∃ (k : Nat) (hk : k < fs.length), fs[k].name = nameOf p n ∧ n ≤ 999999 ∧ allF fs[k] = b := by
  obtain ⟨f, hf, h1, h2⟩ := h
  obtain ⟨k, hk, rfl⟩ := List.getElem_of_mem hf
  exact ⟨k, hk, (numB_name.1 h1).1, (numB_name.1 h1).2, h2⟩
theorem Has.of {p : ByteArray} {fs : List Fl} {n k : Nat} {b : ByteArray} (hk : k < fs.length) (h1 : fs[k].name = nameOf p n) (h2 : n ≤ 999999) (h3 : allF fs[k] = b) : Has p fs n b :=
  ⟨fs[k], List.getElem_mem hk, numB_name.2 ⟨h1, h2⟩, h3⟩
theorem Has.one {p : ByteArray} {fs : List Fl} {n : Nat} {b c : ByteArray} (hu : Uniq fs) (h : Has p fs n b) (h' : Has p fs n c) : b = c := by
  obtain ⟨k, hk, h1, _, h2⟩ := h.at
  obtain ⟨j, hj, h3, _, h4⟩ := h'.at
  obtain rfl := hu.inj hk hj (h1.trans h3.symm)
  rw [← h2, h4]
theorem sameN_iff {a b : ByteArray} : sameN a b = true ↔ a = b := by
  unfold sameN
  simp only [beq_iff_eq, ByteArray.toList_eq]
  exact ⟨fun h => ba_inj h, fun h => by rw [h]⟩
theorem idxF_at {fs : List Fl} (hu : Uniq fs) {k : Nat} (hk : k < fs.length) {x : ByteArray} (hx : fs[k].name = x) : idxF x fs = k := by
  have h : fs.findIdx? (fun f => sameN f.name x) = some k := by
    rw [List.findIdx?_eq_some_iff_getElem]
    refine ⟨hk, sameN_iff.2 hx, fun j hj => ?_⟩
    intro h
    have := hu.inj (by omega) hk ((sameN_iff.1 h).trans hx.symm)
    omega
  unfold idxF
  rw [h]
theorem small_letter {c : Int} (h : smallB c = true) : letterB c = true := by
  unfold smallB at h
  unfold letterB
  rw [h]
  rfl
theorem dig_letter {c : Int} (h : digB c = true) : letterB c = true := by
  unfold digB at h
  unfold letterB
  rw [h]
  simp
theorem prefLen {p : ByteArray} (hp : prefB p = true) : 1 ≤ p.size ∧ p.size ≤ 8 := by
  unfold prefB at hp
  simp only [Bool.and_eq_true, decide_eq_true_eq] at hp
  exact hp.1
theorem nameLen {p : ByteArray} (n : Nat) : (nameOf p n).size = p.size + 7 := by
  rw [← len_eq, nameOf_list, List.length_append, len_eq]
  rfl
theorem nameGood {p : ByteArray} (hp : prefB p = true) (n : Nat) : nameB (nameOf p n) = true := by
  have h1 := prefLen hp
  unfold nameB
  rw [nameLen, nameOf_list]
  unfold prefB at hp
  simp only [Bool.and_eq_true, decide_eq_true_eq, List.all_append, List.all_cons] at hp ⊢
  refine ⟨⟨by omega, by omega⟩, ?_, rfl, ?_⟩
  · rw [List.all_eq_true] at hp ⊢
    exact fun c hc => small_letter (hp.2 c hc)
  · unfold dgs
    simp only [List.all_cons, List.all_nil, dig_letter (dig_dg _ _), Bool.and_true]
theorem not_bad {p : ByteArray} (hp : prefB p = true) (n : Nat) {o : DOp} (h1 : 1 ≤ o.kind) (h2 : o.kind ≤ 4) (h3 : o.name = nameOf p n) : badOp o = false := by
  unfold badOp
  rw [h3, nameGood hp]
  simp
  omega
theorem drop_file {p : ByteArray} {fs : List Fl} {n k : Nat} (hp : prefB p = true) (hu : Uniq fs) (hk : k < fs.length) (hn : fs[k].name = nameOf p n) : changeF fs (dropOp (nameOf p n)) = (fs.eraseIdx k, 0) := by
  have hb : badOp (dropOp (nameOf p n)) = false := not_bad hp n (show (1 : Int) ≤ 4 by omega) (show (4 : Int) ≤ 4 by omega) rfl
  unfold changeF
  rw [hb, if_neg (by decide), show (dropOp (nameOf p n)).name = nameOf p n from rfl, show (dropOp (nameOf p n)).kind = 4 from rfl, idxF_at hu hk hn, if_neg (by omega), if_neg (by omega), if_neg (by omega), if_neg (by omega)]
  rfl
theorem cut_file {p : ByteArray} {fs : List Fl} {n k c : Nat} (hp : prefB p = true) (hu : Uniq fs) (hk : k < fs.length) (hn : fs[k].name = nameOf p n) (hc : c ≤ (allF fs[k]).size) :
    changeF fs ⟨3, nameOf p n, (c : Int), ⟨#[]⟩⟩ = (fs.set k ⟨nameOf p n, (allF fs[k]).extract 0 c, []⟩, 0) := by
  have hb : badOp (⟨3, nameOf p n, (c : Int), ⟨#[]⟩⟩ : DOp) = false := not_bad hp n (show (1 : Int) ≤ 3 by omega) (show (3 : Int) ≤ 4 by omega) rfl
  unfold changeF
  rw [hb, if_neg (by decide)]
  dsimp only
  rw [idxF_at hu hk hn, if_neg (by omega), if_neg (by omega), if_neg (by omega), if_pos rfl, Int.toNat_natCast, List.getElem?_eq_getElem hk]
  dsimp only
  rw [if_neg (by omega), hn]
  rfl
theorem uniq_erase {fs : List Fl} (hu : Uniq fs) (k : Nat) : Uniq (fs.eraseIdx k) := List.Pairwise.sublist (List.eraseIdx_sublist _ _) hu
theorem uniq_set {fs : List Fl} (hu : Uniq fs) {k : Nat} (hk : k < fs.length) {f : Fl} (hn : f.name = fs[k].name) : Uniq (fs.set k f) := by
  refine Uniq.of_inj fun i j hi hj e => ?_
  rw [List.length_set] at hi hj
  rw [List.getElem_set, List.getElem_set] at e
  split at e <;> split at e
  · omega
  · rename_i a _; subst a; rw [hn] at e; exact hu.inj hi hj e
  · rename_i _ a; subst a; rw [hn] at e; exact hu.inj hi hj e
  · exact hu.inj hi hj e
theorem has_erase {p : ByteArray} {fs : List Fl} {n k : Nat} (hu : Uniq fs) (hk : k < fs.length) (hn : fs[k].name = nameOf p n) (h9 : n ≤ 999999) (m : Nat) (b : ByteArray) : Has p (fs.eraseIdx k) m b ↔ m ≠ n ∧ Has p fs m b := by
  constructor
  · rintro ⟨f, hf, h1, h2⟩
    obtain ⟨i, hi, hik, rfl⟩ := List.mem_eraseIdx_iff_getElem.1 hf
    refine ⟨fun e => ?_, fs[i], List.getElem_mem hi, h1, h2⟩
    subst e
    exact hik (hu.inj hi hk ((numB_name.1 h1).1.trans hn.symm))
  · rintro ⟨hm, h⟩
    obtain ⟨i, hi, h1, h2, h3⟩ := h.at
    refine ⟨fs[i], List.mem_eraseIdx_iff_getElem.2 ⟨i, hi, fun e => ?_, rfl⟩, numB_name.2 ⟨h1, h2⟩, h3⟩
    subst e
    exact hm (nameOf_inj h2 h9 (h1.symm.trans hn))
theorem has_set {p : ByteArray} {fs : List Fl} {n k : Nat} {f : Fl} (hu : Uniq fs) (hk : k < fs.length) (hn : fs[k].name = nameOf p n) (h9 : n ≤ 999999) (hf : f.name = nameOf p n) (m : Nat) (b : ByteArray) :
    Has p (fs.set k f) m b ↔ (m = n ∧ b = allF f) ∨ (m ≠ n ∧ Has p fs m b) := by
  constructor
  · intro h
    obtain ⟨i, hi, h1, h2, h3⟩ := h.at
    rw [List.length_set] at hi
    rw [List.getElem_set] at h1 h3
    split at h1
    · rename_i e
      rw [if_pos e] at h3
      exact .inl ⟨nameOf_inj h2 h9 (h1.symm.trans hf), h3.symm⟩
    · rename_i e
      rw [if_neg e] at h3
      refine .inr ⟨fun e2 => ?_, Has.of hi h1 h2 h3⟩
      subst e2
      exact e (hu.inj hk hi (hn.trans h1.symm))
  · rintro (⟨rfl, rfl⟩ | ⟨hm, h⟩)
    · exact Has.of (k := k) (by rw [List.length_set]; exact hk) (by rw [List.getElem_set_self]; exact hf) h9 (by rw [List.getElem_set_self])
    · obtain ⟨i, hi, h1, h2, h3⟩ := h.at
      have hik : k ≠ i := fun e => by subst e; exact hm (nameOf_inj h2 h9 (h1.symm.trans hn))
      exact Has.of (k := i) (by rw [List.length_set]; exact hi) (by rw [List.getElem_set_ne hik]; exact h1) h2 (by rw [List.getElem_set_ne hik]; exact h3)
/-- All these operations are done, one behind the other. -/
def Exec (fs : List Fl) (ops : List DOp) (gs : List Fl) : Prop := doF fs ops = (gs, (ops.length : Int), 0)
theorem Exec.nil (fs : List Fl) : Exec fs [] fs := rfl
theorem Exec.cons {fs gs hs : List Fl} {o : DOp} {ops : List DOp} (h : changeF fs o = (gs, 0)) (h2 : Exec gs ops hs) : Exec fs (o :: ops) hs := by
  unfold Exec at *
  rw [doF_cons, h, if_neg (fun x => x rfl)]
  dsimp only
  rw [h2]
  simp
theorem Exec.append {a b : List DOp} : ∀ {fs gs hs : List Fl}, Exec fs a gs → Exec gs b hs → Exec fs (a ++ b) hs := by
  induction a with
  | nil =>
    intro fs gs hs h1 h2
    unfold Exec at h1
    rw [doF_nil] at h1
    injection h1 with h1 _
    subst h1
    exact h2
  | cons o a ih =>
    intro fs gs hs h1 h2
    unfold Exec at h1
    rw [doF_cons] at h1
    have hl : ((o :: a).length : Int) = (a.length : Int) + 1 := by simp
    split at h1
    · injection h1 with _ h1
      injection h1 with h1 _
      omega
    · rename_i h0
      have h0 : (changeF fs o).2 = 0 := by simpa using h0
      injection h1 with e1 e2
      injection e2 with e2 e3
      have e4 : Exec (changeF fs o).1 a gs := by
        unfold Exec
        exact Prod.ext e1 (Prod.ext (by rw [hl] at e2; dsimp only; omega) e3)
      exact Exec.cons (Prod.ext rfl h0) (ih e4 h2)
theorem Exec.one {fs gs : List Fl} {o : DOp} (h : changeF fs o = (gs, 0)) : Exec fs [o] gs := Exec.cons h (Exec.nil _)
/-- The drops of some segments, the last one first. -/
theorem exec_drops {p : ByteArray} (hp : prefB p = true) : ∀ (N : List Nat) {fs : List Fl}, Uniq fs → (∀ n ∈ N, ∃ b, Has p fs n b) → N.Nodup →
    ∃ gs, Exec fs (N.reverse.map fun m => dropOp (nameOf p m)) gs ∧ Uniq gs ∧ ∀ m b, Has p gs m b ↔ m ∉ N ∧ Has p fs m b := by
  intro N
  induction N with
  | nil => exact fun hu _ _ => ⟨_, Exec.nil _, hu, fun m b => by simp⟩
  | cons n N ih =>
    intro fs hu hN hd
    obtain ⟨h1, h2⟩ := List.nodup_cons.1 hd
    obtain ⟨gs, e1, u1, c1⟩ := ih hu (fun m hm => hN m (List.mem_cons_of_mem _ hm)) h2
    obtain ⟨b, hb⟩ := hN n List.mem_cons_self
    obtain ⟨k, hk, k1, k2, _⟩ := ((c1 n b).2 ⟨h1, hb⟩).at
    refine ⟨gs.eraseIdx k, ?_, uniq_erase u1 k, fun m b => ?_⟩
    · rw [List.reverse_cons, List.map_append]
      exact e1.append (Exec.one (drop_file hp u1 hk k1))
    · rw [has_erase u1 hk k1 k2, c1, List.mem_cons, not_or, and_assoc]
end Go.Proofs.Ytkecjopojnllnaa
namespace Go.Proofs.Ytkecjopojnllnaa
open Go.RowKit Go.Deep Go.Joins

def ChainR (s : ByteArray) : List ByteArray → Nat → Prop
  | [], a => a = 0
  | b :: P, a => ∃ a0, ChainR s P a0 ∧ oneAt s a0 = some b ∧ a = a0 + 9 + b.size
/-- These strings' whole frames are the first so many bytes. -/
def Chain (s : ByteArray) (P : List ByteArray) (a : Nat) : Prop := ChainR s P.reverse a
theorem Chain.start {s : ByteArray} : Chain s [] 0 := rfl
theorem Chain.next {s : ByteArray} {P : List ByteArray} {a : Nat} {b : ByteArray} (h : Chain s P a) (h2 : oneAt s a = some b) : Chain s (P ++ [b]) (a + 9 + b.size) := by
  unfold Chain
  rw [List.reverse_append]
  exact ⟨a, h, h2, rfl⟩
/-- One frame after the other. -/
theorem Chain.each {s : ByteArray} {M : List ByteArray → Nat → Prop} (h0 : M [] 0) (h1 : ∀ (P : List ByteArray) (a : Nat) (b : ByteArray), oneAt s a = some b → M P a → M (P ++ [b]) (a + 9 + b.size)) {P : List ByteArray} {a : Nat} (h : Chain s P a) : M P a := by
  have key : ∀ (Q : List ByteArray) (a : Nat), ChainR s Q a → M Q.reverse a := by
    intro Q
    induction Q with
    | nil =>
      intro a h
      have h : a = 0 := h
      subst h
      exact h0
    | cons b Q ih =>
      intro a h
      obtain ⟨a0, h2, h3, rfl⟩ := h
      rw [List.reverse_cons]
      exact h1 _ _ _ h3 (ih a0 h2)
  have := key _ _ h
  rw [List.reverse_reverse] at this
  exact this
theorem Chain.at {s : ByteArray} {P : List ByteArray} {a : Nat} (h : Chain s P a) : ScanAt s P a :=
  h.each (M := fun P a => ScanAt s P a) (ScanAt.start s) fun _ _ _ h2 ih => ih.next h2
theorem Chain.le {s : ByteArray} {P : List ByteArray} {a : Nat} (h : Chain s P a) : a ≤ s.size := h.at.1
theorem Chain.scan {s : ByteArray} {P : List ByteArray} {a : Nat} (h : Chain s P a) (hn : oneAt s a = none) : scanL s = (P, a) := h.at.over hn
theorem scan_chain (s : ByteArray) : ∃ P a, Chain s P a ∧ oneAt s a = none ∧ scanL s = (P, a) := by
  suffices h : ∀ f P a, s.size + 1 ≤ a + f → Chain s P a → ∃ P a, Chain s P a ∧ oneAt s a = none ∧ scanL s = (P, a) from h (s.size + 1) [] 0 (by omega) Chain.start
  intro f
  induction f with
  | zero => intro P a h1 h2; have := h2.le; omega
  | succ f ih =>
    intro P a h1 h2
    cases h : oneAt s a with
    | none => exact ⟨P, a, h2, h, h2.scan h⟩
    | some b => exact ih _ _ (by omega) (h2.next h)
theorem ext_ext (s : ByteArray) {m i j : Nat} (hj : j ≤ m) : (s.extract 0 m).extract i j = s.extract i j := by
  rw [ByteArray.extract_extract]
  simp only [Nat.zero_add]
  rw [Nat.min_eq_left hj]
theorem ext_bAt (s : ByteArray) {m k : Nat} (hm : m ≤ s.size) (hk : k < m) : bAt (s.extract 0 m) k = bAt s k := by
  rw [ext_get s 0 m k hm (by omega), Nat.zero_add]
theorem oneAt_cut {s : ByteArray} {a m : Nat} {b : ByteArray} (h : oneAt s a = some b) (hm : m ≤ s.size) (ha : a + 9 + b.size ≤ m) : oneAt (s.extract 0 m) a = some b := by
  have hz : (s.extract 0 m).size = m := by rw [ByteArray.size_extract]; omega
  unfold oneAt at h
  split at h
  · rename_i hc
    split at h
    · rename_i hd
      have hb := Option.some.inj h
      have HD := Lib.hid hd
      clear hd h
      have hbs : b.size = rd4 s a := by rw [← hb, ByteArray.size_extract]; omega
      obtain ⟨c1, c2, c3⟩ := hc
      have hr : rd4 (s.extract 0 m) a = rd4 s a := by rw [rd4_ext s 0 m a hm (by omega), Nat.zero_add]
      have hr4 : rd4 (s.extract 0 m) (a + 4) = rd4 s (a + 4) := by rw [rd4_ext s 0 m (a + 4) hm (by omega), Nat.zero_add]
      have hl : bAt (s.extract 0 m) (a + 8 + rd4 s a) = bAt s (a + 8 + rd4 s a) := ext_bAt s hm (by omega)
      have x1 : (s.extract 0 m).extract a (a + 4) = s.extract a (a + 4) := ext_ext s (by omega)
      have x2 : (s.extract 0 m).extract (a + 8) (a + 8 + rd4 s a) = s.extract (a + 8) (a + 8 + rd4 s a) := ext_ext s (by omega)
      have k1 : a + 9 ≤ m := by omega
      have k2 : a + rd4 s a + 9 ≤ m := by omega
      unfold oneAt
      rw [hr, hr4, hz, hl, x1, x2, if_pos (And.intro k1 (And.intro c2 k2)), if_pos HD.out, hb]
    · cases h
  · cases h
theorem Chain.cut {s : ByteArray} {P : List ByteArray} {a m : Nat} (h : Chain s P a) (hm : m ≤ s.size) : a ≤ m → Chain (s.extract 0 m) P a :=
  h.each (M := fun P a => a ≤ m → Chain (s.extract 0 m) P a) (fun _ => Chain.start) fun _ _ _ h2 ih ha => (ih (by omega)).next (oneAt_cut h2 hm ha)
theorem oneAt_end {s : ByteArray} {a : Nat} (h : s.size < a + 9) : oneAt s a = none := by
  unfold oneAt
  rw [if_neg (by omega)]
/-- Cut behind its whole frames, a segment tells the same, and has nothing behind them. -/
theorem scan_cut (s : ByteArray) : scanL (s.extract 0 (scanL s).2) = scanL s ∧ (s.extract 0 (scanL s).2).size = (scanL s).2 := by
  obtain ⟨P, a, h1, _, h3⟩ := scan_chain s
  rw [h3]
  have hz : (s.extract 0 a).size = a := by rw [ByteArray.size_extract]; have := h1.le; omega
  exact ⟨(h1.cut h1.le (Nat.le_refl a)).scan (oneAt_end (by rw [hz]; omega)), hz⟩
end Go.Proofs.Ytkecjopojnllnaa
namespace Go.Proofs.Ytkecjopojnllnaa
open Go.RowKit Go.Deep Go.Joins

/-- Numbered segments, by their names. -/
def named (p : ByteArray) (K : List (Nat × ByteArray)) : List (ByteArray × ByteArray) := K.map fun x => (nameOf p x.1, x.2)
def dropL (p : ByteArray) (N : List Nat) : List DOp := N.reverse.map fun m => dropOp (nameOf p m)
theorem drops_named (p : ByteArray) (K : List (Nat × ByteArray)) : ((named p K).reverse.map fun y => dropOp y.1) = dropL p (K.map Prod.fst) := by
  unfold named dropL
  rw [← List.map_reverse, ← List.map_reverse, List.map_map, List.map_map]
  rfl
/-- Numbers without a gap. -/
def NoGap (N : List Nat) : Prop := ∀ i (h : i + 1 < N.length), N[i] + 1 = N[i + 1]
theorem NoGap.take {N : List Nat} (h : NoGap N) (t : Nat) : NoGap (N.take t) := by
  intro i hi
  rw [List.length_take] at hi
  rw [List.getElem_take, List.getElem_take]
  exact h i (by omega)
theorem NoGap.strict {N : List Nat} (h : NoGap N) : StrictN N := by
  have key : ∀ (d i : Nat) (hd : i + d < N.length), N[i] + d = N[i + d] := by
    intro d
    induction d with
    | zero => intro i hd; rfl
    | succ d ih =>
      intro i hd
      have a1 := ih i (by omega)
      have a2 := h (i + d) (by omega)
      have e : i + (d + 1) = i + d + 1 := by omega
      simp only [e]
      omega
  refine List.pairwise_iff_getElem.2 fun i j hi hj hij => ?_
  have := key (j - i) i (by omega)
  have e : i + (j - i) = j := by omega
  simp only [e] at this
  omega
/-- The log's segments, whole, with these records. -/
structure Good (p : ByteArray) (K : List (Nat × ByteArray)) (r : List ByteArray) : Prop where
  gap : NoGap (K.map Prod.fst)
  head : ∀ h : 0 < K.length, 0 < (scanL (K[0]'h).2).1.length
  read : readS (named p K) = (r, [])
theorem runF_all {f : Nat → Int} {u : Nat} (h : ∀ j, j < u → f j + 1 = f (j + 1)) : runF f u = 0 := by
  induction u with
  | zero => rfl
  | succ u ih => rw [runF_yes (h u (by omega)), ih fun j hj => h j (by omega)]
theorem Good.opened {p : ByteArray} {K : List (Nat × ByteArray)} {r : List ByteArray} (h : Good p K r) : openS (numF (K.map Prod.fst)) (named p K) = (r, []) := by
  have hl : (named p K).length = K.length := by unfold named; rw [List.length_map]
  unfold openS
  rw [hl]
  rcases Nat.eq_zero_or_pos K.length with h0 | h0
  · have hK : K = [] := List.length_eq_zero_iff.1 h0
    subst hK
    exact h.read
  · obtain ⟨u, hu⟩ : ∃ u, K.length = u + 1 := ⟨K.length - 1, by omega⟩
    have hr : runF (numF (K.map Prod.fst)) u = 0 := runF_all fun j hj => by
      have h1 : j + 1 < (K.map Prod.fst).length := by rw [List.length_map]; omega
      have := h.gap j h1
      rw [numF_at _ j (by omega), numF_at _ (j + 1) h1]
      omega
    have hh : headB (named p K) 0 = true := by
      unfold headB
      rw [List.getElem?_eq_getElem (by rw [hl]; exact h0)]
      have := h.head h0
      unfold named
      rw [List.getElem_map]
      simpa using this
    have hs : seg (named p K) 0 (u + 1) = named p K := by
      unfold seg
      rw [List.drop_zero, List.take_of_length_le (by rw [hl]; omega)]
    rw [hu]
    unfold openF
    rw [hr, hh, if_neg (by decide), hs, h.read]
    cases u <;> rfl
theorem read_mends {p : ByteArray} (hp : prefB p = true) : ∀ (K : List (Nat × ByteArray)) {fs : List Fl}, Uniq fs → (∀ x ∈ K, Has p fs x.1 x.2) → (K.map Prod.fst).Nodup →
    ∃ gs K', Exec fs (readS (named p K)).2 gs ∧ Uniq gs ∧ readS (named p K') = ((readS (named p K)).1, []) ∧ (∃ t, K'.map Prod.fst = (K.map Prod.fst).take t) ∧
      (∀ h : 0 < K.length, ∃ h' : 0 < K'.length, (scanL (K'[0]'h').2).1 = (scanL (K[0]'h).2).1) ∧
      ∀ m b, Has p gs m b ↔ (m ∉ K.map Prod.fst ∧ Has p fs m b) ∨ (m, b) ∈ K' := by
  intro K
  induction K with
  | nil => exact fun {fs} hu _ _ => ⟨fs, [], Exec.nil _, hu, rfl, ⟨0, rfl⟩, fun h => absurd h (by simp), fun m b => by simp⟩
  | cons x K ih =>
    intro fs hu hK hd
    rw [List.map_cons, List.nodup_cons] at hd
    have hx := hK x List.mem_cons_self
    have e : named p (x :: K) = (nameOf p x.1, x.2) :: named p K := rfl
    rw [e, readS]
    dsimp only
    by_cases ht : (scanL x.2).2 < x.2.size
    · rw [if_pos ht, drops_named]
      obtain ⟨gs, e1, u1, c1⟩ := exec_drops hp (K.map Prod.fst) hu (fun n hn => by
        obtain ⟨y, hy, rfl⟩ := List.mem_map.1 hn
        exact ⟨y.2, hK y (List.mem_cons_of_mem _ hy)⟩) hd.2
      have h1 := (c1 x.1 x.2).2 ⟨hd.1, hx⟩
      obtain ⟨k, hk, k1, k2, k3⟩ := h1.at
      obtain ⟨s1, s2⟩ := scan_cut x.2
      have hb : (⟨nameOf p x.1, (allF gs[k]).extract 0 (scanL x.2).2, []⟩ : Fl).name = nameOf p x.1 := rfl
      refine ⟨gs.set k ⟨nameOf p x.1, (allF gs[k]).extract 0 (scanL x.2).2, []⟩, [(x.1, x.2.extract 0 (scanL x.2).2)], ?_, ?_, ?_, ⟨1, rfl⟩, ?_, ?_⟩
      · exact e1.append (Exec.one (cut_file hp u1 hk k1 (by rw [k3]; omega)))
      · exact uniq_set u1 hk (by rw [k1])
      · show readS [(nameOf p x.1, x.2.extract 0 (scanL x.2).2)] = _
        rw [readS]
        dsimp only
        rw [s1, s2, if_neg (by omega)]
        show ((scanL x.2).1 ++ [], _) = _
        rw [List.append_nil]
        rfl
      · intro _
        exact ⟨by simp, by show (scanL (x.2.extract 0 (scanL x.2).2)).1 = _; rw [s1]; rfl⟩
      · intro m b
        rw [has_set u1 hk k1 k2 hb, c1, k3]
        show (m = x.1 ∧ b = layB (x.2.extract 0 (scanL x.2).2) []) ∨ _ ↔ _
        rw [layAll_nil, List.map_cons, List.mem_cons, not_or, List.mem_singleton, Prod.mk.injEq]
        constructor
        · rintro (⟨h1, h2⟩ | ⟨h1, h2, h3⟩)
          · exact .inr ⟨h1, h2⟩
          · exact .inl ⟨⟨h1, h2⟩, h3⟩
        · rintro (⟨⟨h1, h2⟩, h3⟩ | ⟨h1, h2⟩)
          · exact .inr ⟨h1, h2, h3⟩
          · exact .inl ⟨h1, h2⟩
    · rw [if_neg ht]
      obtain ⟨gs, K', e1, u1, r1, ⟨t, t1⟩, _, c1⟩ := ih hu (fun y hy => hK y (List.mem_cons_of_mem _ hy)) hd.2
      refine ⟨gs, x :: K', e1, u1, ?_, ⟨t + 1, ?_⟩, ?_, ?_⟩
      · show readS ((nameOf p x.1, x.2) :: named p K') = _
        rw [readS]
        dsimp only
        rw [if_neg ht, r1]
      · rw [List.map_cons, List.map_cons, List.take_succ_cons, t1]
      · intro _
        exact ⟨by simp, rfl⟩
      · intro m b
        rw [c1, List.map_cons, List.mem_cons, not_or, List.mem_cons]
        constructor
        · rintro (⟨h1, h2⟩ | h1)
          · by_cases hm : m = x.1
            · subst hm
              exact .inr (.inl (by rw [Has.one hu h2 hx]))
            · exact .inl ⟨⟨hm, h1⟩, h2⟩
          · exact .inr (.inr h1)
        · rintro (⟨⟨_, h1⟩, h2⟩ | rfl | h1)
          · exact .inl ⟨h1, h2⟩
          · exact .inl ⟨hd.1, hx⟩
          · exact .inr h1
end Go.Proofs.Ytkecjopojnllnaa
namespace Go.Proofs.Ytkecjopojnllnaa
open Go.RowKit Go.Deep Go.Joins

/-- A part of the numbers. -/
def part (L : List Nat) (a b : Nat) : List Nat := (L.drop a).take (b - a)
theorem mem_part {L : List Nat} {a b n : Nat} (hb : b ≤ L.length) : n ∈ part L a b ↔ ∃ j, a ≤ j ∧ j < b ∧ ∃ h : j < L.length, L[j] = n := by
  unfold part
  rw [List.mem_iff_getElem]
  constructor
  · rintro ⟨i, hi, h⟩
    rw [List.length_take, List.length_drop] at hi
    rw [List.getElem_take, List.getElem_drop] at h
    exact ⟨a + i, by omega, by omega, by omega, h⟩
  · rintro ⟨j, h1, h2, h3, h4⟩
    refine ⟨j - a, by rw [List.length_take, List.length_drop]; omega, ?_⟩
    rw [List.getElem_take, List.getElem_drop]
    have e : a + (j - a) = j := by omega
    simp only [e]
    exact h4
theorem strict_inj {L : List Nat} (h : StrictN L) {i j : Nat} (hi : i < L.length) (hj : j < L.length) (e : L[i] = L[j]) : i = j := by
  rcases Nat.lt_trichotomy i j with h1 | h1 | h1
  · have := List.pairwise_iff_getElem.1 h i j hi hj h1; omega
  · exact h1
  · have := List.pairwise_iff_getElem.1 h j i hj hi h1; omega
theorem strict_nodup {L : List Nat} (h : StrictN L) : L.Nodup := List.pairwise_iff_getElem.2 fun i j hi hj hij => Nat.ne_of_lt (List.pairwise_iff_getElem.1 h i j hi hj hij)
theorem part_nodup {L : List Nat} (h : StrictN L) (a b : Nat) : (part L a b).Nodup :=
  (strict_nodup h).sublist ((List.take_sublist _ _).trans (List.drop_sublist _ _))
theorem part_drops (p : ByteArray) (l : List Rw) (L : List Nat) (a b : Nat) : dropsX (Go.Proofs.Ytkecjopojnllnaa.seg (runN p l L) a b) = dropL p (part L a b) := by
  unfold dropsX Go.Proofs.Ytkecjopojnllnaa.seg runN dropL part
  rw [← List.map_drop, ← List.map_take, ← List.map_reverse, List.map_map]
  rfl
theorem runF_gap {f : Nat → Int} {i : Nat} : ∀ {j : Nat}, runF f i ≤ j → j < i → f j + 1 = f (j + 1) := by
  induction i with
  | zero => intro j _ h; omega
  | succ i ih =>
    intro j h1 h2
    by_cases e : f i + 1 = f (i + 1)
    · rw [runF_yes e] at h1
      rcases Nat.lt_or_ge j i with h3 | h3
      · exact ih h1 h3
      · have h4 : j = i := by omega
        subst h4
        exact e
    · rw [runF_no e] at h1
      omega
theorem part_gap {L : List Nat} {k : Nat} (hk : k < L.length) : NoGap (part L (runF (numF L) k) (k + 1)) := by
  intro i hi
  unfold part at hi ⊢
  rw [List.length_take, List.length_drop] at hi
  rw [List.getElem_take, List.getElem_drop, List.getElem_take, List.getElem_drop]
  have h1 := runF_gap (f := numF L) (i := k) (j := runF (numF L) k + i) (by omega) (by omega)
  have h2 : runF (numF L) k + i < L.length := by omega
  have h3 : runF (numF L) k + i + 1 < L.length := by omega
  rw [numF_at L _ h2, numF_at L _ h3] at h1
  have e : runF (numF L) k + (i + 1) = runF (numF L) k + i + 1 := by omega
  simp only [e]
  omega
theorem hasN_Has {p : ByteArray} {l : List Rw} {n : Nat} (h : hasN p l n) : Has p (l.map core) n (bytesN p l n) := by
  obtain ⟨r, hr, hn⟩ := h
  have hf : (l.find? (fun r => numB p r.name == some n)).isSome = true := by
    rw [List.find?_isSome]
    exact ⟨r, hr, by simp [hn]⟩
  obtain ⟨r', hr'⟩ := Option.isSome_iff_exists.1 hf
  refine ⟨core r', List.mem_map_of_mem (List.mem_of_find?_eq_some hr'), (show numB p r'.name = some n by simpa using List.find?_some hr'), ?_⟩
  unfold bytesN
  rw [hr']
  rfl
theorem Has_hasN {p : ByteArray} {l : List Rw} {n : Nat} {b : ByteArray} (h : Has p (l.map core) n b) : hasN p l n := by
  obtain ⟨f, hf, h1, _⟩ := h
  obtain ⟨r, hr, rfl⟩ := List.mem_map.1 hf
  exact ⟨r, hr, h1⟩
theorem Has_iff {p : ByteArray} {l : List Rw} (hu : Uniq (l.map core)) (n : Nat) (b : ByteArray) : Has p (l.map core) n b ↔ hasN p l n ∧ bytesN p l n = b :=
  ⟨fun h => ⟨Has_hasN h, Has.one hu (hasN_Has (Has_hasN h)) h⟩, fun ⟨h1, h2⟩ => h2 ▸ hasN_Has h1⟩
theorem uniq_apart {l : List Rw} (h : Apart l l.length) : Uniq (l.map core) := by
  refine Uniq.of_inj fun i j hi hj e => ?_
  rw [List.length_map] at hi hj
  rw [List.getElem_map, List.getElem_map] at e
  rcases Nat.lt_trichotomy i j with h1 | h1 | h1
  · exact absurd e.symm (h j i hj hi (by omega) h1)
  · exact h1
  · exact absurd e (h i j hi hj (by omega) h1)
/-- On the way through the runs, from the last one on: what the plan so far has left. -/
structure Mid (p : ByteArray) (l : List Rw) (L : List Nat) (k : Nat) (fd : Bool) (r : List ByteArray) (pl : List DOp) (gs : List Fl) (K : List (Nat × ByteArray)) : Prop where
  exec : Exec (l.map core) pl gs
  uniq : Uniq gs
  good : Good p K r
  none : fd = false → K = []
  high : ∀ x ∈ K, ∃ j, k ≤ j ∧ ∃ h : j < L.length, L[j] = x.1
  has : ∀ m b, Has p gs m b ↔ (m, b) ∈ K ∨ ∃ j, j < k ∧ ∃ h : j < L.length, L[j] = m ∧ bytesN p l m = b
theorem Mid.drop {p : ByteArray} {l : List Rw} {L : List Nat} {k : Nat} {fd : Bool} {r : List ByteArray} {pl : List DOp} {gs : List Fl} {K : List (Nat × ByteArray)} (hp : prefB p = true) (hL : StrictN L) (hk : k < L.length)
    (h : Mid p l L (k + 1) fd r pl gs K) (a : Nat) (ha : a ≤ k) : ∃ gs', Mid p l L a fd r (pl ++ dropsX (Go.Proofs.Ytkecjopojnllnaa.seg (runN p l L) a (k + 1))) gs' K := by
  obtain ⟨gs', e1, u1, c1⟩ := exec_drops hp (part L a (k + 1)) h.uniq (fun n hn => by
    obtain ⟨j, h1, h2, h3, h4⟩ := (mem_part (by omega)).1 hn
    exact ⟨bytesN p l n, (h.has _ _).2 (.inr ⟨j, h2, h3, h4, rfl⟩)⟩) (part_nodup hL _ _)
  refine ⟨gs', ⟨?_, u1, h.good, h.none, fun x hx => ?_, fun m b => ?_⟩⟩
  · rw [part_drops]
    exact h.exec.append e1
  · obtain ⟨j, h1, h2⟩ := h.high x hx
    exact ⟨j, by omega, h2⟩
  · rw [c1, h.has]
    constructor
    · rintro ⟨h1, h2 | ⟨j, h2, h3, h4⟩⟩
      · exact .inl h2
      · refine .inr ⟨j, ?_, h3, h4⟩
        rcases Nat.lt_or_ge j a with h5 | h5
        · exact h5
        · exact absurd ((mem_part (by omega)).2 ⟨j, h5, h2, h3, h4.1⟩) h1
    · rintro (h1 | ⟨j, h2, h3, h4⟩)
      · refine ⟨fun hm => ?_, .inl h1⟩
        obtain ⟨i, i1, i2, i3, i4⟩ := (mem_part (by omega)).1 hm
        obtain ⟨j, j1, j2, j3⟩ := h.high _ h1
        have := strict_inj hL i3 j2 (i4.trans j3.symm)
        omega
      · refine ⟨fun hm => ?_, .inr ⟨j, by omega, h3, h4⟩⟩
        obtain ⟨i, i1, i2, i3, i4⟩ := (mem_part (by omega)).1 hm
        have := strict_inj hL i3 h3 (i4.trans h4.1.symm)
        omega
theorem Mid.read {p : ByteArray} {l : List Rw} {L : List Nat} {k : Nat} {r : List ByteArray} {pl : List DOp} {gs : List Fl} {K : List (Nat × ByteArray)} (hp : prefB p = true) (hL : StrictN L) (hk : k < L.length)
    (h : Mid p l L (k + 1) false r pl gs K) (hh : headB (runN p l L) (runF (numF L) k) = true) :
    ∃ gs' K', Mid p l L (runF (numF L) k) true (readS (Go.Proofs.Ytkecjopojnllnaa.seg (runN p l L) (runF (numF L) k) (k + 1))).1 (pl ++ (readS (Go.Proofs.Ytkecjopojnllnaa.seg (runN p l L) (runF (numF L) k) (k + 1))).2) gs' K' := by
  have hgap := part_gap hk
  have ha := runF_le (numF L) k
  generalize runF (numF L) k = a at *
  have hK := h.none rfl
  subst hK
  obtain ⟨Kr, hKr⟩ : ∃ Kr, Kr = (part L a (k + 1)).map fun n => (n, bytesN p l n) := ⟨_, rfl⟩
  have hf : Kr.map Prod.fst = part L a (k + 1) := by
    rw [hKr, List.map_map]
    exact List.map_id _
  have hs : Go.Proofs.Ytkecjopojnllnaa.seg (runN p l L) a (k + 1) = named p Kr := by
    rw [hKr]
    unfold named Go.Proofs.Ytkecjopojnllnaa.seg runN part
    rw [List.map_map, List.map_take, List.map_drop]
    rfl
  have hin : ∀ m b, (m, b) ∈ Kr → m ∈ part L a (k + 1) ∧ bytesN p l m = b := fun m b hm => by
    rw [hKr] at hm
    obtain ⟨n, hn, e⟩ := List.mem_map.1 hm
    injection e with e1 e2
    subst e1
    exact ⟨hn, e2⟩
  obtain ⟨gs', K', e1, u1, r1, ⟨t, t1⟩, hd1, c1⟩ := read_mends hp Kr h.uniq (fun x hx => by
    obtain ⟨h1, h2⟩ := hin x.1 x.2 hx
    obtain ⟨j, j1, j2, j3, j4⟩ := (mem_part (by omega)).1 h1
    exact (h.has _ _).2 (.inr ⟨j, j2, j3, j4, h2⟩)) (by rw [hf]; exact part_nodup hL _ _)
  rw [hf] at t1 c1
  have hlow : ∀ x ∈ K', x.1 ∈ part L a (k + 1) := fun x hx => by
    have : x.1 ∈ K'.map Prod.fst := List.mem_map_of_mem hx
    rw [t1] at this
    exact List.mem_of_mem_take this
  have hpos : 0 < Kr.length := by
    rw [hKr, List.length_map]
    unfold part
    rw [List.length_take, List.length_drop]
    omega
  refine ⟨gs', K', ⟨?_, u1, ⟨?_, fun h' => ?_, ?_⟩, fun h => (by cases h), fun x hx => ?_, fun m b => ?_⟩⟩
  · rw [hs]
    exact h.exec.append e1
  · rw [t1]
    exact hgap.take t
  · obtain ⟨_, h2⟩ := hd1 hpos
    rw [h2]
    unfold headB at hh
    have hz : (runN p l L)[a]? = some (nameOf p L[a], bytesN p l L[a]) := by
      rw [List.getElem?_eq_getElem (by rw [runN_length]; omega), runN_get p l L a (by omega)]
    rw [hz] at hh
    have e0 : (Kr[0]'hpos).2 = bytesN p l L[a] := by
      have hx := List.getElem_mem hpos
      obtain ⟨_, h4⟩ := hin (Kr[0]'hpos).1 (Kr[0]'hpos).2 hx
      rw [← h4]
      congr 1
      have h5 : (Kr.map Prod.fst)[0]'(by rw [List.length_map]; exact hpos) = (Kr[0]'hpos).1 := by rw [List.getElem_map]
      rw [← h5]
      simp only [hf]
      unfold part
      rw [List.getElem_take, List.getElem_drop]
      simp only [Nat.add_zero]
    rw [e0]
    simpa using hh
  · rw [hs]
    exact r1
  · obtain ⟨j, j1, j2, j3, j4⟩ := (mem_part (by omega)).1 (hlow x hx)
    exact ⟨j, j1, j3, j4⟩
  · rw [c1, h.has]
    constructor
    · rintro (⟨h1, h2 | ⟨j, h2, h3, h4⟩⟩ | h1)
      · cases h2
      · refine .inr ⟨j, ?_, h3, h4⟩
        rcases Nat.lt_or_ge j a with h5 | h5
        · exact h5
        · exact absurd ((mem_part (by omega)).2 ⟨j, h5, h2, h3, h4.1⟩) h1
      · exact .inl h1
    · rintro (h1 | ⟨j, h2, h3, h4⟩)
      · exact .inr h1
      · refine .inl ⟨fun hm => ?_, .inr ⟨j, by omega, h3, h4⟩⟩
        obtain ⟨i, i1, i2, i3, i4⟩ := (mem_part (by omega)).1 hm
        have := strict_inj hL i3 h3 (i4.trans h4.1.symm)
        omega
theorem mid_end {p : ByteArray} {l : List Rw} {L : List Nat} (hp : prefB p = true) (hL : StrictN L) : ∀ (n k : Nat), k ≤ n → k ≤ L.length → ∀ {fd : Bool} {r : List ByteArray} {pl : List DOp} {gs : List Fl} {K : List (Nat × ByteArray)},
    OpenAt (numF L) (runN p l L) k fd r pl → Mid p l L k fd r pl gs K → ∃ r' pl' gs' K', openS (numF L) (runN p l L) = (r', pl') ∧ Exec (l.map core) pl' gs' ∧ Uniq gs' ∧ Good p K' r' ∧ (∀ m b, Has p gs' m b ↔ (m, b) ∈ K') ∧ pl'.length ≤ L.length := by
  intro n
  induction n with
  | zero =>
    intro k hk _ fd r pl gs K ho hm
    obtain rfl : k = 0 := by omega
    refine ⟨r, pl, gs, K, ho.done, hm.exec, hm.uniq, hm.good, fun m b => ?_, by have := ho.2.1; rw [runN_length] at this; omega⟩
    rw [hm.has]
    exact ⟨fun h => h.elim id fun ⟨j, hj, _⟩ => absurd hj (Nat.not_lt_zero _), .inl⟩
  | succ n ih =>
    intro k hk hkL fd r pl gs K ho hm
    cases k with
    | zero => exact ih 0 (by omega) hkL ho hm
    | succ k =>
      have hl := runF_le (numF L) k
      by_cases hc : (fd || !headB (runN p l L) (runF (numF L) k)) = true
      · obtain ⟨gs', hm'⟩ := hm.drop hp hL (by omega) _ hl
        exact ih _ (by omega) (by omega) (ho.drop hc) hm'
      · have hc2 : fd = false ∧ headB (runN p l L) (runF (numF L) k) = true := by simpa using hc
        obtain ⟨h1, h2⟩ := hc2
        subst h1
        obtain ⟨gs', K', hm'⟩ := hm.read hp hL (by omega) h2
        exact ih _ (by omega) (by omega) (ho.read hc) hm'
/-- Behind its plan the log tells the same, and has nothing to mend. -/
theorem opens_mended {p : ByteArray} {l : List Rw} {r : List ByteArray} {pl : List DOp} (hp : prefB p = true) (hu : Uniq (l.map core)) (h : OpenIs p l r pl) :
    ∃ gs, Exec (l.map core) pl gs ∧ Uniq gs ∧ pl.length ≤ 1000000 ∧ ∀ l' : List Rw, l'.map core = gs → OpenIs p l' r [] := by
  obtain ⟨L, hL, hLm, ho⟩ := h
  have h0 : Mid p l L L.length false [] [] (l.map core) [] := ⟨Exec.nil _, hu, ⟨fun i h => absurd h (by simp), fun h => absurd h (by simp), rfl⟩, fun _ => rfl, fun x hx => (by cases hx), fun m b => by
    rw [Has_iff hu]
    constructor
    · rintro ⟨h1, h2⟩
      obtain ⟨j, hj, e⟩ := List.getElem_of_mem ((hLm m).2 h1)
      exact .inr ⟨j, hj, hj, e, h2⟩
    · rintro (h1 | ⟨j, _, h2, h3, h4⟩)
      · cases h1
      · exact ⟨(hLm m).1 (h3 ▸ List.getElem_mem h2), h4⟩⟩
  have hst := OpenAt.start (numF L) (runN p l L)
  rw [runN_length] at hst
  obtain ⟨r', pl', gs, K, e0, e1, u1, g1, c1, n1⟩ := mid_end hp hL L.length L.length (Nat.le_refl _) (Nat.le_refl _) hst h0
  rw [ho] at e0
  injection e0 with e2 e3
  subst e2
  subst e3
  refine ⟨gs, e1, u1, ?_, fun l' hl' => ?_⟩
  · obtain ⟨M, hM, hMm, hM3⟩ := nums_exist p l
    obtain rfl := strict_unique hL hM (fun n => by rw [hLm, hMm])
    omega
  · subst hl'
    have hb : ∀ x ∈ K, bytesN p l' x.1 = x.2 := fun x hx => ((Has_iff u1 x.1 x.2).1 ((c1 x.1 x.2).2 hx)).2
    refine ⟨K.map Prod.fst, g1.gap.strict, fun n => ?_, ?_⟩
    · constructor
      · intro hn
        obtain ⟨x, hx, rfl⟩ := List.mem_map.1 hn
        exact Has_hasN ((c1 x.1 x.2).2 hx)
      · intro hn
        exact List.mem_map.2 ⟨(n, bytesN p l' n), (c1 _ _).1 (hasN_Has hn), rfl⟩
    · rw [← g1.opened]
      congr 1
      unfold runN named
      rw [List.map_map]
      apply List.map_congr_left
      intro x hx
      show (nameOf p x.1, bytesN p l' x.1) = _
      rw [hb x hx]
end Go.Proofs.Ytkecjopojnllnaa
