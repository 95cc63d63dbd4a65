/- The law awake; the six calls of WalPlans and its walk; the opening of arguments and the bulk. -/
import Derived.Test.YtkecjopojnllnaaM14
import Derived.Test.YtkecjopojnllnaaM04
import Derived.Test.YtkecjopojnllnaaM07
import Derived.Deep.Slices
import Derived.Deep.Strs
import Derived.Lib.SmallJoins
import Derived.SizedLaws
import Derived.Carry
import Derived.JoinedCond
import Derived.ChangeMaps
namespace Go.Proofs.Ytkecjopojnllnaa
open Go.RowKit Go.Deep Go.Joins
theorem nameW : nameOf ⟨#[119]⟩ 0 = ⟨#[119, 46, 48, 48, 48, 48, 48, 48]⟩ := by decide +kernel
theorem app_awake (W : World) (v : Value) (hv : Reads W v 1 1 (strs [⟨#[97]⟩])) :
    Calls Try.prog 16 #[.agg #[.slice none 0 0], .string ⟨#[119]⟩, v] W fun e w' => ∃ (v' : Value) (f : ByteArray), e = .returned (.tuple #[v', .int .i64 0]) ∧ Reads w' v' 4 [putOp ⟨#[119, 46, 48, 48, 48, 48, 48, 48]⟩ 0 f].length (dopCells [putOp ⟨#[119, 46, 48, 48, 48, 48, 48, 48]⟩ 0 f]) ∧ f.size = 10 ∧ Below W.heap.size W w' := by
  have hs : shortR [⟨#[97]⟩] := by
    intro r hr
    rw [List.mem_singleton] at hr
    subst hr
    decide
  refine (append_yes [] none 0 ⟨#[119]⟩ [⟨#[97]⟩] v W (by decide +kernel) (reads_nil _ _) (fun r hr => by cases hr) (fun r hr => by cases hr) (by simp) hv (by simp) ?_).mono ?_
  · intro r hr
    have := hs r hr
    omega
  · rintro e w' ⟨n, s, P, err, v', hE, hA, rfl, hr, hb⟩
    obtain ⟨rfl, rfl⟩ : n = 0 ∧ s = 0 := by
      rcases hE with ⟨_, h1, h2⟩ | ⟨r, _, h, _⟩
      · exact ⟨h1, h2⟩
      · cases h
    have hrun : apRun ⟨#[119]⟩ 0 0 (framesOf [⟨#[97]⟩]) = some ⟨[putOp (nameOf ⟨#[119]⟩ 0) 0 (frameB ⟨#[97]⟩)], 0, 0 + (frameB ⟨#[97]⟩).size⟩ := by
      show apOne ⟨#[119]⟩ ⟨[], 0, 0⟩ (frameB ⟨#[97]⟩) = _
      unfold apOne
      rw [if_neg (by rintro ⟨h, _⟩; exact absurd h (by decide))]
      rfl
    rcases hA with ⟨h, _⟩ | ⟨_, a, h1, rfl, rfl⟩ | ⟨_, h1, _⟩
    · exact absurd hs h
    · rw [hrun] at h1
      obtain rfl := Option.some.inj h1
      rw [nameW] at hr
      exact ⟨v', _, rfl, hr, by rw [frameB_size]; rfl, hb⟩
    · rw [hrun] at h1
      cases h1
set_option maxRecDepth 100000 in
set_option maxHeartbeats 1000000 in
theorem awake_any (w : World) : Calls Try.prog 9 #[] w fun e w' => e = .returned (.bool true) ∧ Below w.heap.size w w' := by
  have hv : Reads (w.alloc (.cells #[.string ⟨#[97]⟩] 9)) (.slice (some ⟨w.heap.size, 0, none⟩) 1 1) 1 1 (strs [⟨#[97]⟩]) := by
    refine ⟨rfl, .inr ⟨_, 1, rfl, Nat.le_refl _, by decide, fun j u hu => ?_⟩⟩
    rw [add_lit, Nat.zero_add, cell_of_row _ _ _ _ 9 _ (heap_alloc_new w _)]
    simpa [strs] using hu
  have HA := Lib.hid (app_awake _ _ hv)
  clear hv
  go_enter Try.func9, Try.ntmps9
  go_upto_region 2 with (go_at_call 16; (with_reducible refine HA.out.mono ?_); rintro e w1 ⟨v', f, rfl, hr, hf, hb⟩; obtain ⟨b1, off1, cap1, rfl, hb1, x0, x1, x2, x3⟩ := hr.dop 0 (by simp))
  have y0 : w1.cell? ⟨b1, off1, none⟩ = some (.int .i64 1) := x0
  have y1 : w1.cell? ⟨b1, off1 + 1, none⟩ = some (.string ⟨#[119, 46, 48, 48, 48, 48, 48, 48]⟩) := by simpa [putOp] using x1
  have y3 : w1.cell? ⟨b1, off1 + 3, none⟩ = some (.string f) := by simpa [putOp] using x3
  have hb2 := Lib.hid (below_then (below1 w _) hb)
  have z1 : ((⟨#[119, 46, 48, 48, 48, 48, 48, 48]⟩ : ByteArray).toList == (⟨#[119, 46, 48, 48, 48, 48, 48, 48]⟩ : ByteArray).toList) = true := beq_self_eq_true _
  have z2 : ((f.size : Int) == 10) = true := by rw [hf]; rfl
  clear x0 x1 x2 x3 hr hb
  go_wp2_with fail
  go_ret
  exact ⟨rfl, hb2.out⟩
end Go.Proofs.Ytkecjopojnllnaa
namespace Go.Proofs.Ytkecjopojnllnaa
open Go.RowKit Go.Deep Go.Joins
/-- A call that tells a plan and an error. -/
def Told (Q : List DOp → Int → Prop) (w : World) (e : Ending) (w' : World) : Prop :=
  ∃ (P : List DOp) (err : Int) (v' : Value), Q P err ∧ e = .returned (.tuple #[v', .int .i64 err]) ∧ Reads w' v' 4 P.length (dopCells P) ∧ Below w.heap.size w w'
def AppQ (p : ByteArray) (l : List Rw) (R : List ByteArray) (P : List DOp) (err : Int) : Prop :=
  (prefB p = false ∧ P = [] ∧ err = 1) ∨ (prefB p = true ∧ ∃ n s, EndAt p l n s ∧ AppIs p R n s P err)
def SyQ (p : ByteArray) (l : List Rw) (P : List DOp) (err : Int) : Prop :=
  (prefB p = false ∧ P = [] ∧ err = 1) ∨ (prefB p = true ∧ SyIs p l P ∧ err = 0)
def RnQ (p : ByteArray) (l : List Rw) (s : ByteArray) (P : List DOp) (err : Int) : Prop :=
  (prefB p = false ∧ P = [] ∧ err = 1) ∨ (prefB p = true ∧ RnIs p l s P err)
theorem pref_no {p : ByteArray} {A : Prop} (h : prefB p = true) (h' : prefB p = false) : A := by rw [h] at h'; cases h'
theorem AppQ.one {p : ByteArray} {l : List Rw} {R : List ByteArray} {P P' : List DOp} {err err' : Int} (h : AppQ p l R P err) (h' : AppQ p l R P' err') : P = P' ∧ err = err' := by
  rcases h with ⟨h1, rfl, rfl⟩ | ⟨h1, n, s, h2, h3⟩
  · rcases h' with ⟨_, rfl, rfl⟩ | ⟨h4, _⟩
    · exact ⟨rfl, rfl⟩
    · exact pref_no h4 h1
  · rcases h' with ⟨h4, _⟩ | ⟨_, n', s', h5, h6⟩
    · exact pref_no h1 h4
    · obtain ⟨rfl, rfl⟩ := h2.one h5
      exact h3.one h6
theorem SyQ.one {p : ByteArray} {l : List Rw} {P P' : List DOp} {err err' : Int} (h : SyQ p l P err) (h' : SyQ p l P' err') : P = P' ∧ err = err' := by
  rcases h with ⟨h1, rfl, rfl⟩ | ⟨h1, h2, rfl⟩
  · rcases h' with ⟨_, rfl, rfl⟩ | ⟨h4, _⟩
    · exact ⟨rfl, rfl⟩
    · exact pref_no h4 h1
  · rcases h' with ⟨h4, _⟩ | ⟨_, h5, rfl⟩
    · exact pref_no h1 h4
    · exact ⟨h2.one h5, rfl⟩
theorem RnQ.one {p : ByteArray} {l : List Rw} {s : ByteArray} {P P' : List DOp} {err err' : Int} (h : RnQ p l s P err) (h' : RnQ p l s P' err') : P = P' ∧ err = err' := by
  rcases h with ⟨h1, rfl, rfl⟩ | ⟨h1, h2⟩
  · rcases h' with ⟨_, rfl, rfl⟩ | ⟨h4, _⟩
    · exact ⟨rfl, rfl⟩
    · exact pref_no h4 h1
  · rcases h' with ⟨h4, _⟩ | ⟨_, h5⟩
    · exact pref_no h1 h4
    · exact h2.one h5
/- What a copy of the disk has the same. -/
theorem has_core {p : ByteArray} {l l' : List Rw} (hc : l'.map core = l.map core) (n : Nat) : hasN p l' n ↔ hasN p l n := by
  have h : ∀ k : List Rw, hasN p k n ↔ ∃ f ∈ k.map core, numB p f.name = some n := by
    intro k
    constructor
    · rintro ⟨r, hr, hn⟩
      exact ⟨core r, List.mem_map_of_mem hr, hn⟩
    · rintro ⟨f, hf, hn⟩
      obtain ⟨r, hr, rfl⟩ := List.mem_map.1 hf
      exact ⟨r, hr, hn⟩
  rw [h, h, hc]
theorem find_core (p : ByteArray) (n : Nat) (k : List Rw) : (k.map core).find? (fun f => numB p f.name == some n) = (k.find? (fun r => numB p r.name == some n)).map core := by
  rw [List.find?_map]
  rfl
theorem EndAt.core {p : ByteArray} {l l' : List Rw} (hc : l'.map core = l.map core) {n s : Nat} (h : EndAt p l' n s) : EndAt p l n s := by
  rcases h with ⟨h1, h2, h3⟩ | ⟨r, h1, h2, rfl⟩
  · exact Or.inl ⟨fun m hm => h1 m ((has_core hc m).2 hm), h2, h3⟩
  · have e1 := find_core p n l'
    rw [hc, find_core p n l, h2] at e1
    obtain ⟨r', hr', hcr⟩ := Option.map_eq_some_iff.1 e1
    refine Or.inr ⟨r', fun m hm => h1 m ((has_core hc m).2 hm), hr', ?_⟩
    unfold Go.Proofs.Ytkecjopojnllnaa.core at hcr
    injection hcr with a1 a2 a3
    rw [a2, a3]
theorem AppQ.core {p : ByteArray} {l l' : List Rw} (hc : l'.map core = l.map core) {R : List ByteArray} {P : List DOp} {err : Int} (h : AppQ p l' R P err) : AppQ p l R P err := by
  rcases h with h | ⟨h1, n, s, h2, h3⟩
  · exact Or.inl h
  · exact Or.inr ⟨h1, n, s, h2.core hc, h3⟩
theorem SyQ.core {p : ByteArray} {l l' : List Rw} (hc : l'.map core = l.map core) {P : List DOp} {err : Int} (h : SyQ p l' P err) : SyQ p l P err := by
  rcases h with h | ⟨h1, h2, h3⟩
  · exact Or.inl h
  · refine Or.inr ⟨h1, ?_, h3⟩
    rcases h2 with ⟨h4, h5⟩ | ⟨n, h4, h5, h6⟩
    · exact Or.inl ⟨fun m hm => h4 m ((has_core hc m).2 hm), h5⟩
    · exact Or.inr ⟨n, (has_core hc n).1 h4, fun m hm => h5 m ((has_core hc m).2 hm), h6⟩
theorem RnQ.core {p : ByteArray} {l l' : List Rw} (hc : l'.map core = l.map core) {s : ByteArray} {P : List DOp} {err : Int} (h : RnQ p l' s P err) : RnQ p l s P err := by
  rcases h with h | ⟨h1, h2⟩
  · exact Or.inl h
  · refine Or.inr ⟨h1, ?_⟩
    rcases h2 with h4 | ⟨h4, L, h5, h6, h7⟩
    · exact Or.inl h4
    · exact Or.inr ⟨h4, L, h5, fun n => (h6 n).trans (has_core hc n), h7⟩
theorem Smalls.core {l l' : List Rw} (hc : l'.map core = l.map core) (h : Smalls l) : Smalls l' := by
  intro r hr
  have h1 : Go.Proofs.Ytkecjopojnllnaa.core r ∈ l.map Go.Proofs.Ytkecjopojnllnaa.core := hc ▸ List.mem_map_of_mem hr
  obtain ⟨r', hr', e⟩ := List.mem_map.1 h1
  unfold Go.Proofs.Ytkecjopojnllnaa.core at e
  injection e with a1 a2 a3
  have := h r' hr'
  rw [a2, a3] at this
  exact this
/- The six calls. -/
section
variable (l : List Rw) (v : Value) (p : ByteArray) (W : World)
theorem no_told {f : FuncId} {args : Array Value} {Q : List DOp → Int → Prop} (hQ : Q [] 1) (h : Calls Try.prog f args W fun e w' => e = .returned (.tuple #[.slice none 0 0, .int .i64 1]) ∧ Below W.heap.size W w') : Calls Try.prog f args W (Told Q W) :=
  h.mono fun _ _ ⟨he, hb⟩ => ⟨[], 1, _, hQ, he, reads_nil _ _, hb⟩
theorem app_told (rv : Value) (R : List ByteArray) (hr : Reads W v 3 l.length (rowCells l)) (ho : Opens W l) (hsm : Smalls l) (hm : l.length ≤ 1099511627776) (hrec : Reads W rv 1 R.length (strs R)) (hRm : R.length ≤ 1099511627776) (hRs : ∀ r ∈ R, r.size ≤ 1099511627776) :
    Calls Try.prog 16 #[.agg #[v], .string p, rv] W (Told (AppQ p l R) W) := by
  obtain ⟨q, cap, rfl⟩ := hr.is
  by_cases hp : prefB p = true
  · exact (append_yes l q cap p R rv W hp hr ho hsm.okay hm hrec hRm hRs).mono fun e w' ⟨n, s, P, err, v', h1, h2, h3⟩ => ⟨P, err, v', Or.inr ⟨hp, n, s, h1, h2⟩, h3⟩
  · have hp := Bool.eq_false_iff.2 hp
    exact no_told W (Or.inl ⟨hp, rfl, rfl⟩) (append_no p _ rv W hp)
theorem app3_told (rv : Value) (R : List ByteArray) (hr : Reads W v 3 l.length (rowCells l)) (ho : Opens W l) (hsm : Smalls l) (hm : l.length ≤ 1099511627776) (hrec : Reads W rv 1 R.length (strs R)) (hRm : R.length ≤ 1099511627776) (hRs : ∀ r ∈ R, r.size ≤ 1099511627776) :
    Calls Try.prog 17 #[.agg #[v], .string p, rv] W (Told (AppQ p l R) W) := by
  obtain ⟨q, cap, rfl⟩ := hr.is
  by_cases hp : prefB p = true
  · exact (append3_yes l q cap p R rv W hp hr ho hsm hm hrec hRm hRs).mono fun e w' ⟨n, s, P, err, v', h1, h2, h3⟩ => ⟨P, err, v', Or.inr ⟨hp, n, s, h1, h2⟩, h3⟩
  · have hp := Bool.eq_false_iff.2 hp
    exact no_told W (Or.inl ⟨hp, rfl, rfl⟩) (append3_no p _ rv W hp)
theorem sync_told (hr : Reads W v 3 l.length (rowCells l)) (ho : Opens W l) (hm : l.length ≤ 1099511627776) : Calls Try.prog 18 #[.agg #[v], .string p] W (Told (SyQ p l) W) := by
  obtain ⟨q, cap, rfl⟩ := hr.is
  by_cases hp : prefB p = true
  · exact (sync_yes l q cap p W hp hr ho hm).mono fun e w' ⟨P, v', h1, h2, h3⟩ => ⟨P, 0, v', Or.inr ⟨hp, h1, rfl⟩, h2, h3⟩
  · have hp := Bool.eq_false_iff.2 hp
    exact no_told W (Or.inl ⟨hp, rfl, rfl⟩) (sync_no p _ W hp)
theorem sync3_told (hr : Reads W v 3 l.length (rowCells l)) (hm : l.length ≤ 1099511627776) : Calls Try.prog 19 #[.agg #[v], .string p] W (Told (SyQ p l) W) := by
  obtain ⟨q, cap, rfl⟩ := hr.is
  by_cases hp : prefB p = true
  · exact (sync3_yes l q cap p W hp hr hm).mono fun e w' ⟨P, v', h1, h2, h3⟩ => ⟨P, 0, v', Or.inr ⟨hp, h1, rfl⟩, h2, h3⟩
  · have hp := Bool.eq_false_iff.2 hp
    exact no_told W (Or.inl ⟨hp, rfl, rfl⟩) (sync3_no p _ W hp)
theorem renew_told (s : ByteArray) (hr : Reads W v 3 l.length (rowCells l)) (ho : Opens W l) (hm : l.length ≤ 1099511627776) (hs : s.size ≤ 1099511627776) : Calls Try.prog 20 #[.agg #[v], .string p, .string s] W (Told (RnQ p l s) W) := by
  obtain ⟨q, cap, rfl⟩ := hr.is
  by_cases hp : prefB p = true
  · exact (renew_yes l q cap p s W hp hr ho hm hs).mono fun e w' ⟨P, err, v', h1, h2, h3⟩ => ⟨P, err, v', Or.inr ⟨hp, h1⟩, h2, h3⟩
  · have hp := Bool.eq_false_iff.2 hp
    exact no_told W (Or.inl ⟨hp, rfl, rfl⟩) (renew_no p _ _ W hp)
theorem renew3_told (s : ByteArray) (hr : Reads W v 3 l.length (rowCells l)) (hm : l.length ≤ 1099511627776) (hs : s.size ≤ 1099511627776) : Calls Try.prog 21 #[.agg #[v], .string p, .string s] W (Told (RnQ p l s) W) := by
  obtain ⟨q, cap, rfl⟩ := hr.is
  by_cases hp : prefB p = true
  · exact (renew3_yes l q cap p s W hp hr hm hs).mono fun e w' ⟨P, err, v', h1, h2, h3⟩ => ⟨P, err, v', Or.inr ⟨hp, h1⟩, h2, h3⟩
  · have hp := Bool.eq_false_iff.2 hp
    exact no_told W (Or.inl ⟨hp, rfl, rfl⟩) (renew3_no p _ _ W hp)
end
theorem plan_small {W : World} {v : Value} {P : List DOp} (h : Reads W v 4 P.length (dopCells P)) : P.length ≤ 9223372036854775807 := by
  rcases Nat.eq_zero_or_pos P.length with h0 | h0
  · omega
  · obtain ⟨_, _, cap, _, h1, h2, _⟩ := h.at (by omega)
    unfold maxLen at h2
    omega
end Go.Proofs.Ytkecjopojnllnaa
namespace Go.Proofs.Ytkecjopojnllnaa
open Go.RowKit Go.Deep Go.Joins
set_option maxRecDepth 100000 in
set_option maxHeartbeats 4000000 in
theorem law_plans (l : List Rw) (v : Value) (p s : ByteArray) (rv : Value) (R : List ByteArray) (n : Int) (w : World) (hr : Reads w v 3 l.length (rowCells l)) (ho : Opens w l) (hsm : Smalls l) (hm : l.length ≤ 1099511627776)
    (hrec : Reads w rv 1 R.length (strs R)) (hRm : R.length ≤ 1099511627776) (hRs : ∀ r ∈ R, r.size ≤ 1099511627776) (hp : p.size ≤ 1099511627776) (hs : s.size ≤ 1099511627776) (hn : n ≤ 9223372036854775807) :
    Calls Try.prog 4 #[.agg #[v], .string p, rv, .string s, .int .i64 n] w fun e w' => e = .returned (.bool true) ∧ Below w.heap.size w w' := by
  go_enter Try.func4, Try.ntmps4
  go_wp2_with fail
  generalize hw0 : w.alloc (Obj.cells #[v] 24) = w0
  have HB0 : Hid (Below w.heap.size w w0) := Lib.hid (hw0 ▸ below1 w _)
  have HD0 : Hid (VarAt w0 w.heap.size v) := Lib.hid (hw0 ▸ VarAt.new w _)
  clear hw0
  have HCP := Lib.hid (fun (W : World) (hb : Below w.heap.size w W) => copy2_any l v W (hr.below hb) (fun r hr => (ho r hr).below hb) (fun r hr => (hsm r hr).2.1) hm)
  go_upto_region 4 with (first
    | (go_at_call 9; (with_reducible refine (awake_any _).mono ?_); rintro e w1 ⟨rfl, hb1⟩; have HB1 := Lib.hid (below_then HB0.out hb1); have d1 := (HD0.out.keep hb1).c; have HD1 := Lib.hid (HD0.out.keep hb1); clear hb1)
    | (go_at_call 10; (with_reducible refine (HCP.out _ HB1.out).mono ?_); rintro e w2 ⟨v2, l2, rfl, hc2, hown2, hb2⟩; obtain ⟨q2, c2, rfl⟩ := owns_shape hown2.1; have HB2 := Lib.hid (below_then HB1.out hb2); have HD2 := Lib.hid (HD1.out.keep hb2); have HC2 := Lib.hid hc2; have HOWN2 := Lib.hid hown2; clear hc2 hown2 hb2)
    | fail)
  have HDa : Hid (VarAt (w2.alloc (.cells #[.slice q2 l2.length c2] 24)) w.heap.size v) := Lib.hid (HD2.out.old _)
  have HDb : Hid (VarAt (w2.alloc (.cells #[.slice q2 l2.length c2] 24)) w2.heap.size (.slice q2 l2.length c2)) := Lib.hid (VarAt.new _ _)
  have HBa : Hid (Below w.heap.size w (w2.alloc (.cells #[.slice q2 l2.length c2] 24))) := Lib.hid (nb_alloc HB2.out _)
  have HOWNa : Hid (OwnR (w2.alloc (.cells #[.slice q2 l2.length c2] 24)) w1.heap.size (.slice q2 l2.length c2) l2) := Lib.hid (HOWN2.out.below (below1 _ _))
  have HNb : Hid (w.heap.size < w2.heap.size) := Lib.hid HD2.out.lt
  generalize hwa : w2.alloc (.cells #[.slice q2 l2.length c2] 24) = wa at HDa HDb HBa HOWNa ⊢
  obtain ⟨N, hN⟩ : ∃ N, w2.heap.size = N := ⟨_, rfl⟩
  rw [hN] at HDb HNb ⊢
  clear hwa hN HOWN2 HD2 HB2 HD1 HB1 d1
  have hl2 : l2.length = l.length := by simpa using congrArg List.length HC2.out
  have HSM := Lib.hid hsm
  have HSM2 := Lib.hid (hsm.core HC2.out)
  have ca := HDa.out.c
  have cb := HDb.out.c
  have RA : ∀ W, Below wa.heap.size wa W → Reads W v 3 l.length (rowCells l) ∧ Opens W l := fun W hb => ⟨hr.below (below_then HBa.out hb), fun r h => (ho r h).below (below_then HBa.out hb)⟩
  have RB : ∀ W, Below wa.heap.size wa W → Reads W (.slice q2 l2.length c2) 3 l2.length (rowCells l2) ∧ Opens W l2 := fun W hb => ⟨(reads_of_owns HOWNa.out.1).below hb, fun r h => (HOWNa.out.opens r h).below hb⟩
  have RC : ∀ W, Below wa.heap.size wa W → Reads W rv 1 R.length (strs R) := fun W hb => hrec.below (below_then HBa.out hb)
  have H16 := Lib.hid (fun (W : World) (hb : Below wa.heap.size wa W) => (app_told l2 _ p W rv R (RB W hb).1 (RB W hb).2 HSM2.out (by omega) (RC W hb) hRm hRs).mono fun e w' h => show Told (AppQ p l R) W e w' from by
    obtain ⟨P, err, v', h1, h2⟩ := h
    exact ⟨P, err, v', h1.core HC2.out, h2⟩)
  have H17 := Lib.hid (fun (W : World) (hb : Below wa.heap.size wa W) => app3_told l _ p W rv R (RA W hb).1 (RA W hb).2 HSM.out hm (RC W hb) hRm hRs)
  have H18 := Lib.hid (fun (W : World) (hb : Below wa.heap.size wa W) => (sync_told l2 _ p W (RB W hb).1 (RB W hb).2 (by omega)).mono fun e w' h => show Told (SyQ p l) W e w' from by
    obtain ⟨P, err, v', h1, h2⟩ := h
    exact ⟨P, err, v', h1.core HC2.out, h2⟩)
  have H19 := Lib.hid (fun (W : World) (hb : Below wa.heap.size wa W) => sync3_told l _ p W (RA W hb).1 hm)
  have H20 := Lib.hid (fun (W : World) (hb : Below wa.heap.size wa W) => (renew_told l2 _ p W s (RB W hb).1 (RB W hb).2 (by omega) hs).mono fun e w' h => show Told (RnQ p l s) W e w' from by
    obtain ⟨P, err, v', h1, h2⟩ := h
    exact ⟨P, err, v', h1.core HC2.out, h2⟩)
  have H21 := Lib.hid (fun (W : World) (hb : Below wa.heap.size wa W) => renew3_told l _ p W s (RA W hb).1 hm hs)
  have H15 := Lib.hid (fun (W : World) (hb : Below wa.heap.size wa W) => same_true l2 l (.slice q2 l2.length c2) v W (RB W hb).1 (RB W hb).2 (RA W hb).1 (RA W hb).2 HC2.out (by omega) (fun r hr => by have := (HSM2.out r hr).2.1; omega))
  clear RA RB RC hr ho hrec hsm hRs HCP hl2
  go_upto_region 14 with (first
    | (go_at_call 16; (with_reducible refine (H16.out _ (Below.refl _ _)).mono ?_); rintro e w3 ⟨P1, e1, v3, hQ3, rfl, hr3, hb3⟩; have HQ3 := Lib.hid hQ3; have HR3 := Lib.hid hr3; have HB3 := Lib.hid hb3; have ca3 := (HDa.out.keep hb3).c; have cb3 := (HDb.out.keep hb3).c; clear hQ3 hr3 hb3)
    | (go_at_call 17; (with_reducible refine (H17.out _ HB3.out).mono ?_); rintro e w4 ⟨P2, e2, v4, hQ4, rfl, hr4, hb4⟩; obtain ⟨hP, hE⟩ := HQ3.out.one hQ4; subst hP; subst hE; have HR34 := Lib.hid (HR3.out.below hb4); have HR4 := Lib.hid hr4; have HB4 := Lib.hid (below_then HB3.out hb4); have ca4 := (HDa.out.keep HB4.out).c; have cb4 := (HDb.out.keep HB4.out).c; clear hQ4 hr4 hb4)
    | (go_at_call 14; (with_reducible refine (plans_true P1 _ _ _ HR34.out HR4.out (plan_small HR4.out)).mono ?_); rintro e w5 ⟨rfl, hb5⟩; have HB5 := Lib.hid (below_then HB4.out hb5); have ca5 := (HDa.out.keep HB5.out).c; have cb5 := (HDb.out.keep HB5.out).c; clear hb5)
    | (go_at_call 18; (with_reducible refine (H18.out _ HB5.out).mono ?_); rintro e w6 ⟨P3, e3, v6, hQ6, rfl, hr6, hb6⟩; have HQ6 := Lib.hid hQ6; have HR6 := Lib.hid hr6; have HB6 := Lib.hid (below_then HB5.out hb6); have ca6 := (HDa.out.keep HB6.out).c; have cb6 := (HDb.out.keep HB6.out).c; clear hQ6 hr6; have HB6r := Lib.hid hb6; clear hb6)
    | (go_at_call 19; (with_reducible refine (H19.out _ HB6.out).mono ?_); rintro e w7 ⟨P4, e4, v7, hQ7, rfl, hr7, hb7⟩; obtain ⟨hP, hE⟩ := HQ6.out.one hQ7; subst hP; subst hE; have HR67 := Lib.hid (HR6.out.below hb7); have HR7 := Lib.hid hr7; have HB7 := Lib.hid (below_then HB6.out hb7); have ca7 := (HDa.out.keep HB7.out).c; have cb7 := (HDb.out.keep HB7.out).c; clear hQ7 hr7 hb7)
    | (go_at_call 14; (with_reducible refine (plans_true P3 _ _ _ HR67.out HR7.out (plan_small HR7.out)).mono ?_); rintro e w8 ⟨rfl, hb8⟩; have HB8 := Lib.hid (below_then HB7.out hb8); have ca8 := (HDa.out.keep HB8.out).c; have cb8 := (HDb.out.keep HB8.out).c; clear hb8)
    | (go_at_call 20; (with_reducible refine (H20.out _ HB8.out).mono ?_); rintro e w9 ⟨P5, e5, v9, hQ9, rfl, hr9, hb9⟩; have HQ9 := Lib.hid hQ9; have HR9 := Lib.hid hr9; have HB9 := Lib.hid (below_then HB8.out hb9); have ca9 := (HDa.out.keep HB9.out).c; have cb9 := (HDb.out.keep HB9.out).c; clear hQ9 hr9 hb9)
    | (go_at_call 21; (with_reducible refine (H21.out _ HB9.out).mono ?_); rintro e wx ⟨P6, e6, vx, hQx, rfl, hrx, hbx⟩; obtain ⟨hP, hE⟩ := HQ9.out.one hQx; subst hP; subst hE; have HR9x := Lib.hid (HR9.out.below hbx); have HRx := Lib.hid hrx; have HBx := Lib.hid (below_then HB9.out hbx); have cax := (HDa.out.keep HBx.out).c; have cbx := (HDb.out.keep HBx.out).c; clear hQx hrx hbx)
    | fail)
  by_cases hn0 : n < 0
  · have t0 : decide (n < 0) = true := decide_eq_true hn0
    go_wp2_with (first
      | (go_at_call 14; (with_reducible refine (plans_true P5 _ _ _ HR9x.out HRx.out (plan_small HRx.out)).mono ?_); rintro e wy ⟨rfl, hby⟩; have HBy := Lib.hid (below_then HBx.out hby); have cay := (HDa.out.keep HBy.out).c; have cby := (HDb.out.keep HBy.out).c; clear hby)
      | (go_at_call 15; (with_reducible refine (H15.out _ HBy.out).mono ?_); rintro e wz ⟨rfl, hbz⟩; have HBz := Lib.hid (below_then HBy.out hbz); clear hbz)
      | fail)
    go_ret
    exact ⟨rfl, below_then HBa.out HBz.out⟩
  · have t0 : decide (n < 0) = false := decide_eq_false hn0
    obtain ⟨m, rfl⟩ : ∃ m : Nat, n = (m : Int) := ⟨n.toNat, by omega⟩
    go_wp2_with (first
      | (go_at_call 14; (with_reducible refine (plans_true P5 _ _ _ HR9x.out HRx.out (plan_small HRx.out)).mono ?_); rintro e wy ⟨rfl, hby⟩; have HBy := Lib.hid (below_then HBx.out hby); have cay := (HDa.out.keep HBy.out).c; have cby := (HDb.out.keep HBy.out).c; clear hby)
      | (go_at_call 15; (with_reducible refine (H15.out _ HBy.out).mono ?_); rintro e wz ⟨rfl, hbz⟩; have HBz := Lib.hid (below_then HBy.out hbz); clear hbz)
      | (go_at_call 22; (with_reducible refine (name_far p m _ hp (by omega)).mono ?_); rintro e wu ⟨rfl, hbu⟩; have HBu := Lib.hid (below_then HBz.out hbu); clear hbu)
      | (go_at_call 23; (with_reducible refine (name3_far p m _ hp (by omega)).mono ?_); rintro e wv ⟨rfl, hbv⟩; have HBv := Lib.hid (below_then HBu.out hbv); clear hbv)
      | fail)
    go_ret
    exact ⟨rfl, below_then HBa.out HBv.out⟩
end Go.Proofs.Ytkecjopojnllnaa
namespace Go.Proofs.Ytkecjopojnllnaa
open Go.RowKit Go.Deep Go.Joins Go.WideShapes Go.ChangeShapes
theorem own : ownKnob Try.prog.godebug = none := by kernel_rfl
theorem laidOut : laidOutB Try.prog = true := by kernel_rfl
set_option maxRecDepth 100000
section
variable {H : Type} {enc : TypeId × Value → H} {w : World} {base : Nat} {spare : Nat → Bool} {held : Bool}
theorem flat_get {α : Type} (c : α → List Value) (size : Nat) (hc : ∀ a, (c a).length = size) (l : List α) : ∀ (j : Nat) (u : Value), (l.flatMap c)[j]? = some u → ∃ i r, j = i * size + r ∧ ∃ h : i < l.length, (c l[i])[r]? = some u := by
  induction l with
  | nil => intro j u h; simp at h
  | cons x l ih =>
    intro j u h
    rw [List.flatMap_cons] at h
    by_cases hj : j < (c x).length
    · rw [List.getElem?_append_left hj] at h
      exact ⟨0, j, by omega, by simp, h⟩
    · rw [List.getElem?_append_right (by omega)] at h
      obtain ⟨i, r, h1, h2, h3⟩ := ih _ u h
      rw [hc] at h1 hj
      exact ⟨i + 1, r, by rw [Nat.add_mul]; omega, by simp; omega, h3⟩
theorem flat_length {α : Type} (c : α → List Value) (size : Nat) (hc : ∀ a, (c a).length = size) (l : List α) : (l.flatMap c).length = l.length * size := by
  induction l with
  | nil => simp
  | cons x l ih => rw [List.flatMap_cons, List.length_append, ih, hc, List.length_cons, Nat.add_mul]; omega

theorem open_list {α : Type} [Inhabited α] {t e : TypeId} {fuel : Nat} {v : Value} {x : DataW H × List MemPlace} (size : Nat) (c : α → List Value) (R : α → DataW H → Prop) (ht : Try.prog.underlying t = some (.slice e)) (hsz : Try.prog.cellsOf e = size)
    (hc : ∀ a, (c a).length = size) (h : DataW.trod enc Try.prog w base spare held fuel t [v] = some x)
    (helem : ∀ n cs y, DataW.trod enc Try.prog w base spare held n e cs = some y → ∃ a, cs = c a ∧ R a y.1) :
    ∃ l : List α, Reads w v size l.length (l.flatMap c) ∧ ((x.1 = .nil ∧ l = []) ∨ ∃ elems sp, x.1 = .slice elems sp ∧ elems.length = l.length ∧ ∀ i (hi : i < l.length), ∃ d, elems[i]? = some d ∧ R l[i] d) := by
  rcases open_slice ht h with ⟨hcs, hx⟩ | ⟨a, len, cap, m, n, D, Pl, hcs, hb, hl, hm, hmm, hx, hel⟩
  · refine ⟨[], ⟨by simp, .inl ⟨by simpa using hcs, rfl⟩⟩, .inl ⟨by rw [hx], rfl⟩⟩
  · have hlm : len ≤ m := by rw [hmm]; split <;> omega
    have hex : ∀ i, i < len → ∃ y : α, w.cells? base (a.add (i * size)) size = some (c y) ∧ R y (D i) := fun i hi => by
      obtain ⟨cs', h1, h2⟩ := hel i (by omega)
      rw [hsz] at h1
      obtain ⟨y, h3, h4⟩ := helem _ _ _ h2
      exact ⟨y, h3 ▸ h1, h4⟩
    obtain ⟨f, hf⟩ := choose_lt hex
    have hll : ((List.range len).map f).length = len := by simp
    refine ⟨(List.range len).map f, ⟨flat_length c size hc _, .inr ⟨a, cap, by rw [hll]; simpa using hcs, by rw [hll]; exact hl, hm, fun j u hu => ?_⟩⟩, .inr ⟨(List.range len).map D, _, by rw [hx], by simp, fun i hi => ?_⟩⟩
    · obtain ⟨i, r, rfl, hi, hr⟩ := flat_get c size hc _ j u hu
      rw [hll] at hi
      simp only [List.getElem_map, List.getElem_range] at hr
      obtain ⟨h1, _⟩ := hf i hi
      have hs := World.cells?_some h1
      have hr2 : r < size := by have := (List.getElem?_eq_some_iff.1 hr).1; rw [hc] at this; exact this
      rw [← add_add]
      have := hs.2.2 r hr2
      rw [this]; exact hr
    · rw [hll] at hi
      exact ⟨D i, by simp [hi], by simpa using (hf i hi).2⟩
theorem cells76 : Try.prog.cellsOf 76 = 2 := by kernel_rfl
theorem cells58 : Try.prog.cellsOf 58 = 3 := by kernel_rfl
theorem cells24 : Try.prog.cellsOf 24 = 1 := by kernel_rfl
theorem cells3 : Try.prog.cellsOf 3 = 1 := by kernel_rfl
theorem cells9 : Try.prog.cellsOf 9 = 1 := by kernel_rfl
theorem cells56 : Try.prog.cellsOf 56 = 1 := by kernel_rfl
theorem cells22 : Try.prog.cellsOf 22 = 1 := by kernel_rfl
def ReadWr (x : Wr) (d : DataW H) : Prop := d = .agg [.lit (.int .i64 x.pos), .lit (.string x.bytes.data.toList)] ∧ x.bytes.size ≤ maxLen ∧ (Lit.int .i64 x.pos).wf = true
instance : Inhabited Wr := ⟨⟨0, .empty⟩⟩
instance : Inhabited Rw := ⟨⟨.empty, .empty, .nilFunc, []⟩⟩
theorem elem_wr (n : Nat) (cs : List Value) (y : DataW H × List MemPlace) (h : DataW.trod enc Try.prog w base spare held n 76 cs = some y) : ∃ a : Wr, cs = [.int .i64 a.pos, .string a.bytes] ∧ ReadWr a y.1 := by
  obtain ⟨y0, y1, n, rfl, hl, h0, h1⟩ := trod_struct2 Try.underlying76 h
  rw [cells76] at hl
  match cs, hl with
  | [a, b], _ =>
    obtain ⟨p, e0, rfl, hw⟩ := DataW.trod_int Try.underlying3 h0
    obtain ⟨s, e1, rfl, hs⟩ := DataW.trod_string Try.underlying9 h1
    simp [cells3] at e0
    simp [cells9] at e1
    subst e0 e1
    exact ⟨⟨p, s⟩, rfl, rfl, hs, hw⟩
/-- A row of open writes as data. -/
def ReadWrs (l : List Wr) (d : DataW H) : Prop := (d = .nil ∧ l = []) ∨ ∃ elems sp, d = .slice elems sp ∧ elems.length = l.length ∧ ∀ i (hi : i < l.length), ∃ d, elems[i]? = some d ∧ ReadWr l[i] d
def ReadRw (w : World) (r : Rw) (d : DataW H) : Prop := ∃ dn ds dw, d = .agg [dn, ds, dw] ∧ dn = .lit (.string r.name.data.toList) ∧ ds = .lit (.string r.safe.data.toList) ∧ r.name.size ≤ maxLen ∧ r.safe.size ≤ maxLen ∧ ReadWrs r.opens dw ∧ Reads w r.ov 2 r.opens.length (wrCells r.opens)
theorem elem_rw (n : Nat) (cs : List Value) (y : DataW H × List MemPlace) (h : DataW.trod enc Try.prog w base spare held n 58 cs = some y) : ∃ a : Rw, cs = [.string a.name, .string a.safe, a.ov] ∧ ReadRw w a y.1 := by
  obtain ⟨y0, y1, y2, n, rfl, hl, h0, h1, h2⟩ := trod_struct3 Try.underlying58 h
  rw [cells58] at hl
  match cs, hl with
  | [a, b, c], _ =>
    obtain ⟨nm, e0, rfl, hn⟩ := DataW.trod_string Try.underlying9 h0
    obtain ⟨sf, e1, rfl, hs⟩ := DataW.trod_string Try.underlying9 h1
    simp [cells9] at e0 e1
    subst e0 e1
    have h2' : DataW.trod enc Try.prog w base spare held n 56 [c] = some y2 := by simpa [cells56] using h2
    obtain ⟨ws, hr, hw⟩ := open_list 2 (fun x : Wr => [.int .i64 x.pos, .string x.bytes]) ReadWr Try.underlying56 cells76 (fun _ => rfl) h2' elem_wr
    exact ⟨⟨nm, sf, c, ws⟩, rfl, _, _, _, rfl, rfl, rfl, hn, hs, hw, hr⟩
/-- A disk as data. -/
def ReadDisk (w : World) (l : List Rw) (d : DataW H) : Prop := ∃ df, d = .agg [df] ∧ ((df = .nil ∧ l = []) ∨ ∃ elems sp, df = .slice elems sp ∧ elems.length = l.length ∧ ∀ i (hi : i < l.length), ∃ d, elems[i]? = some d ∧ ReadRw w l[i] d)
theorem open_disk {r : Reach} {b0 : Nat} {v : Value} {d : DataW H} {p : List MemPlace} (hv : Value.okWide Try.prog w r b0 24 v) (h : DataW.Trod enc Try.prog w base spare held 24 v d p) :
    ∃ (fv : Value) (l : List Rw), v = .agg #[fv] ∧ Reads w fv 3 l.length (rowCells l) ∧ ReadDisk w l d := by
  obtain ⟨cs, rfl, hsz⟩ := okWide_struct Try.underlying24 hv
  rw [cells24] at hsz
  obtain ⟨fuel, h⟩ := h
  have h' : DataW.trod enc Try.prog w base spare held fuel 24 cs.toList = some (d, p) := h
  obtain ⟨y0, n, hx, hl, h0⟩ := trod_struct1 Try.underlying24 h'
  obtain ⟨c, rfl⟩ : ∃ c, cs = #[c] := by
    match cs, hsz with
    | ⟨[c]⟩, _ => exact ⟨c, rfl⟩
  have h0' : DataW.trod enc Try.prog w base spare held n 22 [c] = some y0 := by simpa [cells22] using h0
  obtain ⟨l, hr, hd⟩ := open_list 3 (fun x : Rw => [.string x.name, .string x.safe, x.ov]) (ReadRw w) Try.underlying22 cells58 (fun _ => rfl) h0' elem_rw
  simp only [Prod.mk.injEq] at hx
  exact ⟨c, l, rfl, hr, y0.1, hx.1, hd⟩
theorem ReadDisk.opens {l : List Rw} {d : DataW H} (h : ReadDisk w l d) : Opens w l := by
  obtain ⟨df, _, h⟩ := h
  rcases h with ⟨_, rfl⟩ | ⟨elems, sp, _, _, hel⟩
  · intro r hr; cases hr
  · intro r hr
    obtain ⟨i, hi, rfl⟩ := List.getElem_of_mem hr
    obtain ⟨d, _, _, _, _, _, _, _, _, _, _, h⟩ := hel i hi
    exact h
theorem bulk_pos (d : DataW H) : 1 ≤ Rows.uptoBulk d := by
  cases d with
  | lit l => cases l <;> simp [Rows.uptoBulk]
  | nil => simp [Rows.uptoBulk]
  | ptr d => simp [Rows.uptoBulk]
  | slice elems spare => simp [Rows.uptoBulk]
  | agg parts => simp [Rows.uptoBulk]
  | iface t d => simp [Rows.uptoBulk]
  | map entries => simp [Rows.uptoBulk]
  | held h => simp [Rows.uptoBulk]
theorem bulk_mem {d : DataW H} {l : List (DataW H)} (h : d ∈ l) : Rows.uptoBulk d ≤ Rows.uptoBulkAll l := by
  induction l with
  | nil => cases h
  | cons x r ih =>
    simp only [Rows.uptoBulkAll]
    rcases List.mem_cons.1 h with rfl | h
    · omega
    · have := ih h; omega
theorem bulk_len (l : List (DataW H)) : l.length ≤ Rows.uptoBulkAll l := by
  induction l with
  | nil => simp [Rows.uptoBulkAll]
  | cons x r ih => have := bulk_pos x; simp only [Rows.uptoBulkAll, List.length_cons]; omega
/-- A list as data: its length, and each element's bulk. -/
theorem bulk_list {α : Type} {R : α → DataW H → Prop} {l : List α} {d : DataW H} (h : (d = .nil ∧ l = []) ∨ ∃ elems sp, d = .slice elems sp ∧ elems.length = l.length ∧ ∀ i (hi : i < l.length), ∃ d, elems[i]? = some d ∧ R l[i] d) :
    l.length ≤ Rows.uptoBulk d ∧ ∀ a ∈ l, ∃ e, R a e ∧ Rows.uptoBulk e ≤ Rows.uptoBulk d := by
  rcases h with ⟨rfl, rfl⟩ | ⟨elems, sp, rfl, hl, hel⟩
  · exact ⟨Nat.zero_le _, fun a h => by cases h⟩
  · have h1 := bulk_len elems
    refine ⟨by simp only [Rows.uptoBulk]; omega, fun a ha => ?_⟩
    obtain ⟨i, hi, rfl⟩ := List.getElem_of_mem ha
    obtain ⟨e, he, hr⟩ := hel i hi
    have := bulk_mem (List.mem_of_getElem? he)
    exact ⟨e, hr, by simp only [Rows.uptoBulk]; omega⟩
theorem bulk_wr {x : Wr} {d : DataW H} (h : ReadWr x d) : x.bytes.size ≤ Rows.uptoBulk d := by
  rw [h.1]
  simp only [Rows.uptoBulk, Rows.uptoBulkAll, len_eq]
  omega
theorem bulk_rw {r : Rw} {d : DataW H} (h : ReadRw w r d) : r.safe.size ≤ Rows.uptoBulk d ∧ r.name.size ≤ Rows.uptoBulk d ∧ r.opens.length ≤ Rows.uptoBulk d ∧ ∀ x ∈ r.opens, x.bytes.size ≤ Rows.uptoBulk d := by
  obtain ⟨dn, ds, dw, rfl, rfl, rfl, _, _, hw, _⟩ := h
  obtain ⟨h1, h2⟩ := bulk_list hw
  simp only [Rows.uptoBulk, Rows.uptoBulkAll, len_eq]
  refine ⟨by omega, by omega, by omega, fun x hx => ?_⟩
  obtain ⟨e, h3, h4⟩ := h2 x hx
  have := bulk_wr h3
  omega
theorem bulk_disk {l : List Rw} {d : DataW H} (h : ReadDisk w l d) : l.length ≤ Rows.uptoBulk d ∧ ∀ r ∈ l, r.safe.size ≤ Rows.uptoBulk d ∧ r.name.size ≤ Rows.uptoBulk d ∧ r.opens.length ≤ Rows.uptoBulk d ∧ ∀ x ∈ r.opens, x.bytes.size ≤ Rows.uptoBulk d := by
  obtain ⟨df, rfl, h⟩ := h
  obtain ⟨h1, h2⟩ := bulk_list h
  simp only [Rows.uptoBulk, Rows.uptoBulkAll]
  refine ⟨by omega, fun r hr => ?_⟩
  obtain ⟨e, h3, h4⟩ := h2 r hr
  obtain ⟨k1, k2, k3, k4⟩ := bulk_rw h3
  exact ⟨by omega, by omega, by omega, fun x hx => by have := k4 x hx; omega⟩
theorem smalls_bulk {l : List Rw} {d : DataW H} (h : ReadDisk w l d) (hN : Rows.uptoBulk d ≤ 1048576) : Smalls l := by
  obtain ⟨h1, h2⟩ := bulk_disk h
  intro r hr
  obtain ⟨k1, k2, k3, k4⟩ := h2 r hr
  exact ⟨by omega, by omega, fun x hx => by have := k4 x hx; omega⟩
def ReadStr (s : ByteArray) (d : DataW H) : Prop := d = .lit (.string s.data.toList)
instance : Inhabited ByteArray := ⟨.empty⟩
theorem strs_flat (l : List ByteArray) : strs l = l.flatMap fun s => [Value.string s] := by
  induction l with
  | nil => rfl
  | cons b l ih => rw [List.flatMap_cons, ← ih]; rfl
theorem open_recs {r : Reach} {b0 : Nat} {v : Value} {d : DataW H} {p : List MemPlace} (hv : Value.okWide Try.prog w r b0 27 v) (h : DataW.Trod enc Try.prog w base spare held 27 v d p) :
    ∃ R : List ByteArray, Reads w v 1 R.length (strs R) ∧ R.length ≤ Rows.uptoBulk d ∧ ∀ s ∈ R, s.size ≤ Rows.uptoBulk d := by
  obtain ⟨a, len, cap, rfl⟩ := okWide_slice Try.underlying27 hv
  obtain ⟨fuel, h⟩ := h
  have h' : DataW.trod enc Try.prog w base spare held fuel 27 [.slice a len cap] = some (d, p) := h
  obtain ⟨R, hr, hd⟩ := open_list 1 (fun s : ByteArray => [Value.string s]) ReadStr Try.underlying27 cells9 (fun _ => rfl) h' (fun n cs y hy => by
    obtain ⟨s, e, hy2, _⟩ := DataW.trod_string Try.underlying9 hy
    exact ⟨s, e, by rw [hy2]; rfl⟩)
  obtain ⟨h1, h2⟩ := bulk_list hd
  rw [← strs_flat] at hr
  refine ⟨R, hr, h1, fun s hs => ?_⟩
  obtain ⟨e, h3, h4⟩ := h2 s hs
  rw [h3] at h4
  simp only [Rows.uptoBulk, len_eq] at h4
  omega
end
theorem trodAll_five {H : Type} {enc : TypeId × Value → H} {P : Program} {w : World} {base : Nat} {spare : Nat → Bool} {held : Bool} {t t' t'' t3 t4 : TypeId} {args : Array Value} {ds : List (DataW H)} {ps : List MemPlace} (h : DataW.TrodAll enc P w base spare held [t, t', t'', t3, t4] args.toList ds ps) :
    ∃ v v' v'' v3 v4 d d' d'' d3 d4 p p' p'' p3 p4, args = #[v, v', v'', v3, v4] ∧ ds = [d, d', d'', d3, d4] ∧ ps = p ++ p' ++ p'' ++ p3 ++ p4 ∧ DataW.Trod enc P w base spare held t v d p ∧ DataW.Trod enc P w base spare held t' v' d' p' ∧ DataW.Trod enc P w base spare held t'' v'' d'' p'' ∧ DataW.Trod enc P w base spare held t3 v3 d3 p3 ∧ DataW.Trod enc P w base spare held t4 v4 d4 p4 := by
  obtain ⟨v, vs, d, ds', p, q, hargs, rfl, rfl, hd, hrest⟩ := trodAll_cons h
  obtain ⟨v', vs', d', ds'', p', q', rfl, rfl, rfl, hd', hrest'⟩ := trodAll_cons hrest
  obtain ⟨v'', vs'', d'', dsc, p'', q'', rfl, rfl, rfl, hd'', hrest''⟩ := trodAll_cons hrest'
  obtain ⟨v3, vs3, d3, ds3, p3, q3, rfl, rfl, rfl, hd3, hrest3⟩ := trodAll_cons hrest''
  obtain ⟨v4, vs4, d4, ds4, p4, q4, rfl, rfl, rfl, hd4, hrest4⟩ := trodAll_cons hrest3
  obtain ⟨rfl, rfl, rfl⟩ := trodAll_nil hrest4
  exact ⟨v, v', v'', v3, v4, d, d', d'', d3, d4, p, p', p'', p3, p4, by cases args; simp_all, rfl, by simp, hd, hd', hd'', hd3, hd4⟩
end Go.Proofs.Ytkecjopojnllnaa
