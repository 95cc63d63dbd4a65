/- Sync of both sides. -/
import Derived.Test.YtkecjopojnllnaaSE
namespace Go.Proofs.Ytkecjopojnllnaa
open Go.RowKit Go.Deep Go.Joins
def SyIs (p : ByteArray) (l : List Rw) (P : List DOp) : Prop :=
  ((∀ m, ¬ hasN p l m) ∧ P = []) ∨ (∃ n, hasN p l n ∧ (∀ m, hasN p l m → m ≤ n) ∧ P = [syncOp (nameOf p n)])
theorem SyIs.one {p : ByteArray} {l : List Rw} {P P' : List DOp} (h : SyIs p l P) (h' : SyIs p l P') : P = P' := by
  rcases h with ⟨h1, rfl⟩ | ⟨n, h1, h2, rfl⟩
  · rcases h' with ⟨_, rfl⟩ | ⟨n', h3, _⟩
    · rfl
    · exact absurd h3 (h1 _)
  · rcases h' with ⟨h3, _⟩ | ⟨n', h3, h4, rfl⟩
    · exact absurd h1 (h3 _)
    · have a := h2 _ h3
      have b := h4 _ h1
      obtain rfl : n = n' := by omega
      rfl
def SyPost (p : ByteArray) (l : List Rw) (w : World) (e : Ending) (w' : World) : Prop :=
  ∃ (P : List DOp) (v' : Value), SyIs p l P ∧ e = .returned (.tuple #[v', .int .i64 0]) ∧ Reads w' v' 4 P.length (dopCells P) ∧ Below w.heap.size w w'
theorem reads_op (W : World) (o : DOp) : Reads (W.alloc (.cells #[.int .i64 o.kind, .string o.name, .int .i64 o.pos, .string o.bytes] 55)) (.slice (some ⟨W.heap.size, 0, none⟩) 1 1) 4 1 (dopCells [o]) := by
  refine ⟨rfl, .inr ⟨_, 1, rfl, Nat.le_refl _, by unfold maxLen; omega, fun j u hu => ?_⟩⟩
  rw [add_lit, Nat.zero_add, cell_of_row _ _ _ _ 55 _ (heap_alloc_new W _)]
  simpa [dopCells] using hu
set_option maxHeartbeats 1000000 in
theorem sync_no (p : ByteArray) (dv : Value) (w : World) (hp : prefB p = false) :
    Calls Try.prog 18 #[.agg #[dv], .string p] w fun e w' => e = .returned (.tuple #[.slice none 0 0, .int .i64 1]) ∧ Below w.heap.size w w' := by
  go_enter Try.func18, Try.ntmps18
  go_wp2_with (go_at_call 30; (with_reducible refine (mayBe_any p _).mono ?_); rintro e w1 ⟨rfl, rfl⟩; rw [hp])
  go_ret2
  exact ⟨rfl, below1 w _⟩
set_option maxHeartbeats 1000000 in
theorem sync3_no (p : ByteArray) (dv : Value) (w : World) (hp : prefB p = false) :
    Calls Try.prog 19 #[.agg #[dv], .string p] w fun e w' => e = .returned (.tuple #[.slice none 0 0, .int .i64 1]) ∧ Below w.heap.size w w' := by
  go_enter Try.func19, Try.ntmps19
  go_wp2_with (go_at_call 36; (with_reducible refine (prefix_any p _).mono ?_); rintro e w1 ⟨rfl, rfl⟩; rw [hp])
  go_ret2
  exact ⟨rfl, below1 w _⟩
set_option maxRecDepth 100000 in
set_option maxHeartbeats 2000000 in
theorem sync_yes (l : List Rw) (q : Option Addr) (cap : Nat) (p : ByteArray) (w : World) (hp : prefB p = true) (hr : Reads w (.slice q l.length cap) 3 l.length (rowCells l)) (ho : Opens w l) (hm : l.length ≤ 1099511627776) :
    Calls Try.prog 18 #[.agg #[.slice q l.length cap], .string p] w (SyPost p l w) := by
  have hp8 := pref_size hp
  obtain ⟨L, hL, hLm, hLl⟩ := nums_exist p l
  have HL := Lib.hid hL
  have HLM := Lib.hid hLm
  have HSG := Lib.hid (fun (W : World) (hb : Below w.heap.size w W) => segments_any l _ p W (hr.below hb) (fun r hr => (ho r hr).below hb) (by omega) hm)
  clear hL hLm hr ho
  go_enter Try.func18, Try.ntmps18
  go_upto_region 4 with (first
    | (go_at_call 30; (with_reducible refine (mayBe_any p _).mono ?_); rintro e w1 ⟨rfl, rfl⟩; rw [hp])
    | (go_at_call 31; (with_reducible refine (HSG.out _ (below1 w _)).mono ?_); rintro e w2 ⟨v2, D, Z, rfl, hrow, hD, hRi, hKe, hb2⟩; obtain ⟨q2, c2, rfl⟩ := owns_shape hrow; have HS := Lib.hid (segs_same hD hRi hKe HL.out HLM.out); have HROW := Lib.hid hrow; have HB2 := Lib.hid (below_then (below1 w _) hb2); clear hrow hD hRi hKe hb2)
    | fail)
  by_cases hz : D = []
  · subst hz
    go_wp2_with fail
    go_ret2
    refine ⟨[], _, Or.inl ⟨fun m hm' => ?_, rfl⟩, rfl, reads_nil _ _, HB2.out⟩
    have h1 := (HLM.out m).2 hm'
    rw [List.eq_nil_of_length_eq_zero (show L.length = 0 from HS.out.1.symm)] at h1
    cases h1
  · have hDl := HS.out.1
    have hpos := List.length_pos_iff.2 hz
    obtain ⟨k, hk⟩ : ∃ k, D.length = k + 1 := ⟨D.length - 1, by omega⟩
    have hkL : k < L.length := by omega
    obtain ⟨r, hf, hd⟩ := HS.out.2 k hkL
    obtain ⟨j, hjl, _, hlj, hrn, hn9⟩ := find_name hf
    have hdk : D[k].name = nameOf p L[k] := by
      have h1 : D[k] = sgOf L[k] r := by
        rw [List.getElem?_eq_getElem (by omega)] at hd
        exact Option.some.inj hd
      rw [h1]
      exact hrn
    obtain ⟨b, off, cap2, hv, _, hcm, hb, x0, x1, x2, x3⟩ := (reads_of_owns HROW.out).seg k (by omega)
    obtain ⟨rfl, rfl⟩ : q2 = some ⟨b, off, none⟩ ∧ c2 = cap2 := by
      injection hv with e1 e2 e3
      exact ⟨e1, e3⟩
    rw [hdk] at x1
    have HE : Hid (SyIs p l [syncOp (nameOf p L[k])]) := Lib.hid (Or.inr ⟨L[k], find_has hf, fun m hm' => strict_last HL.out (show L.length = k + 1 by omega) m ((HLM.out m).2 hm'), rfl⟩)
    obtain ⟨n, hn⟩ : ∃ n, L[k] = n := ⟨_, rfl⟩
    rw [hn] at x1 HE
    have e0 : (D.length : Int) - 1 = (k : Int) := by omega
    have hkD : k < D.length := by omega
    have hD6 : D.length ≤ 1000000 := by omega
    have hne : ((D.length : Int) == 0) = false := by rw [beq_eq_false_iff_ne]; omega
    clear x0 x2 x3 hv hcm hf hd hlj hrn hdk hn hDl hk hz
    go_wp2_with (first
      | (go_at_call 44; (with_reducible refine (syncOf_any _ _).mono ?_); rintro e w3 ⟨rfl, hb3⟩; have HB3 := Lib.hid hb3; clear hb3; unfold syncV)
      | fail)
    go_ret2
    exact ⟨[syncOp (nameOf p n)], _, HE.out, rfl, reads_op w3 (syncOp (nameOf p n)), nb_alloc (below_then HB2.out HB3.out) _⟩
set_option maxRecDepth 100000 in
set_option maxHeartbeats 2000000 in
theorem sync3_yes (l : List Rw) (q : Option Addr) (cap : Nat) (p : ByteArray) (w : World) (hp : prefB p = true) (hr : Reads w (.slice q l.length cap) 3 l.length (rowCells l)) (hm : l.length ≤ 1099511627776) :
    Calls Try.prog 19 #[.agg #[.slice q l.length cap], .string p] w (SyPost p l w) := by
  have hp8 := pref_size hp
  have HSG := Lib.hid (fun (W : World) (hb : Below w.heap.size w W) => segments2_any l _ p W (hr.below hb) (by omega) hm)
  clear hr
  go_enter Try.func19, Try.ntmps19
  go_upto_region 4 with (first
    | (go_at_call 36; (with_reducible refine (prefix_any p _).mono ?_); rintro e w1 ⟨rfl, rfl⟩; rw [hp])
    | (go_at_call 37; (with_reducible refine (HSG.out _ (below1 w _)).mono ?_); rintro e w2 ⟨v2, L, rfl, hOL, hL, hLm, hb2⟩; obtain ⟨q2, c2, rfl⟩ := owns_shape hOL.1; have HOL := Lib.hid hOL; have HL := Lib.hid hL; have HLM := Lib.hid hLm; have HB2 := Lib.hid (below_then (below1 w _) hb2); clear hOL hL hLm hb2)
    | fail)
  by_cases hLz : L = []
  · subst hLz
    go_wp2_with fail
    go_ret2
    refine ⟨[], _, Or.inl ⟨fun m hm' => ?_, rfl⟩, rfl, reads_nil _ _, HB2.out⟩
    have h1 := (HLM.out m).2 hm'
    cases h1
  · obtain ⟨g, cap2, hv2, hcc, hcm, hg, _, hcL⟩ := HOL.out.is hLz
    obtain ⟨rfl, rfl⟩ : q2 = some ⟨g, 0, none⟩ ∧ c2 = cap2 := by
      injection hv2 with e1 e2 e3
      exact ⟨e1, e3⟩
    have hpos := List.length_pos_iff.2 hLz
    obtain ⟨k, hk⟩ : ∃ k, L.length = k + 1 := ⟨L.length - 1, by omega⟩
    have e0 : (L.length : Int) - 1 = (k : Int) := by omega
    have hkl : k < L.length := by omega
    have hkb : k ≤ 9223372036854775806 := by
      unfold maxLen at hcm
      omega
    have ck := hcL k hkl
    have hn9 := hasN_le ((HLM.out L[k]).1 (List.getElem_mem _))
    have HE : Hid (SyIs p l [syncOp (nameOf p L[k])]) := Lib.hid (Or.inr ⟨L[k], (HLM.out L[k]).1 (List.getElem_mem _), fun m hm' => strict_last HL.out hk m ((HLM.out m).2 hm'), rfl⟩)
    obtain ⟨n, hn⟩ : ∃ n, L[k] = n := ⟨_, rfl⟩
    rw [hn] at ck HE hn9
    have hne : ((L.length : Int) == 0) = false := by rw [beq_eq_false_iff_ne]; omega
    clear hcm hcc hcL hv2 hn hk hLz
    go_wp2_with (first
      | (go_at_call 23; (with_reducible refine (name3_any p n _ (by omega) (by omega)).mono ?_); rintro e w3 ⟨rfl, hb3⟩; have HB3 := Lib.hid hb3; clear hb3)
      | fail)
    go_ret2
    exact ⟨[syncOp (nameOf p n)], _, HE.out, rfl, reads_op w3 (syncOp (nameOf p n)), nb_alloc (below_then HB2.out HB3.out) _⟩
end Go.Proofs.Ytkecjopojnllnaa
