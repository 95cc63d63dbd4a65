/- Rows of numbers as fields, and back. The numbers of fields. -/
import Derived.Test.YtgflnfmnjlmenaaYZG
namespace Go.Proofs.Ytgflnfmnjlmenaa
open Go.RowKit Go.Deep Go.Joins
set_option maxRecDepth 100000
def numI (x : Int) : ByteArray := numB x.toNat
def rdI (f : ByteArray) : Int := if f.size = 8 then (rd8 f : Nat) else 0
def In64 (x : Int) : Prop := 0 ≤ x ∧ x < 18446744073709551616
theorem num_int (x : Int) (w : World) (h : In64 x) : Calls Try.prog 32 #[.int .u64 x] w fun e w' => e = .returned (.string (numI x)) ∧ Below w.heap.size w w' := by
  obtain ⟨h0, h1⟩ := h
  have h := num_any x.toNat w (by omega)
  rw [Int.toNat_of_nonneg h0] at h
  exact h
theorem read_any (f : ByteArray) (w : World) : Calls Try.prog 44 #[.string f] w fun e w' => (∃ k : Int, e = .returned (.tuple #[.int .u64 (rdI f), .int .i64 k])) ∧ w = w' := by
  by_cases h : f.size = 8
  · refine (read_yes f w h).mono ?_
    rintro e w' ⟨rfl, rfl⟩
    exact ⟨⟨0, by unfold rdI; rw [if_pos h]⟩, rfl⟩
  · refine (read_no f w h).mono ?_
    rintro e w' ⟨rfl, rfl⟩
    exact ⟨⟨3, by unfold rdI; rw [if_neg h]⟩, rfl⟩
/-- A row of strings on the way. -/
structure RowF (W w : World) (v : Value) (F : List ByteArray) : Prop where
  below : Below W.heap.size W w
  own : OwnF w W.heap.size v F
theorem RowF.next {W w w' : World} {v : Value} {F : List ByteArray} (h : RowF W w v F) (hb : Below w.heap.size w w') : RowF W w' v F := ⟨below_then h.below hb, owns_below h.own hb⟩
theorem RowF.one {W w : World} {v : Value} {F : List ByteArray} (h : RowF W w v F) (f : ByteArray) (hl : F.length + 1 ≤ 1000000000) :
    ∃ q c w', (Builtin.append_ #[28, 28] 28 #[v, .slice (some ⟨w.heap.size, 0, none⟩) 1 1]).run Try.prog (w.alloc (.cells #[.string f] 9)) = .ok (.slice q (F ++ [f]).length c) w' ∧ RowF W w' (.slice q (F ++ [f]).length c) (F ++ [f]) := by
  have k := h.next (below1 w (.cells #[.string f] 9))
  have hr : FAt (w.alloc (.cells #[.string f] 9)) (.slice (some ⟨w.heap.size, 0, none⟩) 1 1) [f] :=
    reads_of_owns (World.ownsRow_lit (base := 0) (e := 9) (size := 1) w #[.string f] 1 (Nat.zero_le _) (by unfold maxLen; omega) rfl)
  obtain ⟨q, c, w', hrun, ho, ht⟩ := app_f k.own hr (by simpa using hl) k.below.size 28
  exact ⟨q, c, w', hrun, app_below k.below k.own ht, ho⟩
structure RowM (W w : World) (v : Value) (L : List Int) : Prop where
  below : Below W.heap.size W w
  own : OwnM w W.heap.size v L
theorem RowM.next {W w w' : World} {v : Value} {F : List Int} (h : RowM W w v F) (hb : Below w.heap.size w w') : RowM W w' v F := ⟨below_then h.below hb, owns_below h.own hb⟩
theorem RowM.one {W w : World} {v : Value} {F : List Int} (h : RowM W w v F) (f : Int) (hl : F.length + 1 ≤ 1000000000) :
    ∃ q c w', (Builtin.append_ #[37, 37] 37 #[v, .slice (some ⟨w.heap.size, 0, none⟩) 1 1]).run Try.prog (w.alloc (.cells #[.int .u64 f] 22)) = .ok (.slice q (F ++ [f]).length c) w' ∧ RowM W w' (.slice q (F ++ [f]).length c) (F ++ [f]) := by
  have k := h.next (below1 w (.cells #[.int .u64 f] 22))
  have hr : MAt (w.alloc (.cells #[.int .u64 f] 22)) (.slice (some ⟨w.heap.size, 0, none⟩) 1 1) [f] :=
    reads_of_owns (World.ownsRow_lit (base := 0) (e := 22) (size := 1) w #[.int .u64 f] 1 (Nat.zero_le _) (by unfold maxLen; omega) rfl)
  obtain ⟨q, c, w', hrun, ho, ht⟩ := app_u k.own hr (by simpa using hl) k.below.size 37
  exact ⟨q, c, w', hrun, app_below k.below k.own ht, ho⟩
def flV (b : Bool) : Int := if b then 1 else 0
theorem flag_any (b : Bool) (w : World) : Calls Try.prog 33 #[.bool b] w fun e w' => e = .returned (.int .u64 (flV b)) ∧ w = w' := by
  cases b <;>
  · go_enter Try.func33, Try.ntmps33
    go_wp2
    go_ret
    exact ⟨rfl, rfl⟩
def NumsR (L : List Int) (W : World) (e : Ending) (W' : World) : Prop := ∃ q c, e = .returned (.slice q (L.map numI).length c) ∧ RowF W W' (.slice q (L.map numI).length c) (L.map numI)
theorem MAt.cell' {w : World} {p : Option Addr} {c : Nat} {L : List Int} (h : MAt w (.slice p L.length c) L) (h0 : 0 < L.length) : ∃ g off, p = some ⟨g, off, none⟩ ∧ g < w.heap.size ∧ ∀ j (hj : j < L.length), w.cell? ⟨g, off + j, none⟩ = some (.int .u64 L[j]) := by
  obtain ⟨g, off, cap, e, _, _, hg, hc⟩ := Reads.at h (by omega)
  simp only [Value.slice.injEq] at e
  exact ⟨g, off, e.1, hg, fun j hj => hc j _ (by unfold mC; rw [List.getElem?_map, List.getElem?_eq_getElem hj]; rfl)⟩
theorem FAt.cell' {w : World} {p : Option Addr} {c : Nat} {L : List ByteArray} (h : FAt w (.slice p L.length c) L) (h0 : 0 < L.length) : ∃ g off, p = some ⟨g, off, none⟩ ∧ g < w.heap.size ∧ ∀ j (hj : j < L.length), w.cell? ⟨g, off + j, none⟩ = some (.string L[j]) := by
  obtain ⟨g, off, cap, e, _, _, hg, hc⟩ := Reads.at h (by omega)
  simp only [Value.slice.injEq] at e
  exact ⟨g, off, e.1, hg, fun j hj => hc j _ (by unfold sC; rw [List.getElem?_map, List.getElem?_eq_getElem hj]; rfl)⟩
theorem take_more {α β : Type} (f : α → β) (L : List α) (j : Nat) (hj : j < L.length) : (L.take (j + 1)).map f = (L.take j).map f ++ [f L[j]] := by
  rw [List.take_add_one, List.getElem?_eq_getElem hj, List.map_append]
  rfl
set_option maxHeartbeats 2000000 in
theorem nums_any (v : Value) (L : List Int) (W : World) (hm : MAt W v L) (hl : L.length ≤ 100000000) (hU : ∀ x ∈ L, In64 x) : Calls Try.prog 19 #[v] W (NumsR L W) := by
  obtain ⟨p, c0, rfl⟩ := Reads.is hm
  have HC := Lib.hid (fun (h0 : 0 < L.length) => MAt.cell' hm h0)
  have N := Lib.hid (fun j (hj : j < L.length) w => num_int L[j] w (hU _ (List.getElem_mem hj)))
  obtain ⟨i0, hi, hz0, hz1, hz2⟩ := info9
  obtain ⟨cs, hmk, hown⟩ := make_c 9 28 i0 _ 16 Try.underlying28 hi hz0 hz1 hz2 rfl .i64 L.length (by omega) (by omega) W
  have X := Lib.hid (show RowF W (W.alloc (.cells cs 9)) (.slice (some ⟨W.heap.size, 0, none⟩) 0 L.length) ((L.take 0).map numI) from ⟨below1 W _, hown⟩)
  have HL := Lib.hid hl
  clear hi hz0 hz1 hz2 hm hU hown
  go_enter Try.func19, Try.ntmps19
  go_upto_region 2 with fail
  clear hmk
  generalize W.alloc (.cells cs 9) = w3 at X ⊢
  generalize some (⟨W.heap.size, 0, none⟩ : Addr) = q0 at X ⊢
  go_wp2_with fail
  go_loopw [3, 11] (fun v i wr => ∃ (j : Nat) (R : List ByteArray) (q' : Option Addr) (c' : Nat), j ≤ L.length ∧ i = .int .i64 j ∧ v = .slice q' R.length c' ∧ RowKit.Hid (R = (L.take j).map numI ∧ RowF W wr (.slice q' R.length c') R)) (fun _ i _ => L.length - (intOf i).toNat)
  case atStart => exact ⟨0, [], q0, L.length, Nat.zero_le _, rfl, rfl, Lib.hid ⟨rfl, X.out⟩⟩
  case round =>
    obtain ⟨j, R, q', c', hj, rfl, rfl, XX⟩ := hrel
    have hl := HL.out
    by_cases hlt : j < L.length
    · obtain ⟨g, off, rfl, hg, hc⟩ := HC.out (by omega)
      have c1 := (XX.out.2.below.cell (p := ⟨g, off + j, none⟩) hg).trans (hc j hlt)
      have N1 := Lib.hid (N.out j hlt)
      have HT := Lib.hid (take_more numI L j hlt)
      have hRl : R.length + 1 ≤ 1000000000 := by rw [XX.out.1]; simp; omega
      have HRL := Lib.hid hRl
      clear hc hg hRl
      generalize L[j] = x at *
      go_upto_region 5 with fail
      go_upto_region 6 with (first | (go_at_call 32; (with_reducible refine (N1.out _).mono ?_); rintro e w4 ⟨rfl, k4⟩; obtain ⟨q5, c5, w5, hr5, hx5⟩ := (XX.out.2.next k4).one (numI x) HRL.out; generalize hR2 : R ++ [numI x] = R2 at hr5 hx5; have HR2 := Lib.hid hR2; have HR := Lib.hid hr5; have X5 := Lib.hid hx5; clear hr5 hx5 hR2) | (at_builtin; (refine wpList_append_run rfl _ _ 28 rfl _ _ _ rfl rfl _ HR.out ?_)) | fail)
      go_wp2_with fail
      go_round
      case rel => exact ⟨j + 1, R2, q5, c5, by omega, by go_num, rfl, Lib.hid ⟨by rw [HT.out, ← XX.out.1, HR2.out], X5.out⟩⟩
      case measure => simp [intOf]; omega
    · have e := XX.out.1
      rw [List.take_of_length_le (by omega)] at e
      subst e
      go_wp2_with fail
      go_ret
      exact ⟨q', c', rfl, XX.out.2⟩
end Go.Proofs.Ytgflnfmnjlmenaa
namespace Go.Proofs.Ytgflnfmnjlmenaa
open Go.RowKit Go.Deep Go.Joins
set_option maxRecDepth 100000
def RdsR (F : List ByteArray) (W : World) (e : Ending) (W' : World) : Prop := ∃ q c, e = .returned (.slice q (F.map rdI).length c) ∧ RowM W W' (.slice q (F.map rdI).length c) (F.map rdI)
set_option maxHeartbeats 2000000 in
theorem reads_any (v : Value) (F : List ByteArray) (W : World) (hm : FAt W v F) (hl : F.length ≤ 100000000) : Calls Try.prog 36 #[v] W (RdsR F W) := by
  obtain ⟨p, c0, rfl⟩ := Reads.is hm
  have HC := Lib.hid (fun (h0 : 0 < F.length) => FAt.cell' hm h0)
  have N := Lib.hid (fun f w => read_any f w)
  obtain ⟨i0, hi, hz0, hz1, hz2⟩ := info22z
  obtain ⟨cs, hmk, hown⟩ := make_c 22 37 i0 _ 8 Try.underlying37 hi hz0 hz1 hz2 rfl .i64 F.length (by omega) (by omega) W
  have X := Lib.hid (show RowM W (W.alloc (.cells cs 22)) (.slice (some ⟨W.heap.size, 0, none⟩) 0 F.length) ((F.take 0).map rdI) from ⟨below1 W _, hown⟩)
  have HL := Lib.hid hl
  clear hi hz0 hz1 hz2 hm hown
  go_enter Try.func36, Try.ntmps36
  go_upto_region 2 with fail
  clear hmk
  generalize W.alloc (.cells cs 22) = w3 at X ⊢
  generalize some (⟨W.heap.size, 0, none⟩ : Addr) = q0 at X ⊢
  go_wp2_with fail
  go_loopw [3, 13] (fun v i wr => ∃ (j : Nat) (R : List Int) (q' : Option Addr) (c' : Nat), j ≤ F.length ∧ i = .int .i64 j ∧ v = .slice q' R.length c' ∧ RowKit.Hid (R = (F.take j).map rdI ∧ RowM W wr (.slice q' R.length c') R)) (fun _ i _ => F.length - (intOf i).toNat)
  case atStart => exact ⟨0, [], q0, F.length, Nat.zero_le _, rfl, rfl, Lib.hid ⟨rfl, X.out⟩⟩
  case round =>
    obtain ⟨j, R, q', c', hj, rfl, rfl, XX⟩ := hrel
    have hl := HL.out
    by_cases hlt : j < F.length
    · obtain ⟨g, off, rfl, hg, hc⟩ := HC.out (by omega)
      have c1 := (XX.out.2.below.cell (p := ⟨g, off + j, none⟩) hg).trans (hc j hlt)
      have HT := Lib.hid (take_more rdI F j hlt)
      have hRl : R.length + 1 ≤ 1000000000 := by rw [XX.out.1]; simp; omega
      have HRL := Lib.hid hRl
      clear hc hg hRl
      generalize F[j] = x at *
      go_upto_region 5 with fail
      obtain ⟨q5, c5, w5, hr5, hx5⟩ := XX.out.2.one (rdI x) HRL.out
      generalize hR2 : R ++ [rdI x] = R2 at hr5 hx5
      have HR2 := Lib.hid hR2
      have HR := Lib.hid hr5
      have X5 := Lib.hid hx5
      clear hr5 hx5 hR2
      go_wp2_with (first | (go_at_call 44; (with_reducible refine (N.out _ _).mono ?_); rintro e w4 ⟨⟨k, rfl⟩, rfl⟩) | (at_builtin; (refine wpList_append_run rfl _ _ 37 rfl _ _ _ rfl rfl _ HR.out ?_)) | fail)
      go_round
      case rel => exact ⟨j + 1, R2, q5, c5, by omega, by go_num, rfl, Lib.hid ⟨by rw [HT.out, ← XX.out.1, HR2.out], X5.out⟩⟩
      case measure => simp [intOf]; omega
    · have e := XX.out.1
      rw [List.take_of_length_le (by omega)] at e
      subst e
      go_wp2_with fail
      go_ret
      exact ⟨q', c', rfl, XX.out.2⟩
end Go.Proofs.Ytgflnfmnjlmenaa
