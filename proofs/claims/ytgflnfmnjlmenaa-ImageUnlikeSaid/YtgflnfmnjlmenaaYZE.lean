/- Pack. -/
import Derived.Test.YtgflnfmnjlmenaaYRW
namespace Go.Proofs.Ytgflnfmnjlmenaa
open Go.RowKit Go.Deep Go.Joins
set_option maxRecDepth 100000
def fldL (f : ByteArray) : List UInt8 := shortL f.size ++ f.data.toList
def packT (F : List ByteArray) : List UInt8 := (F.map fldL).flatten
def packL (F : List ByteArray) : List UInt8 := shortL F.length ++ packT F
def packB (F : List ByteArray) : ByteArray := ⟨(packL F).toArray⟩
theorem shortL_length (n : Nat) : (shortL n).length = 4 := rfl
theorem shortB_toList (n : Nat) : (shortB n).data.toList = shortL n := by unfold shortB; simp
theorem fldL_length (f : ByteArray) : (fldL f).length = 4 + f.size := by unfold fldL; rw [List.length_append, shortL_length, len_eq]
theorem packT_length (F : List ByteArray) : 4 + (packT F).length = pkS F := by
  unfold packT pkS
  rw [List.length_flatten, List.map_map]
  congr 2
  exact List.map_congr_left fun f _ => fldL_length f
theorem packT_take (F : List ByteArray) (j : Nat) (hj : j < F.length) : packT (F.take (j + 1)) = packT (F.take j) ++ fldL F[j] := by
  unfold packT
  rw [List.take_add_one, List.getElem?_eq_getElem hj, List.map_append, List.flatten_append]
  congr 1
  simp
theorem pkS_mono (F : List ByteArray) (j : Nat) : pkS (F.take j) ≤ pkS F := by
  have h : F = F.take j ++ F.drop j := (List.take_append_drop j F).symm
  conv => rhs; rw [h]
  unfold pkS
  rw [List.map_append, List.sum_append]
  omega
def PackR (F : List ByteArray) (W : World) (e : Ending) (W' : World) : Prop := e = .returned (if pkOk F = true then .tuple #[.string (packB F), .int .i64 0] else .tuple #[.string ⟨#[]⟩, .int .i64 2]) ∧ Below W.heap.size W W'
structure PkAt (W w : World) (v : Value) (D : List UInt8) : Prop where
  below : Below W.heap.size W w
  own : OwnD w W.heap.size v D
theorem PkAt.next {W w w' : World} {v : Value} {D : List UInt8} (h : PkAt W w v D) (hb : Below w.heap.size w w') : PkAt W w' v D := ⟨below_then h.below hb, owns_below h.own hb⟩
theorem PkAt.app {W w : World} {v : Value} {D : List UInt8} (h : PkAt W w v D) (s : ByteArray) (hl : D.length + s.size ≤ 1000000000) :
    ∃ q c w', (Builtin.append_ #[36, 9] 36 #[v, .string s]).run Try.prog w = .ok (.slice q (D ++ s.data.toList).length c) w' ∧ PkAt W w' (.slice q (D ++ s.data.toList).length c) (D ++ s.data.toList) := by
  obtain ⟨q, c, w', hr, ho, ht⟩ := app_b h.own hl h.below.size 36
  exact ⟨q, c, w', hr, app_below h.below h.own ht, ho⟩
theorem pack_no (v : Value) (F : List ByteArray) (W : World) (hf : FAt W v F) (hF : F.length ≤ 1000000000) (h : pkOk F = false) : Calls Try.prog 11 #[v] W (PackR F W) := by
  have C := Lib.hid (packed_any v F W hf hF)
  have H := Lib.hid h
  clear hf hF
  go_enter Try.func11, Try.ntmps11
  go_wp2_with (first | (go_at_call 22; (with_reducible refine C.out.mono ?_); rintro e w2 ⟨⟨k, rfl, -⟩, rfl⟩; rw [H.out]) | fail)
  go_ret2
  exact ⟨by rw [H.out]; rfl, Below.refl _ _⟩
set_option maxHeartbeats 4000000 in
theorem pack_yes (v : Value) (F : List ByteArray) (W : World) (hf : FAt W v F) (h : pkOk F = true) : Calls Try.prog 11 #[v] W (PackR F W) := by
  obtain ⟨⟨h1, h2⟩, h3⟩ : (F.length ≤ 1024 ∧ pkAll F = true) ∧ pkS F ≤ 1048576 := by
    unfold pkOk at h
    simpa using h
  have C := Lib.hid (packed_any v F W hf (by omega))
  have H := Lib.hid h
  obtain ⟨p, c0, rfl⟩ := hf.is
  have HC := Lib.hid (fun (h0 : 0 < F.length) => hf.cell h0)
  have HL := Lib.hid (And.intro h1 (And.intro h3 (show ∀ j (hj : j < F.length), F[j].size ≤ 131072 from fun j hj => by
    unfold pkAll at h2
    rw [List.all_eq_true] at h2
    exact of_decide_eq_true (h2 _ (List.getElem_mem hj)))))
  have hS0 : 4 ≤ pkS F := by unfold pkS; omega
  have S1 := Lib.hid (fun w => short_any F.length w (by omega))
  have hcv : IntKind.u32.wrap (F.length : Int) = (F.length : Int) := wraps_u32 _ (by omega) (by omega)
  obtain ⟨i0, hi, hz0, hz1, hz2⟩ := info5z
  obtain ⟨cs, hmk, hown⟩ := make_c 5 36 i0 _ 1 Try.underlying36 hi hz0 hz1 hz2 rfl .i64 (pkS F) (by omega) (by omega) W
  have X0 : RowKit.Hid (PkAt W (W.alloc (.cells cs 5)) (.slice (some ⟨W.heap.size, 0, none⟩) 0 (pkS F)) []) := Lib.hid ⟨below1 W _, hown⟩
  have HZ := Lib.hid (show pkS F ≤ 1048576 from h3)
  clear hf h1 h2 hown h hi hz0 hz1 hz2
  go_enter Try.func11, Try.ntmps11
  go_upto_region 5 with (first | (go_at_call 22; (with_reducible refine C.out.mono ?_); rintro e w2 ⟨⟨k, rfl, hk⟩, rfl⟩; obtain rfl := hk H.out; rw [H.out]) | fail)
  have e0 : (shortB F.length).data.toList = shortL F.length := shortB_toList _
  go_upto_region 6 with (first | (go_at_call 23; (with_reducible refine (S1.out _).mono ?_); rintro e w2 ⟨rfl, kk⟩; obtain ⟨q, c, w3, hr, hx⟩ := (X0.out.next kk).app (shortB F.length) (by rw [shortB_size]; simp); have HR := Lib.hid hr; have X := Lib.hid hx; clear hr hx kk) | (at_builtin; (refine wpList_append_run2 rfl _ _ 36 9 rfl _ _ _ rfl rfl _ HR.out ?_)) | fail)
  clear X0 hmk
  rw [List.nil_append, e0] at X
  go_wp2_with fail
  go_loopw [6, 26] (fun b i wr => ∃ (j : Nat) (q' : Option Addr) (c' : Nat), j ≤ F.length ∧ i = .int .i64 j ∧ b = .slice q' (shortL F.length ++ packT (F.take j)).length c' ∧ RowKit.Hid (PkAt W wr (.slice q' (shortL F.length ++ packT (F.take j)).length c') (shortL F.length ++ packT (F.take j)))) (fun _ i _ => F.length - (intOf i).toNat)
  case atStart => exact ⟨0, q, c, Nat.zero_le _, rfl, by simp [packT], by simpa [packT] using X⟩
  case round =>
    obtain ⟨j, q', c', hj, rfl, rfl, XX⟩ := hrel
    have hlen : (shortL F.length ++ packT (F.take j)).length = pkS (F.take j) := by rw [List.length_append, shortL_length, packT_length]
    have hmo := pkS_mono F j
    have hz3 := HZ.out
    by_cases hlt : j < F.length
    · obtain ⟨g, off, cap, e, _, _, hg, hc⟩ := HC.out (by omega)
      simp only [Value.slice.injEq] at e
      obtain ⟨rfl, _, rfl⟩ := e
      have c1 := (XX.out.below.cell (p := ⟨g, off + j, none⟩) hg).trans (hc j hlt)
      have hx1 := HL.out.2.2 j hlt
      have HT := Lib.hid (packT_take F j hlt)
      have hmo2 := pkS_mono F (j + 1)
      rw [pkS_take F j hlt] at hmo2
      clear hc hg
      generalize F[j] = X1 at *
      have hcv2 : IntKind.u32.wrap (X1.size : Int) = (X1.size : Int) := wraps_u32 _ (by omega) (by omega)
      have S2 := Lib.hid (fun w => short_any X1.size w (by omega))
      have HB := Lib.hid (And.intro hlen hmo2)
      have HD : ∃ D, RowKit.Hid (D = shortL F.length ++ packT (F.take j)) := ⟨_, Lib.hid rfl⟩
      obtain ⟨D, HD⟩ := HD
      rw [← HD.out] at XX HB ⊢
      clear hlen hmo2 hmo
      go_upto_region 10 with (first | (go_at_call 23; (with_reducible refine (S2.out _).mono ?_); rintro e w2 ⟨rfl, kk⟩; obtain ⟨q2, c2, w3, hr, hx⟩ := (XX.out.next kk).app (shortB X1.size) (by rw [shortB_size]; have := HB.out; omega); generalize hD2 : D ++ (shortB X1.size).data.toList = D2 at hr hx; have HD2 := Lib.hid hD2; have HR2 := Lib.hid hr; have X2 := Lib.hid hx; clear hr hx kk hD2) | (at_builtin; (refine wpList_append_run2 rfl _ _ 36 9 rfl _ _ _ rfl rfl _ HR2.out ?_)) | fail)
      obtain ⟨q3, c3, w4, hr, hx⟩ := X2.out.app X1 (by rw [← HD2.out, List.length_append, shortB_toList, shortL_length]; have := HB.out; omega)
      generalize hD3 : D2 ++ X1.data.toList = D3 at hr hx
      have HR3 := Lib.hid hr
      have X3 := Lib.hid hx
      have eD : D3 = shortL F.length ++ packT (F.take (j + 1)) := by
        rw [← hD3, ← HD2.out, HT.out, ← List.append_assoc, ← HD.out, shortB_toList, List.append_assoc]; rfl
      have ED := Lib.hid eD
      clear hr hx eD hD3
      have hl1 := HL.out.1
      have hj1 : j ≤ 1024 := by omega
      go_wp2_with (first | (at_builtin; (refine wpList_append_run2 rfl _ _ 36 9 rfl _ _ _ rfl rfl _ HR3.out ?_)) | fail)
      go_round
      case rel => exact ⟨j + 1, q3, c3, by omega, by go_num, by rw [← ED.out], by rw [← ED.out]; exact X3⟩
      case measure => simp [intOf]; omega
    · have e : F.take j = F := List.take_of_length_le (by omega)
      rw [e] at XX ⊢
      clear hlen hmo
      have HD : ∃ D, RowKit.Hid (D = shortL F.length ++ packT F) := ⟨_, Lib.hid rfl⟩
      obtain ⟨D, HD⟩ := HD
      rw [← HD.out] at XX ⊢
      have hcv3 := string_of (OwnD.at XX.out.own)
      go_wp2_with fail
      go_ret2
      exact ⟨by rw [H.out, HD.out]; rfl, XX.out.below⟩
theorem pack_any (v : Value) (F : List ByteArray) (W : World) (hf : FAt W v F) (hF : F.length ≤ 1000000000) : Calls Try.prog 11 #[v] W (PackR F W) := by
  cases h : pkOk F with
  | true => exact pack_yes v F W hf h
  | false => exact pack_no v F W hf hF h
end Go.Proofs.Ytgflnfmnjlmenaa
