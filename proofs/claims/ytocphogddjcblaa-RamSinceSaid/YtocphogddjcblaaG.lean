/- RamTexts: the walk. -/
import Derived.Test.YtocphogddjcblaaF
namespace Go.Proofs.Ytocphogddjcblaa
open Go.RowKit Go.Deep Go.Joins
def textE (n : Nat) (t size : Int) : Int := if size = 0 ∨ thereB n t size = true then 0 else 50
def textS (D : List UInt8) (t size : Int) : ByteArray := if size ≠ 0 ∧ thereB D.length t size = true then bytesOf D (t - 2147483648).toNat size.toNat else ⟨#[]⟩
theorem text_all (v : Value) (D : List UInt8) (mv ev : Value) (t size : Int) (w : World) (hd : DAt w v D) (ht0 : 0 ≤ t) (ht1 : t ≤ 18446744073709551615) (hs0 : -9223372036854775808 ≤ size) (hs1 : size ≤ 9223372036854775807) :
    Calls Try.prog 18 #[.agg #[v, mv, ev], .int .u64 t, .int .i64 size] w fun e w' => e = .returned (.tuple #[.string (textS D t size), .int .i64 (textE D.length t size)]) ∧ Below w.heap.size w w' := by
  by_cases h0 : size = 0
  · subst h0
    have e1 : textS D t 0 = ⟨#[]⟩ := if_neg (by simp)
    have e2 : textE D.length t 0 = 0 := if_pos (.inl rfl)
    rw [e1, e2]
    exact text_none v mv ev t w
  · rcases Bool.eq_false_or_eq_true (thereB D.length t size) with h | h
    · have e1 : textS D t size = bytesOf D (t - 2147483648).toNat size.toNat := if_pos ⟨h0, h⟩
      have e2 : textE D.length t size = 0 := if_pos (.inr h)
      rw [e1, e2]
      exact text_any v D mv ev t size w hd ht0 ht1 hs1 (by have := (there_iff.1 h).1; omega) h
    · have e1 : textS D t size = ⟨#[]⟩ := if_neg (by simp [h])
      have e2 : textE D.length t size = 50 := if_neg (by simp [h, h0])
      rw [e1, e2]
      obtain ⟨p, cap, rfl⟩ := hd.is
      exact text_ram p D.length cap mv ev t size w hd.le ht0 ht1 hs0 hs1 h0 h
theorem textE_is (n : Nat) (t size : Int) : textE n t size = 0 ∨ textE n t size = 50 := by unfold textE; split <;> simp
theorem textS_size (D : List UInt8) (t : Int) (s : Nat) : (textS D t s).size ≤ s := by
  unfold textS
  split
  · show (bytesOf D _ _).data.size ≤ s
    simp [bytesOf]
    omega
  · exact Nat.zero_le _
theorem mod400 (x : Int) : ∃ n : Nat, wrap64 ((IntKind.u64.wrap x).tmod 400) = n ∧ n < 400 := by
  have h : 0 ≤ IntKind.u64.wrap x := by rw [IntKind.wrap_u64]; omega
  have h2 := Int.emod_nonneg (IntKind.u64.wrap x) (show (400 : Int) ≠ 0 by omega)
  have h3 := Int.emod_lt_of_pos (IntKind.u64.wrap x) (show (0 : Int) < 400 by omega)
  refine ⟨((IntKind.u64.wrap x) % 400).toNat, ?_, by omega⟩
  rw [IntWalk.rem_in _ _ h, IntWalk.wrap64_in _ (by omega), Int.toNat_of_nonneg h2]
theorem wrap_sum (t : Int) (A : Nat) : 0 ≤ IntKind.u64.wrap (t + A) ∧ IntKind.u64.wrap (t + A) ≤ 18446744073709551615 := by
  rw [IntKind.wrap_u64]; omega
theorem bytesOf_add (D : List UInt8) (k a b : Nat) : bytesOf D k (a + b) = bytesOf D k a ++ bytesOf D (k + a) b := by
  unfold bytesOf
  have e : (D.drop k).take (a + b) = (D.drop k).take a ++ (D.drop (k + a)).take b := by rw [List.take_add, List.drop_drop]
  rw [e]
  apply ByteArray.ext
  simp [ByteArray.data_append]
theorem texts_law (D : List UInt8) (t : Int) (A B : Nat) (ht0 : 0 ≤ t) (ht1 : t ≤ 18446744073709551615) (hA : A < 400) (hB : B < 400) (hD : D.length ≤ 9223372036854775807) :
    ((textE D.length t A = 0 ∧ textE D.length (IntKind.u64.wrap (t + A)) B = 0) ↔ textE D.length t (A + B) = 0) ∧ (textE D.length t (A + B) = 0 → textS D t (A + B) = textS D t A ++ textS D (IntKind.u64.wrap (t + A)) B) := by
  have key : ∀ (n : Nat) (u s : Int), textE n u s = 0 ↔ s = 0 ∨ thereB n u s = true := fun n u s => by unfold textE; split <;> simp_all
  have hT := wrap_sum t A
  have hW : IntKind.u64.wrap (t + A) = t + A ∨ IntKind.u64.wrap (t + A) = t + A - 18446744073709551616 := by rw [IntKind.wrap_u64]; omega
  generalize IntKind.u64.wrap (t + A) = T at *
  refine ⟨?_, ?_⟩
  · rw [key, key, key, there_iff, there_iff, there_iff]
    omega
  · intro h
    rw [key, there_iff] at h
    by_cases h0 : A = 0
    · subst h0
      have eT : T = t := by omega
      have e1 : textS D t ((0 : Nat) : Int) = ⟨#[]⟩ := if_neg (by simp)
      rw [e1, eT]
      apply ByteArray.ext
      simp [ByteArray.data_append]
    by_cases h1 : B = 0
    · subst h1
      have e1 : textS D T ((0 : Nat) : Int) = ⟨#[]⟩ := if_neg (by simp)
      rw [e1]
      apply ByteArray.ext
      simp [ByteArray.data_append]
    have eT : T = t + A := by omega
    have e1 : textS D t (A + B) = bytesOf D (t - 2147483648).toNat ((A : Int) + B).toNat := if_pos ⟨by omega, there_iff.2 (by omega)⟩
    have e2 : textS D t A = bytesOf D (t - 2147483648).toNat (A : Int).toNat := if_pos ⟨by omega, there_iff.2 (by omega)⟩
    have e3 : textS D T B = bytesOf D (T - 2147483648).toNat (B : Int).toNat := if_pos ⟨by omega, there_iff.2 (by omega)⟩
    rw [e1, e2, e3, eT, show ((A : Int) + B).toNat = A + B by omega, Int.toNat_natCast, Int.toNat_natCast, show (t + A - 2147483648).toNat = (t - 2147483648).toNat + A by omega]
    exact bytesOf_add _ _ _ _
set_option maxHeartbeats 1000000 in
theorem texts_any (v : Value) (D : List UInt8) (mv : Value) (E t a b : Int) (w : World) (hd : DAt w v D) (ht0 : 0 ≤ t) (ht1 : t ≤ 18446744073709551615) :
    Calls Try.prog 7 #[.agg #[v, mv, .int .u64 E], .int .u64 t, .int .i64 a, .int .i64 b] w fun e w' => e = .returned (.bool true) ∧ Below w.heap.size w w' := by
  obtain ⟨p, cap, rfl⟩ := hd.is
  have HD := Lib.hid hd
  clear hd
  go_enter Try.func7, Try.ntmps7
  go_wp2_with fail
  refine (awake_any _).mono ?_
  rintro e w1 ⟨rfl, hb1⟩
  have f0 := hb1.cell (p := ⟨w.heap.size, 0, none⟩) (by simp)
  have f1 := hb1.cell (p := ⟨w.heap.size, 1, none⟩) (by simp)
  have f2 := hb1.cell (p := ⟨w.heap.size, 2, none⟩) (by simp)
  rw [World.cell?_alloc_new] at f0 f1 f2
  have HB1 := Lib.hid (below_then (below1 w _) hb1)
  clear hb1
  go_wp2_with fail
  obtain ⟨A, hA, hA2⟩ := mod400 a
  obtain ⟨B, hB, hB2⟩ := mod400 b
  rw [hA, hB]
  clear hA hB
  have hL := HD.out.le
  refine (text_all _ D _ _ _ _ _ (HD.out.below HB1.out) ht0 ht1 (by omega) (by omega)).mono ?_
  rintro e w2 ⟨rfl, hb2⟩
  have hlt1 : w.heap.size < w1.heap.size := lt_of_cell f0
  have g0 := hb2.cell (p := ⟨w.heap.size, 0, none⟩) hlt1
  have g1 := hb2.cell (p := ⟨w.heap.size, 1, none⟩) hlt1
  have g2 := hb2.cell (p := ⟨w.heap.size, 2, none⟩) hlt1
  rw [f0] at g0
  rw [f1] at g1
  rw [f2] at g2
  have hlt2 := lt_of_cell g0
  have HB2 := Lib.hid (below_then HB1.out hb2)
  clear f0 f1 f2 hb2 hlt1
  have hlaw := texts_law D t A B ht0 ht1 hA2 hB2 hL
  have HLAW := Lib.hid hlaw
  clear hlaw
  go_wp2_with fail
  have hT := wrap_sum t A
  generalize hTe : IntKind.u64.wrap (t + A) = T at *
  have HTE := Lib.hid hTe
  clear hTe
  refine (text_all _ D _ _ _ _ _ (HD.out.below HB2.out) hT.1 hT.2 (by omega) (by omega)).mono ?_
  rintro e w3 ⟨rfl, hb3⟩
  have f0 := hb3.cell (p := ⟨w.heap.size, 0, none⟩) hlt2
  have f1 := hb3.cell (p := ⟨w.heap.size, 1, none⟩) hlt2
  have f2 := hb3.cell (p := ⟨w.heap.size, 2, none⟩) hlt2
  rw [g0] at f0
  rw [g1] at f1
  rw [g2] at f2
  have HB3 := Lib.hid (below_then HB2.out hb3)
  clear g0 g1 g2 hb3 hlt2
  go_wp2_with fail
  refine (text_all _ D _ _ _ _ _ (HD.out.below HB3.out) ht0 ht1 (by omega) (by omega)).mono ?_
  rintro e w4 ⟨rfl, hb4⟩
  have HB4 := Lib.hid (below_then HB3.out hb4)
  clear hb4 f0 f1 f2
  have k1 := textE_is D.length t A
  have k2 := textE_is D.length T B
  have k3 := textE_is D.length t (A + B)
  have z1 : (textS D t A).size ≤ 400 := Nat.le_trans (textS_size D t A) (by omega)
  have z2 : (textS D T B).size ≤ 400 := Nat.le_trans (textS_size D T B) (by omega)
  generalize textE D.length t A = e1 at *
  generalize textE D.length T B = e2 at *
  generalize textE D.length t (A + B) = e3 at *
  generalize textS D t A = s1 at *
  generalize textS D T B = s2 at *
  generalize textS D t (A + B) = s3 at *
  rcases k3 with rfl | rfl
  · obtain ⟨x1, x2⟩ := HLAW.out.1.2 rfl
    have x3 := HLAW.out.2 rfl
    clear k1 k2 HLAW
    subst x1 x2 x3
    go_wp2_with fail
    go_ret
    exact ⟨ret_bool (by simp), HB4.out⟩
  · have x1 : ¬ (e1 = 0 ∧ e2 = 0) := fun h => by have := HLAW.out.1.1 h; omega
    clear HLAW
    rcases k1 with rfl | rfl
    · rcases k2 with rfl | rfl
      · exact absurd ⟨rfl, rfl⟩ x1
      · clear x1
        go_wp2_with fail
        go_ret
        exact ⟨rfl, HB4.out⟩
    · clear x1 k2
      go_wp2_with fail
      go_ret
      exact ⟨rfl, HB4.out⟩
end Go.Proofs.Ytocphogddjcblaa
