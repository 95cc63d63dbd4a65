/- Of a right board each call leaves a right one. -/
import Derived.Test.YtmbaimcneffnlaaRA
import Derived.Test.YtmbaimcneffnlaaAH
import Derived.Test.YtmbaimcneffnlaaSC
namespace Go.Proofs.Ytmbaimcneffnlaa
open Go.RowKit Go.Deep Go.Joins
theorem right_parts {b : Bd} {F : List ByteArray} : rightB b F = true ↔ hasB b = true ∧ b.inn.size ≤ 1024 ∧ F.length ≤ 64 ∧ frB F = true := by
  unfold rightB
  simp [and_assoc]
theorem right_of {b r : Bd} {F : List ByteArray} (h : rightB b F = true) (hs : r.sec = b.sec) (hi : r.inn.size ≤ b.inn.size) : rightB r F = true := by
  obtain ⟨h1, h2, h3, h4⟩ := right_parts.1 h
  refine right_parts.2 ⟨?_, Nat.le_trans hi h2, h3, h4⟩
  unfold hasB at h1 ⊢
  rw [hs]
  exact h1
theorem tail_le (s : ByteArray) : (tailS s).size ≤ s.size := by
  unfold tailS
  split
  · simp
  · exact Nat.le_refl _
theorem load_right (b : Bd) (F : List ByteArray) (t s n : Int) (hr : rightB b F = true) : (ldF b F t s n).2.2.2 = true → rightB (ldF b F t s n).1 (ldF b F t s n).2.1 = true := by
  unfold ldF
  by_cases h : t = 33554432 ∧ s = 4
  · simp only [if_pos h]
    intro _
    exact right_of hr rfl (Nat.le_refl _)
  simp only [if_neg h]
  clear h
  by_cases h : t = 33570816 ∧ s = 8
  · simp only [if_pos h]
    intro _
    exact right_of hr rfl (Nat.le_refl _)
  simp only [if_neg h]
  clear h
  by_cases h : t = 33603576 ∧ s = 8
  · simp only [if_pos h]
    intro _
    exact right_of hr rfl (Nat.le_refl _)
  simp only [if_neg h]
  clear h
  by_cases h : t = 268435456 ∧ s = 1
  · simp only [if_pos h]
    intro _
    exact right_of hr rfl (tail_le _)
  simp only [if_neg h]
  clear h
  by_cases h : t = 268435457 ∧ s = 1
  · simp only [if_pos h]
    intro _
    exact right_of hr rfl (Nat.le_refl _)
  simp only [if_neg h]
  clear h
  by_cases h : t = 268435461 ∧ s = 1
  · simp only [if_pos h]
    intro _
    exact right_of hr rfl (Nat.le_refl _)
  simp only [if_neg h]
  clear h
  by_cases h : t = 268439552 ∧ s = 8
  · simp only [if_pos h]
    intro _
    exact right_of hr rfl (Nat.le_refl _)
  simp only [if_neg h]
  clear h
  by_cases h : t = 268439560 ∧ s = 8
  · simp only [if_pos h]
    intro _
    exact right_of hr rfl (Nat.le_refl _)
  simp only [if_neg h]
  clear h
  by_cases h : t = 268439576 ∧ s = 8
  · simp only [if_pos h]
    intro _
    exact right_of hr rfl (Nat.le_refl _)
  simp only [if_neg h]
  clear h
  by_cases h : t = 268443648 ∧ s = 8
  · simp only [if_pos h]
    intro _
    exact right_of hr rfl (Nat.le_refl _)
  simp only [if_neg h]
  clear h
  by_cases h : t = 268443656 ∧ s = 8
  · simp only [if_pos h]
    intro _
    exact right_of hr rfl (Nat.le_refl _)
  simp only [if_neg h]
  clear h
  by_cases h : t = 268443672 ∧ s = 8
  · simp only [if_pos h]
    intro _
    exact right_of hr rfl (Nat.le_refl _)
  simp only [if_neg h]
  clear h
  intro h
  cases h
theorem store_right (b : Bd) (F : List ByteArray) (t s v : Int) (hr : rightB b F = true) : (stF b F t s v).2.2.2.2 = true → rightB (stF b F t s v).1 (stF b F t s v).2.1 = true := by
  unfold stF
  by_cases h : t = 33554432 ∧ s = 4
  · simp only [if_pos h]
    intro _
    exact right_of hr rfl (Nat.le_refl _)
  simp only [if_neg h]
  clear h
  by_cases h : t = 33570816 ∧ s = 8
  · simp only [if_pos h]
    intro _
    exact right_of hr rfl (Nat.le_refl _)
  simp only [if_neg h]
  clear h
  by_cases h : t = 268435456 ∧ s = 1
  · simp only [if_pos h]
    intro _
    exact right_of hr rfl (Nat.le_refl _)
  simp only [if_neg h]
  clear h
  by_cases h : t = 268435457 ∧ s = 1
  · simp only [if_pos h]
    intro _
    exact right_of hr rfl (Nat.le_refl _)
  simp only [if_neg h]
  clear h
  by_cases h : t = 268439552 ∧ s = 8
  · simp only [if_pos h]
    intro _
    exact right_of hr rfl (Nat.le_refl _)
  simp only [if_neg h]
  clear h
  by_cases h : t = 268439560 ∧ s = 8
  · simp only [if_pos h]
    intro _
    exact right_of hr rfl (Nat.le_refl _)
  simp only [if_neg h]
  clear h
  by_cases h : t = 268439568 ∧ s = 8
  · simp only [if_pos h]
    intro _
    exact right_of hr rfl (Nat.le_refl _)
  simp only [if_neg h]
  clear h
  by_cases h : t = 268443656 ∧ s = 8
  · simp only [if_pos h]
    intro _
    exact right_of hr rfl (Nat.le_refl _)
  simp only [if_neg h]
  clear h
  by_cases h : t = 268443664 ∧ s = 8
  · simp only [if_pos h]
    intro _
    exact right_of hr rfl (Nat.le_refl _)
  simp only [if_neg h]
  clear h
  by_cases h : t = 268443672 ∧ s = 8
  · simp only [if_pos h]
    intro _
    exact right_of hr rfl (Nat.le_refl _)
  simp only [if_neg h]
  clear h
  intro h
  cases h
theorem frB_get {F : List ByteArray} (h : frB F = true) (f : ByteArray) (hf : f ∈ F) : f.size ≤ 64 := by
  unfold frB at h
  exact of_decide_eq_true (List.all_eq_true.1 h f hf)
theorem frB_of {F : List ByteArray} (h : ∀ f ∈ F, f.size ≤ 64) : frB F = true := by
  unfold frB
  exact List.all_eq_true.2 fun f hf => decide_eq_true (h f hf)
theorem give_right (b : Bd) (F : List ByteArray) (d : Int) (s : ByteArray) (hr : rightB b F = true) : rightB (gvF b F d s).1 (gvF b F d s).2.1 = true := by
  obtain ⟨h1, h2, h3, h4⟩ := right_parts.1 hr
  unfold gvF
  by_cases g1 : d = 1 ∧ b.inn.size + s.size ≤ 1024
  · rw [if_pos g1]
    exact right_parts.2 ⟨h1, by show (b.inn ++ s).size ≤ 1024; rw [ByteArray.size_append]; exact g1.2, h3, h4⟩
  · rw [if_neg g1]
    by_cases g2 : d = 2 ∧ 0 < s.size ∧ s.size ≤ 64 ∧ F.length < 64
    · rw [if_pos g2]
      refine right_parts.2 ⟨h1, h2, by show (F ++ [s]).length ≤ 64; rw [List.length_append]; simp; omega, frB_of fun f hf => ?_⟩
      rcases List.mem_append.1 hf with hf | hf
      · exact frB_get h4 f hf
      · rw [List.mem_singleton.1 hf]; exact g2.2.2.1
    · rw [if_neg g2]
      exact hr
theorem act_right (b : Bd) (F : List ByteArray) (p1 q1 : Option Addr) (c1 d1 : Nat) (E k : Int) (es : ByteArray) (D : List UInt8) (M : List Int) (W : World) (hf : FAt W (.slice b.fp b.fn b.fc) F) (hF : F.length ≤ 8796093022208) (hd : DAt W (.slice p1 D.length c1) D) (hm : MAt W (.slice q1 M.length d1) M) (hD : D.length ≤ 140737488351232) (hM : M.length ≤ 17592186043904) (ok : OkB b) (hr : rightB b F = true) :
    ∃ r F' D' M' s o, rightB r F' = true ∧ ∀ W', Below W.heap.size W W' → Calls Try.prog 21 #[bdV b, .agg (ramC (.slice p1 D.length c1) (.slice q1 M.length d1) E), effV k es] W' (Acted W' r F' E D' M' s o) := by
  obtain ⟨h1, h2, h3, h4⟩ := right_parts.1 hr
  have hs1 : b.sec.size = 1024 := by unfold hasB at h1; have := eq_of_beq h1; omega
  by_cases k1 : k = 1
  · subst k1
    exact ⟨b, F, D, M, es, true, hr, fun W' h => act_out b F p1 q1 c1 d1 E es D M W' (hf.next h) hF (hd.below h) (hm.below h) hD hM⟩
  by_cases k2 : k = 2
  · subst k2
    by_cases h16 : 16 ≤ b.sector
    · exact ⟨{ b with done := true, bad := true }, F, D, M, _, _, right_of hr rfl (Nat.le_refl _), fun W' h => act_rbad b F p1 q1 c1 d1 E es D M W' (hf.next h) hF (hd.below h) (hm.below h) hD hM h16⟩
    · obtain ⟨n, hn⟩ := Int.eq_ofNat_of_zero_le ok.sector.1
      exact ⟨{ b with done := true, bad := !putB D.length b.addr (secS b n) }, F, _, _, _, _, right_of hr rfl (Nat.le_refl _), fun W' h => act_read b F p1 q1 c1 d1 E es D M n W' (hf.next h) hF (hd.below h) (hm.below h) hD hM ok.addr hn (by omega) h1⟩
  by_cases k3 : k = 3
  · subst k3
    by_cases h16 : 16 ≤ b.sector
    · exact ⟨{ b with done := true, bad := true }, F, D, M, _, _, right_of hr rfl (Nat.le_refl _), fun W' h => act_wbad1 b F p1 q1 c1 d1 E es D M W' (hf.next h) hF (hd.below h) (hm.below h) hD hM ok.addr h16⟩
    · obtain ⟨n, hn⟩ := Int.eq_ofNat_of_zero_le ok.sector.1
      by_cases he : textE D.length b.addr 64 = 0
      · refine ⟨_, F, D, M, _, _, ?_, fun W' h => act_write b F p1 q1 c1 d1 E es D M n W' (hf.next h) hF (hd.below h) (hm.below h) hD hM ok.addr hn (by omega) h1 he⟩
        refine right_parts.2 ⟨?_, h2, h3, h4⟩
        show ((((b.sec.extract 0 (64 * n) ++ textS D b.addr 64) ++ b.sec.extract (64 * n + 64) b.sec.size).size : Int) == 1024) = true
        rw [ByteArray.size_append, ByteArray.size_append, text64 D b.addr he]
        rw [beq_iff_eq]
        simp
        omega
      · exact ⟨{ b with done := true, bad := true }, F, D, M, _, _, right_of hr rfl (Nat.le_refl _), fun W' h => act_wbad2 b F p1 q1 c1 d1 E es D M n W' (hf.next h) hF (hd.below h) (hm.below h) hD hM ok.addr hn (by omega) he⟩
  by_cases k4 : k = 4
  · subst k4
    by_cases h0 : 0 < F.length
    · have hz : F[0].size ≤ 9223372036854775807 := by have := frB_get h4 F[0] (List.getElem_mem _); omega
      cases hk : putB D.length b.nicA F[0] with
      | false => exact ⟨b, F, _, _, _, _, hr, fun W' h => act_recv1 b F p1 q1 c1 d1 E es D M W' (hf.next h) hF (hd.below h) (hm.below h) hD hM h0 ok.nicA hz hk⟩
      | true =>
        refine ⟨b, F.tail, _, _, _, _, right_parts.2 ⟨h1, h2, by rw [List.length_tail]; omega, frB_of fun f hf => frB_get h4 f (List.mem_of_mem_tail hf)⟩, fun W' h => act_recv2 b F p1 q1 c1 d1 E es D M W' (hf.next h) hF (hd.below h) (hm.below h) hD hM h0 ok.nicA hz hk⟩
    · exact ⟨b, F, D, M, _, _, hr, fun W' h => act_recv0 b F p1 q1 c1 d1 E es D M W' (hf.next h) hF (hd.below h) (hm.below h) hD hM h0⟩
  by_cases k5 : k = 5
  · subst k5
    exact ⟨b, F, D, M, _, _, hr, fun W' h => act_send b F p1 q1 c1 d1 E es D M W' (hf.next h) hF (hd.below h) (hm.below h) hD hM ok.nicA⟩
  · exact ⟨b, F, D, M, _, _, hr, fun W' h => act_no b F p1 q1 c1 d1 E k es D M W' (hf.next h) hF (hd.below h) (hm.below h) hD hM ⟨beq_eq_false_iff_ne.2 k1, beq_eq_false_iff_ne.2 k2, beq_eq_false_iff_ne.2 k3, beq_eq_false_iff_ne.2 k4, beq_eq_false_iff_ne.2 k5⟩⟩
theorem rights_any (b : Bd) (F : List ByteArray) (p1 q1 : Option Addr) (c1 d1 : Nat) (E t s v dev k : Int) (es data : ByteArray) (D : List UInt8) (M : List Int) (W : World) (hf : FAt W (.slice b.fp b.fn b.fc) F) (hF : F.length ≤ 8796093022208) (hd : DAt W (.slice p1 D.length c1) D) (hm : MAt W (.slice q1 M.length d1) M) (hD : D.length ≤ 140737488351232) (hM : M.length ≤ 17592186043904) (ok : OkB b) (uv : U64 v) : Calls Try.prog 4 #[bdV b, .agg (ramC (.slice p1 D.length c1) (.slice q1 M.length d1) E), .agg (lookC t s v), effV k es, .int .i64 dev, .string data] W fun e W' => e = .returned (.bool true) ∧ Below W.heap.size W W' := by
  cases hr : rightB b F with
  | false => exact dr_wrong b p1 q1 c1 d1 E t s v dev k es data D M W (Lib.hid fun W' h => hr ▸ right_any b F W' (hf.next h)) (Lib.hid fun W' h => hr ▸ rright_any b F W' (hf.next h))
  | true =>
    obtain ⟨r, F', D', M', s2, o2, hz, hA⟩ := act_right b F p1 q1 c1 d1 E k es D M W hf hF hd hm hD hM ok hr
    exact dr_right b p1 q1 c1 d1 E t s v dev k es data D M W (ldF b F t s v).1 (stF b F t s v).1 r (gvF b F dev data).1 (ldF b F t s v).2.1 (stF b F t s v).2.1 F' (gvF b F dev data).2.1 (ldF b F t s v).2.2.1 (stF b F t s v).2.2.1 (stF b F t s v).2.2.2.1 s2 (ldF b F t s v).2.2.2 (stF b F t s v).2.2.2.2 o2 (gvF b F dev data).2.2 D' M'
      (Lib.hid fun W' h => hr ▸ right_any b F W' (hf.next h)) (Lib.hid fun W' h => load_any b F t s v W' (hf.next h) hF) (Lib.hid fun W' h => store_any b F t s v W' (hf.next h) hF uv) (Lib.hid hA) (Lib.hid fun W' h => give_any b F dev data W' (hf.next h) hF (right_parts.1 hr).2.1)
      (load_right b F t s v hr) (store_right b F t s v hr) hz (give_right b F dev data hr)

end Go.Proofs.Ytmbaimcneffnlaa
