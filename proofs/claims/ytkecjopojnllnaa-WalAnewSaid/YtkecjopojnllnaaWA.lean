/- Frames one behind the other, and what a gap behind them tells: plain. -/
import Derived.Test.YtkecjopojnllnaaM21
namespace Go.Proofs.Ytkecjopojnllnaa
open Go.RowKit Go.Deep Go.Joins

def ofL (L : List UInt8) : ByteArray := ⟨L.toArray⟩
theorem ofL_list (L : List UInt8) : (ofL L).data.toList = L := rfl
theorem ofL_size (L : List UInt8) : (ofL L).size = L.length := by rw [← len_eq, ofL_list]
theorem ofL_self (s : ByteArray) : ofL s.data.toList = s := ba_inj rfl
def byteL (L : List UInt8) (k : Nat) : Nat := ((L[k]?).getD 0).toNat
theorem bAt_ofL (L : List UInt8) (k : Nat) : bAt (ofL L) k = byteL L k := by
  unfold bAt byteL
  by_cases h : k < L.length
  · have h2 : k < (ofL L).size := by rw [ofL_size]; exact h
    rw [dif_pos h2, List.getElem?_eq_getElem h]
    rfl
  · have h2 : ¬ k < (ofL L).size := by rw [ofL_size]; exact h
    rw [dif_neg h2, List.getElem?_eq_none (by omega)]
    rfl
theorem ext_ofL (L : List UInt8) (i j : Nat) : (ofL L).extract i j = ofL ((L.drop i).take (j - i)) := by
  refine ba_inj ?_
  rw [ofL_list, ByteArray.data_extract, Array.toList_extract, ofL_list, List.extract_eq_take_drop]
def rdL (L : List UInt8) (k : Nat) : Nat := byteL L k + byteL L (k + 1) * 256 + byteL L (k + 2) * 65536 + byteL L (k + 3) * 16777216
theorem rd4_ofL (L : List UInt8) (k : Nat) : rd4 (ofL L) k = rdL L k := by
  unfold rd4 rdL
  rw [bAt_ofL, bAt_ofL, bAt_ofL, bAt_ofL]
theorem byteL_behind (A L : List UInt8) (k : Nat) : byteL (A ++ L) (A.length + k) = byteL L k := by
  unfold byteL
  rw [List.getElem?_append_right (by omega), show A.length + k - A.length = k by omega]
theorem byteL_front (F T : List UInt8) {k : Nat} (h : k < F.length) : byteL (F ++ T) k = byteL F k := by
  unfold byteL
  rw [List.getElem?_append_left h]
theorem rdL_behind (A L : List UInt8) (k : Nat) : rdL (A ++ L) (A.length + k) = rdL L k := by
  unfold rdL
  rw [Nat.add_assoc A.length k 1, Nat.add_assoc A.length k 2, Nat.add_assoc A.length k 3, byteL_behind, byteL_behind, byteL_behind, byteL_behind]
theorem rdL_front (F T : List UInt8) {k : Nat} (h : k + 3 < F.length) : rdL (F ++ T) k = rdL F k := by
  unfold rdL
  rw [byteL_front F T (by omega), byteL_front F T (by omega), byteL_front F T (by omega), byteL_front F T (by omega)]
/-- The frame of a string, as a row of bytes. -/
def frL (s : ByteArray) : List UInt8 := (frameB s).data.toList
def chk (s : ByteArray) : Nat := sumOf [shortB s.size, s]
theorem frL_eq (s : ByteArray) : frL s = shortL s.size ++ (shortL (chk s) ++ (s.data.toList ++ [255])) := by
  unfold frL frameB chk
  rw [ByteArray.data_append, ByteArray.data_append, ByteArray.data_append, Array.toList_append, Array.toList_append, Array.toList_append, List.append_assoc, List.append_assoc]
  rfl
theorem frL_length (s : ByteArray) : (frL s).length = s.size + 9 := by
  unfold frL
  rw [len_eq, frameB_size]
theorem shortL_length (n : Nat) : (shortL n).length = 4 := rfl
theorem byte_mod (n : Nat) : (UInt8.ofNat (n % 256)).toNat = n % 256 := by
  rw [UInt8.toNat_ofNat']
  omega
theorem rdL_short (n : Nat) (T : List UInt8) (h : n < 4294967296) : rdL (shortL n ++ T) 0 = n := by
  rw [rdL_front _ _ (by rw [shortL_length]; omega)]
  show (UInt8.ofNat (n % 256)).toNat + (UInt8.ofNat (n / 256 % 256)).toNat * 256 + (UInt8.ofNat (n / 65536 % 256)).toNat * 65536 + (UInt8.ofNat (n / 16777216 % 256)).toNat * 16777216 = n
  rw [byte_mod, byte_mod, byte_mod, byte_mod]
  omega
theorem fr_size (s : ByteArray) (h : s.size ≤ 131072) : rdL (frL s) 0 = s.size := by rw [frL_eq]; exact rdL_short _ _ (by omega)
theorem fr_sum (s : ByteArray) : rdL (frL s) 4 = chk s := by
  rw [frL_eq]
  have h := rdL_behind (shortL s.size) (shortL (chk s) ++ (s.data.toList ++ [255])) 0
  rw [shortL_length] at h
  rw [show (4 : Nat) = 4 + 0 by rfl, h]
  exact rdL_short _ _ (sumOf_lt _)
theorem fr_last (s : ByteArray) : byteL (frL s) (8 + s.size) = 255 := by
  rw [frL_eq, ← List.append_assoc, ← List.append_assoc]
  have hl : (shortL s.size ++ shortL (chk s) ++ s.data.toList).length = 8 + s.size := by
    rw [List.length_append, List.length_append, shortL_length, shortL_length, len_eq]
  have h := byteL_behind (shortL s.size ++ shortL (chk s) ++ s.data.toList) [255] 0
  rw [hl] at h
  rw [show 8 + s.size = 8 + s.size + 0 by rfl, h]
  rfl
theorem one_frame (A T : List UInt8) (s : ByteArray) (h : s.size ≤ 131072) : oneAt (ofL (A ++ (frL s ++ T))) A.length = some s := by
  have hl := frL_length s
  have r0 : rd4 (ofL (A ++ (frL s ++ T))) A.length = s.size := by
    have := rdL_behind A (frL s ++ T) 0
    rw [rd4_ofL, show A.length = A.length + 0 by rfl, this, rdL_front _ _ (by omega), fr_size s h]
  have r4 : rd4 (ofL (A ++ (frL s ++ T))) (A.length + 4) = chk s := by
    rw [rd4_ofL, rdL_behind, rdL_front _ _ (by omega), fr_sum s]
  have rl : bAt (ofL (A ++ (frL s ++ T))) (A.length + 8 + s.size) = 255 := by
    rw [bAt_ofL, Nat.add_assoc, byteL_behind, byteL_front _ _ (by omega), fr_last]
  have hz : (ofL (A ++ (frL s ++ T))).size = A.length + (s.size + 9 + T.length) := by
    rw [ofL_size, List.length_append, List.length_append, hl]
  have x1 : (ofL (A ++ (frL s ++ T))).extract A.length (A.length + 4) = shortB s.size := by
    rw [ext_ofL, List.drop_left, frL_eq, List.append_assoc, show A.length + 4 - A.length = (shortL s.size).length by rw [shortL_length]; omega, List.take_left]
    rfl
  have x2 : (ofL (A ++ (frL s ++ T))).extract (A.length + 8) (A.length + 8 + s.size) = s := by
    have hp : A.length + 8 = (A ++ (shortL s.size ++ shortL (chk s))).length := by rw [List.length_append, List.length_append, shortL_length, shortL_length]
    have he : A ++ (frL s ++ T) = (A ++ (shortL s.size ++ shortL (chk s))) ++ (s.data.toList ++ ([255] ++ T)) := by
      rw [frL_eq]; simp only [List.append_assoc]
    rw [ext_ofL, he, hp, List.drop_left, show (A ++ (shortL s.size ++ shortL (chk s))).length + s.size - (A ++ (shortL s.size ++ shortL (chk s))).length = s.data.toList.length by rw [len_eq]; omega, List.take_left, ofL_self]
  unfold oneAt
  have k1 : A.length + 9 ≤ A.length + (s.size + 9 + T.length) := by omega
  have k2 : A.length + s.size + 9 ≤ A.length + (s.size + 9 + T.length) := by omega
  rw [hz, r0, r4, rl, x1, x2, if_pos (And.intro k1 (And.intro h k2)), if_pos (And.intro rfl (show chk s = sumOf [shortB s.size, s] from rfl))]
/-- The beginning of a frame, and noughts where the rest of it should be. -/
def Gap (F T : List UInt8) : Prop := ∃ n, n < F.length ∧ n ≤ T.length ∧ T.take n = F.take n ∧ ∀ i, n ≤ i → i < F.length → i < T.length → T[i]? = some 0
theorem gap_byte {F T : List UInt8} {n : Nat} (h : T.take n = F.take n) {i : Nat} (hi : i < n) : T[i]? = F[i]? := by
  have := congrArg (fun l => l[i]?) h
  simpa [List.getElem?_take, hi] using this
theorem one_gap (A T : List UInt8) (s : ByteArray) (h : s.size ≤ 131072) (hg : Gap (frL s) T) : oneAt (ofL (A ++ T)) A.length = none := by
  obtain ⟨n, g1, g2, g3, g4⟩ := hg
  have hl := frL_length s
  have hz : (ofL (A ++ T)).size = A.length + T.length := by rw [ofL_size, List.length_append]
  have r0 : rd4 (ofL (A ++ T)) A.length = rdL T 0 := by
    have := rdL_behind A T 0
    rw [rd4_ofL, show A.length = A.length + 0 by rfl, this]
  have hs := fr_size s h
  have key : ∀ i, i < 4 → 9 ≤ T.length → byteL T i = if i < n then byteL (frL s) i else 0 := fun i hi h9 => by
    unfold byteL
    split
    · rename_i hin
      rw [gap_byte g3 hin]
    · rw [g4 i (by omega) (by omega) (by omega)]
      rfl
  unfold oneAt
  rw [hz, r0]
  by_cases hc : A.length + 9 ≤ A.length + T.length ∧ rdL T 0 ≤ 131072 ∧ A.length + rdL T 0 + 9 ≤ A.length + T.length
  · rw [if_pos hc]
    obtain ⟨c1, _, c3⟩ := hc
    have hd : rdL T 0 ≤ s.size ∧ n ≤ 8 + rdL T 0 := by
      have k0 := key 0 (by omega) (by omega)
      have k1 := key 1 (by omega) (by omega)
      have k2 := key 2 (by omega) (by omega)
      have k3 := key 3 (by omega) (by omega)
      unfold rdL at hs ⊢
      simp only [Nat.zero_add] at hs ⊢
      rw [k0, k1, k2, k3]
      generalize byteL (frL s) 0 = f0 at *
      generalize byteL (frL s) 1 = f1 at *
      generalize byteL (frL s) 2 = f2 at *
      generalize byteL (frL s) 3 = f3 at *
      constructor
      · split <;> split <;> split <;> split <;> omega
      · split <;> split <;> split <;> split <;> omega
    have hb : bAt (ofL (A ++ T)) (A.length + 8 + rdL T 0) = 0 := by
      rw [bAt_ofL, Nat.add_assoc, byteL_behind]
      unfold byteL
      rw [g4 (8 + rdL T 0) hd.2 (by omega) (by omega)]
      rfl
    rw [hb, if_neg (fun x => absurd x.1 (by decide))]
  · rw [if_neg hc]
/-- All frames one behind the other. -/
def catL (R : List ByteArray) : List UInt8 := R.flatMap frL
theorem catL_append (R Q : List ByteArray) : catL (R ++ Q) = catL R ++ catL Q := by unfold catL; rw [List.flatMap_append]
theorem catL_one (s : ByteArray) : catL [s] = frL s := by unfold catL; simp
theorem catL_cons (s : ByteArray) (R : List ByteArray) : catL (s :: R) = frL s ++ catL R := rfl
theorem chain_cat : ∀ (n : Nat) (R : List ByteArray) (T : List UInt8), R.length = n → shortR R → Chain (ofL (catL R ++ T)) R (catL R).length := by
  intro n
  induction n with
  | zero =>
    intro R T h _
    rw [List.length_eq_zero_iff.1 h]
    exact Chain.start
  | succ n ih =>
    intro R T h hs
    rcases List.eq_nil_or_concat R with e | ⟨Q, s, e⟩
    · rw [e] at h; simp at h
    · rw [List.concat_eq_append] at e
      subst e
      have h1 := ih Q (frL s ++ T) (by simpa using h) (fun r hr => hs r (List.mem_append_left _ hr))
      have hs1 := hs s (List.mem_append_right _ (List.mem_singleton.2 rfl))
      rw [catL_append, catL_one, List.append_assoc, List.length_append, frL_length, show (catL Q).length + (s.size + 9) = (catL Q).length + 9 + s.size by omega]
      exact h1.next (one_frame (catL Q) T s hs1)
theorem scan_cat {R : List ByteArray} {T : List UInt8} (hR : shortR R) (hT : T = [] ∨ ∃ s : ByteArray, s.size ≤ 131072 ∧ Gap (frL s) T) : scanL (ofL (catL R ++ T)) = (R, (catL R).length) := by
  refine (chain_cat R.length R T rfl hR).scan ?_
  rcases hT with rfl | ⟨s, h1, h2⟩
  · refine oneAt_end ?_
    rw [ofL_size, List.append_nil]
    omega
  · exact one_gap (catL R) T s h1 h2
end Go.Proofs.Ytkecjopojnllnaa
