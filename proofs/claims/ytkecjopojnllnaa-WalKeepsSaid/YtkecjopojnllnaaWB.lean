/- What a crash leaves of a segment: whole frames, and a gap behind them (plain). -/
import Derived.Test.YtkecjopojnllnaaWA
namespace Go.Proofs.Ytkecjopojnllnaa
open Go.RowKit Go.Deep Go.Joins

/-- The open writes of frames, one behind the other from a place on. -/
def putsF : Nat → List ByteArray → List Wr
  | _, [] => []
  | e, s :: U => ⟨(e : Int), frameB s⟩ :: putsF (e + (frL s).length) U
theorem laid_end (L : List UInt8) (x : Wr) (hw : wk x = true) (h : L.length ≤ x.pos.toNat) : laidL L x = L ++ (List.replicate (x.pos.toNat - L.length) 0 ++ x.bytes.data.toList) := by
  unfold laidL
  rw [if_pos hw]
  unfold spliceB splice padTo
  have hl := len_eq x.bytes
  rw [hl, List.take_append, List.take_of_length_le h, List.take_replicate, List.drop_eq_nil_of_le (by rw [List.length_append, List.length_replicate]; omega), List.append_nil, List.append_assoc]
  congr 3
  omega
theorem wkPut (e : Nat) (s : ByteArray) (he : e ≤ 1048576) (hs : 0 < s.size) : wk ⟨(e : Int), s⟩ = true := by
  unfold wk worksB
  have : s.toList.isEmpty = false := by
    rw [ByteArray.toList_eq, List.isEmpty_eq_false_iff]
    intro h
    have := len_eq s
    rw [h] at this
    simp at this
    omega
  rw [this]
  simp
  omega
theorem wkNone (e : Int) (s : ByteArray) (hs : s.size = 0) : wk ⟨e, s⟩ = false := by
  unfold wk worksB
  have : s.toList.isEmpty = true := by
    rw [ByteArray.toList_eq, List.isEmpty_iff]
    exact List.eq_nil_of_length_eq_zero (by rw [len_eq]; exact hs)
  rw [this]
  rfl
theorem laidL_idle (L : List UInt8) (x : Wr) (h : wk x = false) : laidL L x = L := by
  unfold laidL
  rw [h]
  rfl
theorem fold_list (l : List Wr) : ∀ s : ByteArray, (l.foldl laidB s).data.toList = l.foldl laidL s.data.toList := by
  induction l with
  | nil => intro s; rfl
  | cons x l ih => intro s; exact ih (laidB s x)
theorem layB_ofL (L : List UInt8) (l : List Wr) : layB (ofL L) l = ofL (l.foldl laidL L) := by
  refine ba_inj ?_
  rw [layB_fold, fold_list, ofL_list, ofL_list]
theorem puts_end (L : List UInt8) (U : List ByteArray) : L.length + (catL U).length ≤ 1048576 → (putsF L.length U).foldl laidL L = L ++ catL U := by
  induction U generalizing L with
  | nil => intro _; simp [putsF, catL]
  | cons s U ih =>
    intro h
    rw [catL_cons, List.length_append] at h
    have hz : (frameB s).data.toList = frL s := rfl
    have h1 : laidL L ⟨(L.length : Int), frameB s⟩ = L ++ frL s := by
      rw [laid_end L _ (wkPut _ _ (by omega) (by rw [frameB_size]; omega)) (by simp)]
      simp [hz]
    show (putsF (L.length + (frL s).length) U).foldl laidL (laidL L ⟨(L.length : Int), frameB s⟩) = _
    rw [h1, ← List.length_append, ih _ (by rw [List.length_append]; omega), catL_cons, List.append_assoc]
theorem cut_frame (nb : Int) (s : ByteArray) : ∃ c, c ≤ (frL s).length ∧ (cutTo nb (frameB s)).data.toList = (frL s).take c ∧ (cutTo nb (frameB s)).size = c := by
  have hl := frL_length s
  have hz := frameB_size s
  obtain ⟨c, hc, hcl⟩ : ∃ c, cutTo nb (frameB s) = (frameB s).extract 0 c ∧ c ≤ (frameB s).size := by
    unfold cutTo
    refine ⟨_, rfl, ?_⟩
    split <;> split <;> omega
  refine ⟨c, by omega, ?_, ?_⟩
  · rw [hc, ByteArray.data_extract, Array.toList_extract, List.extract_eq_take_drop, List.drop_zero, Nat.sub_zero]
    rfl
  · rw [hc, ByteArray.size_extract]
    omega
theorem gap_nil {F : List UInt8} (h : 0 < F.length) : Gap F [] := ⟨0, h, Nat.zero_le _, by simp, fun i _ _ hi => absurd hi (by simp)⟩
theorem gap_part {F : List UInt8} {c : Nat} (h : c < F.length) : Gap F (F.take c) :=
  ⟨c, h, by rw [List.length_take]; omega, by rw [List.take_take, Nat.min_self], fun i h1 _ h3 => by rw [List.length_take] at h3; omega⟩
theorem gap_more {F T B : List UInt8} {k : Nat} (h : Gap F T) (hk : F.length ≤ T.length + k) : Gap F (T ++ (List.replicate k 0 ++ B)) := by
  obtain ⟨n, g1, g2, g3, g4⟩ := h
  refine ⟨n, g1, by rw [List.length_append]; omega, by rw [List.take_append_of_le_length g2]; exact g3, fun i h1 h2 _ => ?_⟩
  rcases Nat.lt_or_ge i T.length with h5 | h5
  · rw [List.getElem?_append_left h5]
    exact g4 i h1 h2 h5
  · rw [List.getElem?_append_right h5, List.getElem?_append_left (by rw [List.length_replicate]; omega), List.getElem?_replicate, if_pos (by omega)]
/-- Behind a gap nothing tells any more. -/
theorem gap_rest (whole : List Bool) (torn nb : Int) (L F : List UInt8) : ∀ (U : List ByteArray) (i e : Nat) (T : List UInt8), Gap F T → L.length + F.length ≤ e → L.length + T.length ≤ e → e + (catL U).length ≤ 1048576 →
    ∃ T', (surv whole torn nb i (putsF e U)).foldl laidL (L ++ T) = L ++ T' ∧ Gap F T' := by
  intro U
  induction U with
  | nil => exact fun i e T h _ _ _ => ⟨T, rfl, h⟩
  | cons s U ih =>
    intro i e T h h1 h2 h3
    rw [catL_cons, List.length_append] at h3
    have hl := frL_length s
    have put : ∀ x : Wr, x.pos = (e : Int) → (x.bytes.size ≤ (frL s).length) → ∃ T', laidL (L ++ T) x = L ++ T' ∧ Gap F T' ∧ L.length + T'.length ≤ e + (frL s).length := fun x hx hb => by
      rcases Nat.eq_zero_or_pos x.bytes.size with h0 | h0
      · have hx0 : wk x = false := by
          obtain ⟨pos, bytes⟩ := x
          exact wkNone _ _ h0
        exact ⟨T, laidL_idle _ _ hx0, h, by omega⟩
      · obtain ⟨pos, bytes⟩ := x
        dsimp only at hx h0 hb
        subst hx
        refine ⟨T ++ (List.replicate (e - (L.length + T.length)) 0 ++ bytes.data.toList), ?_, gap_more h (by omega), ?_⟩
        · rw [laid_end _ _ (wkPut _ _ (by omega) h0) (by rw [List.length_append]; simpa using h2)]
          simp [List.append_assoc]
        · rw [List.length_append, List.length_append, List.length_replicate, len_eq]; omega
    show ∃ T', (surv whole torn nb i (⟨(e : Int), frameB s⟩ :: putsF (e + (frL s).length) U)).foldl laidL (L ++ T) = L ++ T' ∧ Gap F T'
    rw [surv_cons]
    split
    · obtain ⟨c, c1, _, c3⟩ := cut_frame nb s
      obtain ⟨T', p1, p2, _⟩ := put ⟨(e : Int), cutTo nb (frameB s)⟩ rfl (by show (cutTo nb (frameB s)).size ≤ _; omega)
      exact ⟨T', p1, p2⟩
    · split
      · obtain ⟨T', p1, p2, p3⟩ := put ⟨(e : Int), frameB s⟩ rfl (by show (frameB s).size ≤ _; rw [frameB_size]; omega)
        obtain ⟨T'', q1, q2⟩ := ih (i + 1) (e + (frL s).length) T' p2 (by omega) p3 (by omega)
        refine ⟨T'', ?_, q2⟩
        rw [List.foldl_cons, p1, q1]
      · exact ih (i + 1) (e + (frL s).length) T h (by omega) (by omega) (by omega)
/-- A beginning of the frames is whole, and a gap stands behind it, or nothing. -/
def Begun (L : List UInt8) (U : List ByteArray) (B : List UInt8) : Prop := ∃ j T, B = L ++ (catL (U.take j) ++ T) ∧ ((j = U.length ∧ T = []) ∨ ∃ h : j < U.length, Gap (frL U[j]) T)
theorem begun_none (L : List UInt8) (U : List ByteArray) : Begun L U L := by
  cases U with
  | nil => exact ⟨0, [], by simp [catL], .inl ⟨rfl, rfl⟩⟩
  | cons s U => exact ⟨0, [], by simp [catL], .inr ⟨by simp, gap_nil (by show 0 < (frL s).length; rw [frL_length]; omega)⟩⟩
theorem begun_cons {L B : List UInt8} {s : ByteArray} {U : List ByteArray} (h : Begun (L ++ frL s) U B) : Begun L (s :: U) B := by
  obtain ⟨j, T, h1, h2⟩ := h
  refine ⟨j + 1, T, by rw [h1, List.take_succ_cons, catL_cons]; simp only [List.append_assoc], ?_⟩
  rcases h2 with ⟨h3, h4⟩ | ⟨h3, h4⟩
  · exact .inl ⟨by rw [h3]; rfl, h4⟩
  · exact .inr ⟨by simpa using h3, h4⟩
theorem crash_begun (whole : List Bool) (torn nb : Int) : ∀ (U : List ByteArray) (i : Nat) (L : List UInt8), L.length + (catL U).length ≤ 1048576 → Begun L U ((surv whole torn nb i (putsF L.length U)).foldl laidL L) := by
  intro U
  induction U with
  | nil => exact fun i L _ => begun_none L []
  | cons s U ih =>
    intro i L h
    rw [catL_cons, List.length_append] at h
    have hl := frL_length s
    have hz : (frameB s).data.toList = frL s := rfl
    have h1 : laidL L ⟨(L.length : Int), frameB s⟩ = L ++ frL s := by
      rw [laid_end L _ (wkPut _ _ (by omega) (by rw [frameB_size]; omega)) (by simp)]
      simp [hz]
    have gapB : ∀ T B, Gap (frL s) T → B = L ++ T → Begun L (s :: U) B := fun T B hg hB => ⟨0, T, by rw [hB]; simp [catL], .inr ⟨by simp, hg⟩⟩
    show Begun L (s :: U) ((surv whole torn nb i (⟨(L.length : Int), frameB s⟩ :: putsF (L.length + (frL s).length) U)).foldl laidL L)
    rw [surv_cons]
    split
    · obtain ⟨c, c1, c2, c3⟩ := cut_frame nb s
      show Begun L (s :: U) (laidL L ⟨(L.length : Int), cutTo nb (frameB s)⟩)
      rcases Nat.eq_zero_or_pos c with h0 | h0
      · rw [laidL_idle _ _ (wkNone _ _ (by omega))]
        exact gapB [] L (gap_nil (by omega)) (by simp)
      · have h2 : laidL L ⟨(L.length : Int), cutTo nb (frameB s)⟩ = L ++ (frL s).take c := by
          rw [laid_end L _ (wkPut _ _ (by omega) (by omega)) (by simp)]
          simp [c2]
        rw [h2]
        rcases Nat.lt_or_ge c (frL s).length with h3 | h3
        · exact gapB _ _ (gap_part h3) rfl
        · rw [List.take_of_length_le h3]
          exact begun_cons (begun_none (L ++ frL s) U)
    · split
      · rw [List.foldl_cons, h1, ← List.length_append]
        exact begun_cons (ih (i + 1) _ (by rw [List.length_append]; omega))
      · have := gap_rest whole torn nb L (frL s) U (i + 1) (L.length + (frL s).length) [] (gap_nil (by omega)) (Nat.le_refl _) (by simp) (by omega)
        obtain ⟨T', t1, t2⟩ := this
        rw [List.append_nil] at t1
        exact gapB T' _ t2 t1
end Go.Proofs.Ytkecjopojnllnaa
