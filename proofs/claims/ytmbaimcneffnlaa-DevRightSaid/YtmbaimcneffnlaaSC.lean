/- DevSectors, the given statement: what was written to a sector comes back from it, and other sectors stay: for every input, with no condition. -/
import Derived.Test.YtmbaimcneffnlaaSB
import Derived.Test.YtmbaimcneffnlaaPA
namespace Go.Proofs.Ytmbaimcneffnlaa
open Go.RowKit Go.Deep Go.Joins
theorem acted_congr {W : World} {r r' : Bd} {F : List ByteArray} {E : Int} {D : List UInt8} {M : List Int} {s : ByteArray} {ok : Bool} {e : Ending} {W' : World} (h : Acted W r F E D M s ok e W') (hr : ∀ q m d, r.at q m d = r'.at q m d) : Acted W r' F E D M s ok e W' := by
  obtain ⟨p, c, dv, mv, he, k⟩ := h
  exact ⟨p, c, dv, mv, by rw [he, hr], k⟩
theorem putD_length (D : List UInt8) (t : Int) (s : ByteArray) : (putD D t s).length = D.length := by
  unfold putD
  split
  · next h => exact spl_length D _ s (by have := there_iff.1 h.2; omega)
  · rfl
theorem textE64 (n : Nat) (t : Int) (s : ByteArray) (hs : s.size = 64) : (textE n t 64 != 0) = !putB n t s := by
  unfold textE putB
  rw [hs]
  cases h : thereB n t ((64 : Nat) : Int) with
  | true => simp
  | false => simp
theorem textS_put (D : List UInt8) (t : Int) (s : ByteArray) (hs : s.size = 64) (h : putB D.length t s = true) : textS (putD D t s) t 64 = s := by
  have ht : thereB D.length t s.size = true := by
    unfold putB at h
    rw [hs] at h ⊢
    simpa using h
  have ht2 : thereB (putD D t s).length t 64 = true := by rw [putD_length]; rw [hs] at ht; exact ht
  unfold textS
  rw [if_pos ⟨by decide, ht2⟩]
  unfold putD
  rw [if_pos ⟨by omega, ht⟩]
  have k := there_iff.1 ht
  have e := text_spl D (t - 2147483648).toNat s (by omega)
  rw [hs] at e
  exact e
theorem text64 (D : List UInt8) (t : Int) (h : textE D.length t 64 = 0) : (textS D t 64).size = 64 := by
  unfold textE at h
  by_cases h1 : (64 : Int) = 0 ∨ thereB D.length t 64 = true
  · have h2 : thereB D.length t 64 = true := by rcases h1 with h | h; (cases h); exact h
    unfold textS
    rw [if_pos ⟨by decide, h2⟩]
    have k := there_iff.1 h2
    show (((D.drop (t - 2147483648).toNat).take (64 : Int).toNat)).toArray.size = 64
    rw [List.size_toArray, List.length_take, List.length_drop]
    have : (64 : Int).toNat = 64 := rfl
    omega
  · rw [if_neg h1] at h
    cases h
theorem sectors_any (b : Bd) (F : List ByteArray) (p1 q1 : Option Addr) (c1 d1 : Nat) (E sec fr tt : Int) (D : List UInt8) (M : List Int) (W : World) (hf : FAt W (.slice b.fp b.fn b.fc) F) (hd : DAt W (.slice p1 D.length c1) D) (hm : MAt W (.slice q1 M.length d1) M) (hF : F.length ≤ 8796093022208) (hD : D.length ≤ 140737488351232) (hM : M.length ≤ 17592186043904) (us : U64 sec) (uf : U64 fr) (ut : U64 tt) :
    Calls Try.prog 6 #[bdV b, .agg (ramC (.slice p1 D.length c1) (.slice q1 M.length d1) E), .int .u64 sec, .int .u64 fr, .int .u64 tt] W fun e W' => e = .returned (.bool true) ∧ Below W.heap.size W W' := by
  cases hr : rightB b F with
  | false => exact sec_wrong b p1 q1 c1 d1 E sec fr tt D M W (Lib.hid fun W' h => hr ▸ right_any b F W' (hf.next h))
  | true =>
    have c8 := Lib.hid (fun W' (h : Below W.heap.size W W') => hr ▸ right_any b F W' (hf.next h))
    have c24 : RowKit.Hid (∀ W', Below W.heap.size W W' → Calls Try.prog 24 #[.agg (ramC (.slice p1 D.length c1) (.slice q1 M.length d1) E)] W' fun e W'' => e = .returned (.int .i64 (chkV D.length M E)) ∧ Below W'.heap.size W' W'') := Lib.hid fun W' h => rcheck_any p1 D.length c1 (.slice q1 M.length d1) E M W' (hm.below h)
    by_cases hk : chkV D.length M E = 0
    · rw [hk] at c24
      have hb : hasB b = true := by
        unfold rightB at hr
        simp only [Bool.and_eq_true] at hr
        exact hr.1.1.1
      have hs1 : b.sec.size = 1024 := by unfold hasB at hb; have := eq_of_beq hb; omega
      obtain ⟨s, rfl⟩ := Int.eq_ofNat_of_zero_le us.1
      have hn : (s : Int).tmod 16 = ((s % 16 : Nat) : Int) := by
        rw [Int.tmod_eq_emod_of_nonneg (by omega)]
        omega
      have h16 : s % 16 < 16 := Nat.mod_lt _ (by decide)
      generalize s % 16 = n at hn h16
      have c25 : RowKit.Hid (∀ W', Below W.heap.size W W' → Calls Try.prog 25 #[.agg (ramC (.slice p1 D.length c1) (.slice q1 M.length d1) E), .int .u64 fr, .int .i64 64] W' fun e W'' => e = .returned (.tuple #[.string (textS D fr 64), .int .i64 (textE D.length fr 64)]) ∧ Below W'.heap.size W' W'') := Lib.hid fun W' h => rtext_all (.slice p1 D.length c1) D (.slice q1 M.length d1) (.int .u64 E) fr 64 W' (hd.below h) uf.1 uf.2 (by omega) (by omega)
      by_cases he : textE D.length fr 64 = 0
      · have htz := text64 D fr he
        have hx : ∀ {k : Nat}, k ≤ b.sec.size → (b.sec.extract 0 k).size = k := fun h => by simp; omega
        let b1 : Bd := { b with sector := n, addr := fr }
        let xb : Bd := { b1 with done := true, bad := false, sec := (b.sec.extract 0 (64 * n) ++ textS D fr 64) ++ b.sec.extract (64 * n + 64) b.sec.size }
        let xa : Bd := { xb with addr := tt }
        have hst : xb.sec.size = b.sec.size := by
          show ((b.sec.extract 0 (64 * n) ++ textS D fr 64) ++ b.sec.extract (64 * n + 64) b.sec.size).size = _
          rw [ByteArray.size_append, ByteArray.size_append, hx (by omega), htz]
          simp
          omega
        have hse : secS xa n = textS D fr 64 := ext_mid _ _ _ _ _ (hx (by omega)) (by rw [htz])
        have hbx : hasB xa = true := by
          show ((xb.sec.size : Int) == 1024) = true
          rw [hst, hs1]
          rfl
        refine sec_some b F p1 q1 c1 d1 E s fr tt D M (putD D tt (textS D fr 64)) (putM D.length M E tt (textS D fr 64)) W n (textE D.length fr 64) (textE (putD D tt (textS D fr 64)).length tt 64) (64 * n) (64 * n + 64) (textS D fr 64) (textS (putD D tt (textS D fr 64)) tt 64) (b.sec.extract 0 (64 * n)) (b.sec.extract (64 * n + 64) b.sec.size) xb { xa with done := true, bad := !putB D.length tt (textS D fr 64) } (!putB D.length tt (textS D fr 64)) he ⟨rfl, rfl, rfl⟩ (by rw [IntKind.wrap_u64]; omega) rfl (by omega) hs1 rfl rfl (hx (by omega)) htz hst c8 c24 hn c25
          (Lib.hid fun W' h => act_write b1 F p1 q1 c1 d1 E ⟨#[]⟩ D M n W' (hf.next h) hF (hd.below h) (hm.below h) hD hM uf rfl h16 hb he)
          (Lib.hid fun W' p c h k => ?_) (Lib.hid fun W' p c q d h => rtext_all (.slice p _ c) _ (.slice q _ d) (.int .u64 E) tt 64 W' h ut.1 ut.2 (by omega) (by omega)) ⟨rfl, rfl⟩ ?_ ?_
        · have a := act_read (xa.at p F.length c) F p1 q1 c1 d1 E ⟨#[]⟩ D M n W' h hF (hd.below k) (hm.below k) hD hM ut rfl h16 hbx
          rw [show secS (xa.at p F.length c) n = textS D fr 64 from hse] at a
          exact a.mono fun _ _ h => acted_congr h fun _ _ _ => rfl
        · rw [putD_length]
          exact textE64 D.length tt _ htz
        · intro h
          exact textS_put D tt _ htz (by simpa using h)
      · exact sec_none b F p1 q1 c1 d1 E s fr tt D M W n (textE D.length fr 64) (textS D fr 64) { ({ b with sector := n, addr := fr } : Bd) with done := true, bad := true } (by rw [bne_iff_ne]; exact he) ⟨rfl, rfl, rfl⟩ c8 c24 hn c25
          (Lib.hid fun W' h => act_wbad2 ({ b with sector := n, addr := fr } : Bd) F p1 q1 c1 d1 E ⟨#[]⟩ D M n W' (hf.next h) hF (hd.below h) (hm.below h) hD hM uf rfl h16 he)
    · exact sec_bad b p1 q1 c1 d1 E sec fr tt D M W (chkV D.length M E) (by rw [bne_iff_ne]; exact hk) c8 c24
open Go.WideShapes Go.ChangeShapes Go.ChangeAt
set_option maxRecDepth 100000 in
theorem devSectors_lifted (os : Os) (started : os.Started) (H : Type) (enc : TypeId × Value → H) :
    ReturnsInHanded {} Try.checked os 6 .any (Rows.devSectorsSpec.pre6 enc Try.prog Try.f6 Rows.devSectorsRow.domain false) (Rows.devSectorsSpec.post enc Try.prog Try.f6 false true false false) := by
  refine returnsInHanded_of_change_sized (C := Try.checked) own started (by kernel_rfl) Try.func6
    (ChangeSpec.witness6 (enc := enc) (C := Try.checked) false ⟨#[], #[.agg #[.bool false, .int .u64 0, .string ⟨#[]⟩, .bool false, .string ⟨#[]⟩, .int .u64 0, .int .u64 0, .bool false, .bool false, .slice none 0 0, .int .u64 0, .int .u64 0, .int .u32 0, .int .u32 0, .int .u32 0, .int .u32 0, .int .u32 0, .int .u32 0, .int .u32 0, .int .u32 0, .int .u32 0], .agg #[.slice none 0 0, .slice none 0 0, .int .u64 0], .int .u64 0, .int .u64 0, .int .u64 0], []⟩ 8 (by kernel_rfl) (by kernel_rfl) (by kernel_rfl) (by kernel_rfl)) ?_
  intro W base args ds gs before hval0 hW hcnd hsz _
  have hW' := hW
  obtain ⟨p, q, hA0, hV, rfl, hfz, hnd⟩ := hW
  have hval : ∀ (j : Nat) t v, Try.f6.params[j]? = some t → args[j]? = some v → Value.okWide Try.prog W .any base t v := hval0
  have hA : DataW.TrodAll enc Try.prog W 0 (fun _ => true) true Try.f6.params.toList args.toList ds p := hA0
  rw [Try.params6] at hA hval
  obtain ⟨v0, v1, v2, v3, v4, d0, d1, d2, d3, d4, p0, p1, p2, p3, p4, rfl, rfl, rfl, h0, h1, h2, h3, h4⟩ := trodAll_five hA
  obtain ⟨rfl, rfl⟩ := trodVars_none hV
  have hlt : ∀ x ∈ p0 ++ p1, x.block < W.heap.size := fun x hx => hW'.lt x (by rcases List.mem_append.1 hx with h | h <;> simp [h])
  obtain ⟨b, F, rfl, hf, _, ok, hwt⟩ := open_board (hval 0 30 v0 rfl rfl) h0
  have hN : ∀ x ∈ d0.weights Try.prog 30, x ≤ 140737488351232 := fun x hx => by
    have := List.all_eq_true.1 hsz x (by
      show x ∈ DataW.weightsEach Try.prog (Try.f6.params.toList ++ _) _
      rw [Try.params6]
      simp [DataW.weightsEach, hx])
    exact of_decide_eq_true this
  have hFl := hwt _ hN
  obtain ⟨dv, mv, E, D, M, hr, hwt2⟩ := open_ram (hval 1 49 v1 rfl rfl) h1
  have hN2 : ∀ x ∈ d1.weights Try.prog 49, x ≤ 140737488351232 := fun x hx => by
    have := List.all_eq_true.1 hsz x (by
      show x ∈ DataW.weightsEach Try.prog (Try.f6.params.toList ++ _) _
      rw [Try.params6]
      simp [DataW.weightsEach, hx])
    exact of_decide_eq_true this
  obtain ⟨hD, hM⟩ := hwt2 _ hN2
  obtain rfl := hr.is
  have hdd := hr.d
  have hmm := hr.m
  obtain ⟨q1, c1, rfl⟩ := hdd.is
  obtain ⟨q2, c2, rfl⟩ := hmm.is
  obtain ⟨n2, rfl, rfl, rfl, w2⟩ := open_int Try.underlying22 (hval 2 22 v2 rfl rfl) h2
  obtain ⟨n3, rfl, rfl, rfl, w3⟩ := open_int Try.underlying22 (hval 3 22 v3 rfl rfl) h3
  obtain ⟨n4, rfl, rfl, rfl, w4⟩ := open_int Try.underlying22 (hval 4 22 v4 rfl rfl) h4
  simp only [List.append_nil] at hW'
  refine (sectors_any b F q1 q2 c1 c2 E n2 n3 n4 D M W hf hdd hmm (by omega) hD (by omega) (bounds_u64 w2) (bounds_u64 w3) (bounds_u64 w4)).mono fun e W' ⟨he, hb⟩ => ?_
  subst he
  refine ⟨_, rfl, _, _, _, [], p0 ++ (p1 ++ ([] ++ ([] ++ ([])))), [], hW', trodAll_mk1 (shut_bool Try.underlying4 _), trodAll_mk5 (Below.trod laidOut (by kernel_rfl) (of_decide_eq_true (by kernel_rfl)) h0 hb fun x hx => hlt x (by simp [hx])) (Below.trod laidOut (by kernel_rfl) (of_decide_eq_true (by kernel_rfl)) h1 hb fun x hx => hlt x (by simp [hx])) (shut_int Try.underlying22 w2) (shut_int Try.underlying22 w3) (shut_int Try.underlying22 w4), rfl, hb.frame _, fun h => by cases h⟩
/-- The given statement. -/
theorem devSectors_proved : Rows.DevSectorsSaid :=
  OpenClaim.holds_of_wide 6 Try.f6 rfl rfl rfl rfl rfl rfl rfl ⟨rfl, rfl, rfl, rfl, rfl⟩ rfl rfl rfl rfl rfl (by kernel_rfl) Try.func6 (by kernel_rfl)
    (of_decide_eq_true (by kernel_rfl)) (by unfold Func.isWrapper; first | (rw [if_pos (by decide +kernel)]; kernel_rfl) | (rw [if_neg (by decide +kernel)]; exact ⟨rfl, rfl⟩))
    (fun os started H enc _ => devSectors_lifted os started H enc)

end Go.Proofs.Ytmbaimcneffnlaa
