/- Arguments opened. ImageUnlike, the given statement: machines that differ in a register or in a byte of memory have unlike bytes, and marks, epoch and records do not show in them: for every input, with no condition. -/
import Derived.Test.YtgflnfmnjlmenaaYOD
import Derived.Test.YtgflnfmnjlmenaaYQR
import Derived.Test.YtgflnfmnjlmenaaRows
import Derived.SizedLaws
import Derived.Carry
import Derived.ChangeMaps5
namespace Go.Proofs.Ytgflnfmnjlmenaa
set_option maxRecDepth 100000
open Go.RowKit Go.Deep Go.Joins Go.WideShapes Go.ChangeShapes Go.ChangeAt
theorem cells52 : Try.prog.cellsOf 52 = 3 := by kernel_rfl
theorem bytes52 : Try.prog.bytesOf 52 = 32 := by kernel_rfl
theorem list_of {P : Nat → Rec → Prop} : ∀ n, (∀ i, i < n → ∃ r, P i r) → ∃ O : List Rec, O.length = n ∧ ∀ i (h : i < O.length), P i O[i]
  | 0, _ => ⟨[], rfl, fun i h => by cases h⟩
  | n + 1, h => by
    obtain ⟨O, hl, hO⟩ := list_of n fun i hi => h i (by omega)
    obtain ⟨r, hr⟩ := h n (by omega)
    refine ⟨O ++ [r], by simp [hl], fun i hi => ?_⟩
    by_cases e : i < O.length
    · rw [List.getElem_append_left e]; exact hO i e
    · have : i = n := by simp at hi; omega
      subst this
      rw [List.getElem_append_right (by omega)]
      simpa using hr
section
variable {H : Type} {enc : TypeId × Value → H} {w : World} {base : Nat} {spare : Nat → Bool} {held : Bool}
theorem open_rec {n : Nat} {cs : List Value} {y : DataW H × List MemPlace} (h : DataW.trod enc Try.prog w base spare held n 52 cs = some y) : ∃ r : Rec, cs = rcL r := by
  obtain ⟨xs, m, _, _, hlen, hxs, hg⟩ := DataW.trod_struct Try.underlying52 h
  rw [cells52] at hlen
  match cs, hlen, xs, hxs with
  | [c0, c1, c2], _, [y0, y1, y2], _ =>
    have g0 : DataW.trod enc Try.prog w base spare held m 22 (([c0, c1, c2].drop 0).take (Try.prog.cellsOf 22)) = some y0 := hg 0 _ rfl
    have g1 : DataW.trod enc Try.prog w base spare held m 3 (([c0, c1, c2].drop 1).take (Try.prog.cellsOf 3)) = some y1 := hg 1 _ rfl
    have g2 : DataW.trod enc Try.prog w base spare held m 9 (([c0, c1, c2].drop 2).take (Try.prog.cellsOf 9)) = some y2 := hg 2 _ rfl
    rw [cells22] at g0
    rw [cells3] at g1
    rw [cells9] at g2
    obtain ⟨k0, e0, _⟩ := open_u64 g0
    obtain ⟨k1, e1, _, _⟩ := DataW.trod_int Try.underlying3 g1
    obtain ⟨k2, e2, _, _⟩ := DataW.trod_string Try.underlying9 g2
    simp at e0 e1 e2
    exact ⟨(k0, k1, k2), by rw [e0, e1, e2]; rfl⟩
theorem open_recs {fuel : Nat} {c : Value} {x : DataW H × List MemPlace} (h : DataW.trod enc Try.prog w base spare held fuel 40 [c] = some x) :
    ∃ O : List Rec, Reads w c 3 O.length (oC O) ∧ ∀ N, (∀ k ∈ x.1.weights Try.prog 40, k ≤ N) → O.length * 32 ≤ N := by
  rcases DataW.trod_slice Try.underlying40 h with ⟨hcs, rfl⟩ | ⟨a, len, cap, elems, rest, n, _, hcs, rfl, hb, hl, hm, hlen, hel, hsp, hns⟩
  · simp only [List.cons.injEq, and_true] at hcs
    subst hcs
    exact ⟨[], ⟨rfl, .inl ⟨rfl, rfl⟩⟩, fun N _ => Nat.zero_le _⟩
  · simp only [List.cons.injEq, and_true] at hcs
    subst hcs
    obtain ⟨O, hO, hP⟩ := list_of (P := fun i r => ∀ j v, (rcL r)[j]? = some v → w.cell? ((a.add (i * 3)).add j) = some v) len fun i hi => by
      have k := hel i hi
      rw [List.getElem?_eq_getElem (by omega), Option.bind_eq_some_iff, cells52] at k
      obtain ⟨cs', h1, h2⟩ := k
      obtain ⟨r, rfl⟩ := open_rec h2
      exact ⟨r, fun j v hj => by
        have k2 := World.cells?_some h1
        exact (k2.2.2 j (by have := (List.getElem?_eq_some_iff.1 hj).1; simpa [rcL] using this)).trans hj⟩
    refine ⟨O, ⟨oC_length O, .inr ⟨a, cap, by rw [hO], by rw [hO]; exact hl, hm, fun j u hu => ?_⟩⟩, fun N hN => ?_⟩
    · have hj : j < O.length * 3 := by have := (List.getElem?_eq_some_iff.1 hu).1; rwa [oC_length] at this
      have hk : j / 3 < O.length := by omega
      have hu' : (rcL O[j / 3])[j % 3]? = some u := by rw [← oC_get O (j / 3) hk (j % 3) (by omega), show 3 * (j / 3) + j % 3 = j by omega]; exact hu
      have := hP (j / 3) hk (j % 3) u hu'
      rwa [Addr.add_add, show j / 3 * 3 + j % 3 = j by omega] at this
    · have := hN _ (by simp only [DataW.weights, Try.underlying40, List.mem_cons]; exact .inl rfl)
      rw [bytes52] at this
      simp at this
      omega
theorem cells36 : Try.prog.cellsOf 36 = 1 := by kernel_rfl
theorem cells37 : Try.prog.cellsOf 37 = 1 := by kernel_rfl
theorem cells40 : Try.prog.cellsOf 40 = 1 := by kernel_rfl
theorem cells42 : Try.prog.cellsOf 42 = 79 := by kernel_rfl
theorem open_ramc {fuel : Nat} {cs : List Value} {y : DataW H × List MemPlace} (h : DataW.trod enc Try.prog w base spare held fuel 39 cs = some y) : ∃ dv mv E D M, cs = [dv, mv, .int .u64 E] ∧ U64 E ∧ DAt w dv D ∧ MAt w mv M ∧ ∀ N, (∀ k ∈ y.1.weights Try.prog 39, k ≤ N) → D.length ≤ N ∧ M.length * 8 ≤ N := by
  obtain ⟨xs, m, _, hd, hlen, hxs, hg⟩ := DataW.trod_struct Try.underlying39 h
  rw [cells39] at hlen
  subst hd
  match cs, hlen, xs, hxs with
  | [c0, c1, c2], _, [y0, y1, y2], _ =>
    have g0 : DataW.trod enc Try.prog w base spare held m 36 (([c0, c1, c2].drop 0).take (Try.prog.cellsOf 36)) = some y0 := hg 0 _ rfl
    have g1 : DataW.trod enc Try.prog w base spare held m 37 (([c0, c1, c2].drop 1).take (Try.prog.cellsOf 37)) = some y1 := hg 1 _ rfl
    have g2 : DataW.trod enc Try.prog w base spare held m 22 (([c0, c1, c2].drop 2).take (Try.prog.cellsOf 22)) = some y2 := hg 2 _ rfl
    rw [cells36] at g0
    rw [cells37] at g1
    rw [cells22] at g2
    obtain ⟨D, hD, wD⟩ := open_d (c := c0) g0
    obtain ⟨M, hM, _, wM⟩ := open_m (c := c1) g1
    obtain ⟨E, e2, okE⟩ := open_u64 g2
    simp at e2
    refine ⟨c0, c1, E, D, M, by rw [e2], okE, hD, hM, fun N hN => ⟨wD N fun k hk => hN k ?_, wM N fun k hk => hN k ?_⟩⟩
    · simp [DataW.weights, Try.underlying39, DataW.weightsEach, hk]
    · simp [DataW.weights, Try.underlying39, DataW.weightsEach, hk]
theorem open_machine {r : Reach} {b0 : Nat} {v : Value} {d : DataW H} {p : List MemPlace} (hv : Value.okWide Try.prog w r b0 42 v) (h : DataW.Trod enc Try.prog w base spare held 42 v d p) :
    ∃ (m : Mc) (q : Pt), v = mcV m ∧ MR w m q ∧ OkH m.h ∧ U64 m.cnt ∧ U64 m.nxt ∧ OkB m.b ∧ U64 m.E ∧ (∀ s ∈ q.F, s.size ≤ maxLen) ∧ ∀ N, (∀ k ∈ d.weights Try.prog 42, k ≤ N) → q.F.length * 16 ≤ N ∧ q.D.length ≤ N ∧ q.M.length * 8 ≤ N ∧ q.O.length * 32 ≤ N := by
  obtain ⟨cs0, rfl, hsz⟩ := okWide_struct Try.underlying42 hv
  rw [cells42] at hsz
  obtain ⟨fuel, hf⟩ := h
  obtain ⟨xs, n, _, hd, _, hlen, hg⟩ := DataW.trod_struct Try.underlying42 hf
  obtain ⟨rfl, rfl⟩ := Prod.mk.inj hd
  have hcs : (Value.agg cs0).cells.toList = cs0.toList := rfl
  obtain ⟨cs, hc⟩ : ∃ cs, cs = cs0.toList := ⟨_, rfl⟩
  have hl : cs.length = 79 := by rw [hc]; simp [hsz]
  rw [hcs, ← hc] at hg
  match xs, hlen with
  | [y0, y1, y2, y3, y4, y5], _ =>
    have g0 : DataW.trod enc Try.prog w base spare held n 27 ((cs.drop 0).take (Try.prog.cellsOf 27)) = some y0 := hg 0 _ rfl
    have g1 : DataW.trod enc Try.prog w base spare held n 35 ((cs.drop 52).take (Try.prog.cellsOf 35)) = some y1 := hg 1 _ rfl
    have g2 : DataW.trod enc Try.prog w base spare held n 39 ((cs.drop 73).take (Try.prog.cellsOf 39)) = some y2 := hg 2 _ rfl
    have g3 : DataW.trod enc Try.prog w base spare held n 22 ((cs.drop 76).take (Try.prog.cellsOf 22)) = some y3 := hg 3 _ rfl
    have g4 : DataW.trod enc Try.prog w base spare held n 22 ((cs.drop 77).take (Try.prog.cellsOf 22)) = some y4 := hg 4 _ rfl
    have g5 : DataW.trod enc Try.prog w base spare held n 40 ((cs.drop 78).take (Try.prog.cellsOf 40)) = some y5 := hg 5 _ rfl
    obtain ⟨hh, e0, okh⟩ := open_hc g0
    obtain ⟨b, F, e1, hF, hFs, okb, wF⟩ := open_bd g1
    obtain ⟨dv, mv, E, D, M, e2, okE, hD, hM, wR⟩ := open_ramc g2
    obtain ⟨cnt, e3, okc⟩ := open_u64 g3
    obtain ⟨nxt, e4, okn⟩ := open_u64 g4
    have l5 : (cs.drop 78).take (Try.prog.cellsOf 40) = [cs[78]'(by omega)] := by
      rw [cells40, List.drop_eq_getElem_cons (show 78 < cs.length by omega)]
      rfl
    rw [l5] at g5
    obtain ⟨O, hO, wO⟩ := open_recs g5
    rw [cells27] at e0
    rw [cells35] at e1
    rw [cells39] at e2
    rw [cells22] at e3 e4
    rw [cells40] at l5
    refine ⟨⟨hh, b, dv, mv, E, cnt, nxt, cs[78]'(by omega)⟩, ⟨F, D, M, O⟩, ?_, ⟨hF, hD, hM, hO⟩, okh, okc, okn, okb, okE, hFs, fun N hN => ⟨wF N fun k hk => hN k ?_, (wR N fun k hk => hN k ?_).1, (wR N fun k hk => hN k ?_).2, wO N fun k hk => hN k ?_⟩⟩
    · have e : cs = mcL ⟨hh, b, dv, mv, E, cnt, nxt, cs[78]'(by omega)⟩ := by
        have a0 := cut_list cs 0 52
        have a1 := cut_list cs 52 21
        have a2 := cut_list cs 73 3
        have a3 := cut_list cs 76 1
        have a4 := cut_list cs 77 1
        have a5 := cut_list cs 78 1
        have z : cs.drop 79 = [] := List.drop_eq_nil_of_le (by omega)
        rw [show 78 + 1 = 79 from rfl, z, l5] at a5
        rw [show 77 + 1 = 78 from rfl, a5, e4] at a4
        rw [show 76 + 1 = 77 from rfl, a4, e3] at a3
        rw [show 73 + 3 = 76 from rfl, a3, e2] at a2
        rw [show 52 + 21 = 73 from rfl, a2, e1] at a1
        rw [show 0 + 52 = 52 from rfl, a1, e0] at a0
        exact a0
      show Value.agg cs0 = .agg (mcC _)
      unfold mcC
      rw [← e, hc]
    all_goals simp [DataW.weights, Try.underlying42, DataW.weightsEach, hk]
end

end Go.Proofs.Ytgflnfmnjlmenaa
namespace Go.Proofs.Ytgflnfmnjlmenaa
open Go.RowKit Go.Deep Go.Joins Go.WideShapes Go.ChangeShapes Go.ChangeAt
theorem in_of {x : Int} (h : U64 x) : In64 x := ⟨h.1, by have := h.2; omega⟩
theorem in_fl (b : Bool) : In64 (flV b) := by cases b <;> exact ⟨by decide, by decide⟩
theorem in_wrap (x : Int) : In64 (IntKind.u64.wrap x) := wrap_in x
theorem in_proc {h : Hart} (k : OkH h) : ∀ x ∈ procL h, In64 x := by
  obtain ⟨kx, kp, kc, kr⟩ := k
  obtain ⟨u0, u1, u2, u3, u4, u5, u6, u7, u8, u9, u10, u11, u12, u13, u14, u15⟩ := kc
  intro x hx
  unfold procL at hx
  rcases List.mem_append.1 hx with hx | hx
  · exact in_of (kx x hx)
  · unfold procT at hx
    simp only [List.mem_cons, List.not_mem_nil, or_false] at hx
    rcases hx with rfl | rfl | rfl | rfl | rfl | rfl | rfl | rfl | rfl | rfl | rfl | rfl | rfl | rfl | rfl | rfl | rfl | rfl | rfl | rfl <;> first | exact in_wrap _ | exact in_fl _ | (apply in_of; assumption)
theorem in_dev {b : Bd} (k : OkB b) : ∀ x ∈ devL b, In64 x := by
  intro x hx
  unfold devL at hx
  simp only [List.mem_cons, List.not_mem_nil, or_false] at hx
  obtain ⟨o1, o2, o3, o4, o5, _, _, _⟩ := k
  rcases hx with rfl | rfl | rfl | rfl | rfl | rfl | rfl | rfl | rfl | rfl | rfl | rfl | rfl | rfl | rfl | rfl | rfl <;> first | exact in_wrap _ | exact in_fl _ | (apply in_of; assumption)
theorem nok_of {m : Mc} (kh : OkH m.h) (kb : OkB m.b) (kc : U64 m.cnt) (kn : U64 m.nxt) : NOk m :=
  ⟨fun x hx => by rcases List.mem_append.1 hx with hx | hx; exact in_proc kh x hx; exact in_dev kb x hx, in_of kc, in_of kn⟩
set_option maxRecDepth 100000 in
theorem imageUnlike_lifted (os : Os) (started : os.Started) (H : Type) (enc : TypeId × Value → H) :
    ReturnsInHanded {} Try.checked os 4 .any (Rows.imageUnlikeSpec.pre6 enc Try.prog Try.f4 Rows.imageUnlikeRow.domain false) (Rows.imageUnlikeSpec.post enc Try.prog Try.f4 false true false false) := by
  refine returnsInHanded_of_change_sized (C := Try.checked) own started (by kernel_rfl) Try.func4
    (ChangeSpec.witness6 (enc := enc) (C := Try.checked) false ⟨#[], #[.agg zc42, .int .u64 0, .int .u64 0], []⟩ 8 (by kernel_rfl) (by kernel_rfl) (by kernel_rfl) (by kernel_rfl)) ?_
  intro W base args ds gs before hval0 hW hcnd hsz _
  have hW' := hW
  obtain ⟨p, q, hA0, hV, rfl, hfz, hnd⟩ := hW
  have hval : ∀ (j : Nat) t v, Try.f4.params[j]? = some t → args[j]? = some v → Value.okWide Try.prog W .any base t v := hval0
  have hA : DataW.TrodAll enc Try.prog W 0 (fun _ => true) true Try.f4.params.toList args.toList ds p := hA0
  rw [Try.params4] at hA hval
  obtain ⟨v0, v1, v2, d0, d1, d2, p0, p1, p2, rfl, rfl, rfl, h0, h1, h2⟩ := trodAll_three hA
  obtain ⟨rfl, rfl⟩ := trodVars_none hV
  have hlt : ∀ x ∈ p0, x.block < W.heap.size := fun x hx => hW'.lt x (by simp [hx])
  obtain ⟨m, q, rfl, hr, okh, okc, okn, ok, okE, hs, hwt⟩ := open_machine (hval 0 42 v0 rfl rfl) h0
  have hN : ∀ x ∈ d0.weights Try.prog 42, x ≤ 140737488351232 := fun x hx => by
    have := List.all_eq_true.1 hsz x (by
      show x ∈ DataW.weightsEach Try.prog (Try.f4.params.toList ++ _) _
      rw [Try.params4]
      simp [DataW.weightsEach, hx])
    exact of_decide_eq_true this
  obtain ⟨w0, w3, w4, w5⟩ := hwt _ hN
  obtain ⟨n1, rfl, rfl, rfl, w1⟩ := open_int Try.underlying22 (hval 1 22 v1 rfl rfl) h1
  obtain ⟨n2, rfl, rfl, rfl, w2⟩ := open_int Try.underlying22 (hval 2 22 v2 rfl rfl) h2
  simp only [List.append_nil] at hW'
  have u1 := bounds_u64 w1
  have u2 := bounds_u64 w2
  refine (unlike_walk m q n1 n2 W hr (nok_of okh ok okc okn) okE.1 ⟨by omega, by omega⟩ ⟨by omega, by omega⟩ (by omega) w3 (by omega) (by omega)).mono fun e W' ⟨he, hb⟩ => ?_
  subst he
  refine ⟨_, rfl, _, _, _, [], p0 ++ ([] ++ ([])), [], hW', trodAll_mk1 (shut_bool Try.underlying4 _), trodAll_mk3 (Below.trod laidOut (by kernel_rfl) (of_decide_eq_true (by kernel_rfl)) h0 hb hlt) (shut_int Try.underlying22 w1) (shut_int Try.underlying22 w2), rfl, hb.frame _, fun h => by cases h⟩
/-- The given statement. -/
theorem imageUnlike_proved : Rows.ImageUnlikeSaid :=
  OpenClaim.holds_of_wide 4 Try.f4 rfl rfl rfl rfl rfl rfl rfl ⟨rfl, rfl, rfl, rfl, rfl⟩ rfl rfl rfl rfl rfl (by kernel_rfl) Try.func4 (by kernel_rfl)
    (of_decide_eq_true (by kernel_rfl)) (by unfold Func.isWrapper; first | (rw [if_pos (by decide +kernel)]; kernel_rfl) | (rw [if_neg (by decide +kernel)]; exact ⟨rfl, rfl⟩))
    (fun os started H enc _ => imageUnlike_lifted os started H enc)

end Go.Proofs.Ytgflnfmnjlmenaa
