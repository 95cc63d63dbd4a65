/- Whatever may be may be written; what is written is read. What is written is read as it was. Bytes of two machines are equal exactly where their heads and their memories are. -/
import Derived.Test.YtgflnfmnjlmenaaYQG
namespace Go.Proofs.Ytgflnfmnjlmenaa
open Go.RowKit Go.Deep Go.Joins
set_option maxRecDepth 100000
def sumZ (F : List ByteArray) : Nat := (F.map fun f => 4 + f.size).sum
theorem sumZ_append (F G : List ByteArray) : sumZ (F ++ G) = sumZ F + sumZ G := by unfold sumZ; rw [List.map_append, List.sum_append]
theorem sumZ_num (L : List Int) : sumZ (L.map numI) = L.length * 12 := by
  unfold sumZ
  induction L with
  | nil => rfl
  | cons a L ih => simp only [List.map_cons, List.sum_cons, ih, List.length_cons]; rw [show (numI a).size = 8 from bytesN_size _ 8 (by omega)]; omega
theorem sumZ_le {F : List ByteArray} {n : Nat} (h : ∀ f ∈ F, f.size ≤ n) : sumZ F ≤ F.length * (4 + n) := by
  unfold sumZ
  induction F with
  | nil => simp
  | cons a F ih =>
    have h1 := h a (by simp)
    have h2 := ih fun f hf => h f (by simp [hf])
    simp only [List.map_cons, List.sum_cons, List.length_cons]
    rw [Nat.add_mul]
    omega
theorem headF_size (m : Mc) (p : Pt) : pkS (headF m p) = 4 + (828 + (8 + m.b.inn.size + m.b.sec.size) + 24 + sumZ p.F) := by
  have h1 : sumZ ((procL m.h ++ devL m.b).map numI) = 828 := by rw [sumZ_num, List.length_append, procL_length, devL_length]
  have h2 : sumZ [m.b.inn, m.b.sec] = 8 + m.b.inn.size + m.b.sec.size := by unfold sumZ; simp; omega
  have h3 : sumZ ([m.cnt, m.nxt].map numI) = 24 := by rw [sumZ_num]; rfl
  show 4 + sumZ (headF m p) = _
  unfold headF
  rw [sumZ_append, sumZ_append, sumZ_append, h1, h2, h3]
theorem right_b_parts {b : Bd} {F : List ByteArray} (h : rightB b F = true) : b.sec.size = 1024 ∧ b.inn.size ≤ 1024 ∧ F.length ≤ 64 ∧ ∀ f ∈ F, f.size ≤ 64 := by
  unfold rightB frB hasB at h
  simp only [Bool.and_eq_true, decide_eq_true_eq, List.all_eq_true] at h
  obtain ⟨⟨⟨h1, h2⟩, h3⟩, h4⟩ := h
  exact ⟨by have : (b.sec.size : Int) = 1024 := (by simpa using h1); omega, h2, h3, h4⟩
theorem chk_parts {n : Nat} {M : List Int} {E : Int} (h : chkB n M E = true) : 1 ≤ M.length ∧ M.length ≤ 256 ∧ n = M.length * 256 := by
  unfold chkB at h
  simp only [Bool.and_eq_true, decide_eq_true_eq] at h
  exact h.1
theorem datB_size (p : Pt) : (datB p).size = p.D.length := by rw [← toL_length]; unfold toL datB; simp
theorem head_small {m : Mc} {p : Pt} (h : chkM m p = 0) : 1888 ≤ pkS (headF m p) ∧ pkS (headF m p) ≤ 10000 ∧ (headF m p).length ≤ 137 ∧ pkAll (headF m p) = true := by
  obtain ⟨_, _, hb, _⟩ := chk_zero h
  obtain ⟨h1, h2, h3, h4⟩ := right_b_parts hb
  have hs := sumZ_le h4
  have hz := headF_size m p
  have hm : p.F.length * (4 + 64) ≤ 64 * 68 := Nat.mul_le_mul_right 68 h3
  refine ⟨by omega, by omega, by rw [headF_len]; omega, ?_⟩
  unfold pkAll
  rw [List.all_eq_true]
  intro f hf
  apply decide_eq_true
  unfold headF at hf
  rcases List.mem_append.1 hf with hf | hf
  · rcases List.mem_append.1 hf with hf | hf
    · rcases List.mem_append.1 hf with hf | hf
      · obtain ⟨x, _, rfl⟩ := List.mem_map.1 hf
        rw [show (numI x).size = 8 from bytesN_size _ 8 (by omega)]; omega
      · simp only [List.mem_cons, List.not_mem_nil, or_false] at hf
        rcases hf with rfl | rfl
        · omega
        · omega
    · obtain ⟨x, _, rfl⟩ := List.mem_map.1 hf
      rw [show (numI x).size = 8 from bytesN_size _ 8 (by omega)]; omega
  · have := h4 f hf; omega
theorem ok_all {m : Mc} {p : Pt} (h : chkM m p = 0) : pkOk (headF m p) = true ∧ okB m p = true ∧ 1700 < (bytesB m p).size := by
  obtain ⟨h1, h2, h3, h4⟩ := head_small h
  obtain ⟨hc, _, _, _⟩ := chk_zero h
  obtain ⟨c1, c2, c3⟩ := chk_parts hc
  have hk : pkOk (headF m p) = true := by unfold pkOk; rw [h4, decide_eq_true (show (headF m p).length ≤ 1024 by omega), decide_eq_true (by omega)]; rfl
  have hs : pkS [packB (headF m p), datB p] = 12 + pkS (headF m p) + p.D.length := by
    unfold pkS
    simp only [List.map_cons, List.map_nil, List.sum_cons, List.sum_nil]
    rw [packB_size, datB_size]
    show 4 + (4 + pkS (headF m p) + (4 + p.D.length + 0)) = 12 + pkS (headF m p) + p.D.length
    omega
  have hd : p.D.length ≤ 65536 := by rw [c3]; omega
  have hk2 : pkOk [packB (headF m p), datB p] = true := by
    unfold pkOk pkAll
    rw [hs]
    simp only [List.all_cons, List.all_nil]
    rw [packB_size, datB_size, decide_eq_true (show pkS (headF m p) ≤ 131072 by omega), decide_eq_true (show p.D.length ≤ 131072 by omega), decide_eq_true (show 12 + pkS (headF m p) + p.D.length ≤ 1048576 by omega)]
    rfl
  refine ⟨hk, ?_, ?_⟩
  · unfold okB; rw [h, hk, hk2]; rfl
  · unfold bytesB; rw [packB_size, hs]; omega
theorem ok_iff (m : Mc) (p : Pt) : okB m p = decide (chkM m p = 0) := by
  by_cases h : chkM m p = 0
  · rw [(ok_all h).2.1, decide_eq_true h]
  · rw [decide_eq_false h]; unfold okB; rw [decide_eq_false h]; rfl
end Go.Proofs.Ytgflnfmnjlmenaa
namespace Go.Proofs.Ytgflnfmnjlmenaa
open Go.RowKit Go.Deep Go.Joins
set_option maxRecDepth 100000
theorem replicate_all (n : Nat) (E : Int) (h : 0 ≤ E) : (List.replicate n (0 : Int)).all (fun m => decide (m ≤ E)) = true := by
  rw [List.all_eq_true]
  intro x hx
  rw [(List.mem_replicate.1 hx).2]
  exact decide_eq_true h
theorem data_leafs {m : Mc} {p : Pt} (h : chkM m p = 0) : newOk (datB p) ∧ leafs (datB p) = p.M.length := by
  obtain ⟨hc, _, _, _⟩ := chk_zero h
  obtain ⟨c1, c2, c3⟩ := chk_parts hc
  have hz := datB_size p
  have hl : leafs (datB p) = p.M.length := by unfold leafs; rw [hz, c3]; omega
  exact ⟨⟨by omega, by omega, by rw [hl, hz, c3]; exact Nat.le_refl _⟩, hl⟩
theorem h73 (m : Mc) (p : Pt) : 73 ≤ (headF m p).length := by rw [headF_len]; omega
theorem join_h {m : Mc} {p : Pt} (N : NOk m) (h : chkM m p = 0) (dv mv : Value) (q : Option Addr) (c : Nat) : (joinM (headF m p) (h73 m p) dv mv q c).h = m.h := by
  obtain ⟨_, hr, _, _⟩ := chk_zero h
  have hm : modeB m.h.mode = true := by
    unfold rightH at hr
    simp only [Bool.and_eq_true] at hr
    exact hr.1.1.2
  show hartF ((nums69 (headF m p)).take 52) _ = m.h
  have e : (nums69 (headF m p)).take 52 = procL m.h := by rw [back69 N]; exact List.take_left' (procL_length _)
  have hl : (procL m.h).length = 52 := procL_length _
  have g : ∀ (L : List Int) (hL : L.length = 52), L = procL m.h → hartF L hL = m.h := fun L hL e => by subst e; exact hart_back m.h hm hL
  exact g _ _ e
theorem join_b {m : Mc} {p : Pt} (N : NOk m) (k : PlOk m.b.pl) (h : chkM m p = 0) (dv mv : Value) (q : Option Addr) (c : Nat) : (joinM (headF m p) (h73 m p) dv mv q c).b = m.b.at q ((headF m p).length - 73) c := by
  obtain ⟨_, _, _, hp⟩ := chk_zero h
  exact fill_back N k ((Pc.right_iff m.b.pl).1 hp).2.2.2.1 q c
theorem join_cn {m : Mc} {p : Pt} (N : NOk m) (dv mv : Value) (q : Option Addr) (c : Nat) : (joinM (headF m p) (h73 m p) dv mv q c).cnt = m.cnt ∧ (joinM (headF m p) (h73 m p) dv mv q c).nxt = m.nxt := by
  constructor
  · show nt (nums2 (headF m p)) 0 = m.cnt
    rw [back2 N]; rfl
  · show nt (nums2 (headF m p)) 1 = m.nxt
    rw [back2 N]; rfl
theorem join_d {m : Mc} {p : Pt} (h : chkM m p = 0) : (joinP (headF m p) (datB p)).D = p.D := by
  have := new_data (data_leafs h).1
  show spl (List.replicate (leafs (datB p) * 256) 0) 0 (datB p) = p.D
  rw [spl_all _ _ this]
  unfold toL datB
  simp
theorem back_ok {m : Mc} {p : Pt} (N : NOk m) (k : PlOk m.b.pl) (h : chkM m p = 0) : ReadOk (bytesB m p) (packB (headF m p)) (datB p) (headF m p) (h73 m p) := by
  obtain ⟨hk, hok, _⟩ := ok_all h
  have hk2 : pkOk [packB (headF m p), datB p] = true := by unfold okB at hok; simp only [Bool.and_eq_true] at hok; exact hok.2
  obtain ⟨hn, hl⟩ := data_leafs h
  obtain ⟨hc, hr, hb, hp⟩ := chk_zero h
  obtain ⟨c1, c2, c3⟩ := chk_parts hc
  refine ⟨unpack_pack hk2, unpack_pack hk, hn, ?_⟩
  have eh := join_h N h (.slice none 0 0) (.slice none 0 0) none 0
  have eb := join_b N k h (.slice none 0 0) (.slice none 0 0) none 0
  obtain ⟨e1, e2⟩ := join_cn (p := p) N (.slice none 0 0) (.slice none 0 0) none 0
  have ed := join_d h
  have eF : (joinP (headF m p) (datB p)).F = p.F := back73 m p
  have eM : (joinP (headF m p) (datB p)).M = List.replicate p.M.length 0 := by show List.replicate (leafs (datB p)) 0 = _; rw [hl]
  have eE : (joinM (headF m p) (h73 m p) (.slice none 0 0) (.slice none 0 0) none 0).E = 0 := rfl
  unfold joinV
  generalize joinM (headF m p) (h73 m p) (.slice none 0 0) (.slice none 0 0) none 0 = mm at *
  generalize joinP (headF m p) (datB p) = pp at *
  have eH : headF mm pp = headF m p := by
    unfold headF
    rw [eh, eb, e1, e2, eF]
    rfl
  have eC : chkM mm pp = 0 := by
    unfold chkM
    have hcc : chkB pp.D.length pp.M mm.E = true := by
      unfold chkB
      rw [ed, eM, eE, List.length_replicate, decide_eq_true (show 1 ≤ p.M.length ∧ p.M.length ≤ 256 ∧ p.D.length = p.M.length * 256 from ⟨c1, c2, c3⟩), replicate_all _ _ (Int.le_refl _)]
      rfl
    have hbb : rightB mm.b pp.F = true := by rw [eb, eF]; exact hb
    have hpp : Pc.rightF mm.b.pl = true := by rw [eb]; exact hp
    rw [hcc, eh, hr, hbb, hpp]
    rfl
  unfold headV
  rw [if_pos eC, eH, if_pos hk]
end Go.Proofs.Ytgflnfmnjlmenaa
namespace Go.Proofs.Ytgflnfmnjlmenaa
open Go.RowKit Go.Deep Go.Joins
set_option maxRecDepth 100000
theorem ok_split {m : Mc} {p : Pt} (h : okB m p = true) : pkOk (headF m p) = true ∧ pkOk [packB (headF m p), datB p] = true := by
  unfold okB at h
  simp only [Bool.and_eq_true] at h
  exact ⟨h.1.2, h.2⟩
theorem pack_inj {F G : List ByteArray} (hF : pkOk F = true) (hG : pkOk G = true) (h : packB F = packB G) : F = G := by
  have := unpack_pack hF
  rw [h, unpack_pack hG] at this
  exact (Option.some.inj this).symm
theorem datB_inj {p q : Pt} (h : datB p = datB q) : p.D = q.D := by
  have := congrArg toL h
  unfold toL datB at this
  simpa using this
theorem bytes_iff {m m' : Mc} {p p' : Pt} (h : okB m p = true) (h' : okB m' p' = true) : bytesB m p = bytesB m' p' ↔ headF m p = headF m' p' ∧ p.D = p'.D := by
  constructor
  · intro e
    unfold bytesB at e
    have k := pack_inj (ok_split h).2 (ok_split h').2 e
    simp only [List.cons.injEq, and_true] at k
    exact ⟨pack_inj (ok_split h).1 (ok_split h').1 k.1, datB_inj k.2⟩
  · rintro ⟨e1, e2⟩
    unfold bytesB datB
    rw [e1, e2]
/-- A machine with one register set. -/
def setX (m : Mc) (i : Nat) (v : Int) : Mc := { m with h := { m.h with x := m.h.x.set i v, hx := by rw [List.length_set]; exact m.h.hx } }
theorem setX_nok {m : Mc} (N : NOk m) {i : Nat} {v : Int} (hv : In64 v) : NOk (setX m i v) := by
  refine ⟨fun x hx => ?_, N.2⟩
  rcases List.mem_append.1 hx with hx | hx
  · unfold procL at hx
    rcases List.mem_append.1 hx with hx | hx
    · rcases List.mem_or_eq_of_mem_set hx with hx | rfl
      · exact N.1 x (List.mem_append_left _ (List.mem_append_left _ hx))
      · exact hv
    · exact N.1 x (List.mem_append_left _ (List.mem_append_right _ hx))
  · exact N.1 x (List.mem_append_right _ hx)
theorem setX_head {m : Mc} {p : Pt} (N : NOk m) {i : Nat} (hi : i < 32) {v : Int} (hv : In64 v) : headF (setX m i v) p = headF m p ↔ v = m.h.x.getD i 0 := by
  have hx : i < m.h.x.length := by rw [m.h.hx]; exact hi
  have hg : m.h.x.getD i 0 = m.h.x[i] := by rw [List.getD_eq_getElem?_getD, List.getElem?_eq_getElem hx]; rfl
  rw [hg]
  constructor
  · intro e
    have k := congrArg nums69 e
    rw [back69 (setX_nok N hv), back69 N] at k
    have k1 := (List.append_inj k (by rw [procL_length, procL_length])).1
    unfold procL at k1
    have k2 : m.h.x.set i v = m.h.x := (List.append_inj k1 (by show (m.h.x.set i v).length = _; rw [List.length_set])).1
    have k3 : (m.h.x.set i v)[i]? = m.h.x[i]? := by rw [k2]
    rw [List.getElem?_set_self hx, List.getElem?_eq_getElem hx] at k3
    exact Option.some.inj k3
  · rintro rfl
    have k : m.h.x.set i m.h.x[i] = m.h.x := List.set_getElem_self hx
    unfold headF procL setX procT
    dsimp only
    rw [k]
end Go.Proofs.Ytgflnfmnjlmenaa
