/- Pack and Unpack undo one another. What is read was written so. A machine goes to bytes and back. -/
import Derived.Test.YtgflnfmnjlmenaaYZG
import Derived.Test.YtgflnfmnjlmenaaYQD
namespace Go.Proofs.Ytgflnfmnjlmenaa
open Go.RowKit Go.Deep Go.Joins
set_option maxRecDepth 100000
def toL (s : ByteArray) : List UInt8 := s.data.toList
theorem toL_length (s : ByteArray) : (toL s).length = s.size := len_eq s
theorem toL_inj {a b : ByteArray} (h : toL a = toL b) : a = b := by
  cases a; cases b
  simp only [ByteArray.mk.injEq]
  exact Array.toList_inj.1 h
theorem toL_extract (s : ByteArray) (i j : Nat) : toL (s.extract i j) = ((toL s).take j).drop i := by
  unfold toL
  rw [ByteArray.data_extract, Array.toList_extract, List.extract_eq_take_drop, List.drop_take]
theorem bAt_toL (s : ByteArray) (k : Nat) : bAt s k = ((toL s).getD k 0).toNat := by
  unfold bAt toL
  split
  · rename_i h
    rw [List.getD_eq_getElem?_getD, List.getElem?_eq_getElem (by rw [len_eq]; exact h)]
    rfl
  · rename_i h
    rw [List.getD_eq_getElem?_getD, List.getElem?_eq_none (by rw [len_eq]; omega)]
    rfl
theorem rd_short (n : Nat) (T : List UInt8) (s : ByteArray) (hs : toL s = shortL n ++ T) (hn : n < 4294967296) : rd4 s 0 = n := by
  unfold rd4
  rw [bAt_toL, bAt_toL, bAt_toL, bAt_toL, hs]
  simp only [shortL, List.cons_append, List.getD_cons_zero, List.getD_cons_succ, Nat.zero_add, UInt8.toNat_ofNat']
  omega
theorem short_rd (s : ByteArray) (h : 4 ≤ s.size) : (toL s).take 4 = shortL (rd4 s 0) := by
  have hl := toL_length s
  unfold rd4
  rw [bAt_toL, bAt_toL, bAt_toL, bAt_toL]
  match toL s, hl with
  | a :: b :: c :: d :: t, _ =>
    have ha := a.toNat_lt
    have hb := b.toNat_lt
    have hc := c.toNat_lt
    have hd := d.toNat_lt
    have e : ∀ (x : UInt8) (m : Nat), m = x.toNat → UInt8.ofNat m = x := fun x m h => by rw [h]; exact UInt8.ofNat_toNat
    simp only [shortL, List.take_succ_cons, List.take_zero, List.getD_cons_zero, List.getD_cons_succ, Nat.zero_add]
    rw [e a _ (by omega), e b _ (by omega), e c _ (by omega), e d _ (by omega)]
  | [], h | [_], h | [_, _], h | [_, _, _], h => simp at h; omega
theorem unF_pack : ∀ (F : List ByteArray) (r : ByteArray), toL r = packT F → (∀ f ∈ F, f.size ≤ 131072) → unF F.length r = some F
  | [], r, h, _ => by
    have : r.size = 0 := by rw [← toL_length, h]; rfl
    show (if r.size = 0 then some [] else none) = _
    rw [if_pos this]
  | f :: F, r, h, hF => by
    have hf := hF f (by simp)
    have h2 : toL r = shortL f.size ++ (toL f ++ packT F) := by rw [h]; unfold packT fldL toL; simp
    have hk := rd_short _ _ r h2 (by omega)
    have hl : r.size = 4 + f.size + (packT F).length := by rw [← toL_length, h2, List.length_append, List.length_append, shortL_length, toL_length]; omega
    have h1 : firstF r = some f := by
      unfold firstF
      rw [hk, if_pos (by omega)]
      congr 1
      apply toL_inj
      rw [toL_extract, h2, ← List.append_assoc, List.take_left' (by rw [List.length_append, shortL_length, toL_length]), List.drop_left' (shortL_length _)]
    show (match firstF r with | some f => (unF F.length (r.extract (4 + f.size) r.size)).map (f :: ·) | none => none) = _
    rw [h1]
    show (unF F.length (r.extract (4 + f.size) r.size)).map (f :: ·) = _
    rw [unF_pack F _ (by rw [toL_extract, List.take_of_length_le (by rw [toL_length]; omega), h2, ← List.append_assoc, List.drop_left' (by rw [List.length_append, shortL_length, toL_length])]) (fun g hg => hF g (by simp [hg]))]
    rfl
theorem packB_toL (F : List ByteArray) : toL (packB F) = shortL F.length ++ packT F := by unfold toL packB packL; simp
theorem packB_size (F : List ByteArray) : (packB F).size = pkS F := by rw [← toL_length, packB_toL, List.length_append, shortL_length, packT_length]
theorem unpack_pack {F : List ByteArray} (h : pkOk F = true) : unpackF (packB F) = some F := by
  obtain ⟨⟨h1, h2⟩, h3⟩ : (F.length ≤ 1024 ∧ pkAll F = true) ∧ pkS F ≤ 1048576 := by unfold pkOk at h; simpa using h
  have hk := rd_short _ _ _ (packB_toL F) (by omega)
  have hz := packB_size F
  have hS0 : 4 ≤ pkS F := by unfold pkS; omega
  unfold unpackF
  rw [hk, if_pos (by omega)]
  refine unF_pack F _ ?_ (fun f hf => ?_)
  · rw [toL_extract, List.take_of_length_le (by rw [toL_length]; omega), packB_toL, List.drop_left' (shortL_length _)]
  · unfold pkAll at h2
    rw [List.all_eq_true] at h2
    exact of_decide_eq_true (h2 f hf)
theorem unF_back : ∀ (n : Nat) (r : ByteArray) (L : List ByteArray), unF n r = some L → toL r = packT L ∧ L.length = n
  | 0, r, L, h => by
    unfold unF at h
    split at h
    · rename_i h0
      cases h
      exact ⟨List.eq_nil_of_length_eq_zero (by rw [toL_length]; exact h0), rfl⟩
    · cases h
  | n + 1, r, L, h => by
    unfold unF at h
    cases hf : firstF r with
    | none => rw [hf] at h; cases h
    | some f =>
      rw [hf] at h
      cases hu : unF n (r.extract (4 + f.size) r.size) with
      | none => simp [hu] at h
      | some L' =>
        simp [hu] at h
        subst h
        obtain ⟨h1, h2⟩ := unF_back n _ _ hu
        obtain ⟨g1, g2, g3, g4⟩ := firstF_size hf
        refine ⟨?_, by rw [List.length_cons, h2]⟩
        have e1 := short_rd r (by omega)
        rw [← g3] at e1
        have e2 : toL f = ((toL r).take (4 + f.size)).drop 4 := by rw [← toL_extract, g3]; exact congrArg toL (g3 ▸ g4)
        have e3 : packT L' = (toL r).drop (4 + f.size) := by rw [← h1, toL_extract, List.take_of_length_le (by rw [toL_length]; omega)]
        have e4 : packT (f :: L') = shortL f.size ++ toL f ++ packT L' := by unfold packT fldL toL; simp
        rw [e4, e3, e2, ← e1]
        conv => lhs; rw [← List.take_append_drop (4 + f.size) (toL r)]
        congr 1
        conv => lhs; rw [← List.take_append_drop 4 ((toL r).take (4 + f.size))]
        rw [List.take_take, Nat.min_eq_left (by omega)]
end Go.Proofs.Ytgflnfmnjlmenaa
namespace Go.Proofs.Ytgflnfmnjlmenaa
open Go.RowKit Go.Deep Go.Joins
set_option maxRecDepth 100000
theorem pack_unpack {s : ByteArray} {L : List ByteArray} (h : unpackF s = some L) : packB L = s ∧ pkOk L = true := by
  have hsz := unpackF_size h
  have hle := unpackF_le h
  unfold unpackF at h
  split at h
  · rename_i hh
    obtain ⟨h1, h2⟩ := unF_back _ _ _ h
    have e : packB L = s := by
      apply toL_inj
      have e1 : toL (s.extract 4 s.size) = (toL s).drop 4 := by rw [toL_extract, List.take_of_length_le (by rw [toL_length]; exact Nat.le_refl _)]
      rw [packB_toL, ← h1, h2, e1, ← short_rd s hh.1]
      exact List.take_append_drop 4 (toL s)
    refine ⟨e, ?_⟩
    have hs := packB_size L
    rw [e] at hs
    unfold pkOk
    have ha : pkAll L = true := pkAll_yes fun j hj => hsz _ (List.getElem_mem hj)
    rw [ha, decide_eq_true hle, decide_eq_true (by omega)]
    rfl
  · cases h
theorem rd_num (n : Nat) (h : n < 18446744073709551616) : rd8 (numB n) = n := by
  have e : toL (numB n) = leL n := by unfold toL numB bytesN; simp [leL]
  unfold rd8 rd4
  simp only [bAt_toL, e, leL, List.getD_cons_zero, List.getD_cons_succ, UInt8.toNat_ofNat', Nat.zero_add, Nat.reduceAdd]
  omega
theorem rd_numI {x : Int} (h : In64 x) : rdI (numI x) = x := by
  obtain ⟨h0, h1⟩ := h
  unfold rdI numI
  rw [if_pos (bytesN_size _ 8 (by omega)), rd_num _ (by omega)]
  omega
theorem map_rd {L : List Int} (h : ∀ x ∈ L, In64 x) : (L.map numI).map rdI = L := by
  rw [List.map_map]
  conv => rhs; rw [← List.map_id L]
  exact List.map_congr_left fun x hx => rd_numI (h x hx)
theorem spl_all (n : Nat) (s : ByteArray) (h : s.size = n) : spl (List.replicate n 0) 0 s = toL s := by
  unfold spl toL splice
  rw [List.take_zero, List.nil_append, List.drop_of_length_le (by rw [List.length_replicate, len_eq]; omega), List.append_nil]
theorem new_data {data : ByteArray} (h : newOk data) : data.size = leafs data * 256 := by
  have h1 := h.2.2
  unfold leafs at *
  omega
theorem datB_join {data : ByteArray} (F : List ByteArray) (h : newOk data) : datB (joinP F data) = data := by
  apply toL_inj
  unfold datB joinP
  rw [spl_all _ _ (new_data h)]
  unfold toL
  simp
theorem headV_ok {m : Mc} {p : Pt} {s : ByteArray} (h : headV m p = .tuple #[.string s, .int .i64 0]) : chkM m p = 0 ∧ pkOk (headF m p) = true ∧ packB (headF m p) = s := by
  unfold headV at h
  split at h
  · rename_i h1
    split at h
    · rename_i h2
      simp only [Value.tuple.injEq, Array.mk.injEq, List.cons.injEq, Value.string.injEq, and_true] at h
      exact ⟨h1, h2, h⟩
    · simp at h
  · rename_i h1
    simp only [Value.tuple.injEq, Array.mk.injEq, List.cons.injEq, Value.string.injEq, Value.int.injEq, and_true, true_and] at h
    exact absurd h.2 h1
/-- What Read takes is the bytes of what it answers. -/
theorem read_bytes {s head data : ByteArray} {F : List ByteArray} {h : 73 ≤ F.length} (r : ReadOk s head data F h) (dv mv : Value) (q : Option Addr) (c : Nat) : okB (joinM F h dv mv q c) (joinP F data) = true ∧ bytesB (joinM F h dv mv q c) (joinP F data) = s := by
  obtain ⟨hu, hu2, hn, hv⟩ := r
  obtain ⟨h1, h2⟩ := pack_unpack hu
  obtain ⟨v1, v2, v3⟩ := headV_ok ((join_head F h data dv mv q c).trans hv)
  unfold okB bytesB
  rw [datB_join F hn, v3, v1, v2, h2, h1]
  exact ⟨rfl, rfl⟩
end Go.Proofs.Ytgflnfmnjlmenaa
namespace Go.Proofs.Ytgflnfmnjlmenaa
open Go.RowKit Go.Deep Go.Joins
set_option maxRecDepth 100000
structure PlOk (h : Pl) : Prop where
  p1 : Pc.U32 h.p1
  p2 : Pc.U32 h.p2
  p3 : Pc.U32 h.p3
  e0 : Pc.U32 h.e0
  e1 : Pc.U32 h.e1
  l0 : Pc.U32 h.l0
  l1 : Pc.U32 h.l1
  c : Pc.U32 h.c
theorem wrap_back {x : Int} (h : Pc.U32 x) : IntKind.u32.wrap (IntKind.u64.wrap x) = x := by
  obtain ⟨h0, h1⟩ := h
  rw [IntKind.wrap_u64, IntKind.wrap_u32]
  omega
theorem flV_back (b : Bool) : (flV b == 1) = b := by cases b <;> rfl
theorem mode_back {m : Int} (h : modeB m = true) : IntKind.i64.wrap (IntKind.u64.wrap m) = m := by
  unfold modeB at h
  simp only [Bool.or_eq_true, beq_iff_eq] at h
  rw [IntKind.wrap_u64, IntKind.wrap_i64]
  omega
theorem headF_len (m : Mc) (p : Pt) : (headF m p).length = 73 + p.F.length := by
  unfold headF
  simp only [List.length_append, List.length_map, procL_length, devL_length, List.length_cons, List.length_nil]
theorem head_split (m : Mc) (p : Pt) : headF m p = (procL m.h ++ devL m.b).map numI ++ ([m.b.inn, m.b.sec] ++ ([numI m.cnt, numI m.nxt] ++ p.F)) := by
  unfold headF
  simp only [List.map_cons, List.map_nil, List.append_assoc]
theorem nums_len (m : Mc) : ((procL m.h ++ devL m.b).map numI).length = 69 := by rw [List.length_map, List.length_append, procL_length, devL_length]
theorem back69 {m : Mc} {p : Pt} (N : NOk m) : nums69 (headF m p) = procL m.h ++ devL m.b := by
  unfold nums69
  rw [head_split, List.take_left' (nums_len m), map_rd N.1]
theorem back_drop (m : Mc) (p : Pt) : (headF m p).drop 69 = [m.b.inn, m.b.sec] ++ ([numI m.cnt, numI m.nxt] ++ p.F) := by rw [head_split, List.drop_left' (nums_len m)]
theorem back2 {m : Mc} {p : Pt} (N : NOk m) : nums2 (headF m p) = [m.cnt, m.nxt] := by
  have h : (headF m p).drop 71 = [numI m.cnt, numI m.nxt] ++ p.F := by
    rw [show 71 = 69 + 2 from rfl, ← List.drop_drop, back_drop]
    rfl
  unfold nums2
  rw [h]
  show [rdI (numI m.cnt), rdI (numI m.nxt)] = _
  rw [rd_numI N.2.1, rd_numI N.2.2]
theorem back73 (m : Mc) (p : Pt) : (headF m p).drop 73 = p.F := by
  rw [show 73 = 69 + 4 from rfl, ← List.drop_drop, back_drop]
  rfl
theorem back_fs (m : Mc) (p : Pt) (j : Nat) : fs (headF m p) (69 + j) = fs ([m.b.inn, m.b.sec] ++ ([numI m.cnt, numI m.nxt] ++ p.F)) j := by
  unfold fs
  rw [List.getD_eq_getElem?_getD, List.getD_eq_getElem?_getD, ← List.getElem?_drop, back_drop]
theorem hart_ext {a b : Hart} (h1 : a.x = b.x) (h2 : a.pc = b.pc) (h3 : a.mode = b.mode) (h4 : a.c = b.c) (h5 : a.held = b.held) (h6 : a.rat = b.rat) : a = b := by
  cases a; cases b
  simp_all
theorem hart_back (h : Hart) (hm : modeB h.mode = true) (hl : (procL h).length = 52) : hartF (procL h) hl = h := by
  have d32 : (procL h).drop 32 = procT h := by unfold procL; exact List.drop_left' h.hx
  have d36 : (procL h).drop 36 = (procT h).drop 4 := by rw [show 36 = 32 + 4 from rfl, ← List.drop_drop, d32]
  refine hart_ext ?_ ?_ ?_ ?_ ?_ ?_
  · show (procL h).take 32 = h.x
    unfold procL
    exact List.take_left' h.hx
  · show nt ((procL h).drop 32) 0 = h.pc
    rw [d32]; rfl
  · show IntKind.i64.wrap (nt ((procL h).drop 32) 1) = h.mode
    rw [d32]
    exact mode_back hm
  · show regF ((procL h).drop 36) = h.c
    rw [d36]; rfl
  · show (nt ((procL h).drop 32) 2 == 1) = h.held
    rw [d32]
    exact flV_back h.held
  · show nt ((procL h).drop 32) 3 = h.rat
    rw [d32]; rfl
theorem pl_back (h : Pl) (k : PlOk h) (h0 : h.p0 = 0) (b : Bd) (hb : b.pl = h) : plF ((devL b).drop 9) = h := by
  subst hb
  show (⟨0, IntKind.u32.wrap (IntKind.u64.wrap b.pl.p1), IntKind.u32.wrap (IntKind.u64.wrap b.pl.p2), IntKind.u32.wrap (IntKind.u64.wrap b.pl.p3), IntKind.u32.wrap (IntKind.u64.wrap b.pl.e0), IntKind.u32.wrap (IntKind.u64.wrap b.pl.e1), IntKind.u32.wrap (IntKind.u64.wrap b.pl.l0), IntKind.u32.wrap (IntKind.u64.wrap b.pl.l1), IntKind.u32.wrap (IntKind.u64.wrap b.pl.c)⟩ : Pl) = b.pl
  rw [wrap_back k.p1, wrap_back k.p2, wrap_back k.p3, wrap_back k.e0, wrap_back k.e1, wrap_back k.l0, wrap_back k.l1, wrap_back k.c, ← h0]
theorem fill_back {m : Mc} {p : Pt} (N : NOk m) (k : PlOk m.b.pl) (h0 : m.b.pl.p0 = 0) (q : Option Addr) (c : Nat) : fillB (headF m p) q c = m.b.at q ((headF m p).length - 73) c := by
  have e : (nums69 (headF m p)).drop 52 = devL m.b := by rw [back69 N]; exact List.drop_left' (procL_length _)
  have e2 : (nums69 (headF m p)).drop 61 = (devL m.b).drop 9 := by rw [show 61 = 52 + 9 from rfl, ← List.drop_drop, e]
  unfold fillB
  rw [e, e2, pl_back m.b.pl k h0 m.b rfl, show fs (headF m p) 69 = m.b.inn from back_fs m p 0, show fs (headF m p) 70 = m.b.sec from back_fs m p 1]
  show ({ bdZ with msip := flV m.b.msip == 1, cmp := m.b.cmp, ier := flV m.b.ier == 1, sector := m.b.sector, addr := m.b.addr, done := flV m.b.done == 1, bad := flV m.b.bad == 1, nicA := m.b.nicA, nicL := m.b.nicL, pl := m.b.pl, inn := m.b.inn, sec := m.b.sec, fp := q, fn := (headF m p).length - 73, fc := c } : Bd) = _
  rw [flV_back, flV_back, flV_back, flV_back]
  rfl
end Go.Proofs.Ytgflnfmnjlmenaa
