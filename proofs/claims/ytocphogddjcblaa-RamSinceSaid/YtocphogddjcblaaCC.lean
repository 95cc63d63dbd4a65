/- Pieces of the program (of leaves that are there). -/
import Derived.Test.YtocphogddjcblaaCB
import Derived.Test.YtocphogddjcblaaBA
namespace Go.Proofs.Ytocphogddjcblaa
open Go.RowKit Go.Deep Go.Joins
def IAt (w : World) (v : Value) (L : List Nat) : Prop := Reads w v 1 L.length (iC L)
theorem IAt.below {w w' : World} {v : Value} {L : List Nat} (h : IAt w v L) (hb : Below w.heap.size w w') : IAt w' v L := Reads.below h hb
theorem OwnI.at {w : World} {B : Nat} {v : Value} {L : List Nat} (h : OwnI w B v L) : IAt w v L := reads_of_owns h
theorem IAt.cell {w : World} {v : Value} {L : List Nat} (h : IAt w v L) (h0 : 0 < L.length) :
    ∃ b off cap, v = .slice (some ⟨b, off, none⟩) L.length cap ∧ b < w.heap.size ∧ ∀ j (hj : j < L.length), w.cell? ⟨b, off + j, none⟩ = some (.int .i64 (L[j] : Nat)) := by
  obtain ⟨b, off, cap, h1, h2, h3, h4, h5⟩ := Reads.at h (by omega)
  exact ⟨b, off, cap, h1, h4, fun j hj => h5 j _ (by simp [iC, hj])⟩
def OwnP (w : World) (B : Nat) (v : Value) (L : List Pc) : Prop := w.ownsRow B 64 2 v L.length (pC L)
def pieceOf (D : List UInt8) (k : Nat) : Pc := ⟨k, bytesOf D (k * 256) 256⟩
theorem take_next (D : List UInt8) (L : List Nat) (j : Nat) (h : j < L.length) : (L.take (j + 1)).map (pieceOf D) = (L.take j).map (pieceOf D) ++ [pieceOf D L[j]] := by
  rw [List.take_succ_eq_append_getElem h, List.map_append]; rfl
/-- append OF ONE PIECE. -/
theorem run_append_pc (w : World) (B : Nat) (v : Value) (n : Nat) (xs : List Value) (hown : w.ownsRow B 64 2 v n xs) (g : Nat) (a b : Value) (hg : w.heap[g]? = some (.cells #[a, b] 64 (0, 0))) (ha : a.oneCell' = true) (hb : b.oneCell' = true) (h63 : n + 1 ≤ maxLen) (hbytes : (n + 1) * 24 ≤ 140737488355328) (hbase : B ≤ w.heap.size) :
    ∃ p cap w', (Builtin.append_ #[42, 42] 42 #[v, .slice (some ⟨g, 0, none⟩) 1 1]).run Try.prog w = .ok (.slice p (n + 1) cap) w' ∧ w'.ownsRow B 64 2 (.slice p (n + 1) cap) (n + 1) (xs ++ [a, b]) ∧ Touch w w' (fun k => some k = v.ownBlock) := by
  obtain ⟨i, hi, hz, hs, hby⟩ := info_parts (show (Try.prog.info? 64).map (fun i => (i.zero, i.size, i.bytes)) = some (some (.agg #[.int .i64 0, .string ⟨#[]⟩]), 2, 24) by kernel_rfl)
  obtain ⟨v', w', hrun, ho, hgr, _⟩ := run_append_own (P := Try.prog) w B 42 42 64 i _ 2 24 Try.underlying42 hi hz hs hby rfl (by omega) v n xs hown ⟨g, 0, none⟩ 1 1 [a, b] rfl (fun j y hj => by
    rw [add_lit, Nat.zero_add, cell_of_row w g j _ 64 (0, 0) hg]
    simpa using hj) (fun y hy => by
      simp only [List.mem_cons, List.not_mem_nil, or_false] at hy
      rcases hy with rfl | rfl
      · exact ha
      · exact hb) h63 hbytes hbase
  obtain ⟨p, cap, rfl⟩ := owns_shape ho
  exact ⟨p, cap, w', hrun, ho, touch_of_grown hgr⟩
theorem make_pc (n : Nat) (h : n ≤ 65536) (u : World) : ∃ cur : Array Value, cur.size = n * 2 ∧ (Instr.makeSlice 42 (.int .i64 0) (.int .i64 (n : Int))).run Try.prog u = .ok (.slice (some ⟨u.heap.size, 0, none⟩) 0 n) (u.alloc (.cells cur 64)) := by
  obtain ⟨i, hi, hz, hs, hby⟩ := info_parts (show (Try.prog.info? 64).map (fun i => (i.zero, i.size, i.bytes)) = some (some (.agg #[.int .i64 0, .string ⟨#[]⟩]), 2, 24) by kernel_rfl)
  have hr := run_make (P := Try.prog) u 42 64 i _ Try.underlying42 hi hz .i64 .i64 0 (n : Int) (by omega) (by omega) (by rw [hby]; omega) (by omega)
  rw [hs, Int.toNat_natCast] at hr
  exact ⟨_, size_madeCells _ _, hr⟩
structure PieceAt (w wr : World) (dv mv : Value) (E : Int) (v : Value) (L : List Pc) : Prop where
  box : RamVar wr w.heap.size dv mv E
  own : OwnP wr (w.heap.size + 1) v L
  below : Below w.heap.size w wr
def PiecesRes (w : World) (L : List Pc) (e : Ending) (w' : World) : Prop := ∃ v, e = .returned (.tuple #[v, .int .i64 0]) ∧ OwnP w' w.heap.size v L ∧ Below w.heap.size w w'
set_option maxRecDepth 100000 in
set_option maxHeartbeats 4000000 in
theorem pieces_any (dv mv iv : Value) (E : Int) (D : List UInt8) (L : List Nat) (w : World) (hd : DAt w dv D) (hi : IAt w iv L) (hL : L.length ≤ 65536) (hk : ∀ j (hj : j < L.length), L[j] < D.length / 256) (hm : mv.oneCell' = true) (hms : ∃ q m c, mv = .slice q m c) :
    Calls Try.prog 29 #[.agg #[dv, mv, .int .u64 E], iv] w (PiecesRes w (L.map (pieceOf D))) := by
  obtain ⟨p, cap, rfl⟩ := hd.is
  obtain ⟨pi, capi, rfl⟩ := hi.is
  obtain ⟨q, m, c, rfl⟩ := hms
  have hDle := hd.le
  have HD := Lib.hid hd
  have HI := Lib.hid hi
  have HK := Lib.hid hk
  clear hd hi hk hm
  have HBN := Lib.hid (show RamVar (w.alloc (.cells #[.slice p D.length cap, .slice q m c, .int .u64 E] 26)) w.heap.size _ _ E ∧ Below w.heap.size w (w.alloc (.cells #[.slice p D.length cap, .slice q m c, .int .u64 E] 26)) from ⟨heap_alloc_new _ _, below1 w _⟩)
  go_enter Try.func29, Try.ntmps29
  go_wp2_with fail
  go_loopw [14] (fun i wr => ∃ j : Nat, j ≤ L.length ∧ i = .int .i64 j ∧ Hid (RamVar wr w.heap.size (.slice p D.length cap) (.slice q m c) E ∧ Below w.heap.size w wr)) (fun i _ => L.length - (intOf i).toNat)
  case atStart => exact ⟨0, Nat.zero_le _, rfl, HBN⟩
  case round =>
    obtain ⟨j, hj, rfl, hbx⟩ := hrel
    obtain ⟨x0, x1, x2⟩ := hbx.out.1.cells
    by_cases hlt : j < L.length
    · obtain ⟨b, off, _, e1, hb, hc⟩ := (HI.out.below hbx.out.2).cell (by omega)
      simp only [Value.slice.injEq, true_and] at e1
      obtain ⟨rfl, rfl⟩ := e1
      have c0 := hc j hlt
      have hkj := HK.out j hlt
      clear hc
      generalize L[j] = k at *
      have HL := Lib.hid (show leafB D.length k = true from decide_eq_true (by omega))
      go_wp2_with fail
      refine (leaf_any _ _ _ _ _ _ _ hDle).mono ?_
      rintro e w5 ⟨rfl, hb5⟩
      rw [HL.out]
      have HNX := Lib.hid (show RamVar w5 w.heap.size (.slice p D.length cap) (.slice q m c) E ∧ Below w.heap.size w w5 from ⟨hbx.out.1.below hb5, below_then hbx.out.2 hb5⟩)
      clear hb5 hkj
      go_wp2_with fail
      exact ⟨⟨j + 1, by omega, by go_num, HNX⟩, by simp [intOf]; omega⟩
    · obtain ⟨cur, hcs, hmk⟩ := make_pc L.length hL wr
      have hbn := below1 wr (.cells cur 64)
      have HAT := Lib.hid (show PieceAt w (wr.alloc (.cells cur 64)) (.slice p D.length cap) (.slice q m c) E (.slice (some ⟨wr.heap.size, 0, none⟩) 0 L.length) ((L.take 0).map (pieceOf D)) from
        ⟨hbx.out.1.below hbn, World.ownsRow_made wr cur L.length (hbx.out.1.lt) (by unfold maxLen; omega) hcs, below_then hbx.out.2 hbn⟩)
      clear hbn hcs x0 x1 x2
      go_wp2_with fail
      clear hmk
      go_loopw [8, 28] (fun v i wx => ∃ j : Nat, j ≤ L.length ∧ i = .int .i64 j ∧ Hid (PieceAt w wx (.slice p D.length cap) (.slice q m c) E v ((L.take j).map (pieceOf D)))) (fun _ i _ => L.length - (intOf i).toNat)
      case atStart => exact ⟨0, Nat.zero_le _, rfl, HAT⟩
      case round =>
        obtain ⟨j, hj, rfl, hat⟩ := hrel
        obtain ⟨pv, cv, rfl⟩ := owns_shape hat.out.own
        obtain ⟨x0, x1, x2⟩ := hat.out.box.cells
        by_cases hlt : j < L.length
        · obtain ⟨bi, offi, _, e1, _, hc⟩ := (HI.out.below hat.out.below).cell (by omega)
          simp only [Value.slice.injEq, true_and] at e1
          obtain ⟨rfl, rfl⟩ := e1
          have c0 := hc j hlt
          have hkj := HK.out j hlt
          have HTK := Lib.hid (take_next D L j hlt)
          clear hc
          generalize L[j] = k at *
          obtain ⟨b, off, _, e2, hcap, hmax, hb, hc⟩ := (HD.out.below hat.out.below).cell (by omega)
          simp only [Value.slice.injEq, true_and] at e2
          obtain ⟨rfl, rfl⟩ := e2
          obtain ⟨O, hO⟩ : ∃ O, O = k * 256 := ⟨_, rfl⟩
          have hO2 : O + 256 ≤ D.length := by omega
          have hwr : IntKind.i64.wrap ((k : Int) * 256) = (O : Int) := by rw [IntWalk.i64_in _ (by omega)]; omega
          have hcv1 : (convert 22 9 (.slice (some ⟨b, off + O, none⟩) 256 (cap - O))).run Try.prog wr = .ok (.string (bytesOf D (O) 256)) wr := by
            have hl : ((D.drop (O)).take 256).length = 256 := by simp; omega
            have h := run_convert_bytes_back (P := Try.prog) wr 22 9 5 ⟨b, off + O, none⟩ (cap - O) ((D.drop (O)).take 256) Try.underlying22 Try.underlying5 Try.underlying9 (fun i hi => by
              rw [add_lit, List.getElem_take, List.getElem_drop, Nat.add_assoc]
              exact hc (O + i) (by omega))
            rw [hl] at h
            exact h
          clear hc
          have hlen : ((L.take j).map (pieceOf D)).length = j := by simp; omega
          have hlen2 : ((L.take (j + 1)).map (pieceOf D)).length = j + 1 := by simp; omega
          have hown : World.ownsRow wr (w.heap.size + 1) 64 2 (.slice pv ((L.take j).map (pieceOf D)).length cv) ((L.take j).map (pieceOf D)).length (pC ((L.take j).map (pieceOf D))) := hat.out.own
          rw [hlen] at hown
          have hbn := below1 wr (.cells #[.int .i64 (k : Nat), .string (bytesOf D (O) 256)] 64)
          obtain ⟨p', cap', w6, hrun, ho6, ht6⟩ := run_append_pc (wr.alloc (.cells #[.int .i64 (k : Nat), .string (bytesOf D (O) 256)] 64)) (w.heap.size + 1) _ _ _ (owns_below hown hbn) wr.heap.size (.int .i64 (k : Nat)) (.string (bytesOf D (O) 256)) (heap_alloc_new _ _) rfl rfl (by unfold maxLen; omega) (by omega) (by have := hat.out.box.lt; simp; omega)
          have HNX := Lib.hid (show PieceAt w w6 (.slice (some ⟨b, off, none⟩) D.length cap) (.slice q m c) E (.slice p' (j + 1) cap') ((L.take (j + 1)).map (pieceOf D)) from
            ⟨(hat.out.box.below hbn).touch ht6 (fun e => by have := (owns_lt hown e.symm).1; omega), by
              unfold OwnP
              rw [hlen2, HTK.out]
              have e2 : pC ((L.take j).map (pieceOf D) ++ [pieceOf D k]) = pC ((L.take j).map (pieceOf D)) ++ [.int .i64 (k : Nat), .string (bytesOf D (O) 256)] := by simp [pC, pieceOf, hO]
              rw [e2]; exact ho6, Touch.below (below_then hat.out.below hbn) ht6 (fun k hk => by have := (owns_lt hown hk.symm).1; omega) (Nat.le_trans hat.out.below.size hbn.size)⟩)
          have HR := Lib.hid hrun
          rw [hlen]
          clear hrun ho6 ht6 hown hbn hlen hlen2 hkj hO
          go_wp2_with (at_builtin; (refine wpList_append_run rfl (.tmp 34) (.tmp 44) 42 rfl _ _ _ rfl rfl _ HR.out ?_))
          exact ⟨⟨j + 1, by omega, by go_num, HNX⟩, by simp [intOf]; omega⟩
        · go_wp2_with fail
          go_ret2
          obtain rfl : j = L.length := by omega
          have ho := hat.out.own
          unfold OwnP at ho
          rw [List.take_length] at ho
          refine ⟨.slice pv (L.map (pieceOf D)).length cv, ?_, owns_base ho (Nat.le_succ _), hat.out.below⟩
          rw [List.take_length]; rfl
end Go.Proofs.Ytocphogddjcblaa
