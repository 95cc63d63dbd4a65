/- The reference's one: a put that is refused. -/
import Derived.Test.YtfpdfhncifcghaaTf
namespace Go.Proofs.Ytfpdfhncifcghaa
open Go.RowKit Go.Deep Go.Joins

set_option maxRecDepth 100000 in
set_option maxHeartbeats 1000000 in
theorem one_putbad (l : List Rw) (v : Value) (B : Nat) (nm : ByteArray) (ps : Int) (bs : ByteArray) (w : World) (hown : OwnR w B v l) (hnm : nameB nm = true) (hn : nm.size ≤ 1099511627776) (hm : l.length ≤ 1099511627776) (k : Int) (hi : idx (sameName nm) l = k) (er : Int) (hbad : (ps < 0 ∧ er = 1) ∨ (0 ≤ ps ∧ 1048576 < ps ∧ er = 2) ∨ (0 ≤ ps ∧ ps ≤ 1048576 ∧ 1048576 - ps < (bs.size : Int) ∧ er = 2)) :
    Calls Try.prog 24 #[.agg #[v], .agg #[.int .i64 1, .string nm, .int .i64 ps, .string bs]] w (One w B v (l.map core) er) := by
  have HOWN := Lib.hid hown
  obtain ⟨q, cap, rfl⟩ := owns_shape hown.1
  clear hown
  have hb0 : Below w.heap.size w (((w.alloc (.cells #[.slice q l.length cap] 24)).alloc (opObj ⟨1, nm, ps, bs⟩)).alloc (.cells #[.slice none 0 0] 24)) := (below2 w _ _).alloc (by simp; omega) _
  have HB0 := Lib.hid hb0
  have hfind := find2_any l (.slice q l.length cap) nm _ ((reads_of_owns HOWN.out.1).below hb0) hm
  have HF := Lib.hid hfind
  have HI := Lib.hid hi
  clear hb0 hfind hi
  go_enter Try.func24, Try.ntmps24
  go_wp2_with (go_at_call 11; refine (name2_any nm _ hn).mono ?_; rintro e w1 ⟨rfl, rfl⟩; rw [hnm])
  refine HF.out.mono ?_
  rw [HI.out]
  rintro e w5 ⟨rfl, hb5⟩
  obtain ⟨D5, O5, R5⟩ := start_keep (o := ⟨1, nm, ps, bs⟩) hb5
  have d5 := D5.c
  have l1 := D5.lt
  have r5 := R5.c
  have z5 := R5.f
  have l3 := R5.lt
  have o5 : w5.cell? ⟨w.heap.size + 1, 0, none⟩ = some (.int .i64 1) := by rw [cell_of_row _ _ _ _ 53 _ O5]; rfl
  have p5 : w5.cell? ⟨w.heap.size + 1, 2, none⟩ = some (.int .i64 ps) := by rw [cell_of_row _ _ _ _ 53 _ O5]; rfl
  have b5 : w5.cell? ⟨w.heap.size + 1, 3, none⟩ = some (.string bs) := by rw [cell_of_row _ _ _ _ 53 _ O5]; rfl
  have l2 := (Array.getElem?_eq_some_iff.1 O5).1
  have HB := Lib.hid (below_then HB0.out hb5)
  have HD5 := Lib.hid D5
  have HR5 := Lib.hid R5
  have HO5 := Lib.hid O5
  clear hb5 D5 R5 O5
  rcases hbad with ⟨h1, rfl⟩ | ⟨h0, h1, rfl⟩ | ⟨h0, h1, h2, rfl⟩
  · go_wp2_with fail
    refine bodyPost_ret (v := .tuple #[.agg #[.slice q l.length cap], .int .i64 1]) (by simp [results, Try.results24, go_sem, r5]) rfl (one_same HOWN.out ?_)
    exact HB.out.setCell (by simp; omega) _
  · go_wp2_with fail
    refine bodyPost_ret (v := .tuple #[.agg #[.slice q l.length cap], .int .i64 2]) (by simp [results, Try.results24, go_sem, r5]) rfl (one_same HOWN.out ?_)
    exact HB.out.setCell (by simp; omega) _
  · go_wp2_with fail
    refine bodyPost_ret (v := .tuple #[.agg #[.slice q l.length cap], .int .i64 2]) (by simp [results, Try.results24, go_sem, r5]) rfl (one_same HOWN.out ?_)
    exact HB.out.setCell (by simp; omega) _

set_option maxRecDepth 100000 in
set_option maxHeartbeats 1000000 in
theorem one_putfull (l : List Rw) (v : Value) (B : Nat) (nm : ByteArray) (ps : Int) (bs : ByteArray) (w : World) (hown : OwnR w B v l) (hnm : nameB nm = true) (hn : nm.size ≤ 1099511627776) (hm : l.length ≤ 1099511627776) (hi : idx (sameName nm) l = -1) (h0 : 0 ≤ ps) (h1 : ps ≤ 1048576) (h2 : (bs.size : Int) ≤ 1048576 - ps) (hlen : 32 ≤ l.length) :
    Calls Try.prog 24 #[.agg #[v], .agg #[.int .i64 1, .string nm, .int .i64 ps, .string bs]] w (One w B v (l.map core) 4) := by
  have hlen2 : (32 : Int) ≤ (l.length : Int) := by omega
  have HOWN := Lib.hid hown
  obtain ⟨q, cap, rfl⟩ := owns_shape hown.1
  clear hown
  have hb0 : Below w.heap.size w (((w.alloc (.cells #[.slice q l.length cap] 24)).alloc (opObj ⟨1, nm, ps, bs⟩)).alloc (.cells #[.slice none 0 0] 24)) := (below2 w _ _).alloc (by simp; omega) _
  have HB0 := Lib.hid hb0
  have hfind := find2_any l (.slice q l.length cap) nm _ ((reads_of_owns HOWN.out.1).below hb0) hm
  have HF := Lib.hid hfind
  have HI := Lib.hid hi
  clear hb0 hfind hi
  go_enter Try.func24, Try.ntmps24
  go_wp2_with (go_at_call 11; refine (name2_any nm _ hn).mono ?_; rintro e w1 ⟨rfl, rfl⟩; rw [hnm])
  refine HF.out.mono ?_
  rw [HI.out]
  rintro e w5 ⟨rfl, hb5⟩
  obtain ⟨D5, O5, R5⟩ := start_keep (o := ⟨1, nm, ps, bs⟩) hb5
  have d5 := D5.c
  have l1 := D5.lt
  have r5 := R5.c
  have z5 := R5.f
  have l3 := R5.lt
  have o5 : w5.cell? ⟨w.heap.size + 1, 0, none⟩ = some (.int .i64 1) := by rw [cell_of_row _ _ _ _ 53 _ O5]; rfl
  have p5 : w5.cell? ⟨w.heap.size + 1, 2, none⟩ = some (.int .i64 ps) := by rw [cell_of_row _ _ _ _ 53 _ O5]; rfl
  have b5 : w5.cell? ⟨w.heap.size + 1, 3, none⟩ = some (.string bs) := by rw [cell_of_row _ _ _ _ 53 _ O5]; rfl
  have l2 := (Array.getElem?_eq_some_iff.1 O5).1
  have HB := Lib.hid (below_then HB0.out hb5)
  have HD5 := Lib.hid D5
  have HR5 := Lib.hid R5
  have HO5 := Lib.hid O5
  clear hb5 D5 R5 O5
  go_wp2_with fail
  refine bodyPost_ret (v := .tuple #[.agg #[.slice q l.length cap], .int .i64 4]) (by simp [results, Try.results24, go_sem, r5]) rfl (one_same HOWN.out ?_)
  exact HB.out.setCell (by simp; omega) _
end Go.Proofs.Ytfpdfhncifcghaa
