/- Arguments opened. -/
import Derived.Test.YtgflnfmnjlmenaaYOB
namespace Go.Proofs.Ytgflnfmnjlmenaa
set_option maxRecDepth 100000
open Go.RowKit Go.Deep Go.Joins
open Go.WideShapes Go.ChangeShapes Go.ChangeAt
theorem cells35 : Try.prog.cellsOf 35 = 21 := by kernel_rfl
theorem cells33 : Try.prog.cellsOf 33 = 9 := by kernel_rfl
theorem cells28 : Try.prog.cellsOf 28 = 1 := by kernel_rfl
theorem cells9 : Try.prog.cellsOf 9 = 1 := by kernel_rfl
theorem cells4 : Try.prog.cellsOf 4 = 1 := by kernel_rfl
theorem cells3 : Try.prog.cellsOf 3 = 1 := by kernel_rfl
theorem bytes9 : Try.prog.bytesOf 9 = 16 := by kernel_rfl
theorem cut_list {α : Type} (l : List α) (a k : Nat) : l.drop a = (l.drop a).take k ++ l.drop (a + k) := by
  rw [← List.drop_drop, List.take_append_drop]
def U64 (x : Int) : Prop := 0 ≤ x ∧ x ≤ 18446744073709551615
/-- Numbers of a board that came in. -/
structure OkB (b : Bd) : Prop where
  cmp : U64 b.cmp
  sector : U64 b.sector
  addr : U64 b.addr
  nicA : U64 b.nicA
  nicL : U64 b.nicL
  inn : b.inn.size ≤ maxLen
  sec : b.sec.size ≤ maxLen
  pl : Pc.Ok b.pl
section
variable {H : Type} {enc : TypeId × Value → H} {w : World} {base : Nat} {spare : Nat → Bool} {held : Bool}
theorem open_u64 {n : Nat} {cs : List Value} {y : DataW H × List MemPlace} (h : DataW.trod enc Try.prog w base spare held n 22 cs = some y) : ∃ k : Int, cs = [.int .u64 k] ∧ U64 k := by
  obtain ⟨k, e, rfl, hk⟩ := DataW.trod_int Try.underlying22 h
  have b := bounds_u64 hk
  exact ⟨k, e, b.1, b.2⟩
theorem open_f {fuel : Nat} {c : Value} {x : DataW H × List MemPlace} (h : DataW.trod enc Try.prog w base spare held fuel 28 [c] = some x) :
    ∃ F, FAt w c F ∧ (∀ s ∈ F, s.size ≤ maxLen) ∧ ∀ N, (∀ k ∈ x.1.weights Try.prog 28, k ≤ N) → F.length * 16 ≤ N := by
  rcases open_strings Try.underlying28 Try.underlying9 cells9 h with ⟨hcs, rfl⟩ | ⟨a, len, cap, ss, hcs, _, hl, hm, hz, rfl, hcell, hsz⟩
  · simp only [List.cons.injEq, and_true] at hcs
    subst hcs
    exact ⟨[], ⟨rfl, .inl ⟨rfl, rfl⟩⟩, fun s hs => by (cases hs), fun N _ => Nat.zero_le _⟩
  · simp only [List.cons.injEq, and_true] at hcs
    subst hcs
    have hlen : len ≤ ss.length := by rw [hz]; split <;> omega
    have hDl : (ss.take len).length = len := by simp; omega
    refine ⟨ss.take len, ⟨by rw [sC_length, Nat.mul_one], .inr ⟨a, cap, by rw [hDl], by rw [hDl]; exact hl, hm, fun j u hu => ?_⟩⟩, fun s hs => hsz s (List.mem_of_mem_take hs), fun N hN => ?_⟩
    · have hj : j < len := by
        have := (List.getElem?_eq_some_iff.1 hu).1
        rw [sC_length, hDl] at this
        exact this
      rw [hcell j (by omega), ← hu]
      simp only [sC, List.getElem?_map, List.getElem?_take_of_lt hj, List.getElem?_eq_getElem (show j < ss.length by omega), List.getD_eq_getElem?_getD, Option.map_some, Option.getD_some]
    · have := hN _ (by simp only [DataW.weights, Try.underlying28, List.mem_cons]; exact .inl rfl)
      rw [bytes9] at this
      simp [strs] at this
      rw [hDl]
      omega
theorem open_bd {fuel : Nat} {cs : List Value} {y : DataW H × List MemPlace} (hf : DataW.trod enc Try.prog w base spare held fuel 35 cs = some y) :
    ∃ b F, cs = (bdC b).toList ∧ FAt w (.slice b.fp b.fn b.fc) F ∧ (∀ s ∈ F, s.size ≤ maxLen) ∧ OkB b ∧ ∀ N, (∀ k ∈ y.1.weights Try.prog 35, k ≤ N) → F.length * 16 ≤ N := by
  obtain ⟨xs, n, _, hd, hsz, hlen, hg⟩ := DataW.trod_struct Try.underlying35 hf
  rw [cells35] at hsz
  subst hd
  match xs, hlen with
  | [y0, y1, y2, y3, y4, y5, y6, y7, y8, y9, y10, y11, y12], _ =>
    have g0 : DataW.trod enc Try.prog w base spare held n 4 ((cs.drop 0).take (Try.prog.cellsOf 4)) = some y0 := hg 0 _ rfl
    have g1 : DataW.trod enc Try.prog w base spare held n 22 ((cs.drop 1).take (Try.prog.cellsOf 22)) = some y1 := hg 1 _ rfl
    have g2 : DataW.trod enc Try.prog w base spare held n 9 ((cs.drop 2).take (Try.prog.cellsOf 9)) = some y2 := hg 2 _ rfl
    have g3 : DataW.trod enc Try.prog w base spare held n 4 ((cs.drop 3).take (Try.prog.cellsOf 4)) = some y3 := hg 3 _ rfl
    have g4 : DataW.trod enc Try.prog w base spare held n 9 ((cs.drop 4).take (Try.prog.cellsOf 9)) = some y4 := hg 4 _ rfl
    have g5 : DataW.trod enc Try.prog w base spare held n 22 ((cs.drop 5).take (Try.prog.cellsOf 22)) = some y5 := hg 5 _ rfl
    have g6 : DataW.trod enc Try.prog w base spare held n 22 ((cs.drop 6).take (Try.prog.cellsOf 22)) = some y6 := hg 6 _ rfl
    have g7 : DataW.trod enc Try.prog w base spare held n 4 ((cs.drop 7).take (Try.prog.cellsOf 4)) = some y7 := hg 7 _ rfl
    have g8 : DataW.trod enc Try.prog w base spare held n 4 ((cs.drop 8).take (Try.prog.cellsOf 4)) = some y8 := hg 8 _ rfl
    have g9 : DataW.trod enc Try.prog w base spare held n 28 ((cs.drop 9).take (Try.prog.cellsOf 28)) = some y9 := hg 9 _ rfl
    have g10 : DataW.trod enc Try.prog w base spare held n 22 ((cs.drop 10).take (Try.prog.cellsOf 22)) = some y10 := hg 10 _ rfl
    have g11 : DataW.trod enc Try.prog w base spare held n 22 ((cs.drop 11).take (Try.prog.cellsOf 22)) = some y11 := hg 11 _ rfl
    have g12 : DataW.trod enc Try.prog w base spare held n 33 ((cs.drop 12).take (Try.prog.cellsOf 33)) = some y12 := hg 12 _ rfl
    obtain ⟨k0, e0, _⟩ := DataW.trod_bool Try.underlying4 g0
    rw [cells4] at e0
    obtain ⟨k1, e1, o1⟩ := open_u64 g1
    rw [cells22] at e1
    obtain ⟨k2, e2, _, o2⟩ := DataW.trod_string Try.underlying9 g2
    rw [cells9] at e2
    obtain ⟨k3, e3, _⟩ := DataW.trod_bool Try.underlying4 g3
    rw [cells4] at e3
    obtain ⟨k4, e4, _, o4⟩ := DataW.trod_string Try.underlying9 g4
    rw [cells9] at e4
    obtain ⟨k5, e5, o5⟩ := open_u64 g5
    rw [cells22] at e5
    obtain ⟨k6, e6, o6⟩ := open_u64 g6
    rw [cells22] at e6
    obtain ⟨k7, e7, _⟩ := DataW.trod_bool Try.underlying4 g7
    rw [cells4] at e7
    obtain ⟨k8, e8, _⟩ := DataW.trod_bool Try.underlying4 g8
    rw [cells4] at e8
    have l9 : (cs.drop 9).take (Try.prog.cellsOf 28) = [cs[9]'(by omega)] := by
      rw [cells28, List.drop_eq_getElem_cons (by omega)]
      rfl
    rw [l9] at g9
    obtain ⟨F, hF, hFs, hw⟩ := open_f g9
    obtain ⟨q, cap, hq⟩ := hF.is
    have e9 : (cs.drop 9).take 1 = [.slice q F.length cap] := by rw [← hq, ← l9, cells28]
    obtain ⟨k10, e10, o10⟩ := open_u64 g10
    rw [cells22] at e10
    obtain ⟨k11, e11, o11⟩ := open_u64 g11
    rw [cells22] at e11
    obtain ⟨k12, e12, o12⟩ := Pc.open_cells g12
    rw [cells33] at e12
    refine ⟨⟨k0, k1, k2, k3, k4, k5, k6, k7, k8, q, F.length, cap, k10, k11, k12⟩, F, ?_, hq ▸ hF, hFs, ⟨o1, o5, o6, o10, o11, o2, o4, o12⟩, fun N hN => hw N fun k hk => hN k ?_⟩
    · have e : cs = bdL ⟨k0, k1, k2, k3, k4, k5, k6, k7, k8, q, F.length, cap, k10, k11, k12⟩ ++ plL k12 := by
        have a0 := cut_list cs 0 1
        have a1 := cut_list cs 1 1
        have a2 := cut_list cs 2 1
        have a3 := cut_list cs 3 1
        have a4 := cut_list cs 4 1
        have a5 := cut_list cs 5 1
        have a6 := cut_list cs 6 1
        have a7 := cut_list cs 7 1
        have a8 := cut_list cs 8 1
        have a9 := cut_list cs 9 1
        have a10 := cut_list cs 10 1
        have a11 := cut_list cs 11 1
        have a12 := cut_list cs 12 9
        have z : cs.drop 21 = [] := List.drop_eq_nil_of_le (by omega)
        rw [show 12 + 9 = 21 from rfl, z, e12] at a12
        rw [show 11 + 1 = 12 from rfl, a12, e11] at a11
        rw [show 10 + 1 = 11 from rfl, a11, e10] at a10
        rw [show 9 + 1 = 10 from rfl, a10, e9] at a9
        rw [show 8 + 1 = 9 from rfl, a9, e8] at a8
        rw [show 7 + 1 = 8 from rfl, a8, e7] at a7
        rw [show 6 + 1 = 7 from rfl, a7, e6] at a6
        rw [show 5 + 1 = 6 from rfl, a6, e5] at a5
        rw [show 4 + 1 = 5 from rfl, a5, e4] at a4
        rw [show 3 + 1 = 4 from rfl, a4, e3] at a3
        rw [show 2 + 1 = 3 from rfl, a3, e2] at a2
        rw [show 1 + 1 = 2 from rfl, a2, e1] at a1
        rw [show 0 + 1 = 1 from rfl, a1, e0] at a0
        rw [List.append_nil] at a0
        exact a0
      rw [bdC_parts]
      exact e
    · simp [DataW.weights, Try.underlying35, DataW.weightsEach, hk]
end

end Go.Proofs.Ytgflnfmnjlmenaa
