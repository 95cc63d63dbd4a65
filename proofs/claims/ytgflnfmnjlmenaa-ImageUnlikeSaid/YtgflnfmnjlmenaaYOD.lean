/- Arguments opened. -/
import Derived.Test.YtgflnfmnjlmenaaYOC
namespace Go.Proofs.Ytgflnfmnjlmenaa
set_option maxRecDepth 100000
open Go.RowKit Go.Deep Go.Joins
structure OkR (c : Reg) : Prop where
  u0 : U64 c.s0
  u1 : U64 c.s1
  u2 : U64 c.s2
  u3 : U64 c.s3
  u4 : U64 c.s4
  u5 : U64 c.s5
  u6 : U64 c.s6
  u7 : U64 c.s7
  u8 : U64 c.s8
  u9 : U64 c.s9
  u10 : U64 c.s10
  u11 : U64 c.s11
  u12 : U64 c.s12
  u13 : U64 c.s13
  u14 : U64 c.s14
  u15 : U64 c.s15
structure OkH (h : Hart) : Prop where
  x : ∀ n ∈ h.x, U64 n
  pc : U64 h.pc
  c : OkR h.c
  rat : U64 h.rat
end Go.Proofs.Ytgflnfmnjlmenaa

namespace Go.Proofs.Ytgflnfmnjlmenaa
set_option maxRecDepth 100000
open Go.RowKit Go.Deep Go.Joins
open Go.WideShapes Go.ChangeShapes Go.ChangeAt
theorem cells27 : Try.prog.cellsOf 27 = 52 := by kernel_rfl
theorem cells25 : Try.prog.cellsOf 25 = 16 := by kernel_rfl
theorem cells23 : Try.prog.cellsOf 23 = 32 := by kernel_rfl
def numOf : Value → Int
  | .int _ a => a
  | _ => 0
section
variable {H : Type} {enc : TypeId × Value → H} {w : World} {base : Nat} {spare : Nat → Bool} {held : Bool}
theorem open_xs {n : Nat} {cs : List Value} {y : DataW H × List MemPlace} (h : DataW.trod enc Try.prog w base spare held n 23 cs = some y) : ∃ x : List Int, x.length = 32 ∧ cs = x.map (.int .u64) ∧ ∀ n ∈ x, U64 n := by
  obtain ⟨xs, m, _, _, hlen, hxs, hg⟩ := DataW.trod_array Try.underlying23 h
  rw [cells23] at hlen
  have key : ∀ i (h1 : i < cs.length), ∃ k, cs[i] = .int .u64 k ∧ U64 k := fun i h1 => by
    have hi : i < 32 := by omega
    have g := hg i hi
    rw [cells22, Nat.mul_one, List.getElem?_eq_getElem (by omega)] at g
    obtain ⟨k, hk, hu⟩ := open_u64 g
    have e : (cs.drop i).take 1 = [cs[i]] := by
      rw [List.drop_eq_getElem_cons h1]
      rfl
    rw [e] at hk
    exact ⟨k, by simpa using hk, hu⟩
  refine ⟨cs.map numOf, by rw [List.length_map, hlen], ?_, fun n hn => ?_⟩
  · rw [List.map_map]
    refine List.ext_getElem (by rw [List.length_map]) fun i h1 _ => ?_
    obtain ⟨k, hk, _⟩ := key i h1
    rw [List.getElem_map, hk]
    rfl
  · obtain ⟨c, hc, rfl⟩ := List.mem_map.1 hn
    obtain ⟨i, h1, rfl⟩ := List.mem_iff_getElem.1 hc
    obtain ⟨k, hk, hu⟩ := key i h1
    rw [hk]
    exact hu
theorem open_regs {n : Nat} {cs : List Value} {y : DataW H × List MemPlace} (h : DataW.trod enc Try.prog w base spare held n 25 cs = some y) : ∃ c : Reg, cs = [.int .u64 c.s0, .int .u64 c.s1, .int .u64 c.s2, .int .u64 c.s3, .int .u64 c.s4, .int .u64 c.s5, .int .u64 c.s6, .int .u64 c.s7, .int .u64 c.s8, .int .u64 c.s9, .int .u64 c.s10, .int .u64 c.s11, .int .u64 c.s12, .int .u64 c.s13, .int .u64 c.s14, .int .u64 c.s15] ∧ OkR c := by
  obtain ⟨xs, m, _, _, hlen, hxs, hg⟩ := DataW.trod_struct Try.underlying25 h
  rw [cells25] at hlen
  match cs, hlen, xs, hxs with
  | [c0, c1, c2, c3, c4, c5, c6, c7, c8, c9, c10, c11, c12, c13, c14, c15], _, [y0, y1, y2, y3, y4, y5, y6, y7, y8, y9, y10, y11, y12, y13, y14, y15], _ =>
    have g0 := hg 0 _ rfl
    have g1 := hg 1 _ rfl
    have g2 := hg 2 _ rfl
    have g3 := hg 3 _ rfl
    have g4 := hg 4 _ rfl
    have g5 := hg 5 _ rfl
    have g6 := hg 6 _ rfl
    have g7 := hg 7 _ rfl
    have g8 := hg 8 _ rfl
    have g9 := hg 9 _ rfl
    have g10 := hg 10 _ rfl
    have g11 := hg 11 _ rfl
    have g12 := hg 12 _ rfl
    have g13 := hg 13 _ rfl
    have g14 := hg 14 _ rfl
    have g15 := hg 15 _ rfl
    simp only [List.getElem?_cons_succ, List.getElem?_cons_zero] at g0 g1 g2 g3 g4 g5 g6 g7 g8 g9 g10 g11 g12 g13 g14 g15
    obtain ⟨k0, e0, o0⟩ := open_u64 g0
    obtain ⟨k1, e1, o1⟩ := open_u64 g1
    obtain ⟨k2, e2, o2⟩ := open_u64 g2
    obtain ⟨k3, e3, o3⟩ := open_u64 g3
    obtain ⟨k4, e4, o4⟩ := open_u64 g4
    obtain ⟨k5, e5, o5⟩ := open_u64 g5
    obtain ⟨k6, e6, o6⟩ := open_u64 g6
    obtain ⟨k7, e7, o7⟩ := open_u64 g7
    obtain ⟨k8, e8, o8⟩ := open_u64 g8
    obtain ⟨k9, e9, o9⟩ := open_u64 g9
    obtain ⟨k10, e10, o10⟩ := open_u64 g10
    obtain ⟨k11, e11, o11⟩ := open_u64 g11
    obtain ⟨k12, e12, o12⟩ := open_u64 g12
    obtain ⟨k13, e13, o13⟩ := open_u64 g13
    obtain ⟨k14, e14, o14⟩ := open_u64 g14
    obtain ⟨k15, e15, o15⟩ := open_u64 g15
    obtain rfl : c0 = .int .u64 k0 := by simpa [cells22] using e0
    obtain rfl : c1 = .int .u64 k1 := by simpa [cells22] using e1
    obtain rfl : c2 = .int .u64 k2 := by simpa [cells22] using e2
    obtain rfl : c3 = .int .u64 k3 := by simpa [cells22] using e3
    obtain rfl : c4 = .int .u64 k4 := by simpa [cells22] using e4
    obtain rfl : c5 = .int .u64 k5 := by simpa [cells22] using e5
    obtain rfl : c6 = .int .u64 k6 := by simpa [cells22] using e6
    obtain rfl : c7 = .int .u64 k7 := by simpa [cells22] using e7
    obtain rfl : c8 = .int .u64 k8 := by simpa [cells22] using e8
    obtain rfl : c9 = .int .u64 k9 := by simpa [cells22] using e9
    obtain rfl : c10 = .int .u64 k10 := by simpa [cells22] using e10
    obtain rfl : c11 = .int .u64 k11 := by simpa [cells22] using e11
    obtain rfl : c12 = .int .u64 k12 := by simpa [cells22] using e12
    obtain rfl : c13 = .int .u64 k13 := by simpa [cells22] using e13
    obtain rfl : c14 = .int .u64 k14 := by simpa [cells22] using e14
    obtain rfl : c15 = .int .u64 k15 := by simpa [cells22] using e15
    exact ⟨⟨k0, k1, k2, k3, k4, k5, k6, k7, k8, k9, k10, k11, k12, k13, k14, k15⟩, rfl, ⟨o0, o1, o2, o3, o4, o5, o6, o7, o8, o9, o10, o11, o12, o13, o14, o15⟩⟩
theorem open_hc {fuel : Nat} {cs : List Value} {y : DataW H × List MemPlace} (hf : DataW.trod enc Try.prog w base spare held fuel 27 cs = some y) : ∃ h : Hart, cs = hartL h ∧ OkH h := by
  obtain ⟨xs, n, _, hd, hsz, hlen, hg⟩ := DataW.trod_struct Try.underlying27 hf
  rw [cells27] at hsz
  match xs, hlen with
  | [y0, y1, y2, y3, y4, y5], _ =>
    have g0 : DataW.trod enc Try.prog w base spare held n 23 ((cs.drop 0).take (Try.prog.cellsOf 23)) = some y0 := hg 0 _ rfl
    have g1 : DataW.trod enc Try.prog w base spare held n 22 ((cs.drop 32).take (Try.prog.cellsOf 22)) = some y1 := hg 1 _ rfl
    have g2 : DataW.trod enc Try.prog w base spare held n 3 ((cs.drop 33).take (Try.prog.cellsOf 3)) = some y2 := hg 2 _ rfl
    have g3 : DataW.trod enc Try.prog w base spare held n 25 ((cs.drop 34).take (Try.prog.cellsOf 25)) = some y3 := hg 3 _ rfl
    have g4 : DataW.trod enc Try.prog w base spare held n 4 ((cs.drop 50).take (Try.prog.cellsOf 4)) = some y4 := hg 4 _ rfl
    have g5 : DataW.trod enc Try.prog w base spare held n 22 ((cs.drop 51).take (Try.prog.cellsOf 22)) = some y5 := hg 5 _ rfl
    obtain ⟨x, hx, e0, ox⟩ := open_xs g0
    obtain ⟨pc, e1, opc⟩ := open_u64 g1
    obtain ⟨mode, e2, _, _⟩ := DataW.trod_int Try.underlying3 g2
    obtain ⟨c, e3, oc⟩ := open_regs g3
    obtain ⟨held, e4, _⟩ := DataW.trod_bool Try.underlying4 g4
    obtain ⟨rat, e5, orat⟩ := open_u64 g5
    rw [cells23] at e0
    rw [cells22] at e1 e5
    rw [cells3] at e2
    rw [cells25] at e3
    rw [cells4] at e4
    refine ⟨⟨x, hx, pc, mode, c, held, rat⟩, ?_, ⟨ox, opc, oc, orat⟩⟩
    have e : cs = hartL ⟨x, hx, pc, mode, c, held, rat⟩ := by
      have a0 := cut_list cs 0 32
      have a1 := cut_list cs 32 1
      have a2 := cut_list cs 33 1
      have a3 := cut_list cs 34 16
      have a4 := cut_list cs 50 1
      have a5 := cut_list cs 51 1
      have z : cs.drop 52 = [] := List.drop_eq_nil_of_le (by omega)
      rw [show 51 + 1 = 52 from rfl, z, e5] at a5
      rw [show 50 + 1 = 51 from rfl, a5, e4] at a4
      rw [show 34 + 16 = 50 from rfl, a4, e3] at a3
      rw [show 33 + 1 = 34 from rfl, a3, e2] at a2
      rw [show 32 + 1 = 33 from rfl, a2, e1] at a1
      rw [show 0 + 32 = 32 from rfl, a1, e0] at a0
      exact a0
    exact e
end

end Go.Proofs.Ytgflnfmnjlmenaa
