/- What every register keeps. -/
import Derived.Test.YthchakfffenoiaaJ
import Derived.Test.YthchakfffenoiaaFD
import Derived.Test.YthchakfffenoiaaFG
namespace Go.Proofs.Ythchakfffenoiaa
open Go.RowKit Go.Deep Go.Joins
theorem right_mk (c : Reg) (h0 : (stV c.s0 == c.s0) = true) (h1 : ((bits .andNot .u64 c.s1 46079) == 0) = true) (h2 : ((bits .andNot .u64 c.s2 546) == 0) = true) (h3 : ((bits .andNot .u64 c.s3 2730) == 0) = true) (h4 : ((bits .andNot .u64 c.s4 546) == 0) = true) (h5 : ((bits .andNot .u64 c.s5 18446744073709551613) == 0) = true) (h6 : ((bits .andNot .u64 c.s10 18446744073709551613) == 0) = true) (h7 : ((bits .andNot .u64 c.s7 18446744073709551614) == 0) = true) (h8 : ((bits .andNot .u64 c.s12 18446744073709551614) == 0) = true) (h9 : ((bits .andNot .u64 c.s15 17293840161288749055) == 0) = true) (h10 : (tbB c.s15) = true) : rightB c = true := by
  unfold rightB
  rw [h0, h1, h2, h3, h4, h5, h6, h7, h8, h9, h10]
  rfl
theorem right_out (c : Reg) (h : rightB c = true) : (stV c.s0 == c.s0) = true ∧ ((bits .andNot .u64 c.s1 46079) == 0) = true ∧ ((bits .andNot .u64 c.s2 546) == 0) = true ∧ ((bits .andNot .u64 c.s3 2730) == 0) = true ∧ ((bits .andNot .u64 c.s4 546) == 0) = true ∧ ((bits .andNot .u64 c.s5 18446744073709551613) == 0) = true ∧ ((bits .andNot .u64 c.s10 18446744073709551613) == 0) = true ∧ ((bits .andNot .u64 c.s7 18446744073709551614) == 0) = true ∧ ((bits .andNot .u64 c.s12 18446744073709551614) == 0) = true ∧ ((bits .andNot .u64 c.s15 17293840161288749055) == 0) = true ∧ (tbB c.s15) = true := by
  unfold rightB at h
  simp only [Bool.and_eq_true] at h
  simp only [and_assoc] at h
  exact h
theorem rright_eq (c : Reg) (hc : OkR c) : rrightB c = rightB c := by
  unfold rrightB rightB
  rw [satp_same c.s15 hc.u15, show (c.s0 == stV c.s0) = (stV c.s0 == c.s0) from by
    apply Bool.eq_iff_iff.2
    simp only [beq_iff_eq]
    exact eq_comm,
    not_const2 _ _ c2 c.s5, not_const2 _ _ c2 c.s10, not_const2 _ _ c1 c.s7, not_const2 _ _ c1 c.s12]
  simp only [Bool.and_assoc]
/-- What a register's write keeps. -/
structure Good (ro : Bool) (rd : Reg → Int → Int → Int) (wr : Reg → Int → Reg) : Prop where
  keeps : ro = false → ∀ c v, OkR c → U64 v → rightB c = true → rightB (wr c v) = true
  once : ro = false → ∀ c q, OkR c → rightB c = true → rd (wr c (rd c 0 q)) 0 q = rd c 0 q
def RowG (n : Int) : Prop := ∃ k ro rd wr, Row n k ro rd wr ∧ Good ro rd wr
theorem good_100 : RowG 256 := ⟨_, _, _, _, row_100, ⟨fun _ c v hc _ h => by
    obtain ⟨h0, h1, h2, h3, h4, h5, h6, h7, h8, h9, h10⟩ := right_out c h
    exact right_mk _ (stV_mixed c.s0 v hc.u0 h0) h1 h2 h3 h4 h5 h6 h7 h8 h9 h10, fun _ c _ _ _ => once_100 c.s0⟩⟩
theorem good_104 : RowG 260 := ⟨_, _, _, _, row_104, ⟨fun _ c v hc _ h => by
    obtain ⟨h0, h1, h2, h3, h4, h5, h6, h7, h8, h9, h10⟩ := right_out c h
    exact right_mk _ h0 h1 h2 (mie_mixed c.s3 v c.s2 hc.u3 hc.u2 h3 h2) h4 h5 h6 h7 h8 h9 h10, fun _ c _ _ _ => once_104 c.s3 c.s2⟩⟩
theorem good_105 : RowG 261 := ⟨_, _, _, _, row_105, ⟨fun _ c v _ _ h => by
    obtain ⟨h0, h1, h2, h3, h4, h5, _, h7, h8, h9, h10⟩ := right_out c h
    exact right_mk _ h0 h1 h2 h3 h4 h5 (only_and v _) h7 h8 h9 h10, fun _ c _ hc h => by
    obtain ⟨_, _, _, _, _, _, h6, _, _, _, _⟩ := right_out c h
    exact and_keep c.s10 _ hc.u10 h6⟩⟩
theorem good_140 : RowG 320 := ⟨_, _, _, _, row_140, ⟨fun _ c _ _ _ h => by
    obtain ⟨h0, h1, h2, h3, h4, h5, h6, h7, h8, h9, h10⟩ := right_out c h
    exact right_mk _ h0 h1 h2 h3 h4 h5 h6 h7 h8 h9 h10, fun _ _ _ _ _ => rfl⟩⟩
theorem good_141 : RowG 321 := ⟨_, _, _, _, row_141, ⟨fun _ c v _ _ h => by
    obtain ⟨h0, h1, h2, h3, h4, h5, h6, h7, _, h9, h10⟩ := right_out c h
    exact right_mk _ h0 h1 h2 h3 h4 h5 h6 h7 (only_and v _) h9 h10, fun _ c _ hc h => by
    obtain ⟨_, _, _, _, _, _, _, _, h8, _, _⟩ := right_out c h
    exact and_keep c.s12 _ hc.u12 h8⟩⟩
theorem good_142 : RowG 322 := ⟨_, _, _, _, row_142, ⟨fun _ c _ _ _ h => by
    obtain ⟨h0, h1, h2, h3, h4, h5, h6, h7, h8, h9, h10⟩ := right_out c h
    exact right_mk _ h0 h1 h2 h3 h4 h5 h6 h7 h8 h9 h10, fun _ _ _ _ _ => rfl⟩⟩
theorem good_143 : RowG 323 := ⟨_, _, _, _, row_143, ⟨fun _ c _ _ _ h => by
    obtain ⟨h0, h1, h2, h3, h4, h5, h6, h7, h8, h9, h10⟩ := right_out c h
    exact right_mk _ h0 h1 h2 h3 h4 h5 h6 h7 h8 h9 h10, fun _ _ _ _ _ => rfl⟩⟩
theorem good_144 : RowG 324 := ⟨_, _, _, _, row_144, ⟨fun _ c v hc _ h => by
    obtain ⟨h0, h1, h2, h3, h4, h5, h6, h7, h8, h9, h10⟩ := right_out c h
    exact right_mk _ h0 h1 h2 h3 (mip_mixed c.s4 v c.s2 hc.u4 h4) h5 h6 h7 h8 h9 h10, fun _ c _ _ _ => once_144 c.s4 c.s2⟩⟩
theorem good_180 : RowG 384 := ⟨_, _, _, _, row_180, ⟨fun _ c v _ hv h => by
    obtain ⟨h0, h1, h2, h3, h4, h5, h6, h7, h8, h9, h10⟩ := right_out c h
    exact right_mk _ h0 h1 h2 h3 h4 h5 h6 h7 h8 ((satp_right c.s15 v hv h9 h10).1) ((satp_right c.s15 v hv h9 h10).2), fun _ c _ hc h => by
    obtain ⟨_, _, _, _, _, _, _, _, _, h9, _⟩ := right_out c h
    exact satp_once c.s15 hc.u15 h9⟩⟩
theorem good_300 : RowG 768 := ⟨_, _, _, _, row_300, ⟨fun _ c v _ _ h => by
    obtain ⟨_, h1, h2, h3, h4, h5, h6, h7, h8, h9, h10⟩ := right_out c h
    exact right_mk _ (stV_right v) h1 h2 h3 h4 h5 h6 h7 h8 h9 h10, fun _ c _ _ h => by
    obtain ⟨h0, _, _, _, _, _, _, _, _, _, _⟩ := right_out c h
    exact eq_of_beq h0⟩⟩
theorem good_301 : RowG 769 := ⟨_, _, _, _, row_301, ⟨fun _ _ _ _ _ h => h, fun _ _ _ _ _ => rfl⟩⟩
theorem good_302 : RowG 770 := ⟨_, _, _, _, row_302, ⟨fun _ c v _ _ h => by
    obtain ⟨h0, _, h2, h3, h4, h5, h6, h7, h8, h9, h10⟩ := right_out c h
    exact right_mk _ h0 (only_and v _) h2 h3 h4 h5 h6 h7 h8 h9 h10, fun _ c _ hc h => by
    obtain ⟨_, h1, _, _, _, _, _, _, _, _, _⟩ := right_out c h
    exact and_keep c.s1 _ hc.u1 h1⟩⟩
theorem good_303 : RowG 771 := ⟨_, _, _, _, row_303, ⟨fun _ c v _ _ h => by
    obtain ⟨h0, h1, _, h3, h4, h5, h6, h7, h8, h9, h10⟩ := right_out c h
    exact right_mk _ h0 h1 (only_and v _) h3 h4 h5 h6 h7 h8 h9 h10, fun _ c _ hc h => by
    obtain ⟨_, _, h2, _, _, _, _, _, _, _, _⟩ := right_out c h
    exact and_keep c.s2 _ hc.u2 h2⟩⟩
theorem good_304 : RowG 772 := ⟨_, _, _, _, row_304, ⟨fun _ c v _ _ h => by
    obtain ⟨h0, h1, h2, _, h4, h5, h6, h7, h8, h9, h10⟩ := right_out c h
    exact right_mk _ h0 h1 h2 (only_and v _) h4 h5 h6 h7 h8 h9 h10, fun _ c _ hc h => by
    obtain ⟨_, _, _, h3, _, _, _, _, _, _, _⟩ := right_out c h
    exact and_keep c.s3 _ hc.u3 h3⟩⟩
theorem good_305 : RowG 773 := ⟨_, _, _, _, row_305, ⟨fun _ c v _ _ h => by
    obtain ⟨h0, h1, h2, h3, h4, _, h6, h7, h8, h9, h10⟩ := right_out c h
    exact right_mk _ h0 h1 h2 h3 h4 (only_and v _) h6 h7 h8 h9 h10, fun _ c _ hc h => by
    obtain ⟨_, _, _, _, _, h5, _, _, _, _, _⟩ := right_out c h
    exact and_keep c.s5 _ hc.u5 h5⟩⟩
theorem good_340 : RowG 832 := ⟨_, _, _, _, row_340, ⟨fun _ c _ _ _ h => by
    obtain ⟨h0, h1, h2, h3, h4, h5, h6, h7, h8, h9, h10⟩ := right_out c h
    exact right_mk _ h0 h1 h2 h3 h4 h5 h6 h7 h8 h9 h10, fun _ _ _ _ _ => rfl⟩⟩
theorem good_341 : RowG 833 := ⟨_, _, _, _, row_341, ⟨fun _ c v _ _ h => by
    obtain ⟨h0, h1, h2, h3, h4, h5, h6, _, h8, h9, h10⟩ := right_out c h
    exact right_mk _ h0 h1 h2 h3 h4 h5 h6 (only_and v _) h8 h9 h10, fun _ c _ hc h => by
    obtain ⟨_, _, _, _, _, _, _, h7, _, _, _⟩ := right_out c h
    exact and_keep c.s7 _ hc.u7 h7⟩⟩
theorem good_342 : RowG 834 := ⟨_, _, _, _, row_342, ⟨fun _ c _ _ _ h => by
    obtain ⟨h0, h1, h2, h3, h4, h5, h6, h7, h8, h9, h10⟩ := right_out c h
    exact right_mk _ h0 h1 h2 h3 h4 h5 h6 h7 h8 h9 h10, fun _ _ _ _ _ => rfl⟩⟩
theorem good_343 : RowG 835 := ⟨_, _, _, _, row_343, ⟨fun _ c _ _ _ h => by
    obtain ⟨h0, h1, h2, h3, h4, h5, h6, h7, h8, h9, h10⟩ := right_out c h
    exact right_mk _ h0 h1 h2 h3 h4 h5 h6 h7 h8 h9 h10, fun _ _ _ _ _ => rfl⟩⟩
theorem good_344 : RowG 836 := ⟨_, _, _, _, row_344, ⟨fun _ c v _ _ h => by
    obtain ⟨h0, h1, h2, h3, _, h5, h6, h7, h8, h9, h10⟩ := right_out c h
    exact right_mk _ h0 h1 h2 h3 (only_and v 546) h5 h6 h7 h8 h9 h10, fun _ c _ _ _ => once_344 c.s4⟩⟩
theorem good_b00 : RowG 2816 := ⟨_, _, _, _, row_b00, ⟨fun _ _ _ _ _ h => h, fun _ _ _ _ _ => rfl⟩⟩
theorem good_b02 : RowG 2818 := ⟨_, _, _, _, row_b02, ⟨fun _ _ _ _ _ h => h, fun _ _ _ _ _ => rfl⟩⟩
theorem good_c00 : RowG 3072 := ⟨_, _, _, _, row_c00, ⟨fun e => absurd e (by decide), fun e => absurd e (by decide)⟩⟩
theorem good_c01 : RowG 3073 := ⟨_, _, _, _, row_c01, ⟨fun e => absurd e (by decide), fun e => absurd e (by decide)⟩⟩
theorem good_c02 : RowG 3074 := ⟨_, _, _, _, row_c02, ⟨fun e => absurd e (by decide), fun e => absurd e (by decide)⟩⟩
theorem good_f11 : RowG 3857 := ⟨_, _, _, _, row_f11, ⟨fun e => absurd e (by decide), fun e => absurd e (by decide)⟩⟩
theorem good_f12 : RowG 3858 := ⟨_, _, _, _, row_f12, ⟨fun e => absurd e (by decide), fun e => absurd e (by decide)⟩⟩
theorem good_f13 : RowG 3859 := ⟨_, _, _, _, row_f13, ⟨fun e => absurd e (by decide), fun e => absurd e (by decide)⟩⟩
theorem good_f14 : RowG 3860 := ⟨_, _, _, _, row_f14, ⟨fun e => absurd e (by decide), fun e => absurd e (by decide)⟩⟩
theorem row_or (n : Int) : NoRow n ∨ RowG n := by
  rcases Bool.eq_false_or_eq_true (n == 256) with h100 | h100
  · exact .inr (eq_of_beq h100 ▸ good_100)
  rcases Bool.eq_false_or_eq_true (n == 260) with h104 | h104
  · exact .inr (eq_of_beq h104 ▸ good_104)
  rcases Bool.eq_false_or_eq_true (n == 261) with h105 | h105
  · exact .inr (eq_of_beq h105 ▸ good_105)
  rcases Bool.eq_false_or_eq_true (n == 320) with h140 | h140
  · exact .inr (eq_of_beq h140 ▸ good_140)
  rcases Bool.eq_false_or_eq_true (n == 321) with h141 | h141
  · exact .inr (eq_of_beq h141 ▸ good_141)
  rcases Bool.eq_false_or_eq_true (n == 322) with h142 | h142
  · exact .inr (eq_of_beq h142 ▸ good_142)
  rcases Bool.eq_false_or_eq_true (n == 323) with h143 | h143
  · exact .inr (eq_of_beq h143 ▸ good_143)
  rcases Bool.eq_false_or_eq_true (n == 324) with h144 | h144
  · exact .inr (eq_of_beq h144 ▸ good_144)
  rcases Bool.eq_false_or_eq_true (n == 384) with h180 | h180
  · exact .inr (eq_of_beq h180 ▸ good_180)
  rcases Bool.eq_false_or_eq_true (n == 768) with h300 | h300
  · exact .inr (eq_of_beq h300 ▸ good_300)
  rcases Bool.eq_false_or_eq_true (n == 769) with h301 | h301
  · exact .inr (eq_of_beq h301 ▸ good_301)
  rcases Bool.eq_false_or_eq_true (n == 770) with h302 | h302
  · exact .inr (eq_of_beq h302 ▸ good_302)
  rcases Bool.eq_false_or_eq_true (n == 771) with h303 | h303
  · exact .inr (eq_of_beq h303 ▸ good_303)
  rcases Bool.eq_false_or_eq_true (n == 772) with h304 | h304
  · exact .inr (eq_of_beq h304 ▸ good_304)
  rcases Bool.eq_false_or_eq_true (n == 773) with h305 | h305
  · exact .inr (eq_of_beq h305 ▸ good_305)
  rcases Bool.eq_false_or_eq_true (n == 832) with h340 | h340
  · exact .inr (eq_of_beq h340 ▸ good_340)
  rcases Bool.eq_false_or_eq_true (n == 833) with h341 | h341
  · exact .inr (eq_of_beq h341 ▸ good_341)
  rcases Bool.eq_false_or_eq_true (n == 834) with h342 | h342
  · exact .inr (eq_of_beq h342 ▸ good_342)
  rcases Bool.eq_false_or_eq_true (n == 835) with h343 | h343
  · exact .inr (eq_of_beq h343 ▸ good_343)
  rcases Bool.eq_false_or_eq_true (n == 836) with h344 | h344
  · exact .inr (eq_of_beq h344 ▸ good_344)
  rcases Bool.eq_false_or_eq_true (n == 2816) with hb00 | hb00
  · exact .inr (eq_of_beq hb00 ▸ good_b00)
  rcases Bool.eq_false_or_eq_true (n == 2818) with hb02 | hb02
  · exact .inr (eq_of_beq hb02 ▸ good_b02)
  rcases Bool.eq_false_or_eq_true (n == 3072) with hc00 | hc00
  · exact .inr (eq_of_beq hc00 ▸ good_c00)
  rcases Bool.eq_false_or_eq_true (n == 3073) with hc01 | hc01
  · exact .inr (eq_of_beq hc01 ▸ good_c01)
  rcases Bool.eq_false_or_eq_true (n == 3074) with hc02 | hc02
  · exact .inr (eq_of_beq hc02 ▸ good_c02)
  rcases Bool.eq_false_or_eq_true (n == 3857) with hf11 | hf11
  · exact .inr (eq_of_beq hf11 ▸ good_f11)
  rcases Bool.eq_false_or_eq_true (n == 3858) with hf12 | hf12
  · exact .inr (eq_of_beq hf12 ▸ good_f12)
  rcases Bool.eq_false_or_eq_true (n == 3859) with hf13 | hf13
  · exact .inr (eq_of_beq hf13 ▸ good_f13)
  rcases Bool.eq_false_or_eq_true (n == 3860) with hf14 | hf14
  · exact .inr (eq_of_beq hf14 ▸ good_f14)
  exact .inl (no_row n h100 h104 h105 h140 h141 h142 h143 h144 h180 h300 h301 h302 h303 h304 h305 h340 h341 h342 h343 h344 hb00 hb02 hc00 hc01 hc02 hf11 hf12 hf13 hf14)

end Go.Proofs.Ythchakfffenoiaa
