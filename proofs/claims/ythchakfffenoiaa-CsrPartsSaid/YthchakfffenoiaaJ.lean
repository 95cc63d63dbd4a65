/- Every register, and no register. -/
import Derived.Test.YthchakfffenoiaaB
import Derived.Test.YthchakfffenoiaaC
import Derived.Test.YthchakfffenoiaaD
import Derived.Test.YthchakfffenoiaaE1
import Derived.Test.YthchakfffenoiaaE2
import Derived.Test.YthchakfffenoiaaE3
import Derived.Test.YthchakfffenoiaaE4
import Derived.Test.YthchakfffenoiaaI
namespace Go.Proofs.Ythchakfffenoiaa
open Go.RowKit Go.Deep Go.Joins

/-- All sixteen are numbers of 64 bits. -/
structure OkR (c : Reg) : Prop where
  u0 : U64 c.s0
  u1 : U64 c.s1
  u2 : U64 c.s2
  u3 : U64 c.s3
  u4 : U64 c.s4
  u5 : U64 c.s5
  u6 : U64 c.s6
  u7 : U64 c.s7
  u8 : U64 c.s8
  u9 : U64 c.s9
  u10 : U64 c.s10
  u11 : U64 c.s11
  u12 : U64 c.s12
  u13 : U64 c.s13
  u14 : U64 c.s14
  u15 : U64 c.s15

abbrev Reads (c : Reg) (m n l k x : Int) (p : Bool) : Prop := ∀ W, Calls Try.prog 11 #[regV c, .int .i64 m, .int .i64 n, .int .u64 l, .int .u64 k] W fun e W' => e = .returned (.tuple #[.int .u64 x, .bool p]) ∧ Below W.heap.size W W'
abbrev RReads (c : Reg) (m n l k x : Int) (p : Bool) : Prop := ∀ W, Calls Try.prog 12 #[regV c, .int .i64 m, .int .i64 n, .int .u64 l, .int .u64 k] W fun e W' => e = .returned (.tuple #[.int .u64 x, .bool p]) ∧ Below W.heap.size W W'
abbrev Writes (c : Reg) (m n v : Int) (d : Reg) (p : Bool) : Prop := ∀ W, Calls Try.prog 13 #[regV c, .int .i64 m, .int .i64 n, .int .u64 v] W fun e W' => e = .returned (.tuple #[regV d, .bool p]) ∧ Below W.heap.size W W'
abbrev RWrites (c : Reg) (m n v : Int) (d : Reg) (p : Bool) : Prop := ∀ W, Calls Try.prog 14 #[regV c, .int .i64 m, .int .i64 n, .int .u64 v] W fun e W' => e = .returned (.tuple #[regV d, .bool p]) ∧ Below W.heap.size W W'
/-- A register that is there: the least mode, may it be written, what is read, what is written. -/
structure Row (n k : Int) (ro : Bool) (rd : Reg → Int → Int → Int) (wr : Reg → Int → Reg) : Prop where
  read_yes : ∀ c m l q, k ≤ m → Reads c m n l q (rd c l q) true ∧ RReads c m n l q (rd c l q) true
  read_no : ∀ c m l q, m < k → Reads c m n l q 0 false ∧ RReads c m n l q 0 false
  write_yes : ro = false → ∀ c m v, k ≤ m → Writes c m n v (wr c v) true ∧ RWrites c m n v (wr c v) true
  write_once : ro = true → ∀ c m v, k ≤ m → Writes c m n v c false ∧ RWrites c m n v c false
  write_no : ∀ c m v, m < k → Writes c m n v c false ∧ RWrites c m n v c false
theorem row_100 : Row 256 1 false (fun c _ _ => (bits .and .u64 c.s0 786722)) (fun c v => ⟨(mxV c.s0 v 786722), c.s1, c.s2, c.s3, c.s4, c.s5, c.s6, c.s7, c.s8, c.s9, c.s10, c.s11, c.s12, c.s13, c.s14, c.s15⟩) where
  read_yes c m l q h := ⟨fun W => read_100 c m l q (decide_eq_true (show leastV 256 ≤ m from by rw [show leastV 256 = 1 from by decide]; exact h)) W, fun W => rread_of c m 256 l q _ true (by decide) (by decide) (decide_eq_true (show leastV 256 ≤ m from by rw [show leastV 256 = 1 from by decide]; exact h)) (Lib.hid fun W => known_100 c l q W) W⟩
  read_no c m l q h := ⟨fun W => read_no c m 256 l q (decide_eq_false (show ¬ leastV 256 ≤ m from by rw [show leastV 256 = 1 from by decide]; omega)) W, fun W => rread_no c m 256 l q (.inr (.inr (decide_eq_false (show ¬ leastV 256 ≤ m from by rw [show leastV 256 = 1 from by decide]; omega)))) W⟩
  write_yes _ c m v h := ⟨fun W => write_100 c m v (decide_eq_true (show leastV 256 ≤ m from by rw [show leastV 256 = 1 from by decide]; exact h)) W, fun W => rwrite_100 c m v (decide_eq_true (show leastV 256 ≤ m from by rw [show leastV 256 = 1 from by decide]; exact h)) W⟩
  write_once e := by cases e
  write_no c m v h := ⟨fun W => write_no c m 256 v (decide_eq_false (show ¬ leastV 256 ≤ m from by rw [show leastV 256 = 1 from by decide]; omega)) W, fun W => rwrite_no c m 256 v (.inr (.inr (decide_eq_false (show ¬ leastV 256 ≤ m from by rw [show leastV 256 = 1 from by decide]; omega)))) W⟩
theorem row_104 : Row 260 1 false (fun c _ _ => (bits .and .u64 c.s3 c.s2)) (fun c v => ⟨c.s0, c.s1, c.s2, (mxV c.s3 v c.s2), c.s4, c.s5, c.s6, c.s7, c.s8, c.s9, c.s10, c.s11, c.s12, c.s13, c.s14, c.s15⟩) where
  read_yes c m l q h := ⟨fun W => read_104 c m l q (decide_eq_true (show leastV 260 ≤ m from by rw [show leastV 260 = 1 from by decide]; exact h)) W, fun W => rread_of c m 260 l q _ true (by decide) (by decide) (decide_eq_true (show leastV 260 ≤ m from by rw [show leastV 260 = 1 from by decide]; exact h)) (Lib.hid fun W => known_104 c l q W) W⟩
  read_no c m l q h := ⟨fun W => read_no c m 260 l q (decide_eq_false (show ¬ leastV 260 ≤ m from by rw [show leastV 260 = 1 from by decide]; omega)) W, fun W => rread_no c m 260 l q (.inr (.inr (decide_eq_false (show ¬ leastV 260 ≤ m from by rw [show leastV 260 = 1 from by decide]; omega)))) W⟩
  write_yes _ c m v h := ⟨fun W => write_104 c m v (decide_eq_true (show leastV 260 ≤ m from by rw [show leastV 260 = 1 from by decide]; exact h)) W, fun W => rwrite_104 c m v (decide_eq_true (show leastV 260 ≤ m from by rw [show leastV 260 = 1 from by decide]; exact h)) W⟩
  write_once e := by cases e
  write_no c m v h := ⟨fun W => write_no c m 260 v (decide_eq_false (show ¬ leastV 260 ≤ m from by rw [show leastV 260 = 1 from by decide]; omega)) W, fun W => rwrite_no c m 260 v (.inr (.inr (decide_eq_false (show ¬ leastV 260 ≤ m from by rw [show leastV 260 = 1 from by decide]; omega)))) W⟩
theorem row_105 : Row 261 1 false (fun c _ _ => c.s10) (fun c v => ⟨c.s0, c.s1, c.s2, c.s3, c.s4, c.s5, c.s6, c.s7, c.s8, c.s9, (bits .and .u64 v 18446744073709551613), c.s11, c.s12, c.s13, c.s14, c.s15⟩) where
  read_yes c m l q h := ⟨fun W => read_105 c m l q (decide_eq_true (show leastV 261 ≤ m from by rw [show leastV 261 = 1 from by decide]; exact h)) W, fun W => rread_of c m 261 l q _ true (by decide) (by decide) (decide_eq_true (show leastV 261 ≤ m from by rw [show leastV 261 = 1 from by decide]; exact h)) (Lib.hid fun W => known_105 c l q W) W⟩
  read_no c m l q h := ⟨fun W => read_no c m 261 l q (decide_eq_false (show ¬ leastV 261 ≤ m from by rw [show leastV 261 = 1 from by decide]; omega)) W, fun W => rread_no c m 261 l q (.inr (.inr (decide_eq_false (show ¬ leastV 261 ≤ m from by rw [show leastV 261 = 1 from by decide]; omega)))) W⟩
  write_yes _ c m v h := ⟨fun W => write_105 c m v (decide_eq_true (show leastV 261 ≤ m from by rw [show leastV 261 = 1 from by decide]; exact h)) W, fun W => by
    have h2 := rwrite_105 c m v (decide_eq_true (show leastV 261 ≤ m from by rw [show leastV 261 = 1 from by decide]; exact h)) W
    rw [← not_const _ _ c2 v] at h2
    exact h2⟩
  write_once e := by cases e
  write_no c m v h := ⟨fun W => write_no c m 261 v (decide_eq_false (show ¬ leastV 261 ≤ m from by rw [show leastV 261 = 1 from by decide]; omega)) W, fun W => rwrite_no c m 261 v (.inr (.inr (decide_eq_false (show ¬ leastV 261 ≤ m from by rw [show leastV 261 = 1 from by decide]; omega)))) W⟩
theorem row_140 : Row 320 1 false (fun c _ _ => c.s11) (fun c v => ⟨c.s0, c.s1, c.s2, c.s3, c.s4, c.s5, c.s6, c.s7, c.s8, c.s9, c.s10, v, c.s12, c.s13, c.s14, c.s15⟩) where
  read_yes c m l q h := ⟨fun W => read_140 c m l q (decide_eq_true (show leastV 320 ≤ m from by rw [show leastV 320 = 1 from by decide]; exact h)) W, fun W => rread_of c m 320 l q _ true (by decide) (by decide) (decide_eq_true (show leastV 320 ≤ m from by rw [show leastV 320 = 1 from by decide]; exact h)) (Lib.hid fun W => known_140 c l q W) W⟩
  read_no c m l q h := ⟨fun W => read_no c m 320 l q (decide_eq_false (show ¬ leastV 320 ≤ m from by rw [show leastV 320 = 1 from by decide]; omega)) W, fun W => rread_no c m 320 l q (.inr (.inr (decide_eq_false (show ¬ leastV 320 ≤ m from by rw [show leastV 320 = 1 from by decide]; omega)))) W⟩
  write_yes _ c m v h := ⟨fun W => write_140 c m v (decide_eq_true (show leastV 320 ≤ m from by rw [show leastV 320 = 1 from by decide]; exact h)) W, fun W => rwrite_140 c m v (decide_eq_true (show leastV 320 ≤ m from by rw [show leastV 320 = 1 from by decide]; exact h)) W⟩
  write_once e := by cases e
  write_no c m v h := ⟨fun W => write_no c m 320 v (decide_eq_false (show ¬ leastV 320 ≤ m from by rw [show leastV 320 = 1 from by decide]; omega)) W, fun W => rwrite_no c m 320 v (.inr (.inr (decide_eq_false (show ¬ leastV 320 ≤ m from by rw [show leastV 320 = 1 from by decide]; omega)))) W⟩
theorem row_141 : Row 321 1 false (fun c _ _ => c.s12) (fun c v => ⟨c.s0, c.s1, c.s2, c.s3, c.s4, c.s5, c.s6, c.s7, c.s8, c.s9, c.s10, c.s11, (bits .and .u64 v 18446744073709551614), c.s13, c.s14, c.s15⟩) where
  read_yes c m l q h := ⟨fun W => read_141 c m l q (decide_eq_true (show leastV 321 ≤ m from by rw [show leastV 321 = 1 from by decide]; exact h)) W, fun W => rread_of c m 321 l q _ true (by decide) (by decide) (decide_eq_true (show leastV 321 ≤ m from by rw [show leastV 321 = 1 from by decide]; exact h)) (Lib.hid fun W => known_141 c l q W) W⟩
  read_no c m l q h := ⟨fun W => read_no c m 321 l q (decide_eq_false (show ¬ leastV 321 ≤ m from by rw [show leastV 321 = 1 from by decide]; omega)) W, fun W => rread_no c m 321 l q (.inr (.inr (decide_eq_false (show ¬ leastV 321 ≤ m from by rw [show leastV 321 = 1 from by decide]; omega)))) W⟩
  write_yes _ c m v h := ⟨fun W => write_141 c m v (decide_eq_true (show leastV 321 ≤ m from by rw [show leastV 321 = 1 from by decide]; exact h)) W, fun W => by
    have h2 := rwrite_141 c m v (decide_eq_true (show leastV 321 ≤ m from by rw [show leastV 321 = 1 from by decide]; exact h)) W
    rw [← not_const _ _ c1 v] at h2
    exact h2⟩
  write_once e := by cases e
  write_no c m v h := ⟨fun W => write_no c m 321 v (decide_eq_false (show ¬ leastV 321 ≤ m from by rw [show leastV 321 = 1 from by decide]; omega)) W, fun W => rwrite_no c m 321 v (.inr (.inr (decide_eq_false (show ¬ leastV 321 ≤ m from by rw [show leastV 321 = 1 from by decide]; omega)))) W⟩
theorem row_142 : Row 322 1 false (fun c _ _ => c.s13) (fun c v => ⟨c.s0, c.s1, c.s2, c.s3, c.s4, c.s5, c.s6, c.s7, c.s8, c.s9, c.s10, c.s11, c.s12, v, c.s14, c.s15⟩) where
  read_yes c m l q h := ⟨fun W => read_142 c m l q (decide_eq_true (show leastV 322 ≤ m from by rw [show leastV 322 = 1 from by decide]; exact h)) W, fun W => rread_of c m 322 l q _ true (by decide) (by decide) (decide_eq_true (show leastV 322 ≤ m from by rw [show leastV 322 = 1 from by decide]; exact h)) (Lib.hid fun W => known_142 c l q W) W⟩
  read_no c m l q h := ⟨fun W => read_no c m 322 l q (decide_eq_false (show ¬ leastV 322 ≤ m from by rw [show leastV 322 = 1 from by decide]; omega)) W, fun W => rread_no c m 322 l q (.inr (.inr (decide_eq_false (show ¬ leastV 322 ≤ m from by rw [show leastV 322 = 1 from by decide]; omega)))) W⟩
  write_yes _ c m v h := ⟨fun W => write_142 c m v (decide_eq_true (show leastV 322 ≤ m from by rw [show leastV 322 = 1 from by decide]; exact h)) W, fun W => rwrite_142 c m v (decide_eq_true (show leastV 322 ≤ m from by rw [show leastV 322 = 1 from by decide]; exact h)) W⟩
  write_once e := by cases e
  write_no c m v h := ⟨fun W => write_no c m 322 v (decide_eq_false (show ¬ leastV 322 ≤ m from by rw [show leastV 322 = 1 from by decide]; omega)) W, fun W => rwrite_no c m 322 v (.inr (.inr (decide_eq_false (show ¬ leastV 322 ≤ m from by rw [show leastV 322 = 1 from by decide]; omega)))) W⟩
theorem row_143 : Row 323 1 false (fun c _ _ => c.s14) (fun c v => ⟨c.s0, c.s1, c.s2, c.s3, c.s4, c.s5, c.s6, c.s7, c.s8, c.s9, c.s10, c.s11, c.s12, c.s13, v, c.s15⟩) where
  read_yes c m l q h := ⟨fun W => read_143 c m l q (decide_eq_true (show leastV 323 ≤ m from by rw [show leastV 323 = 1 from by decide]; exact h)) W, fun W => rread_of c m 323 l q _ true (by decide) (by decide) (decide_eq_true (show leastV 323 ≤ m from by rw [show leastV 323 = 1 from by decide]; exact h)) (Lib.hid fun W => known_143 c l q W) W⟩
  read_no c m l q h := ⟨fun W => read_no c m 323 l q (decide_eq_false (show ¬ leastV 323 ≤ m from by rw [show leastV 323 = 1 from by decide]; omega)) W, fun W => rread_no c m 323 l q (.inr (.inr (decide_eq_false (show ¬ leastV 323 ≤ m from by rw [show leastV 323 = 1 from by decide]; omega)))) W⟩
  write_yes _ c m v h := ⟨fun W => write_143 c m v (decide_eq_true (show leastV 323 ≤ m from by rw [show leastV 323 = 1 from by decide]; exact h)) W, fun W => rwrite_143 c m v (decide_eq_true (show leastV 323 ≤ m from by rw [show leastV 323 = 1 from by decide]; exact h)) W⟩
  write_once e := by cases e
  write_no c m v h := ⟨fun W => write_no c m 323 v (decide_eq_false (show ¬ leastV 323 ≤ m from by rw [show leastV 323 = 1 from by decide]; omega)) W, fun W => rwrite_no c m 323 v (.inr (.inr (decide_eq_false (show ¬ leastV 323 ≤ m from by rw [show leastV 323 = 1 from by decide]; omega)))) W⟩
theorem row_144 : Row 324 1 false (fun c l _ => (bits .and .u64 (rsV c.s4 l) c.s2)) (fun c v => ⟨c.s0, c.s1, c.s2, c.s3, (mxV c.s4 v (bits .and .u64 c.s2 2)), c.s5, c.s6, c.s7, c.s8, c.s9, c.s10, c.s11, c.s12, c.s13, c.s14, c.s15⟩) where
  read_yes c m l q h := ⟨fun W => read_144 c m l q (decide_eq_true (show leastV 324 ≤ m from by rw [show leastV 324 = 1 from by decide]; exact h)) W, fun W => rread_of c m 324 l q _ true (by decide) (by decide) (decide_eq_true (show leastV 324 ≤ m from by rw [show leastV 324 = 1 from by decide]; exact h)) (Lib.hid fun W => known_144 c l q W) W⟩
  read_no c m l q h := ⟨fun W => read_no c m 324 l q (decide_eq_false (show ¬ leastV 324 ≤ m from by rw [show leastV 324 = 1 from by decide]; omega)) W, fun W => rread_no c m 324 l q (.inr (.inr (decide_eq_false (show ¬ leastV 324 ≤ m from by rw [show leastV 324 = 1 from by decide]; omega)))) W⟩
  write_yes _ c m v h := ⟨fun W => write_144 c m v (decide_eq_true (show leastV 324 ≤ m from by rw [show leastV 324 = 1 from by decide]; exact h)) W, fun W => rwrite_144 c m v (decide_eq_true (show leastV 324 ≤ m from by rw [show leastV 324 = 1 from by decide]; exact h)) W⟩
  write_once e := by cases e
  write_no c m v h := ⟨fun W => write_no c m 324 v (decide_eq_false (show ¬ leastV 324 ≤ m from by rw [show leastV 324 = 1 from by decide]; omega)) W, fun W => rwrite_no c m 324 v (.inr (.inr (decide_eq_false (show ¬ leastV 324 ≤ m from by rw [show leastV 324 = 1 from by decide]; omega)))) W⟩
theorem row_180 : Row 384 1 false (fun c _ _ => c.s15) (fun c v => ⟨c.s0, c.s1, c.s2, c.s3, c.s4, c.s5, c.s6, c.s7, c.s8, c.s9, c.s10, c.s11, c.s12, c.s13, c.s14, (spV c.s15 v)⟩) where
  read_yes c m l q h := ⟨fun W => read_180 c m l q (decide_eq_true (show leastV 384 ≤ m from by rw [show leastV 384 = 1 from by decide]; exact h)) W, fun W => rread_of c m 384 l q _ true (by decide) (by decide) (decide_eq_true (show leastV 384 ≤ m from by rw [show leastV 384 = 1 from by decide]; exact h)) (Lib.hid fun W => known_180 c l q W) W⟩
  read_no c m l q h := ⟨fun W => read_no c m 384 l q (decide_eq_false (show ¬ leastV 384 ≤ m from by rw [show leastV 384 = 1 from by decide]; omega)) W, fun W => rread_no c m 384 l q (.inr (.inr (decide_eq_false (show ¬ leastV 384 ≤ m from by rw [show leastV 384 = 1 from by decide]; omega)))) W⟩
  write_yes _ c m v h := ⟨fun W => write_180 c m v (decide_eq_true (show leastV 384 ≤ m from by rw [show leastV 384 = 1 from by decide]; exact h)) W, fun W => rwrite_180 c m v (decide_eq_true (show leastV 384 ≤ m from by rw [show leastV 384 = 1 from by decide]; exact h)) W⟩
  write_once e := by cases e
  write_no c m v h := ⟨fun W => write_no c m 384 v (decide_eq_false (show ¬ leastV 384 ≤ m from by rw [show leastV 384 = 1 from by decide]; omega)) W, fun W => rwrite_no c m 384 v (.inr (.inr (decide_eq_false (show ¬ leastV 384 ≤ m from by rw [show leastV 384 = 1 from by decide]; omega)))) W⟩
theorem row_300 : Row 768 3 false (fun c _ _ => c.s0) (fun c v => ⟨(stV v), c.s1, c.s2, c.s3, c.s4, c.s5, c.s6, c.s7, c.s8, c.s9, c.s10, c.s11, c.s12, c.s13, c.s14, c.s15⟩) where
  read_yes c m l q h := ⟨fun W => read_300 c m l q (decide_eq_true (show leastV 768 ≤ m from by rw [show leastV 768 = 3 from by decide]; exact h)) W, fun W => rread_of c m 768 l q _ true (by decide) (by decide) (decide_eq_true (show leastV 768 ≤ m from by rw [show leastV 768 = 3 from by decide]; exact h)) (Lib.hid fun W => known_300 c l q W) W⟩
  read_no c m l q h := ⟨fun W => read_no c m 768 l q (decide_eq_false (show ¬ leastV 768 ≤ m from by rw [show leastV 768 = 3 from by decide]; omega)) W, fun W => rread_no c m 768 l q (.inr (.inr (decide_eq_false (show ¬ leastV 768 ≤ m from by rw [show leastV 768 = 3 from by decide]; omega)))) W⟩
  write_yes _ c m v h := ⟨fun W => write_300 c m v (decide_eq_true (show leastV 768 ≤ m from by rw [show leastV 768 = 3 from by decide]; exact h)) W, fun W => rwrite_300 c m v (decide_eq_true (show leastV 768 ≤ m from by rw [show leastV 768 = 3 from by decide]; exact h)) W⟩
  write_once e := by cases e
  write_no c m v h := ⟨fun W => write_no c m 768 v (decide_eq_false (show ¬ leastV 768 ≤ m from by rw [show leastV 768 = 3 from by decide]; omega)) W, fun W => rwrite_no c m 768 v (.inr (.inr (decide_eq_false (show ¬ leastV 768 ≤ m from by rw [show leastV 768 = 3 from by decide]; omega)))) W⟩
theorem row_301 : Row 769 3 false (fun _ _ _ => 9223372036856090885) (fun c _ => c) where
  read_yes c m l q h := ⟨fun W => read_301 c m l q (decide_eq_true (show leastV 769 ≤ m from by rw [show leastV 769 = 3 from by decide]; exact h)) W, fun W => rread_of c m 769 l q _ true (by decide) (by decide) (decide_eq_true (show leastV 769 ≤ m from by rw [show leastV 769 = 3 from by decide]; exact h)) (Lib.hid fun W => known_301 c l q W) W⟩
  read_no c m l q h := ⟨fun W => read_no c m 769 l q (decide_eq_false (show ¬ leastV 769 ≤ m from by rw [show leastV 769 = 3 from by decide]; omega)) W, fun W => rread_no c m 769 l q (.inr (.inr (decide_eq_false (show ¬ leastV 769 ≤ m from by rw [show leastV 769 = 3 from by decide]; omega)))) W⟩
  write_yes _ c m v h := ⟨fun W => write_301 c m v (decide_eq_true (show leastV 769 ≤ m from by rw [show leastV 769 = 3 from by decide]; exact h)) W, fun W => rwrite_301 c m v (decide_eq_true (show leastV 769 ≤ m from by rw [show leastV 769 = 3 from by decide]; exact h)) W⟩
  write_once e := by cases e
  write_no c m v h := ⟨fun W => write_no c m 769 v (decide_eq_false (show ¬ leastV 769 ≤ m from by rw [show leastV 769 = 3 from by decide]; omega)) W, fun W => rwrite_no c m 769 v (.inr (.inr (decide_eq_false (show ¬ leastV 769 ≤ m from by rw [show leastV 769 = 3 from by decide]; omega)))) W⟩
theorem row_302 : Row 770 3 false (fun c _ _ => c.s1) (fun c v => ⟨c.s0, (bits .and .u64 v 46079), c.s2, c.s3, c.s4, c.s5, c.s6, c.s7, c.s8, c.s9, c.s10, c.s11, c.s12, c.s13, c.s14, c.s15⟩) where
  read_yes c m l q h := ⟨fun W => read_302 c m l q (decide_eq_true (show leastV 770 ≤ m from by rw [show leastV 770 = 3 from by decide]; exact h)) W, fun W => rread_of c m 770 l q _ true (by decide) (by decide) (decide_eq_true (show leastV 770 ≤ m from by rw [show leastV 770 = 3 from by decide]; exact h)) (Lib.hid fun W => known_302 c l q W) W⟩
  read_no c m l q h := ⟨fun W => read_no c m 770 l q (decide_eq_false (show ¬ leastV 770 ≤ m from by rw [show leastV 770 = 3 from by decide]; omega)) W, fun W => rread_no c m 770 l q (.inr (.inr (decide_eq_false (show ¬ leastV 770 ≤ m from by rw [show leastV 770 = 3 from by decide]; omega)))) W⟩
  write_yes _ c m v h := ⟨fun W => write_302 c m v (decide_eq_true (show leastV 770 ≤ m from by rw [show leastV 770 = 3 from by decide]; exact h)) W, fun W => rwrite_302 c m v (decide_eq_true (show leastV 770 ≤ m from by rw [show leastV 770 = 3 from by decide]; exact h)) W⟩
  write_once e := by cases e
  write_no c m v h := ⟨fun W => write_no c m 770 v (decide_eq_false (show ¬ leastV 770 ≤ m from by rw [show leastV 770 = 3 from by decide]; omega)) W, fun W => rwrite_no c m 770 v (.inr (.inr (decide_eq_false (show ¬ leastV 770 ≤ m from by rw [show leastV 770 = 3 from by decide]; omega)))) W⟩
theorem row_303 : Row 771 3 false (fun c _ _ => c.s2) (fun c v => ⟨c.s0, c.s1, (bits .and .u64 v 546), c.s3, c.s4, c.s5, c.s6, c.s7, c.s8, c.s9, c.s10, c.s11, c.s12, c.s13, c.s14, c.s15⟩) where
  read_yes c m l q h := ⟨fun W => read_303 c m l q (decide_eq_true (show leastV 771 ≤ m from by rw [show leastV 771 = 3 from by decide]; exact h)) W, fun W => rread_of c m 771 l q _ true (by decide) (by decide) (decide_eq_true (show leastV 771 ≤ m from by rw [show leastV 771 = 3 from by decide]; exact h)) (Lib.hid fun W => known_303 c l q W) W⟩
  read_no c m l q h := ⟨fun W => read_no c m 771 l q (decide_eq_false (show ¬ leastV 771 ≤ m from by rw [show leastV 771 = 3 from by decide]; omega)) W, fun W => rread_no c m 771 l q (.inr (.inr (decide_eq_false (show ¬ leastV 771 ≤ m from by rw [show leastV 771 = 3 from by decide]; omega)))) W⟩
  write_yes _ c m v h := ⟨fun W => write_303 c m v (decide_eq_true (show leastV 771 ≤ m from by rw [show leastV 771 = 3 from by decide]; exact h)) W, fun W => rwrite_303 c m v (decide_eq_true (show leastV 771 ≤ m from by rw [show leastV 771 = 3 from by decide]; exact h)) W⟩
  write_once e := by cases e
  write_no c m v h := ⟨fun W => write_no c m 771 v (decide_eq_false (show ¬ leastV 771 ≤ m from by rw [show leastV 771 = 3 from by decide]; omega)) W, fun W => rwrite_no c m 771 v (.inr (.inr (decide_eq_false (show ¬ leastV 771 ≤ m from by rw [show leastV 771 = 3 from by decide]; omega)))) W⟩
theorem row_304 : Row 772 3 false (fun c _ _ => c.s3) (fun c v => ⟨c.s0, c.s1, c.s2, (bits .and .u64 v 2730), c.s4, c.s5, c.s6, c.s7, c.s8, c.s9, c.s10, c.s11, c.s12, c.s13, c.s14, c.s15⟩) where
  read_yes c m l q h := ⟨fun W => read_304 c m l q (decide_eq_true (show leastV 772 ≤ m from by rw [show leastV 772 = 3 from by decide]; exact h)) W, fun W => rread_of c m 772 l q _ true (by decide) (by decide) (decide_eq_true (show leastV 772 ≤ m from by rw [show leastV 772 = 3 from by decide]; exact h)) (Lib.hid fun W => known_304 c l q W) W⟩
  read_no c m l q h := ⟨fun W => read_no c m 772 l q (decide_eq_false (show ¬ leastV 772 ≤ m from by rw [show leastV 772 = 3 from by decide]; omega)) W, fun W => rread_no c m 772 l q (.inr (.inr (decide_eq_false (show ¬ leastV 772 ≤ m from by rw [show leastV 772 = 3 from by decide]; omega)))) W⟩
  write_yes _ c m v h := ⟨fun W => write_304 c m v (decide_eq_true (show leastV 772 ≤ m from by rw [show leastV 772 = 3 from by decide]; exact h)) W, fun W => rwrite_304 c m v (decide_eq_true (show leastV 772 ≤ m from by rw [show leastV 772 = 3 from by decide]; exact h)) W⟩
  write_once e := by cases e
  write_no c m v h := ⟨fun W => write_no c m 772 v (decide_eq_false (show ¬ leastV 772 ≤ m from by rw [show leastV 772 = 3 from by decide]; omega)) W, fun W => rwrite_no c m 772 v (.inr (.inr (decide_eq_false (show ¬ leastV 772 ≤ m from by rw [show leastV 772 = 3 from by decide]; omega)))) W⟩
theorem row_305 : Row 773 3 false (fun c _ _ => c.s5) (fun c v => ⟨c.s0, c.s1, c.s2, c.s3, c.s4, (bits .and .u64 v 18446744073709551613), c.s6, c.s7, c.s8, c.s9, c.s10, c.s11, c.s12, c.s13, c.s14, c.s15⟩) where
  read_yes c m l q h := ⟨fun W => read_305 c m l q (decide_eq_true (show leastV 773 ≤ m from by rw [show leastV 773 = 3 from by decide]; exact h)) W, fun W => rread_of c m 773 l q _ true (by decide) (by decide) (decide_eq_true (show leastV 773 ≤ m from by rw [show leastV 773 = 3 from by decide]; exact h)) (Lib.hid fun W => known_305 c l q W) W⟩
  read_no c m l q h := ⟨fun W => read_no c m 773 l q (decide_eq_false (show ¬ leastV 773 ≤ m from by rw [show leastV 773 = 3 from by decide]; omega)) W, fun W => rread_no c m 773 l q (.inr (.inr (decide_eq_false (show ¬ leastV 773 ≤ m from by rw [show leastV 773 = 3 from by decide]; omega)))) W⟩
  write_yes _ c m v h := ⟨fun W => write_305 c m v (decide_eq_true (show leastV 773 ≤ m from by rw [show leastV 773 = 3 from by decide]; exact h)) W, fun W => by
    have h2 := rwrite_305 c m v (decide_eq_true (show leastV 773 ≤ m from by rw [show leastV 773 = 3 from by decide]; exact h)) W
    rw [← not_const _ _ c2 v] at h2
    exact h2⟩
  write_once e := by cases e
  write_no c m v h := ⟨fun W => write_no c m 773 v (decide_eq_false (show ¬ leastV 773 ≤ m from by rw [show leastV 773 = 3 from by decide]; omega)) W, fun W => rwrite_no c m 773 v (.inr (.inr (decide_eq_false (show ¬ leastV 773 ≤ m from by rw [show leastV 773 = 3 from by decide]; omega)))) W⟩
theorem row_340 : Row 832 3 false (fun c _ _ => c.s6) (fun c v => ⟨c.s0, c.s1, c.s2, c.s3, c.s4, c.s5, v, c.s7, c.s8, c.s9, c.s10, c.s11, c.s12, c.s13, c.s14, c.s15⟩) where
  read_yes c m l q h := ⟨fun W => read_340 c m l q (decide_eq_true (show leastV 832 ≤ m from by rw [show leastV 832 = 3 from by decide]; exact h)) W, fun W => rread_of c m 832 l q _ true (by decide) (by decide) (decide_eq_true (show leastV 832 ≤ m from by rw [show leastV 832 = 3 from by decide]; exact h)) (Lib.hid fun W => known_340 c l q W) W⟩
  read_no c m l q h := ⟨fun W => read_no c m 832 l q (decide_eq_false (show ¬ leastV 832 ≤ m from by rw [show leastV 832 = 3 from by decide]; omega)) W, fun W => rread_no c m 832 l q (.inr (.inr (decide_eq_false (show ¬ leastV 832 ≤ m from by rw [show leastV 832 = 3 from by decide]; omega)))) W⟩
  write_yes _ c m v h := ⟨fun W => write_340 c m v (decide_eq_true (show leastV 832 ≤ m from by rw [show leastV 832 = 3 from by decide]; exact h)) W, fun W => rwrite_340 c m v (decide_eq_true (show leastV 832 ≤ m from by rw [show leastV 832 = 3 from by decide]; exact h)) W⟩
  write_once e := by cases e
  write_no c m v h := ⟨fun W => write_no c m 832 v (decide_eq_false (show ¬ leastV 832 ≤ m from by rw [show leastV 832 = 3 from by decide]; omega)) W, fun W => rwrite_no c m 832 v (.inr (.inr (decide_eq_false (show ¬ leastV 832 ≤ m from by rw [show leastV 832 = 3 from by decide]; omega)))) W⟩
theorem row_341 : Row 833 3 false (fun c _ _ => c.s7) (fun c v => ⟨c.s0, c.s1, c.s2, c.s3, c.s4, c.s5, c.s6, (bits .and .u64 v 18446744073709551614), c.s8, c.s9, c.s10, c.s11, c.s12, c.s13, c.s14, c.s15⟩) where
  read_yes c m l q h := ⟨fun W => read_341 c m l q (decide_eq_true (show leastV 833 ≤ m from by rw [show leastV 833 = 3 from by decide]; exact h)) W, fun W => rread_of c m 833 l q _ true (by decide) (by decide) (decide_eq_true (show leastV 833 ≤ m from by rw [show leastV 833 = 3 from by decide]; exact h)) (Lib.hid fun W => known_341 c l q W) W⟩
  read_no c m l q h := ⟨fun W => read_no c m 833 l q (decide_eq_false (show ¬ leastV 833 ≤ m from by rw [show leastV 833 = 3 from by decide]; omega)) W, fun W => rread_no c m 833 l q (.inr (.inr (decide_eq_false (show ¬ leastV 833 ≤ m from by rw [show leastV 833 = 3 from by decide]; omega)))) W⟩
  write_yes _ c m v h := ⟨fun W => write_341 c m v (decide_eq_true (show leastV 833 ≤ m from by rw [show leastV 833 = 3 from by decide]; exact h)) W, fun W => by
    have h2 := rwrite_341 c m v (decide_eq_true (show leastV 833 ≤ m from by rw [show leastV 833 = 3 from by decide]; exact h)) W
    rw [← not_const _ _ c1 v] at h2
    exact h2⟩
  write_once e := by cases e
  write_no c m v h := ⟨fun W => write_no c m 833 v (decide_eq_false (show ¬ leastV 833 ≤ m from by rw [show leastV 833 = 3 from by decide]; omega)) W, fun W => rwrite_no c m 833 v (.inr (.inr (decide_eq_false (show ¬ leastV 833 ≤ m from by rw [show leastV 833 = 3 from by decide]; omega)))) W⟩
theorem row_342 : Row 834 3 false (fun c _ _ => c.s8) (fun c v => ⟨c.s0, c.s1, c.s2, c.s3, c.s4, c.s5, c.s6, c.s7, v, c.s9, c.s10, c.s11, c.s12, c.s13, c.s14, c.s15⟩) where
  read_yes c m l q h := ⟨fun W => read_342 c m l q (decide_eq_true (show leastV 834 ≤ m from by rw [show leastV 834 = 3 from by decide]; exact h)) W, fun W => rread_of c m 834 l q _ true (by decide) (by decide) (decide_eq_true (show leastV 834 ≤ m from by rw [show leastV 834 = 3 from by decide]; exact h)) (Lib.hid fun W => known_342 c l q W) W⟩
  read_no c m l q h := ⟨fun W => read_no c m 834 l q (decide_eq_false (show ¬ leastV 834 ≤ m from by rw [show leastV 834 = 3 from by decide]; omega)) W, fun W => rread_no c m 834 l q (.inr (.inr (decide_eq_false (show ¬ leastV 834 ≤ m from by rw [show leastV 834 = 3 from by decide]; omega)))) W⟩
  write_yes _ c m v h := ⟨fun W => write_342 c m v (decide_eq_true (show leastV 834 ≤ m from by rw [show leastV 834 = 3 from by decide]; exact h)) W, fun W => rwrite_342 c m v (decide_eq_true (show leastV 834 ≤ m from by rw [show leastV 834 = 3 from by decide]; exact h)) W⟩
  write_once e := by cases e
  write_no c m v h := ⟨fun W => write_no c m 834 v (decide_eq_false (show ¬ leastV 834 ≤ m from by rw [show leastV 834 = 3 from by decide]; omega)) W, fun W => rwrite_no c m 834 v (.inr (.inr (decide_eq_false (show ¬ leastV 834 ≤ m from by rw [show leastV 834 = 3 from by decide]; omega)))) W⟩
theorem row_343 : Row 835 3 false (fun c _ _ => c.s9) (fun c v => ⟨c.s0, c.s1, c.s2, c.s3, c.s4, c.s5, c.s6, c.s7, c.s8, v, c.s10, c.s11, c.s12, c.s13, c.s14, c.s15⟩) where
  read_yes c m l q h := ⟨fun W => read_343 c m l q (decide_eq_true (show leastV 835 ≤ m from by rw [show leastV 835 = 3 from by decide]; exact h)) W, fun W => rread_of c m 835 l q _ true (by decide) (by decide) (decide_eq_true (show leastV 835 ≤ m from by rw [show leastV 835 = 3 from by decide]; exact h)) (Lib.hid fun W => known_343 c l q W) W⟩
  read_no c m l q h := ⟨fun W => read_no c m 835 l q (decide_eq_false (show ¬ leastV 835 ≤ m from by rw [show leastV 835 = 3 from by decide]; omega)) W, fun W => rread_no c m 835 l q (.inr (.inr (decide_eq_false (show ¬ leastV 835 ≤ m from by rw [show leastV 835 = 3 from by decide]; omega)))) W⟩
  write_yes _ c m v h := ⟨fun W => write_343 c m v (decide_eq_true (show leastV 835 ≤ m from by rw [show leastV 835 = 3 from by decide]; exact h)) W, fun W => rwrite_343 c m v (decide_eq_true (show leastV 835 ≤ m from by rw [show leastV 835 = 3 from by decide]; exact h)) W⟩
  write_once e := by cases e
  write_no c m v h := ⟨fun W => write_no c m 835 v (decide_eq_false (show ¬ leastV 835 ≤ m from by rw [show leastV 835 = 3 from by decide]; omega)) W, fun W => rwrite_no c m 835 v (.inr (.inr (decide_eq_false (show ¬ leastV 835 ≤ m from by rw [show leastV 835 = 3 from by decide]; omega)))) W⟩
theorem row_344 : Row 836 3 false (fun c l _ => (rsV c.s4 l)) (fun c v => ⟨c.s0, c.s1, c.s2, c.s3, (bits .and .u64 v 546), c.s5, c.s6, c.s7, c.s8, c.s9, c.s10, c.s11, c.s12, c.s13, c.s14, c.s15⟩) where
  read_yes c m l q h := ⟨fun W => read_344 c m l q (decide_eq_true (show leastV 836 ≤ m from by rw [show leastV 836 = 3 from by decide]; exact h)) W, fun W => rread_of c m 836 l q _ true (by decide) (by decide) (decide_eq_true (show leastV 836 ≤ m from by rw [show leastV 836 = 3 from by decide]; exact h)) (Lib.hid fun W => known_344 c l q W) W⟩
  read_no c m l q h := ⟨fun W => read_no c m 836 l q (decide_eq_false (show ¬ leastV 836 ≤ m from by rw [show leastV 836 = 3 from by decide]; omega)) W, fun W => rread_no c m 836 l q (.inr (.inr (decide_eq_false (show ¬ leastV 836 ≤ m from by rw [show leastV 836 = 3 from by decide]; omega)))) W⟩
  write_yes _ c m v h := ⟨fun W => write_344 c m v (decide_eq_true (show leastV 836 ≤ m from by rw [show leastV 836 = 3 from by decide]; exact h)) W, fun W => rwrite_344 c m v (decide_eq_true (show leastV 836 ≤ m from by rw [show leastV 836 = 3 from by decide]; exact h)) W⟩
  write_once e := by cases e
  write_no c m v h := ⟨fun W => write_no c m 836 v (decide_eq_false (show ¬ leastV 836 ≤ m from by rw [show leastV 836 = 3 from by decide]; omega)) W, fun W => rwrite_no c m 836 v (.inr (.inr (decide_eq_false (show ¬ leastV 836 ≤ m from by rw [show leastV 836 = 3 from by decide]; omega)))) W⟩
theorem row_b00 : Row 2816 3 false (fun _ _ k => k) (fun c _ => c) where
  read_yes c m l q h := ⟨fun W => read_b00 c m l q (decide_eq_true (show leastV 2816 ≤ m from by rw [show leastV 2816 = 3 from by decide]; exact h)) W, fun W => rread_of c m 2816 l q _ true (by decide) (by decide) (decide_eq_true (show leastV 2816 ≤ m from by rw [show leastV 2816 = 3 from by decide]; exact h)) (Lib.hid fun W => known_b00 c l q W) W⟩
  read_no c m l q h := ⟨fun W => read_no c m 2816 l q (decide_eq_false (show ¬ leastV 2816 ≤ m from by rw [show leastV 2816 = 3 from by decide]; omega)) W, fun W => rread_no c m 2816 l q (.inr (.inr (decide_eq_false (show ¬ leastV 2816 ≤ m from by rw [show leastV 2816 = 3 from by decide]; omega)))) W⟩
  write_yes _ c m v h := ⟨fun W => write_b00 c m v (decide_eq_true (show leastV 2816 ≤ m from by rw [show leastV 2816 = 3 from by decide]; exact h)) W, fun W => rwrite_b00 c m v (decide_eq_true (show leastV 2816 ≤ m from by rw [show leastV 2816 = 3 from by decide]; exact h)) W⟩
  write_once e := by cases e
  write_no c m v h := ⟨fun W => write_no c m 2816 v (decide_eq_false (show ¬ leastV 2816 ≤ m from by rw [show leastV 2816 = 3 from by decide]; omega)) W, fun W => rwrite_no c m 2816 v (.inr (.inr (decide_eq_false (show ¬ leastV 2816 ≤ m from by rw [show leastV 2816 = 3 from by decide]; omega)))) W⟩
theorem row_b02 : Row 2818 3 false (fun _ _ k => k) (fun c _ => c) where
  read_yes c m l q h := ⟨fun W => read_b02 c m l q (decide_eq_true (show leastV 2818 ≤ m from by rw [show leastV 2818 = 3 from by decide]; exact h)) W, fun W => rread_of c m 2818 l q _ true (by decide) (by decide) (decide_eq_true (show leastV 2818 ≤ m from by rw [show leastV 2818 = 3 from by decide]; exact h)) (Lib.hid fun W => known_b02 c l q W) W⟩
  read_no c m l q h := ⟨fun W => read_no c m 2818 l q (decide_eq_false (show ¬ leastV 2818 ≤ m from by rw [show leastV 2818 = 3 from by decide]; omega)) W, fun W => rread_no c m 2818 l q (.inr (.inr (decide_eq_false (show ¬ leastV 2818 ≤ m from by rw [show leastV 2818 = 3 from by decide]; omega)))) W⟩
  write_yes _ c m v h := ⟨fun W => write_b02 c m v (decide_eq_true (show leastV 2818 ≤ m from by rw [show leastV 2818 = 3 from by decide]; exact h)) W, fun W => rwrite_b02 c m v (decide_eq_true (show leastV 2818 ≤ m from by rw [show leastV 2818 = 3 from by decide]; exact h)) W⟩
  write_once e := by cases e
  write_no c m v h := ⟨fun W => write_no c m 2818 v (decide_eq_false (show ¬ leastV 2818 ≤ m from by rw [show leastV 2818 = 3 from by decide]; omega)) W, fun W => rwrite_no c m 2818 v (.inr (.inr (decide_eq_false (show ¬ leastV 2818 ≤ m from by rw [show leastV 2818 = 3 from by decide]; omega)))) W⟩
theorem row_c00 : Row 3072 0 true (fun _ _ k => k) (fun c _ => c) where
  read_yes c m l q h := ⟨fun W => read_c00 c m l q (decide_eq_true (show leastV 3072 ≤ m from by rw [show leastV 3072 = 0 from by decide]; exact h)) W, fun W => rread_of c m 3072 l q _ true (by decide) (by decide) (decide_eq_true (show leastV 3072 ≤ m from by rw [show leastV 3072 = 0 from by decide]; exact h)) (Lib.hid fun W => known_c00 c l q W) W⟩
  read_no c m l q h := ⟨fun W => read_no c m 3072 l q (decide_eq_false (show ¬ leastV 3072 ≤ m from by rw [show leastV 3072 = 0 from by decide]; omega)) W, fun W => rread_no c m 3072 l q (.inr (.inr (decide_eq_false (show ¬ leastV 3072 ≤ m from by rw [show leastV 3072 = 0 from by decide]; omega)))) W⟩
  write_yes e := by cases e
  write_once _ c m v h := ⟨fun W => write_once c m 3072 v (decide_eq_true (show leastV 3072 ≤ m from by rw [show leastV 3072 = 0 from by decide]; exact h)) (by decide) W, fun W => rwrite_once c m 3072 v (by decide) (by decide) (decide_eq_true (show leastV 3072 ≤ m from by rw [show leastV 3072 = 0 from by decide]; exact h)) (by decide) W⟩
  write_no c m v h := ⟨fun W => write_no c m 3072 v (decide_eq_false (show ¬ leastV 3072 ≤ m from by rw [show leastV 3072 = 0 from by decide]; omega)) W, fun W => rwrite_no c m 3072 v (.inr (.inr (decide_eq_false (show ¬ leastV 3072 ≤ m from by rw [show leastV 3072 = 0 from by decide]; omega)))) W⟩
theorem row_c01 : Row 3073 0 true (fun _ _ k => k) (fun c _ => c) where
  read_yes c m l q h := ⟨fun W => read_c01 c m l q (decide_eq_true (show leastV 3073 ≤ m from by rw [show leastV 3073 = 0 from by decide]; exact h)) W, fun W => rread_of c m 3073 l q _ true (by decide) (by decide) (decide_eq_true (show leastV 3073 ≤ m from by rw [show leastV 3073 = 0 from by decide]; exact h)) (Lib.hid fun W => known_c01 c l q W) W⟩
  read_no c m l q h := ⟨fun W => read_no c m 3073 l q (decide_eq_false (show ¬ leastV 3073 ≤ m from by rw [show leastV 3073 = 0 from by decide]; omega)) W, fun W => rread_no c m 3073 l q (.inr (.inr (decide_eq_false (show ¬ leastV 3073 ≤ m from by rw [show leastV 3073 = 0 from by decide]; omega)))) W⟩
  write_yes e := by cases e
  write_once _ c m v h := ⟨fun W => write_once c m 3073 v (decide_eq_true (show leastV 3073 ≤ m from by rw [show leastV 3073 = 0 from by decide]; exact h)) (by decide) W, fun W => rwrite_once c m 3073 v (by decide) (by decide) (decide_eq_true (show leastV 3073 ≤ m from by rw [show leastV 3073 = 0 from by decide]; exact h)) (by decide) W⟩
  write_no c m v h := ⟨fun W => write_no c m 3073 v (decide_eq_false (show ¬ leastV 3073 ≤ m from by rw [show leastV 3073 = 0 from by decide]; omega)) W, fun W => rwrite_no c m 3073 v (.inr (.inr (decide_eq_false (show ¬ leastV 3073 ≤ m from by rw [show leastV 3073 = 0 from by decide]; omega)))) W⟩
theorem row_c02 : Row 3074 0 true (fun _ _ k => k) (fun c _ => c) where
  read_yes c m l q h := ⟨fun W => read_c02 c m l q (decide_eq_true (show leastV 3074 ≤ m from by rw [show leastV 3074 = 0 from by decide]; exact h)) W, fun W => rread_of c m 3074 l q _ true (by decide) (by decide) (decide_eq_true (show leastV 3074 ≤ m from by rw [show leastV 3074 = 0 from by decide]; exact h)) (Lib.hid fun W => known_c02 c l q W) W⟩
  read_no c m l q h := ⟨fun W => read_no c m 3074 l q (decide_eq_false (show ¬ leastV 3074 ≤ m from by rw [show leastV 3074 = 0 from by decide]; omega)) W, fun W => rread_no c m 3074 l q (.inr (.inr (decide_eq_false (show ¬ leastV 3074 ≤ m from by rw [show leastV 3074 = 0 from by decide]; omega)))) W⟩
  write_yes e := by cases e
  write_once _ c m v h := ⟨fun W => write_once c m 3074 v (decide_eq_true (show leastV 3074 ≤ m from by rw [show leastV 3074 = 0 from by decide]; exact h)) (by decide) W, fun W => rwrite_once c m 3074 v (by decide) (by decide) (decide_eq_true (show leastV 3074 ≤ m from by rw [show leastV 3074 = 0 from by decide]; exact h)) (by decide) W⟩
  write_no c m v h := ⟨fun W => write_no c m 3074 v (decide_eq_false (show ¬ leastV 3074 ≤ m from by rw [show leastV 3074 = 0 from by decide]; omega)) W, fun W => rwrite_no c m 3074 v (.inr (.inr (decide_eq_false (show ¬ leastV 3074 ≤ m from by rw [show leastV 3074 = 0 from by decide]; omega)))) W⟩
theorem row_f11 : Row 3857 3 true (fun _ _ _ => 0) (fun c _ => c) where
  read_yes c m l q h := ⟨fun W => read_f11 c m l q (decide_eq_true (show leastV 3857 ≤ m from by rw [show leastV 3857 = 3 from by decide]; exact h)) W, fun W => rread_of c m 3857 l q _ true (by decide) (by decide) (decide_eq_true (show leastV 3857 ≤ m from by rw [show leastV 3857 = 3 from by decide]; exact h)) (Lib.hid fun W => known_f11 c l q W) W⟩
  read_no c m l q h := ⟨fun W => read_no c m 3857 l q (decide_eq_false (show ¬ leastV 3857 ≤ m from by rw [show leastV 3857 = 3 from by decide]; omega)) W, fun W => rread_no c m 3857 l q (.inr (.inr (decide_eq_false (show ¬ leastV 3857 ≤ m from by rw [show leastV 3857 = 3 from by decide]; omega)))) W⟩
  write_yes e := by cases e
  write_once _ c m v h := ⟨fun W => write_once c m 3857 v (decide_eq_true (show leastV 3857 ≤ m from by rw [show leastV 3857 = 3 from by decide]; exact h)) (by decide) W, fun W => rwrite_once c m 3857 v (by decide) (by decide) (decide_eq_true (show leastV 3857 ≤ m from by rw [show leastV 3857 = 3 from by decide]; exact h)) (by decide) W⟩
  write_no c m v h := ⟨fun W => write_no c m 3857 v (decide_eq_false (show ¬ leastV 3857 ≤ m from by rw [show leastV 3857 = 3 from by decide]; omega)) W, fun W => rwrite_no c m 3857 v (.inr (.inr (decide_eq_false (show ¬ leastV 3857 ≤ m from by rw [show leastV 3857 = 3 from by decide]; omega)))) W⟩
theorem row_f12 : Row 3858 3 true (fun _ _ _ => 0) (fun c _ => c) where
  read_yes c m l q h := ⟨fun W => read_f12 c m l q (decide_eq_true (show leastV 3858 ≤ m from by rw [show leastV 3858 = 3 from by decide]; exact h)) W, fun W => rread_of c m 3858 l q _ true (by decide) (by decide) (decide_eq_true (show leastV 3858 ≤ m from by rw [show leastV 3858 = 3 from by decide]; exact h)) (Lib.hid fun W => known_f12 c l q W) W⟩
  read_no c m l q h := ⟨fun W => read_no c m 3858 l q (decide_eq_false (show ¬ leastV 3858 ≤ m from by rw [show leastV 3858 = 3 from by decide]; omega)) W, fun W => rread_no c m 3858 l q (.inr (.inr (decide_eq_false (show ¬ leastV 3858 ≤ m from by rw [show leastV 3858 = 3 from by decide]; omega)))) W⟩
  write_yes e := by cases e
  write_once _ c m v h := ⟨fun W => write_once c m 3858 v (decide_eq_true (show leastV 3858 ≤ m from by rw [show leastV 3858 = 3 from by decide]; exact h)) (by decide) W, fun W => rwrite_once c m 3858 v (by decide) (by decide) (decide_eq_true (show leastV 3858 ≤ m from by rw [show leastV 3858 = 3 from by decide]; exact h)) (by decide) W⟩
  write_no c m v h := ⟨fun W => write_no c m 3858 v (decide_eq_false (show ¬ leastV 3858 ≤ m from by rw [show leastV 3858 = 3 from by decide]; omega)) W, fun W => rwrite_no c m 3858 v (.inr (.inr (decide_eq_false (show ¬ leastV 3858 ≤ m from by rw [show leastV 3858 = 3 from by decide]; omega)))) W⟩
theorem row_f13 : Row 3859 3 true (fun _ _ _ => 0) (fun c _ => c) where
  read_yes c m l q h := ⟨fun W => read_f13 c m l q (decide_eq_true (show leastV 3859 ≤ m from by rw [show leastV 3859 = 3 from by decide]; exact h)) W, fun W => rread_of c m 3859 l q _ true (by decide) (by decide) (decide_eq_true (show leastV 3859 ≤ m from by rw [show leastV 3859 = 3 from by decide]; exact h)) (Lib.hid fun W => known_f13 c l q W) W⟩
  read_no c m l q h := ⟨fun W => read_no c m 3859 l q (decide_eq_false (show ¬ leastV 3859 ≤ m from by rw [show leastV 3859 = 3 from by decide]; omega)) W, fun W => rread_no c m 3859 l q (.inr (.inr (decide_eq_false (show ¬ leastV 3859 ≤ m from by rw [show leastV 3859 = 3 from by decide]; omega)))) W⟩
  write_yes e := by cases e
  write_once _ c m v h := ⟨fun W => write_once c m 3859 v (decide_eq_true (show leastV 3859 ≤ m from by rw [show leastV 3859 = 3 from by decide]; exact h)) (by decide) W, fun W => rwrite_once c m 3859 v (by decide) (by decide) (decide_eq_true (show leastV 3859 ≤ m from by rw [show leastV 3859 = 3 from by decide]; exact h)) (by decide) W⟩
  write_no c m v h := ⟨fun W => write_no c m 3859 v (decide_eq_false (show ¬ leastV 3859 ≤ m from by rw [show leastV 3859 = 3 from by decide]; omega)) W, fun W => rwrite_no c m 3859 v (.inr (.inr (decide_eq_false (show ¬ leastV 3859 ≤ m from by rw [show leastV 3859 = 3 from by decide]; omega)))) W⟩
theorem row_f14 : Row 3860 3 true (fun _ _ _ => 0) (fun c _ => c) where
  read_yes c m l q h := ⟨fun W => read_f14 c m l q (decide_eq_true (show leastV 3860 ≤ m from by rw [show leastV 3860 = 3 from by decide]; exact h)) W, fun W => rread_of c m 3860 l q _ true (by decide) (by decide) (decide_eq_true (show leastV 3860 ≤ m from by rw [show leastV 3860 = 3 from by decide]; exact h)) (Lib.hid fun W => known_f14 c l q W) W⟩
  read_no c m l q h := ⟨fun W => read_no c m 3860 l q (decide_eq_false (show ¬ leastV 3860 ≤ m from by rw [show leastV 3860 = 3 from by decide]; omega)) W, fun W => rread_no c m 3860 l q (.inr (.inr (decide_eq_false (show ¬ leastV 3860 ≤ m from by rw [show leastV 3860 = 3 from by decide]; omega)))) W⟩
  write_yes e := by cases e
  write_once _ c m v h := ⟨fun W => write_once c m 3860 v (decide_eq_true (show leastV 3860 ≤ m from by rw [show leastV 3860 = 3 from by decide]; exact h)) (by decide) W, fun W => rwrite_once c m 3860 v (by decide) (by decide) (decide_eq_true (show leastV 3860 ≤ m from by rw [show leastV 3860 = 3 from by decide]; exact h)) (by decide) W⟩
  write_no c m v h := ⟨fun W => write_no c m 3860 v (decide_eq_false (show ¬ leastV 3860 ≤ m from by rw [show leastV 3860 = 3 from by decide]; omega)) W, fun W => rwrite_no c m 3860 v (.inr (.inr (decide_eq_false (show ¬ leastV 3860 ≤ m from by rw [show leastV 3860 = 3 from by decide]; omega)))) W⟩
/-- No register has this number. -/
structure NoRow (n : Int) : Prop where
  read : ∀ c m l q, Reads c m n l q 0 false ∧ RReads c m n l q 0 false
  write : ∀ c m v, Writes c m n v c false ∧ RWrites c m n v c false
theorem no_row (n : Int) (h100 : (n == 256) = false) (h104 : (n == 260) = false) (h105 : (n == 261) = false) (h140 : (n == 320) = false) (h141 : (n == 321) = false) (h142 : (n == 322) = false) (h143 : (n == 323) = false) (h144 : (n == 324) = false) (h180 : (n == 384) = false) (h300 : (n == 768) = false) (h301 : (n == 769) = false) (h302 : (n == 770) = false) (h303 : (n == 771) = false) (h304 : (n == 772) = false) (h305 : (n == 773) = false) (h340 : (n == 832) = false) (h341 : (n == 833) = false) (h342 : (n == 834) = false) (h343 : (n == 835) = false) (h344 : (n == 836) = false) (hb00 : (n == 2816) = false) (hb02 : (n == 2818) = false) (hc00 : (n == 3072) = false) (hc01 : (n == 3073) = false) (hc02 : (n == 3074) = false) (hf11 : (n == 3857) = false) (hf12 : (n == 3858) = false) (hf13 : (n == 3859) = false) (hf14 : (n == 3860) = false) : NoRow n where
  read c m l q := by
    rcases Bool.eq_false_or_eq_true (decide (leastV n ≤ m)) with h | h
    · refine ⟨fun W => read_none c m n l q h h100 h104 h105 h140 h141 h142 h143 h144 h180 h300 h301 h302 h303 h304 h305 h340 h341 h342 h343 h344 hb00 hb02 hc00 hc01 hc02 hf11 hf12 hf13 hf14 W, fun W => ?_⟩
      by_cases h0 : 0 ≤ n
      · by_cases h1 : n ≤ 4095
        · exact rread_of c m n l q _ false h0 h1 h (Lib.hid fun W => known_none c n l q h100 h104 h105 h140 h141 h142 h143 h144 h180 h300 h301 h302 h303 h304 h305 h340 h341 h342 h343 h344 hb00 hb02 hc00 hc01 hc02 hf11 hf12 hf13 hf14 W) W
        · exact rread_no c m n l q (.inr (.inl (by omega))) W
      · exact rread_no c m n l q (.inl (by omega)) W
    · exact ⟨fun W => read_no c m n l q h W, fun W => rread_no c m n l q (.inr (.inr h)) W⟩
  write c m v := by
    rcases Bool.eq_false_or_eq_true (decide (leastV n ≤ m)) with h | h
    · have hp : Writes c m n v c false := by
        rcases Bool.eq_false_or_eq_true (onceV n != 3) with ho | ho
        · exact fun W => write_none c m n v h ho h100 h104 h105 h140 h141 h142 h143 h144 h180 h300 h301 h302 h303 h304 h305 h340 h341 h342 h343 h344 hb00 hb02 W
        · exact fun W => write_once c m n v h ho W
      refine ⟨hp, fun W => ?_⟩
      by_cases h0 : 0 ≤ n
      · by_cases h1 : n ≤ 4095
        · rcases Bool.eq_false_or_eq_true (onceV n != 3) with ho | ho
          · exact rwrite_none c m n v h0 h1 h ho h100 h104 h105 h140 h141 h142 h143 h144 h180 h300 h301 h302 h303 h304 h305 h340 h341 h342 h343 h344 hb00 hb02 hc00 hc01 hc02 hf11 hf12 hf13 hf14 W
          · exact rwrite_once c m n v h0 h1 h ho W
        · exact rwrite_no c m n v (.inr (.inl (by omega))) W
      · exact rwrite_no c m n v (.inl (by omega)) W
    · exact ⟨fun W => write_no c m n v h W, fun W => rwrite_no c m n v (.inr (.inr h)) W⟩

end Go.Proofs.Ythchakfffenoiaa
