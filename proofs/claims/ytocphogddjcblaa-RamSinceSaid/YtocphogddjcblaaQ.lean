/- Bytes of the reference. -/
import Derived.Test.YtocphogddjcblaaK
import Derived.Test.YtocphogddjcblaaD
namespace Go.Proofs.Ytocphogddjcblaa
open Go.RowKit Go.Deep Go.Joins
theorem leL_list (n : Nat) (hn : n < 18446744073709551616) : dC (leL n) = [.int .u8 ((n : Int) % 256), .int .u8 ((n : Int) / 256 % 256), .int .u8 ((n : Int) / 65536 % 256), .int .u8 ((n : Int) / 16777216 % 256), .int .u8 ((n : Int) / 4294967296 % 256), .int .u8 ((n : Int) / 1099511627776 % 256), .int .u8 ((n : Int) / 281474976710656 % 256), .int .u8 ((n : Int) / 72057594037927936)] := by
  have h := leL_cells n hn
  have h2 := congrArg Array.toList h
  exact h2
theorem bytes_cv2 (n s : Nat) (w : World) (hs : s ≤ 8) (cs : Array Value) (hcs : cs = ((dC (leL n)).take s).toArray) :
    (convert 22 9 (.slice (some ⟨w.heap.size, 0, none⟩) s s)).run Try.prog (w.alloc (.cells cs 5)) = .ok (.string (bytesN n s)) (w.alloc (.cells cs 5)) := by
  have h := run_convert_bytes_back (P := Try.prog) (w.alloc (.cells cs 5)) 22 9 5 ⟨w.heap.size, 0, none⟩ s ((leL n).take s) Try.underlying22 Try.underlying5 Try.underlying9 (fun j hj => by
    rw [add_lit, Nat.zero_add, World.cell?_alloc_new, hcs]
    rw [List.length_take, leL_length] at hj
    rw [List.getElem?_toArray, List.getElem?_take_of_lt (by omega), dC, List.getElem?_map, List.getElem?_eq_getElem (by rw [leL_length]; omega), List.getElem_take]
    rfl)
  rw [List.length_take, leL_length, Nat.min_eq_left hs] at h
  exact h
theorem make_lit (s : Nat) (hs : s ≤ 8) (u : World) (cs : Array Value) (hcs : cs = (dC (List.replicate s 0)).toArray) : (Instr.makeSlice 22 (.int .i64 (s : Int)) (.int .i64 (s : Int))).run Try.prog u =
      .ok (.slice (some ⟨u.heap.size, 0, none⟩) s s) (u.alloc (.cells cs 5)) := by
  rw [hcs]; exact make_d s (by omega) u
set_option maxHeartbeats 1000000 in
theorem rbytes_0 (n : Nat) (w : World) (hn : n < 18446744073709551616) :
    Calls Try.prog 25 #[.int .u64 n, .int .i64 0] w fun e w' => e = .returned (.string (bytesN n 0)) ∧ Below w.heap.size w w' := by
  have hcv := bytes_cv2 n 0 w (by omega) #[] (by rw [leL_list n hn]; rfl)
  have hmk : (Instr.makeSlice 22 (.int .i64 0) (.int .i64 0)).run Try.prog w = .ok (.slice (some ⟨w.heap.size, 0, none⟩) 0 0) (w.alloc (.cells #[] 5)) := make_lit 0 (by omega) w _ rfl
  go_enter Try.func25, Try.ntmps25
  go_wp2_with fail
  go_rounds 1
  go_ret
  exact ⟨rfl, below1 w _⟩
set_option maxHeartbeats 1000000 in
theorem rbytes_1 (n : Nat) (w : World) (hn : n < 18446744073709551616) :
    Calls Try.prog 25 #[.int .u64 n, .int .i64 1] w fun e w' => e = .returned (.string (bytesN n 1)) ∧ Below w.heap.size w w' := by
  have hcv := bytes_cv2 n 1 w (by omega) #[.int .u8 ((n : Int) % 256)] (by rw [leL_list n hn]; rfl)
  have hmk : (Instr.makeSlice 22 (.int .i64 1) (.int .i64 1)).run Try.prog w = .ok (.slice (some ⟨w.heap.size, 0, none⟩) 1 1) (w.alloc (.cells #[.int .u8 0] 5)) := make_lit 1 (by omega) w _ rfl
  go_enter Try.func25, Try.ntmps25
  go_wp2_with fail
  go_rounds 2
  go_ret
  exact ⟨rfl, below1 w _⟩
set_option maxHeartbeats 1000000 in
theorem rbytes_2 (n : Nat) (w : World) (hn : n < 18446744073709551616) :
    Calls Try.prog 25 #[.int .u64 n, .int .i64 2] w fun e w' => e = .returned (.string (bytesN n 2)) ∧ Below w.heap.size w w' := by
  have hcv := bytes_cv2 n 2 w (by omega) #[.int .u8 ((n : Int) % 256), .int .u8 ((n : Int) / 256 % 256)] (by rw [leL_list n hn]; rfl)
  have hmk : (Instr.makeSlice 22 (.int .i64 2) (.int .i64 2)).run Try.prog w = .ok (.slice (some ⟨w.heap.size, 0, none⟩) 2 2) (w.alloc (.cells #[.int .u8 0, .int .u8 0] 5)) := make_lit 2 (by omega) w _ rfl
  go_enter Try.func25, Try.ntmps25
  go_wp2_with fail
  go_rounds 3
  go_ret
  exact ⟨rfl, below1 w _⟩
set_option maxHeartbeats 1000000 in
theorem rbytes_3 (n : Nat) (w : World) (hn : n < 18446744073709551616) :
    Calls Try.prog 25 #[.int .u64 n, .int .i64 3] w fun e w' => e = .returned (.string (bytesN n 3)) ∧ Below w.heap.size w w' := by
  have hcv := bytes_cv2 n 3 w (by omega) #[.int .u8 ((n : Int) % 256), .int .u8 ((n : Int) / 256 % 256), .int .u8 ((n : Int) / 65536 % 256)] (by rw [leL_list n hn]; rfl)
  have hmk : (Instr.makeSlice 22 (.int .i64 3) (.int .i64 3)).run Try.prog w = .ok (.slice (some ⟨w.heap.size, 0, none⟩) 3 3) (w.alloc (.cells #[.int .u8 0, .int .u8 0, .int .u8 0] 5)) := make_lit 3 (by omega) w _ rfl
  go_enter Try.func25, Try.ntmps25
  go_wp2_with fail
  go_rounds 4
  go_ret
  exact ⟨rfl, below1 w _⟩
set_option maxHeartbeats 1000000 in
theorem rbytes_4 (n : Nat) (w : World) (hn : n < 18446744073709551616) :
    Calls Try.prog 25 #[.int .u64 n, .int .i64 4] w fun e w' => e = .returned (.string (bytesN n 4)) ∧ Below w.heap.size w w' := by
  have hcv := bytes_cv2 n 4 w (by omega) #[.int .u8 ((n : Int) % 256), .int .u8 ((n : Int) / 256 % 256), .int .u8 ((n : Int) / 65536 % 256), .int .u8 ((n : Int) / 16777216 % 256)] (by rw [leL_list n hn]; rfl)
  have hmk : (Instr.makeSlice 22 (.int .i64 4) (.int .i64 4)).run Try.prog w = .ok (.slice (some ⟨w.heap.size, 0, none⟩) 4 4) (w.alloc (.cells #[.int .u8 0, .int .u8 0, .int .u8 0, .int .u8 0] 5)) := make_lit 4 (by omega) w _ rfl
  go_enter Try.func25, Try.ntmps25
  go_wp2_with fail
  go_rounds 5
  go_ret
  exact ⟨rfl, below1 w _⟩
set_option maxHeartbeats 1000000 in
theorem rbytes_5 (n : Nat) (w : World) (hn : n < 18446744073709551616) :
    Calls Try.prog 25 #[.int .u64 n, .int .i64 5] w fun e w' => e = .returned (.string (bytesN n 5)) ∧ Below w.heap.size w w' := by
  have hcv := bytes_cv2 n 5 w (by omega) #[.int .u8 ((n : Int) % 256), .int .u8 ((n : Int) / 256 % 256), .int .u8 ((n : Int) / 65536 % 256), .int .u8 ((n : Int) / 16777216 % 256), .int .u8 ((n : Int) / 4294967296 % 256)] (by rw [leL_list n hn]; rfl)
  have hmk : (Instr.makeSlice 22 (.int .i64 5) (.int .i64 5)).run Try.prog w = .ok (.slice (some ⟨w.heap.size, 0, none⟩) 5 5) (w.alloc (.cells #[.int .u8 0, .int .u8 0, .int .u8 0, .int .u8 0, .int .u8 0] 5)) := make_lit 5 (by omega) w _ rfl
  go_enter Try.func25, Try.ntmps25
  go_wp2_with fail
  go_rounds 6
  go_ret
  exact ⟨rfl, below1 w _⟩
set_option maxHeartbeats 1000000 in
theorem rbytes_6 (n : Nat) (w : World) (hn : n < 18446744073709551616) :
    Calls Try.prog 25 #[.int .u64 n, .int .i64 6] w fun e w' => e = .returned (.string (bytesN n 6)) ∧ Below w.heap.size w w' := by
  have hcv := bytes_cv2 n 6 w (by omega) #[.int .u8 ((n : Int) % 256), .int .u8 ((n : Int) / 256 % 256), .int .u8 ((n : Int) / 65536 % 256), .int .u8 ((n : Int) / 16777216 % 256), .int .u8 ((n : Int) / 4294967296 % 256), .int .u8 ((n : Int) / 1099511627776 % 256)] (by rw [leL_list n hn]; rfl)
  have hmk : (Instr.makeSlice 22 (.int .i64 6) (.int .i64 6)).run Try.prog w = .ok (.slice (some ⟨w.heap.size, 0, none⟩) 6 6) (w.alloc (.cells #[.int .u8 0, .int .u8 0, .int .u8 0, .int .u8 0, .int .u8 0, .int .u8 0] 5)) := make_lit 6 (by omega) w _ rfl
  go_enter Try.func25, Try.ntmps25
  go_wp2_with fail
  go_rounds 7
  go_ret
  exact ⟨rfl, below1 w _⟩
set_option maxHeartbeats 1000000 in
theorem rbytes_7 (n : Nat) (w : World) (hn : n < 18446744073709551616) :
    Calls Try.prog 25 #[.int .u64 n, .int .i64 7] w fun e w' => e = .returned (.string (bytesN n 7)) ∧ Below w.heap.size w w' := by
  have hcv := bytes_cv2 n 7 w (by omega) #[.int .u8 ((n : Int) % 256), .int .u8 ((n : Int) / 256 % 256), .int .u8 ((n : Int) / 65536 % 256), .int .u8 ((n : Int) / 16777216 % 256), .int .u8 ((n : Int) / 4294967296 % 256), .int .u8 ((n : Int) / 1099511627776 % 256), .int .u8 ((n : Int) / 281474976710656 % 256)] (by rw [leL_list n hn]; rfl)
  have hmk : (Instr.makeSlice 22 (.int .i64 7) (.int .i64 7)).run Try.prog w = .ok (.slice (some ⟨w.heap.size, 0, none⟩) 7 7) (w.alloc (.cells #[.int .u8 0, .int .u8 0, .int .u8 0, .int .u8 0, .int .u8 0, .int .u8 0, .int .u8 0] 5)) := make_lit 7 (by omega) w _ rfl
  go_enter Try.func25, Try.ntmps25
  go_wp2_with fail
  go_rounds 8
  go_ret
  exact ⟨rfl, below1 w _⟩
set_option maxHeartbeats 1000000 in
theorem rbytes_8 (n : Nat) (w : World) (hn : n < 18446744073709551616) :
    Calls Try.prog 25 #[.int .u64 n, .int .i64 8] w fun e w' => e = .returned (.string (bytesN n 8)) ∧ Below w.heap.size w w' := by
  have hcv := bytes_cv2 n 8 w (by omega) #[.int .u8 ((n : Int) % 256), .int .u8 ((n : Int) / 256 % 256), .int .u8 ((n : Int) / 65536 % 256), .int .u8 ((n : Int) / 16777216 % 256), .int .u8 ((n : Int) / 4294967296 % 256), .int .u8 ((n : Int) / 1099511627776 % 256), .int .u8 ((n : Int) / 281474976710656 % 256), .int .u8 ((n : Int) / 72057594037927936)] (by rw [leL_list n hn]; rfl)
  have hmk : (Instr.makeSlice 22 (.int .i64 8) (.int .i64 8)).run Try.prog w = .ok (.slice (some ⟨w.heap.size, 0, none⟩) 8 8) (w.alloc (.cells #[.int .u8 0, .int .u8 0, .int .u8 0, .int .u8 0, .int .u8 0, .int .u8 0, .int .u8 0, .int .u8 0] 5)) := make_lit 8 (by omega) w _ rfl
  go_enter Try.func25, Try.ntmps25
  go_wp2_with fail
  go_rounds 9
  go_ret
  exact ⟨rfl, below1 w _⟩
theorem rbytes_any (n : Nat) (s : Nat) (w : World) (hn : n < 18446744073709551616) (hs : s ≤ 8) :
    Calls Try.prog 25 #[.int .u64 n, .int .i64 s] w fun e w' => e = .returned (.string (bytesN n s)) ∧ Below w.heap.size w w' := by
  have h : s = 0 ∨ s = 1 ∨ s = 2 ∨ s = 3 ∨ s = 4 ∨ s = 5 ∨ s = 6 ∨ s = 7 ∨ s = 8 := by omega
  rcases h with rfl | rfl | rfl | rfl | rfl | rfl | rfl | rfl | rfl
  · exact rbytes_0 n w hn
  · exact rbytes_1 n w hn
  · exact rbytes_2 n w hn
  · exact rbytes_3 n w hn
  · exact rbytes_4 n w hn
  · exact rbytes_5 n w hn
  · exact rbytes_6 n w hn
  · exact rbytes_7 n w hn
  · exact rbytes_8 n w hn
end Go.Proofs.Ytocphogddjcblaa
