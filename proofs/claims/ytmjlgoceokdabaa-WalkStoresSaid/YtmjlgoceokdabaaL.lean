/- May a page be used so: the reference. -/
import Derived.Test.YtmjlgoceokdabaaJ
namespace Go.Proofs.Ytmjlgoceokdabaa
open Go.RowKit Go.Deep Go.Joins
/-- May a page with these bits be used so, as the reference says it. -/
def fitsB (ms mode kind e : Int) : Bool :=
  if (((mode == 0 && !bV e 16) || (mode == 1 && bV e 16 && (kind == 0 || bits .and .u64 (ms / 262144) 1 == 0))) || bits .and .u64 (e / 64) 1 == 0) = true then false
  else if kind = 0 then bV e 8 else if kind = 1 then bV e 2 || (bV e 8 && bV ms 524288) else bV e 4 && bV e 128
set_option maxRecDepth 100000 in
set_option maxHeartbeats 2000000 in
theorem fits_w1 (C : Array Value) (ms sp mode kind e : Int) (h : CsrAt C ms sp) (h0 : 0 ≤ kind) (h2 : kind ≤ 2) (hm : mode = 0) (u : (bits .and .u64 (e / 16) 1 == 1) = false) (W : World) : Calls Try.prog 25 #[.agg C, .int .i64 mode, .int .i64 kind, .int .u64 e] W fun e' W' => e' = .returned (.bool (fitsB ms mode kind e)) ∧ Below W.heap.size W W' := by
  have hK := And.intro h0 h2
  clear hK
  have f0 := h.f0
  clear h
  subst hm
  go_enter Try.func25, Try.ntmps25
  go_wp2
  all_goals go_ret
  all_goals exact ⟨ret_bool (by simp [fitsB, bV, *]), below1 W _⟩
set_option maxRecDepth 100000 in
set_option maxHeartbeats 2000000 in
theorem fits_w2 (C : Array Value) (ms sp mode kind e : Int) (h : CsrAt C ms sp) (h0 : 0 ≤ kind) (h2 : kind ≤ 2) (hm : mode = 1 ∧ kind = 0) (u : (bits .and .u64 (e / 16) 1 == 1) = true) (W : World) : Calls Try.prog 25 #[.agg C, .int .i64 mode, .int .i64 kind, .int .u64 e] W fun e' W' => e' = .returned (.bool (fitsB ms mode kind e)) ∧ Below W.heap.size W W' := by
  have hK := And.intro h0 h2
  clear hK
  have f0 := h.f0
  clear h
  obtain ⟨rfl, rfl⟩ := hm
  go_enter Try.func25, Try.ntmps25
  go_wp2
  all_goals go_ret
  all_goals exact ⟨ret_bool (by simp [fitsB, bV, *]), below1 W _⟩
set_option maxRecDepth 100000 in
set_option maxHeartbeats 2000000 in
theorem fits_w3 (C : Array Value) (ms sp mode kind e : Int) (h : CsrAt C ms sp) (h0 : 0 ≤ kind) (h2 : kind ≤ 2) (hm : mode = 1 ∧ kind ≠ 0) (u : (bits .and .u64 (e / 16) 1 == 1) = true) (x : (bits .and .u64 (ms / 262144) 1 == 0) = true) (W : World) : Calls Try.prog 25 #[.agg C, .int .i64 mode, .int .i64 kind, .int .u64 e] W fun e' W' => e' = .returned (.bool (fitsB ms mode kind e)) ∧ Below W.heap.size W W' := by
  have hK := And.intro h0 h2
  clear hK
  have f0 := h.f0
  clear h
  obtain ⟨rfl, k0⟩ := hm
  have k1 : (kind == 0) = false := by simpa using k0
  go_enter Try.func25, Try.ntmps25
  go_wp2
  all_goals go_ret
  all_goals exact ⟨ret_bool (by simp [fitsB, bV, *]), below1 W _⟩
set_option maxRecDepth 100000 in
set_option maxHeartbeats 2000000 in
theorem fits_w4_y (C : Array Value) (ms sp mode kind e : Int) (h : CsrAt C ms sp) (h0 : 0 ≤ kind) (h2 : kind ≤ 2) (hm : mode = 1 ∧ kind ≠ 0) (u : (bits .and .u64 (e / 16) 1 == 1) = true) (x : (bits .and .u64 (ms / 262144) 1 == 0) = false) (y : (bits .and .u64 (e / 64) 1 == 0) = true) (W : World) : Calls Try.prog 25 #[.agg C, .int .i64 mode, .int .i64 kind, .int .u64 e] W fun e' W' => e' = .returned (.bool (fitsB ms mode kind e)) ∧ Below W.heap.size W W' := by
  have hK := And.intro h0 h2
  clear hK
  have f0 := h.f0
  clear h
  obtain ⟨rfl, k0⟩ := hm
  have k1 : (kind == 0) = false := by simpa using k0
  go_enter Try.func25, Try.ntmps25
  go_wp2
  all_goals go_ret
  all_goals exact ⟨ret_bool (by simp [fitsB, bV, *]), below1 W _⟩
set_option maxRecDepth 100000 in
set_option maxHeartbeats 2000000 in
theorem fits_w4_n (C : Array Value) (ms sp mode kind e : Int) (h : CsrAt C ms sp) (h0 : 0 ≤ kind) (h2 : kind ≤ 2) (hm : mode = 1 ∧ kind ≠ 0) (u : (bits .and .u64 (e / 16) 1 == 1) = true) (x : (bits .and .u64 (ms / 262144) 1 == 0) = false) (y : (bits .and .u64 (e / 64) 1 == 0) = false) (W : World) : Calls Try.prog 25 #[.agg C, .int .i64 mode, .int .i64 kind, .int .u64 e] W fun e' W' => e' = .returned (.bool (fitsB ms mode kind e)) ∧ Below W.heap.size W W' := by
  have hK := And.intro h0 h2
  clear hK
  have f0 := h.f0
  clear h
  obtain ⟨rfl, k0⟩ := hm
  have k1 : (kind == 0) = false := by simpa using k0
  clear k1
  rcases (show kind = 1 ∨ kind = 2 by omega) with hk | hk
  all_goals subst hk
  all_goals
    go_enter Try.func25, Try.ntmps25
    go_wp2
    all_goals go_ret
    all_goals exact ⟨ret_bool (by simp [fitsB, bV, *]), below1 W _⟩
set_option maxRecDepth 100000 in
set_option maxHeartbeats 2000000 in
theorem fits_w5_y (C : Array Value) (ms sp mode kind e : Int) (h : CsrAt C ms sp) (h0 : 0 ≤ kind) (h2 : kind ≤ 2) (hm : mode = 1) (u : (bits .and .u64 (e / 16) 1 == 1) = false) (y : (bits .and .u64 (e / 64) 1 == 0) = true) (W : World) : Calls Try.prog 25 #[.agg C, .int .i64 mode, .int .i64 kind, .int .u64 e] W fun e' W' => e' = .returned (.bool (fitsB ms mode kind e)) ∧ Below W.heap.size W W' := by
  have hK := And.intro h0 h2
  clear hK
  have f0 := h.f0
  clear h
  subst hm
  go_enter Try.func25, Try.ntmps25
  go_wp2
  all_goals go_ret
  all_goals exact ⟨ret_bool (by simp [fitsB, bV, *]), below1 W _⟩
set_option maxRecDepth 100000 in
set_option maxHeartbeats 2000000 in
theorem fits_w5_n (C : Array Value) (ms sp mode kind e : Int) (h : CsrAt C ms sp) (h0 : 0 ≤ kind) (h2 : kind ≤ 2) (hm : mode = 1) (u : (bits .and .u64 (e / 16) 1 == 1) = false) (y : (bits .and .u64 (e / 64) 1 == 0) = false) (W : World) : Calls Try.prog 25 #[.agg C, .int .i64 mode, .int .i64 kind, .int .u64 e] W fun e' W' => e' = .returned (.bool (fitsB ms mode kind e)) ∧ Below W.heap.size W W' := by
  have hK := And.intro h0 h2
  clear hK
  have f0 := h.f0
  clear h
  subst hm
  rcases (show kind = 0 ∨ kind = 1 ∨ kind = 2 by omega) with hk | hk | hk
  all_goals subst hk
  all_goals
    go_enter Try.func25, Try.ntmps25
    go_wp2
    all_goals go_ret
    all_goals exact ⟨ret_bool (by simp [fitsB, bV, *]), below1 W _⟩
set_option maxRecDepth 100000 in
set_option maxHeartbeats 2000000 in
theorem fits_w6_y (C : Array Value) (ms sp mode kind e : Int) (h : CsrAt C ms sp) (h0 : 0 ≤ kind) (h2 : kind ≤ 2) (hm : mode = 0) (u : (bits .and .u64 (e / 16) 1 == 1) = true) (y : (bits .and .u64 (e / 64) 1 == 0) = true) (W : World) : Calls Try.prog 25 #[.agg C, .int .i64 mode, .int .i64 kind, .int .u64 e] W fun e' W' => e' = .returned (.bool (fitsB ms mode kind e)) ∧ Below W.heap.size W W' := by
  have hK := And.intro h0 h2
  clear hK
  have f0 := h.f0
  clear h
  subst hm
  go_enter Try.func25, Try.ntmps25
  go_wp2
  all_goals go_ret
  all_goals exact ⟨ret_bool (by simp [fitsB, bV, *]), below1 W _⟩
set_option maxRecDepth 100000 in
set_option maxHeartbeats 2000000 in
theorem fits_w6_n (C : Array Value) (ms sp mode kind e : Int) (h : CsrAt C ms sp) (h0 : 0 ≤ kind) (h2 : kind ≤ 2) (hm : mode = 0) (u : (bits .and .u64 (e / 16) 1 == 1) = true) (y : (bits .and .u64 (e / 64) 1 == 0) = false) (W : World) : Calls Try.prog 25 #[.agg C, .int .i64 mode, .int .i64 kind, .int .u64 e] W fun e' W' => e' = .returned (.bool (fitsB ms mode kind e)) ∧ Below W.heap.size W W' := by
  have hK := And.intro h0 h2
  clear hK
  have f0 := h.f0
  clear h
  subst hm
  rcases (show kind = 0 ∨ kind = 1 ∨ kind = 2 by omega) with hk | hk | hk
  all_goals subst hk
  all_goals
    go_enter Try.func25, Try.ntmps25
    go_wp2
    all_goals go_ret
    all_goals exact ⟨ret_bool (by simp [fitsB, bV, *]), below1 W _⟩
set_option maxRecDepth 100000 in
set_option maxHeartbeats 2000000 in
theorem fits_w7_y (C : Array Value) (ms sp mode kind e : Int) (h : CsrAt C ms sp) (h0 : 0 ≤ kind) (h2 : kind ≤ 2) (hm : mode ≠ 0 ∧ mode ≠ 1)  (y : (bits .and .u64 (e / 64) 1 == 0) = true) (W : World) : Calls Try.prog 25 #[.agg C, .int .i64 mode, .int .i64 kind, .int .u64 e] W fun e' W' => e' = .returned (.bool (fitsB ms mode kind e)) ∧ Below W.heap.size W W' := by
  have hK := And.intro h0 h2
  clear hK
  have f0 := h.f0
  clear h
  obtain ⟨n0, n1⟩ := hm
  have m0 : (mode == 0) = false := by simpa using n0
  have m1 : (mode == 1) = false := by simpa using n1
  go_enter Try.func25, Try.ntmps25
  go_wp2
  all_goals go_ret
  all_goals exact ⟨ret_bool (by simp [fitsB, bV, *]), below1 W _⟩
set_option maxRecDepth 100000 in
set_option maxHeartbeats 2000000 in
theorem fits_w7_n (C : Array Value) (ms sp mode kind e : Int) (h : CsrAt C ms sp) (h0 : 0 ≤ kind) (h2 : kind ≤ 2) (hm : mode ≠ 0 ∧ mode ≠ 1)  (y : (bits .and .u64 (e / 64) 1 == 0) = false) (W : World) : Calls Try.prog 25 #[.agg C, .int .i64 mode, .int .i64 kind, .int .u64 e] W fun e' W' => e' = .returned (.bool (fitsB ms mode kind e)) ∧ Below W.heap.size W W' := by
  have hK := And.intro h0 h2
  clear hK
  have f0 := h.f0
  clear h
  obtain ⟨n0, n1⟩ := hm
  have m0 : (mode == 0) = false := by simpa using n0
  have m1 : (mode == 1) = false := by simpa using n1
  rcases (show kind = 0 ∨ kind = 1 ∨ kind = 2 by omega) with hk | hk | hk
  all_goals subst hk
  all_goals
    go_enter Try.func25, Try.ntmps25
    go_wp2
    all_goals go_ret
    all_goals exact ⟨ret_bool (by simp [fitsB, bV, *]), below1 W _⟩
theorem fits_any (C : Array Value) (ms sp mode kind e : Int) (h : CsrAt C ms sp) (h0 : 0 ≤ kind) (h2 : kind ≤ 2) (W : World) : Calls Try.prog 25 #[.agg C, .int .i64 mode, .int .i64 kind, .int .u64 e] W fun e' W' => e' = .returned (.bool (fitsB ms mode kind e)) ∧ Below W.heap.size W W' := by
  rcases Bool.eq_false_or_eq_true (bits .and .u64 (e / 64) 1 == 0) with y | y
  all_goals rcases Bool.eq_false_or_eq_true (bits .and .u64 (e / 16) 1 == 1) with u | u
  all_goals rcases (show mode = 0 ∨ mode = 1 ∨ (mode ≠ 0 ∧ mode ≠ 1) by omega) with hm | hm | hm
  all_goals first
    | exact fits_w1 C ms sp mode kind e h h0 h2 hm u W
    | exact fits_w5_y C ms sp mode kind e h h0 h2 hm u y W
    | exact fits_w5_n C ms sp mode kind e h h0 h2 hm u y W
    | exact fits_w6_y C ms sp mode kind e h h0 h2 hm u y W
    | exact fits_w6_n C ms sp mode kind e h h0 h2 hm u y W
    | exact fits_w7_y C ms sp mode kind e h h0 h2 hm y W
    | exact fits_w7_n C ms sp mode kind e h h0 h2 hm y W
    | skip
  all_goals by_cases hk : kind = 0
  all_goals first
    | exact fits_w2 C ms sp mode kind e h h0 h2 ⟨hm, hk⟩ u W
    | skip
  all_goals rcases Bool.eq_false_or_eq_true (bits .and .u64 (ms / 262144) 1 == 0) with x | x
  all_goals first
    | exact fits_w3 C ms sp mode kind e h h0 h2 ⟨hm, hk⟩ u x W
    | exact fits_w4_y C ms sp mode kind e h h0 h2 ⟨hm, hk⟩ u x y W
    | exact fits_w4_n C ms sp mode kind e h h0 h2 ⟨hm, hk⟩ u x y W

end Go.Proofs.Ytmjlgoceokdabaa
