/- Find of the reference: what it tells; the first ways. -/
import Derived.Test.YtmjlgoceokdabaaM
import Derived.Test.YtmjlgoceokdabaaL
namespace Go.Proofs.Ytmjlgoceokdabaa
open Go.RowKit Go.Deep Go.Joins
def toV (e : Int) : Int := IntKind.u64.wrap (e / 1024 * 4096)
/-- What the levels below k tell, as the reference says it. -/
def goR (D : List UInt8) (ms md t kind : Int) : Nat → Int → Int × Int
  | 0, _ => (0, pageV kind)
  | k + 1, tb =>
    if stE D.length (addrV tb t k) 8 ≠ 0 then (0, accV kind) else
    if (bits .and .u64 (ldV D (addrV tb t k) 8) 1 == 0) = true then (0, pageV kind) else
    if (bits .and .u64 (ldV D (addrV tb t k) 8) 6 == 4) = true then (0, pageV kind) else
    if (ldV D (addrV tb t k) 8 / 18014398509481984 != 0) = true then (0, pageV kind) else
    if (bits .and .u64 (ldV D (addrV tb t k) 8) 10 == 0) = true then goR D ms md t kind k (toV (ldV D (addrV tb t k) 8)) else
    if (bits .and .u64 (toV (ldV D (addrV tb t k) 8)) (lowV k) != 0) = true then (0, pageV kind) else
    if fitsB ms md kind (ldV D (addrV tb t k) 8) = false then (0, pageV kind) else
    (bits .or .u64 (toV (ldV D (addrV tb t k) 8)) (bits .and .u64 t (lowV k)), -1)
/-- What Find of the reference tells. -/
def rfindF (D : List UInt8) (ms sp m t kind : Int) : Int × Int :=
  if kind < 0 ∨ 2 < kind then (0, 0) else
  if 3 ≤ rmodeV ms m kind then (t, -1) else
  if (sp / 1152921504606846976 != 8) = true then (t, -1) else
  if signB t = false then (0, pageV kind) else
  goR D ms (rmodeV ms m kind) t kind 3 (placeV sp)
theorem goR_at (D : List UInt8) (ms md t kind tb e s : Int) (k : Nat) (he : ldV D (addrV tb t k) 8 = e) (hs : stE D.length (addrV tb t k) 8 = s) : goR D ms md t kind (k + 1) tb =
    if s ≠ 0 then (0, accV kind) else if (bits .and .u64 e 1 == 0) = true then (0, pageV kind) else if (bits .and .u64 e 6 == 4) = true then (0, pageV kind) else if (e / 18014398509481984 != 0) = true then (0, pageV kind) else
    if (bits .and .u64 e 10 == 0) = true then goR D ms md t kind k (IntKind.u64.wrap (e / 1024 * 4096)) else
    if (bits .and .u64 (IntKind.u64.wrap (e / 1024 * 4096)) (lowV k) != 0) = true then (0, pageV kind) else if fitsB ms md kind e = false then (0, pageV kind) else (bits .or .u64 (IntKind.u64.wrap (e / 1024 * 4096)) (bits .and .u64 t (lowV k)), -1) := by
  subst he hs
  rfl
theorem sign_no {t : Int} (y : (wrap64 t / 274877906944 != 0) = true) (z : (wrap64 t / 274877906944 != -1) = true) : signB t = false := by
  unfold signB topV
  have a : ¬ wrap64 t / 274877906944 = 0 := by simpa using y
  have b : ¬ wrap64 t / 274877906944 = -1 := by simpa using z
  simp [a, b]
theorem sign_a {t : Int} (y : (wrap64 t / 274877906944 != 0) = false) : signB t = true := by
  unfold signB topV
  have a : wrap64 t / 274877906944 = 0 := by simpa using y
  simp [a]
theorem sign_b {t : Int} (z : (wrap64 t / 274877906944 != -1) = false) : signB t = true := by
  unfold signB topV
  have a : wrap64 t / 274877906944 = -1 := by simpa using z
  simp [a]
set_option maxRecDepth 100000 in
set_option maxHeartbeats 2000000 in
theorem rfind_low (C V : Array Value) (ms sp m t kind : Int) (D : List UInt8) (W : World) (h : CsrAt C ms sp) (hV : V.size = 3) (k : kind < 0) : Calls Try.prog 10 #[.agg C, .int .i64 m, .agg V, .int .u64 t, .int .i64 kind] W fun e W' => e = .returned (pairV (rfindF D ms sp m t kind)) ∧ Below W.heap.size W W' := by
  have HE : RowKit.Hid (rfindF D ms sp m t kind = (0, 0)) := Lib.hid (if_pos (Or.inl k))
  have g : decide (kind < 0) = true := decide_eq_true k
  have hH := And.intro h hV
  clear hH h hV
  go_enter Try.func10, Try.ntmps10
  go_wp2_with fail
  go_ret2
  exact ⟨ret_pair HE.out, below2 W _ _⟩
set_option maxRecDepth 100000 in
set_option maxHeartbeats 2000000 in
theorem rfind_high (C V : Array Value) (ms sp m t kind : Int) (D : List UInt8) (W : World) (h : CsrAt C ms sp) (hV : V.size = 3) (k : 2 < kind) : Calls Try.prog 10 #[.agg C, .int .i64 m, .agg V, .int .u64 t, .int .i64 kind] W fun e W' => e = .returned (pairV (rfindF D ms sp m t kind)) ∧ Below W.heap.size W W' := by
  have HE : RowKit.Hid (rfindF D ms sp m t kind = (0, 0)) := Lib.hid (if_pos (Or.inr k))
  have g : decide (kind < 0) = false := decide_eq_false (by omega)
  have g2 : decide (2 < kind) = true := decide_eq_true k
  have hH := And.intro h hV
  clear hH h hV
  go_enter Try.func10, Try.ntmps10
  go_wp2_with fail
  go_ret2
  exact ⟨ret_pair HE.out, below2 W _ _⟩
set_option maxRecDepth 100000 in
set_option maxHeartbeats 2000000 in
theorem rfind_self_a (C V : Array Value) (ms sp m t kind : Int) (D : List UInt8) (W : World) (h : CsrAt C ms sp) (hV : V.size = 3) (M : Int) (h0 : 0 ≤ kind) (h2 : kind ≤ 2) (hM : rmodeV ms m kind = M) (k : 3 ≤ M) : Calls Try.prog 10 #[.agg C, .int .i64 m, .agg V, .int .u64 t, .int .i64 kind] W fun e W' => e = .returned (pairV (rfindF D ms sp m t kind)) ∧ Below W.heap.size W W' := by
  have HE : RowKit.Hid (rfindF D ms sp m t kind = (t, -1)) := Lib.hid ((if_neg (by omega)).trans (if_pos (by rw [hM]; exact k)))
  have g : decide (kind < 0) = false := decide_eq_false (by omega)
  have g2 : decide (2 < kind) = false := decide_eq_false (by omega)
  have f15 := h.f15
  have hC := h.size
  have hW := Lib.hid (boxes W C V)
  have cM := Lib.hid fun W => rmode_any C ms sp m kind h W
  clear h
  have hV2 := And.intro hV hV
  clear hV2 hV
  replace hM := Lib.hid hM
  have g3 : decide (3 ≤ M) = true := decide_eq_true k
  go_enter Try.func10, Try.ntmps10
  go_wp2_with (first | (with_reducible show wpList _ _ _ (⟨some 25, Op.load 24 (.tmp 5), 24, _, _, _⟩ :: _) _ _; refine wpList_load_wanted (by kernel_rfl) rfl (Box.load (hW.out.1) hC) rfl ?_; simp only [Act.put, List.setIfInBounds_toArray, List.set_cons_zero, List.set_cons_succ]) | (go_at_call 21; (with_reducible refine (cM.out _).mono ?_); rintro e' w1 ⟨rfl, k1⟩; rw [hM.out]; have c15 := (((hW.out.1).next k1).cell 15).trans f15; have k1 := Lib.hid k1) | fail)
  go_ret2
  exact ⟨ret_pair HE.out, below_then hW.out.2.2 k1.out⟩
set_option maxRecDepth 100000 in
set_option maxHeartbeats 2000000 in
theorem rfind_self_b (C V : Array Value) (ms sp m t kind : Int) (D : List UInt8) (W : World) (h : CsrAt C ms sp) (hV : V.size = 3) (M : Int) (h0 : 0 ≤ kind) (h2 : kind ≤ 2) (hM : rmodeV ms m kind = M) (k : ¬ 3 ≤ M) (s : (sp / 1152921504606846976 != 8) = true) : Calls Try.prog 10 #[.agg C, .int .i64 m, .agg V, .int .u64 t, .int .i64 kind] W fun e W' => e = .returned (pairV (rfindF D ms sp m t kind)) ∧ Below W.heap.size W W' := by
  have HE : RowKit.Hid (rfindF D ms sp m t kind = (t, -1)) := Lib.hid ((if_neg (by omega)).trans ((if_neg (by rw [hM]; exact k)).trans (if_pos s)))
  have g : decide (kind < 0) = false := decide_eq_false (by omega)
  have g2 : decide (2 < kind) = false := decide_eq_false (by omega)
  have f15 := h.f15
  have hC := h.size
  have hW := Lib.hid (boxes W C V)
  have cM := Lib.hid fun W => rmode_any C ms sp m kind h W
  clear h
  have hV2 := And.intro hV hV
  clear hV2 hV
  replace hM := Lib.hid hM
  have g3 : decide (3 ≤ M) = false := decide_eq_false k
  go_enter Try.func10, Try.ntmps10
  go_wp2_with (first | (with_reducible show wpList _ _ _ (⟨some 25, Op.load 24 (.tmp 5), 24, _, _, _⟩ :: _) _ _; refine wpList_load_wanted (by kernel_rfl) rfl (Box.load (hW.out.1) hC) rfl ?_; simp only [Act.put, List.setIfInBounds_toArray, List.set_cons_zero, List.set_cons_succ]) | (go_at_call 21; (with_reducible refine (cM.out _).mono ?_); rintro e' w1 ⟨rfl, k1⟩; rw [hM.out]; have c15 := (((hW.out.1).next k1).cell 15).trans f15; have k1 := Lib.hid k1) | fail)
  go_ret2
  exact ⟨ret_pair HE.out, below_then hW.out.2.2 k1.out⟩
set_option maxRecDepth 100000 in
set_option maxHeartbeats 2000000 in
theorem rfind_sign (C V : Array Value) (ms sp m t kind : Int) (D : List UInt8) (W : World) (h : CsrAt C ms sp) (hV : V.size = 3) (M : Int) (h0 : 0 ≤ kind) (h2 : kind ≤ 2) (hM : rmodeV ms m kind = M) (k : ¬ 3 ≤ M) (s : (sp / 1152921504606846976 != 8) = false) (y : (wrap64 t / 274877906944 != 0) = true) (z : (wrap64 t / 274877906944 != -1) = true) : Calls Try.prog 10 #[.agg C, .int .i64 m, .agg V, .int .u64 t, .int .i64 kind] W fun e W' => e = .returned (pairV (rfindF D ms sp m t kind)) ∧ Below W.heap.size W W' := by
  have HE : RowKit.Hid (rfindF D ms sp m t kind = (0, pageV kind)) := Lib.hid ((if_neg (by omega)).trans ((if_neg (by rw [hM]; exact k)).trans ((if_neg (by rw [s]; decide)).trans (if_pos (sign_no y z)))))
  have g : decide (kind < 0) = false := decide_eq_false (by omega)
  have g2 : decide (2 < kind) = false := decide_eq_false (by omega)
  have f15 := h.f15
  have hC := h.size
  have hW := Lib.hid (boxes W C V)
  have cM := Lib.hid fun W => rmode_any C ms sp m kind h W
  clear h
  have hV2 := And.intro hV hV
  clear hV2 hV
  replace hM := Lib.hid hM
  have g3 : decide (3 ≤ M) = false := decide_eq_false k
  go_enter Try.func10, Try.ntmps10
  go_wp2_with (first | (with_reducible show wpList _ _ _ (⟨some 25, Op.load 24 (.tmp 5), 24, _, _, _⟩ :: _) _ _; refine wpList_load_wanted (by kernel_rfl) rfl (Box.load (hW.out.1) hC) rfl ?_; simp only [Act.put, List.setIfInBounds_toArray, List.set_cons_zero, List.set_cons_succ]) | (go_at_call 21; (with_reducible refine (cM.out _).mono ?_); rintro e' w1 ⟨rfl, k1⟩; rw [hM.out]; have c15 := (((hW.out.1).next k1).cell 15).trans f15; have k1 := Lib.hid k1) | (go_at_call 22; (with_reducible refine (rpage_any kind h0 h2 _).mono ?_); rintro e' w' ⟨rfl, rfl⟩) | fail)
  go_ret2
  exact ⟨ret_pair HE.out, below_then hW.out.2.2 k1.out⟩

end Go.Proofs.Ytmjlgoceokdabaa
