/- Members, both sides. -/
import Derived.Test.YthlghmechldegaaYA
import Derived.Lib.MinMax
namespace Go.Proofs.Ythlghmechldegaa
open Go.RowKit Go.Deep Go.Joins
set_option maxRecDepth 100000
/-- How many entries lie up to a place. -/
def upN (l : Lg) (L : List En) (i : Int) : Nat := if i ≤ l.base then 0 else min (i - l.base).toNat L.length
theorem upN_le (l : Lg) (L : List En) (i : Int) : upN l L i ≤ L.length := by unfold upN; split <;> omega
def memF (s : Nat → Bool) (L : List En) : Nat → Bool := L.foldl (fun s e => if e.kind = 2 then e.s else s) s
def memV (l : Lg) (L : List En) (i : Int) : Nat → Bool := memF l.s (L.take (upN l L i))
theorem memF_next (s : Nat → Bool) (L : List En) (k : Nat) (hk : k < L.length) : memF s (L.take (k + 1)) = if L[k].kind = 2 then L[k].s else memF s (L.take k) := by
  unfold memF
  rw [List.take_succ_eq_append_getElem hk, List.foldl_append]
  rfl
set_option maxHeartbeats 2000000 in
theorem upto_any (l : Lg) (L : List En) (i : Int) (W : World) (hl : EAt W l.lv L) (h0 : 0 ≤ l.base) (h1 : l.base ≤ 1152921504606846976) (hi0 : 0 ≤ i) (hi1 : i < 18446744073709551616) (hlen : L.length ≤ 1152921504606846976) : Calls Try.prog 41 #[lgV l, .int .u64 i] W fun r W' => r = .returned (.int .i64 (upN l L i)) ∧ Below W.heap.size W W' := by
  obtain ⟨q, c, hq⟩ := hl.is
  obtain ⟨base, bt, s, lv⟩ := l
  dsimp only at hl hq h0 h1
  subst hq
  clear hl
  obtain ⟨n, hn⟩ : ∃ n, upN ⟨base, bt, s, .slice q L.length c⟩ L i = n := ⟨_, rfl⟩
  rw [hn]
  by_cases hb : i ≤ base
  · have q1 : decide (i ≤ base) = true := decide_eq_true hb
    obtain rfl : n = 0 := by rw [← hn]; exact if_pos hb
    clear hn
    go_enter Try.func41, Try.ntmps41
    go_upto_region 1 with (fail)
    have X := Lib.hid (Lb.start W ⟨base, bt, s, .slice q L.length c⟩)
    generalize W.alloc (lgO ⟨base, bt, s, .slice q L.length c⟩) = w0 at *
    go_wp2_with (first | (with_reducible refine wpList_load_by rfl rfl X.out.box.base rfl ?_) | fail)
    go_ret
    exact ⟨rfl, X.out.below⟩
  · have q1 : decide (i ≤ base) = false := decide_eq_false hb
    have hn2 : n = min (i - base).toNat L.length := by rw [← hn]; exact if_neg hb
    have HN := Lib.hid hn2
    clear hn hn2
    go_enter Try.func41, Try.ntmps41
    go_upto_region 1 with (fail)
    have X := Lib.hid (Lb.start W ⟨base, bt, s, .slice q L.length c⟩)
    generalize W.alloc (lgO ⟨base, bt, s, .slice q L.length c⟩) = w0 at *
    by_cases hm : i - base ≤ L.length
    · have HN2 := Lib.hid (show i - base = (n : Int) from by have := HN.out; omega)
      have hmm : min (i - base) (L.length : Int) = i - base := by omega
      go_wp2_with (first | (with_reducible refine wpList_load_by rfl rfl X.out.box.base rfl ?_) | (with_reducible refine wpList_load_by rfl rfl X.out.box.list rfl ?_) | fail)
      go_ret
      exact ⟨ret_int HN2.out, X.out.below⟩
    · have HN2 := Lib.hid (show (L.length : Int) = (n : Int) from by have := HN.out; omega)
      have hmm : min (i - base) (L.length : Int) = L.length := by omega
      go_wp2_with (first | (with_reducible refine wpList_load_by rfl rfl X.out.box.base rfl ?_) | (with_reducible refine wpList_load_by rfl rfl X.out.box.list rfl ?_) | fail)
      go_ret
      exact ⟨ret_int HN2.out, X.out.below⟩
end Go.Proofs.Ythlghmechldegaa
