/- Find of both sides, whatever comes in; both tell the same. -/
import Derived.Test.YtmjlgoceokdabaaN
import Derived.Test.YtmjlgoceokdabaaQ
import Derived.Test.YtmjlgoceokdabaaR
namespace Go.Proofs.Ytmjlgoceokdabaa
open Go.RowKit Go.Deep Go.Joins
/-! What the reference tells is what the program tells. -/
theorem mask_at (i : Nat) (hi : i < 64) : ∀ j, j < 64 → bitT (2 ^ i) j = decide (j = i) := by
  intro j hj
  have h : ∀ i : Fin 64, ∀ j : Fin 64, bitT ((2 : Int) ^ i.val) j.val = decide (j.val = i.val) := by decide +kernel
  exact h ⟨i, hi⟩ ⟨j, hj⟩
theorem nz_at (n : Int) (i : Nat) (hi : i < 64) : nzV n (2 ^ i) = bitT n i := nz_bit n _ i hi (mask_at i hi)
theorem bV_at (n : Int) (hn : U64 n) (i : Nat) (hi : i < 64) : bV n (2 ^ i) = bitT n i := bV_bit n _ hn i hi rfl
theorem zero_of_nz (x : Int) (b : Bool) (h : (x != 0) = b) : (x == 0) = !b := by
  subst h
  cases hx : x == 0 <;> simp [bne, hx]
theorem fits_used (e ms md kind : Int) (he : U64 e) (hms : U64 ms) (h0 : 0 ≤ kind) (h2 : kind ≤ 2) : fitsB ms md kind e = usedB ms md e kind := by
  have a64 : (bits .and .u64 e 64 == 0) = !bitT e 6 := zero_of_nz _ _ (nz_at e 6 (by omega))
  have b64 : (bits .and .u64 (e / 64) 1 == 0) = !bitT e 6 := zero_of_nz _ _ (nz_one e he 6 (by omega))
  have bs : (bits .and .u64 (ms / 262144) 1 == 0) = !bitT ms 18 := zero_of_nz _ _ (nz_one ms hms 18 (by omega))
  have a18 : nzV ms 262144 = bitT ms 18 := nz_at ms 18 (by omega)
  have ax : nzV ms 524288 = bitT ms 19 := nz_at ms 19 (by omega)
  have bx : bV ms 524288 = bitT ms 19 := bV_at ms hms 19 (by omega)
  have a2 : nzV e 2 = bitT e 1 := nz_at e 1 (by omega)
  have a4 : nzV e 4 = bitT e 2 := nz_at e 2 (by omega)
  have a8 : nzV e 8 = bitT e 3 := nz_at e 3 (by omega)
  have a16 : nzV e 16 = bitT e 4 := nz_at e 4 (by omega)
  have a128 : nzV e 128 = bitT e 7 := nz_at e 7 (by omega)
  have b2 : bV e 2 = bitT e 1 := bV_at e he 1 (by omega)
  have b4 : bV e 4 = bitT e 2 := bV_at e he 2 (by omega)
  have b8 : bV e 8 = bitT e 3 := bV_at e he 3 (by omega)
  have b16 : bV e 16 = bitT e 4 := bV_at e he 4 (by omega)
  have b128 : bV e 128 = bitT e 7 := bV_at e he 7 (by omega)
  unfold fitsB usedB mayB
  rw [a64, b64, bs, a18, ax, bx, a2, a4, a8, a16, a128, b2, b4, b8, b16, b128]
  generalize bitT e 6 = z6 at *
  generalize bitT e 4 = z4 at *
  generalize bitT ms 18 = z18 at *
  have hk : kind = 0 ∨ kind = 1 ∨ kind = 2 := by omega
  have hmd : md = 0 ∨ md = 1 ∨ (md ≠ 0 ∧ md ≠ 1) := by omega
  rcases hmd with rfl | rfl | ⟨m0, m1⟩
  · cases z6 <;> cases z4 <;> simp
  · rcases hk with rfl | rfl | rfl <;> cases z6 <;> cases z4 <;> cases z18 <;> simp
  · cases z6 <;> simp [m0, m1]
theorem and44 (n : Int) (h0 : 0 ≤ n) (h1 : n < 17592186044416) : bits .and .u64 n 17592186044415 = n := by
  obtain ⟨k, rfl⟩ := Int.eq_ofNat_of_zero_le h0
  have h := bits_and_u64_nat k 17592186044415 (by omega) (by omega)
  rw [show (17592186044415 : Int) = ((17592186044415 : Nat) : Int) from rfl, h]
  have e : k &&& 17592186044415 = k % 17592186044416 := Nat.and_two_pow_sub_one_eq_mod k 44
  rw [e]
  omega
theorem to_place (e : Int) (he : U64 e) (h : (e / 18014398509481984 != 0) = false) : IntKind.u64.wrap (e / 1024 * 4096) = placeV (e / 1024) := by
  have h2 : e / 18014398509481984 = 0 := by simpa using h
  obtain ⟨u0, u1⟩ := he
  unfold placeV
  rw [and44 (e / 1024) (by omega) (by omega)]
theorem ld_u64 (D : List UInt8) (t : Int) : U64 (ldV D t 8) := by
  unfold ldV U64
  split
  · have h := le_lt ((D.drop (t - 2147483648).toNat).take (8 : Int).toNat)
    have h2 : ((D.drop (t - 2147483648).toNat).take (8 : Int).toNat).length ≤ 8 := by simp; omega
    have h3 : (256 : Nat) ^ ((D.drop (t - 2147483648).toNat).take (8 : Int).toNat).length ≤ 256 ^ 8 := Nat.pow_le_pow_right (by omega) h2
    have h4 : (256 : Nat) ^ 8 = 18446744073709551616 := by decide
    generalize le ((D.drop (t - 2147483648).toNat).take (8 : Int).toNat) = x at *
    omega
  · omega
theorem go_same (D : List UInt8) (ms md t kind : Int) (hms : U64 ms) (h0 : 0 ≤ kind) (h2 : kind ≤ 2) (k : Nat) : ∀ tb, goR D ms md t kind k tb = goF D ms md t kind k tb := by
  induction k with
  | zero => intro tb; rfl
  | succ k ih =>
    intro tb
    rw [goR_at D ms md t kind tb _ _ k rfl rfl, goF_at D ms md t kind tb _ _ _ k rfl rfl rfl]
    have he := ld_u64 D (addrV tb t k)
    generalize ldV D (addrV tb t k) 8 = e at *
    generalize stE D.length (addrV tb t k) 8 = s
    by_cases hs : s ≠ 0
    · rw [if_pos hs, if_pos hs]
    rw [if_neg hs, if_neg hs]
    have q : rightB e = (!(bits .and .u64 e 1 == 0 || e / 18014398509481984 != 0) && !(bits .and .u64 e 6 == 4)) := rfl
    rw [q]
    rcases Bool.eq_false_or_eq_true (bits .and .u64 e 1 == 0) with q1 | q1
    · rw [q1]; simp
    rcases Bool.eq_false_or_eq_true (bits .and .u64 e 6 == 4) with q2 | q2
    · rw [q1, q2]; simp
    rcases Bool.eq_false_or_eq_true (e / 18014398509481984 != 0) with q3 | q3
    · rw [q1, q2, q3]; simp
    rw [q1, q2, q3, to_place e he q3, fits_used e ms md kind he hms h0 h2, ih]
    simp
theorem find_same (D : List UInt8) (ms sp m t kind : Int) (hms : U64 ms) : rfindF D ms sp m t kind = findF D ms sp m t kind := by
  unfold rfindF findF
  by_cases hk : kind < 0 ∨ 2 < kind
  · rw [if_pos hk, if_pos hk]
  · rw [if_neg hk, if_neg hk, mode_same ms m kind hms, go_same D ms _ t kind hms (by omega) (by omega)]
theorem find_any (C V : Array Value) (ms sp m t kind : Int) (D : List UInt8) (W : World) (h : CsrAt C ms sp) (hV : V.size = 3) (ht0 : 0 ≤ t) (cL : LoadOk 16 V D W) : Calls Try.prog 9 #[.agg C, .int .i64 m, .agg V, .int .u64 t, .int .i64 kind] W fun e W' => e = .returned (pairV (findF D ms sp m t kind)) ∧ Below W.heap.size W W' := by
  by_cases hk : kind < 0
  · exact find_low C V ms sp m t kind D W h hV hk
  by_cases hk2 : 2 < kind
  · exact find_high C V ms sp m t kind D W h hV hk2
  by_cases k : 3 ≤ modeV ms m kind
  · exact find_self_a C V ms sp m t kind D W h hV _ (by omega) (by omega) rfl k
  rcases Bool.eq_false_or_eq_true (sp / 1152921504606846976 != 8) with s | s
  · exact find_self_b C V ms sp m t kind D W h hV _ (by omega) (by omega) rfl k s
  rcases Bool.eq_false_or_eq_true (signB t) with y | y
  · exact find_loop C V ms sp m t kind D W h hV _ (by omega) (by omega) ht0 rfl k s y cL
  · exact find_sign C V ms sp m t kind D W h hV _ (by omega) (by omega) rfl k s y
theorem rfind_any (C V : Array Value) (ms sp m t kind : Int) (D : List UInt8) (W : World) (h : CsrAt C ms sp) (hV : V.size = 3) (ht0 : 0 ≤ t) (hms : U64 ms) (cL : LoadOk 23 V D W) : Calls Try.prog 10 #[.agg C, .int .i64 m, .agg V, .int .u64 t, .int .i64 kind] W fun e W' => e = .returned (pairV (findF D ms sp m t kind)) ∧ Below W.heap.size W W' := by
  rw [← find_same D ms sp m t kind hms]
  by_cases hk : kind < 0
  · exact rfind_low C V ms sp m t kind D W h hV hk
  by_cases hk2 : 2 < kind
  · exact rfind_high C V ms sp m t kind D W h hV hk2
  by_cases k : 3 ≤ rmodeV ms m kind
  · exact rfind_self_a C V ms sp m t kind D W h hV _ (by omega) (by omega) rfl k
  rcases Bool.eq_false_or_eq_true (sp / 1152921504606846976 != 8) with s | s
  · exact rfind_self_b C V ms sp m t kind D W h hV _ (by omega) (by omega) rfl k s
  rcases Bool.eq_false_or_eq_true (wrap64 t / 274877906944 != 0) with y | y
  rotate_left
  · exact rfind_loop_a C V ms sp m t kind D W h hV _ (by omega) (by omega) ht0 rfl k s y cL
  rcases Bool.eq_false_or_eq_true (wrap64 t / 274877906944 != -1) with z | z
  · exact rfind_sign C V ms sp m t kind D W h hV _ (by omega) (by omega) rfl k s y z
  · exact rfind_loop_b C V ms sp m t kind D W h hV _ (by omega) (by omega) ht0 rfl k s y z cL
theorem load_ok {w : World} {dv mv ev : Value} {D : List UInt8} (hd : DAt w dv D) : LoadOk 16 #[dv, mv, ev] D w := fun W hb t h0 h1 => load_all dv mv ev D t 8 W (hd.below hb) h0 h1
theorem rload_ok {w : World} {dv mv ev : Value} {D : List UInt8} (hd : DAt w dv D) : LoadOk 23 #[dv, mv, ev] D w := fun W hb t h0 h1 => rload_all dv mv ev D t 8 W (hd.below hb) h0 h1

end Go.Proofs.Ytmjlgoceokdabaa
