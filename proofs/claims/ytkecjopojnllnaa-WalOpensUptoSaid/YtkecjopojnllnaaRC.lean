/- A frame, both sides. -/
import Derived.Test.YtkecjopojnllnaaRB
namespace Go.Proofs.Ytkecjopojnllnaa
open Go.RowKit Go.Deep Go.Joins

def frameB (s : ByteArray) : ByteArray := shortB s.size ++ shortB (sumOf [shortB s.size, s]) ++ s ++ ⟨#[255]⟩
def frameV (s : ByteArray) : Value := if s.size ≤ 131072 then .tuple #[.string (frameB s), .int .i64 0] else .tuple #[.string ⟨#[]⟩, .int .i64 2]
theorem shortB_size (n : Nat) : (shortB n).size = 4 := rfl
theorem sumOf_lt (P : List ByteArray) : sumOf P < 4294967296 := xor_lt (by omega) (sumP_lt P (by omega))
theorem frameB_size (s : ByteArray) : (frameB s).size = s.size + 9 := by
  unfold frameB
  rw [ByteArray.size_append, ByteArray.size_append, ByteArray.size_append, shortB_size, shortB_size]
  show 4 + 4 + s.size + 1 = _
  omega
theorem two_reads (W : World) (a b : ByteArray) : Reads (W.alloc (.cells #[.string a, .string b] 9)) (.slice (some ⟨W.heap.size, 0, none⟩) 2 2) 1 [a, b].length (strs [a, b]) := by
  refine ⟨rfl, .inr ⟨_, 2, rfl, Nat.le_refl _, by decide, fun j u hu => ?_⟩⟩
  rw [add_lit, Nat.zero_add, cell_of_row _ _ _ _ 9 _ (heap_alloc_new W _)]
  simpa [strs] using hu
theorem two_small {a b : ByteArray} (ha : a.size ≤ 1099511627776) (hb : b.size ≤ 1099511627776) : ∀ s ∈ [a, b], s.size ≤ 1099511627776 := by
  intro s hs
  simp only [List.mem_cons, List.not_mem_nil, or_false] at hs
  rcases hs with rfl | rfl
  · exact ha
  · exact hb
theorem sum_two (W : World) (a b : ByteArray) (ha : a.size ≤ 1099511627776) (hb : b.size ≤ 1099511627776) : Calls Try.prog 65 #[.slice (some ⟨W.heap.size, 0, none⟩) 2 2] (W.alloc (.cells #[.string a, .string b] 9)) fun e w' => e = .returned (.int .u32 ((sumOf [a, b] : Nat) : Int)) ∧ Below W.heap.size W w' :=
  (sum_any [a, b] _ _ (two_reads W a b) (by simp) (two_small ha hb)).mono fun _ _ h => ⟨h.1, h.2 ▸ below1 W _⟩
theorem sum3_two (W : World) (a b : ByteArray) (ha : a.size ≤ 1099511627776) (hb : b.size ≤ 1099511627776) : Calls Try.prog 62 #[.slice (some ⟨W.heap.size, 0, none⟩) 2 2] (W.alloc (.cells #[.string a, .string b] 9)) fun e w' => e = .returned (.int .u32 ((sumOf [a, b] : Nat) : Int)) ∧ Below W.heap.size W w' :=
  (sum3_any [a, b] _ _ (two_reads W a b) (by simp) (two_small ha hb)).mono fun _ _ h => ⟨h.1, h.2 ▸ below1 W _⟩

set_option maxRecDepth 100000 in
set_option maxHeartbeats 1000000 in
theorem frame3_any (s : ByteArray) (w : World) (hs : s.size ≤ 1099511627776) :
    Calls Try.prog 45 #[.string s] w fun e w' => e = .returned (frameV s) ∧ Below w.heap.size w w' := by
  by_cases h : s.size ≤ 131072
  · have h' : ¬ (131072 : Int) < (s.size : Int) := by omega
    have h4 : s.size < 4294967296 := by omega
    have hc := short3_any s.size
    have HC := Lib.hid hc
    have hd := short3_any (sumOf [shortB s.size, s])
    have HD := Lib.hid hd
    have hsl := sumOf_lt [shortB s.size, s]
    obtain ⟨m, hm⟩ : ∃ m, sumOf [shortB s.size, s] = m := ⟨_, rfl⟩
    have he := fun W => sum3_two W (shortB s.size) s (by rw [shortB_size]; omega) hs
    rw [hm] at hsl HD he
    have HE := Lib.hid he
    have hz1 := shortB_size s.size
    have hz2 := shortB_size m
    have hz3 : (shortB s.size ++ shortB m).size = 8 := by rw [ByteArray.size_append, hz1, hz2]
    have hz4 : (shortB s.size ++ shortB m ++ s).size = 8 + s.size := by rw [ByteArray.size_append, hz3]
    have hq1 : ¬ 9223372036854775807 < 8 + s.size := by omega
    have hq2 : ¬ 9223372036854775807 < 8 + s.size + 1 := by omega
    clear hc hd he
    go_enter Try.func45, Try.ntmps45
    go_wp2_with first
      | (go_at_call 62; with_reducible refine (HE.out _).mono ?_; rintro e w2 ⟨rfl, hb2⟩)
      | (go_at_call 63; with_reducible refine (HC.out _ h4).mono ?_; rintro e w1 ⟨rfl, hb1⟩)
      | (go_at_call 63; with_reducible refine (HD.out _ hsl).mono ?_; rintro e w3 ⟨rfl, hb3⟩)
      | fail
    go_ret2
    exact ⟨by unfold frameV frameB; rw [if_pos h, hm]; rfl, below_then hb1 (below_then hb2 hb3)⟩
  · have h' : (131072 : Int) < (s.size : Int) := by omega
    go_enter Try.func45, Try.ntmps45
    go_wp2_with fail
    go_ret2
    exact ⟨by unfold frameV; rw [if_neg h]; rfl, Below.refl _ _⟩
end Go.Proofs.Ytkecjopojnllnaa
