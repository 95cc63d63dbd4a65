/- How long what is packed gets. Same. -/
import Derived.Test.YtgflnfmnjlmenaaYZC
import Derived.Test.YtgflnfmnjlmenaaYRD
namespace Go.Proofs.Ytgflnfmnjlmenaa
open Go.RowKit Go.Deep Go.Joins
set_option maxRecDepth 100000
/-- How many bytes Pack makes of the fields. -/
def pkS (F : List ByteArray) : Nat := 4 + (F.map fun f => 4 + f.size).sum
def pkAll (F : List ByteArray) : Bool := F.all fun f => decide (f.size ≤ 131072)
def pkOk (F : List ByteArray) : Bool := decide (F.length ≤ 1024) && pkAll F && decide (pkS F ≤ 1048576)
theorem pkAll_no {F : List ByteArray} (k : Nat) (hk : k < F.length) (h : 131072 < F[k].size) : pkAll F = false := by
  unfold pkAll
  rw [List.all_eq_false]
  exact ⟨F[k], List.getElem_mem _, by simp; omega⟩
theorem pkAll_yes {F : List ByteArray} (h : ∀ j (hj : j < F.length), F[j].size ≤ 131072) : pkAll F = true := by
  unfold pkAll
  rw [List.all_eq_true]
  intro f hf
  obtain ⟨j, hj, rfl⟩ := List.getElem_of_mem hf
  exact decide_eq_true (h j hj)
theorem pkS_take (F : List ByteArray) (j : Nat) (hj : j < F.length) : pkS (F.take (j + 1)) = pkS (F.take j) + (4 + F[j].size) := by
  unfold pkS
  rw [List.take_add_one, List.getElem?_eq_getElem hj]
  simp only [Option.toList, List.map_append, List.sum_append, List.map_cons, List.map_nil, List.sum_cons, List.sum_nil]
  omega
theorem pkS_le (F : List ByteArray) (j : Nat) (hj : j ≤ F.length) (h : ∀ k (hk : k < F.length), k < j → F[k].size ≤ 131072) : pkS (F.take j) ≤ 4 + j * 131076 := by
  induction j with
  | zero => simp [pkS]
  | succ j ih =>
    have h1 := ih (by omega) fun k hk hj => h k hk (by omega)
    rw [pkS_take F j (by omega)]
    have := h j (by omega) (by omega)
    omega
def PkR (F : List ByteArray) (W : World) (e : Ending) (W' : World) : Prop := (∃ k : Int, e = .returned (.tuple #[.int .i64 k, .bool (pkOk F)]) ∧ (pkOk F = true → k = (pkS F : Nat))) ∧ W = W'
theorem packed_far (p : Option Addr) (c : Nat) (F : List ByteArray) (W : World) (hF : F.length ≤ 1000000000) (h : 1024 < F.length) : Calls Try.prog 22 #[.slice p F.length c] W (PkR F W) := by
  have HO := Lib.hid (show pkOk F = false from by unfold pkOk; rw [decide_eq_false (show ¬ F.length ≤ 1024 by omega)]; rfl)
  go_enter Try.func22, Try.ntmps22
  go_wp2
  go_ret2
  exact ⟨⟨0, by rw [HO.out]; rfl, fun h => by rw [HO.out] at h; cases h⟩, rfl⟩
set_option maxHeartbeats 1000000 in
theorem packed_near (p : Option Addr) (c : Nat) (F : List ByteArray) (W : World) (hf : FAt W (.slice p F.length c) F) (h : F.length ≤ 1024) : Calls Try.prog 22 #[.slice p F.length c] W (PkR F W) := by
  have HN := Lib.hid (show pkAll F = false → pkOk F = false from fun hx => by unfold pkOk; rw [hx, Bool.and_false, Bool.false_and])
  have HY := Lib.hid (show pkAll F = true → pkOk F = decide (pkS F ≤ 1048576) from fun hx => by unfold pkOk; rw [hx, decide_eq_true h]; simp)
  have HC := Lib.hid (fun (h0 : 0 < F.length) => hf.cell h0)
  have HL := Lib.hid h
  clear hf
  go_enter Try.func22, Try.ntmps22
  go_wp2_with fail
  go_loop [4, 12] (fun z i => ∃ j : Nat, j ≤ F.length ∧ i = .int .i64 j ∧ z = .int .i64 (pkS (F.take j) : Nat) ∧ Hid (∀ k (hk : k < F.length), k < j → F[k].size ≤ 131072)) (fun _ i => F.length - (intOf i).toNat)
  case atStart => exact ⟨0, Nat.zero_le _, rfl, by simp [pkS], Lib.hid (fun k _ hk => absurd hk (Nat.not_lt_zero _))⟩
  case round =>
    obtain ⟨j, hj, rfl, rfl, hall⟩ := hrel
    have hl1 := HL.out
    by_cases hlt : j < F.length
    · obtain ⟨g, off, cap, e, _, _, hg, hc⟩ := HC.out (by omega)
      simp only [Value.slice.injEq] at e
      obtain ⟨rfl, _, rfl⟩ := e
      have c1 := hc j hlt
      have HX := Lib.hid (fun h => pkAll_no (F := F) j hlt h)
      have HT := Lib.hid (pkS_take F j hlt)
      have hle := pkS_le F j (by omega) hall.out
      have HS := Lib.hid (show F[j].size ≤ 131072 → ∀ k (hk : k < F.length), k < j + 1 → F[k].size ≤ 131072 from fun h k hk hkj => by
        by_cases e : k < j
        · exact hall.out k hk e
        · obtain rfl : k = j := by omega
          exact h)
      clear hc hg
      generalize F[j] = X1 at *
      generalize pkS (F.take j) = z at *
      by_cases hx : 131072 < X1.size
      · go_wp2_with fail
        go_ret2
        have HO := HN.out (HX.out hx)
        exact ⟨⟨0, by rw [HO]; rfl, fun h => by rw [HO] at h; cases h⟩, rfl⟩
      · go_wp2_with fail
        go_round
        case rel => exact ⟨j + 1, by omega, by go_num, by rw [HT.out]; go_num, Lib.hid (HS.out (by omega))⟩
        case measure => simp [intOf]; omega
    · have HO := Lib.hid (HY.out (pkAll_yes fun k hk => hall.out k hk (by omega)))
      have HZ := Lib.hid (show pkS (F.take j) = pkS F from by rw [List.take_of_length_le (by omega)])
      have hle := pkS_le F j (by omega) hall.out
      generalize pkS (F.take j) = z at *
      go_wp2_with fail
      go_ret2
      have HZ := HZ.out
      subst HZ
      refine ⟨⟨((pkS F : Nat) : Int), ?_, fun _ => rfl⟩, rfl⟩
      rw [HO.out]
      have e : decide (((pkS F : Nat) : Int) ≤ 1048576) = decide (pkS F ≤ 1048576) := by
        by_cases hh : pkS F ≤ 1048576
        · rw [decide_eq_true hh, decide_eq_true (by omega)]
        · rw [decide_eq_false hh, decide_eq_false (by omega)]
      first | rfl | (rw [← e]; rfl)
theorem packed_any (v : Value) (F : List ByteArray) (W : World) (hf : FAt W v F) (hF : F.length ≤ 1000000000) : Calls Try.prog 22 #[v] W (PkR F W) := by
  obtain ⟨p, c, rfl⟩ := hf.is
  by_cases h : F.length ≤ 1024
  · exact packed_near p c F W hf h
  · exact packed_far p c F W hF (by omega)
end Go.Proofs.Ytgflnfmnjlmenaa
namespace Go.Proofs.Ytgflnfmnjlmenaa
open Go.RowKit Go.Deep Go.Joins
theorem string_of {w : World} {p : Option Addr} {n cap : Nat} {D : List UInt8} (h : DAt w (.slice p n cap) D) : (convert 36 9 (.slice p n cap)).run Try.prog w = .ok (.string ⟨D.toArray⟩) w := by
  rcases h.2 with ⟨e, h0⟩ | ⟨a, c, e, _, _, hc⟩
  · simp only [Value.slice.injEq] at e
    obtain ⟨rfl, rfl, rfl⟩ := e
    obtain rfl : D = [] := List.eq_nil_of_length_eq_zero h0
    rw [run_convert_bytes_string w 36 9 5 none 0 0 Try.underlying36 Try.underlying5 Try.underlying9]
    rfl
  · simp only [Value.slice.injEq] at e
    obtain ⟨rfl, rfl, rfl⟩ := e
    exact run_convert_bytes_back (P := Try.prog) w 36 9 5 a cap D Try.underlying36 Try.underlying5 Try.underlying9 (fun j hj => hc j _ (by simp [dC, hj]))
theorem MAt.cell {w : World} {v : Value} {M : List Int} (h : MAt w v M) (h0 : 0 < M.length) :
    ∃ b off cap, v = .slice (some ⟨b, off, none⟩) M.length cap ∧ M.length ≤ cap ∧ cap ≤ maxLen ∧ b < w.heap.size ∧ ∀ j (hj : j < M.length), w.cell? ⟨b, off + j, none⟩ = some (.int .u64 M[j]) := by
  obtain ⟨b, off, cap, h1, h2, h3, h4, h5⟩ := Reads.at h (by omega)
  exact ⟨b, off, cap, h1, h2, h3, h4, fun j hj => h5 j _ (by simp [mC, hj])⟩
def Boxes (w wr : World) (a b c d : Value) (E F : Int) : Prop := RamVar wr w.heap.size a b E ∧ RamVar wr (w.heap.size + 1) c d F ∧ Below w.heap.size w wr
theorem boxes_new (w : World) (a b c d : Value) (E F : Int) : Boxes w ((w.alloc (.cells #[a, b, .int .u64 E] 39)).alloc (.cells #[c, d, .int .u64 F] 39)) a b c d E F :=
  ⟨(heap_alloc_old _ (by simp)).trans (heap_alloc_new _ _), by have h := heap_alloc_new (w.alloc (.cells #[a, b, .int .u64 E] 39)) (.cells #[c, d, .int .u64 F] 39); rwa [World.size_alloc] at h, below2 w _ _⟩
theorem Boxes.drewN {w wr : World} {a b c d : Value} {E F : Int} (h : Boxes w wr a b c d E F) (n : Nat) : Boxes w (wr.drewN n) a b c d E F :=
  ⟨h.1, h.2.1, h.2.2.trans ⟨rfl, rfl, rfl, Nat.le_refl _, fun _ _ => rfl⟩⟩
end Go.Proofs.Ytgflnfmnjlmenaa
