/- Parts of a machine, stored and read; rows cut. A machine gets what a head's fields tell. -/
import Derived.Test.YtgflnfmnjlmenaaYZN
namespace Go.Proofs.Ytgflnfmnjlmenaa
open Go.RowKit Go.Deep Go.Joins
set_option maxRecDepth 100000
theorem MBox.store_hart {w : World} {g : Nat} {m : Mc} (k : MBox w g m) (h : Hart) : (Instr.storeAt 27 (.pointer (some ⟨g, 0, none⟩)) (hartV h)).run Try.prog w = .ok () (w.setRow g (mcC { m with h := h })) :=
  run_store_part w g 0 42 27 (mcC m) (mcC { m with h := h }) (hartC h) k (by rw [size27, hartC_size]) (hart_one h) (by rw [hartC_size, mcC_size]; omega)
    (by
      show mcL { m with h := h } = (mcL m).take 0 ++ (hartC h).toList ++ (mcL m).drop (0 + (hartC h).size)
      unfold mcL
      rw [List.take_zero, List.nil_append, Nat.zero_add, hartC_size, show (hartC h).toList = hartL h from by unfold hartC; simp, ← hartL_length m.h, List.drop_left]
      rfl)
theorem mc_setB (m : Mc) (b : Bd) (j : Nat) (v : Value) (hj : j < 21) (hb : bdC b = (bdC m.b).setIfInBounds j v) : (mcC m).setIfInBounds (52 + j) v = mcC { m with b := b } := by
  unfold mcC mcL
  rw [List.setIfInBounds_toArray, List.set_append_right _ _ (by rw [hartL_length]; omega), hartL_length, Nat.add_sub_cancel_left, List.set_append_left _ _ (by rw [Array.length_toList, bdC_size]; omega)]
  show _ = (hartL m.h ++ ((bdC b).toList ++ mcT m)).toArray
  rw [hb, Array.toList_setIfInBounds]
theorem MBox.store_inn {w : World} {g : Nat} {m : Mc} (k : MBox w g m) (s : ByteArray) : (Instr.storeAt 9 (.pointer (some ⟨g, 54, none⟩)) (.string s)).run Try.prog w = .ok () (w.setRow g (mcC { m with b := { m.b with inn := s } })) := by
  rw [← mc_setB m { m.b with inn := s } 2 (.string s) (by omega) rfl]
  exact run_store_cell w g 54 9 42 (mcC m) _ k size9 (by rw [mcC_size]; omega) rfl rfl
theorem MBox.store_sec {w : World} {g : Nat} {m : Mc} (k : MBox w g m) (s : ByteArray) : (Instr.storeAt 9 (.pointer (some ⟨g, 56, none⟩)) (.string s)).run Try.prog w = .ok () (w.setRow g (mcC { m with b := { m.b with sec := s } })) := by
  rw [← mc_setB m { m.b with sec := s } 4 (.string s) (by omega) rfl]
  exact run_store_cell w g 56 9 42 (mcC m) _ k size9 (by rw [mcC_size]; omega) rfl rfl
theorem MBox.store_fr {w : World} {g : Nat} {m : Mc} (k : MBox w g m) (p : Option Addr) (n c : Nat) : (Instr.storeAt 28 (.pointer (some ⟨g, 61, none⟩)) (.slice p n c)).run Try.prog w = .ok () (w.setRow g (mcC { m with b := m.b.at p n c })) := by
  rw [← mc_setB m (m.b.at p n c) 9 (.slice p n c) (by omega) rfl]
  exact run_store_cell w g 61 28 42 (mcC m) _ k size28 (by rw [mcC_size]; omega) rfl rfl
theorem MBox.store_cnt {w : World} {g : Nat} {m : Mc} (k : MBox w g m) (n : Int) : (Instr.storeAt 22 (.pointer (some ⟨g, 76, none⟩)) (.int .u64 n)).run Try.prog w = .ok () (w.setRow g (mcC { m with cnt := n })) := by
  rw [← mc_set m { m with cnt := n } 3 (.int .u64 n) rfl rfl rfl]
  exact run_store_cell w g 76 22 42 (mcC m) _ k size22 (by rw [mcC_size]; omega) rfl rfl
theorem MBox.load_inn {w : World} {g : Nat} {m : Mc} (k : MBox w g m) : (Instr.loadAt 9 (.pointer (some ⟨g, 54, none⟩))).run Try.prog w = .ok (.string m.b.inn) w := run_load_cell w g 54 9 42 (mcC m) _ _ k Try.underlying9 rfl (mcC_b m 2 (by omega))
theorem MBox.load_sec {w : World} {g : Nat} {m : Mc} (k : MBox w g m) : (Instr.loadAt 9 (.pointer (some ⟨g, 56, none⟩))).run Try.prog w = .ok (.string m.b.sec) w := run_load_cell w g 56 9 42 (mcC m) _ _ k Try.underlying9 rfl (mcC_b m 4 (by omega))
theorem MBox.load_dv {w : World} {g : Nat} {m : Mc} (k : MBox w g m) : (Instr.loadAt 36 (.pointer (some ⟨g, 73, none⟩))).run Try.prog w = .ok m.dv w := run_load_cell w g 73 36 42 (mcC m) _ _ k Try.underlying36 rfl (mcC_t m 0)
theorem MBox.load_mv {w : World} {g : Nat} {m : Mc} (k : MBox w g m) : (Instr.loadAt 37 (.pointer (some ⟨g, 74, none⟩))).run Try.prog w = .ok m.mv w := run_load_cell w g 74 37 42 (mcC m) _ _ k Try.underlying37 rfl (mcC_t m 1)
theorem MBox.load_E {w : World} {g : Nat} {m : Mc} (k : MBox w g m) : (Instr.loadAt 22 (.pointer (some ⟨g, 75, none⟩))).run Try.prog w = .ok (.int .u64 m.E) w := run_load_cell w g 75 22 42 (mcC m) _ _ k Try.underlying22 rfl (mcC_t m 2)
theorem mat_take {w : World} {p : Option Addr} {n c : Nat} {L : List Int} (h : MAt w (.slice p n c) L) (k : Nat) (hk : k ≤ L.length) (h0 : 0 < k) : MAt w (.slice p k c) (L.take k) := by
  rcases h.2 with ⟨e, e0⟩ | ⟨a, cap, e, h1, h2, hc⟩
  · omega
  · simp only [Value.slice.injEq] at e
    obtain ⟨rfl, rfl, rfl⟩ := e
    refine ⟨by unfold mC; rw [List.length_map, Nat.mul_one], .inr ⟨a, c, by rw [List.length_take, Nat.min_eq_left hk], by rw [List.length_take]; omega, h2, fun j u hu => hc j u ?_⟩⟩
    unfold mC at hu ⊢
    rw [List.map_take, List.getElem?_take] at hu
    split at hu
    · exact hu
    · cases hu
theorem fat_take {w : World} {p : Option Addr} {n c : Nat} {L : List ByteArray} (h : FAt w (.slice p n c) L) (k : Nat) (hk : k ≤ L.length) (h0 : 0 < k) : FAt w (.slice p k c) (L.take k) := by
  rcases h.2 with ⟨e, e0⟩ | ⟨a, cap, e, h1, h2, hc⟩
  · omega
  · simp only [Value.slice.injEq] at e
    obtain ⟨rfl, rfl, rfl⟩ := e
    refine ⟨by unfold sC; rw [List.length_map, Nat.mul_one], .inr ⟨a, c, by rw [List.length_take, Nat.min_eq_left hk], by rw [List.length_take]; omega, h2, fun j u hu => hc j u ?_⟩⟩
    unfold sC at hu ⊢
    rw [List.map_take, List.getElem?_take] at hu
    split at hu
    · exact hu
    · cases hu
theorem fat_drop {w : World} {g off n c : Nat} {L : List ByteArray} (h : FAt w (.slice (some ⟨g, off, none⟩) n c) L) (k : Nat) (hk : k ≤ L.length) : FAt w (.slice (some ⟨g, off + k, none⟩) (n - k) (c - k)) (L.drop k) := by
  rcases h.2 with ⟨e, _⟩ | ⟨a, cap, e, h1, h2, hc⟩
  · cases e
  · simp only [Value.slice.injEq, Option.some.injEq] at e
    obtain ⟨rfl, rfl, rfl⟩ := e
    refine ⟨by unfold sC; rw [List.length_map, Nat.mul_one], .inr ⟨⟨g, off + k, none⟩, c - k, by rw [List.length_drop], by rw [List.length_drop]; omega, by omega, fun j u hu => ?_⟩⟩
    have := hc (k + j) u (by unfold sC at hu ⊢; rw [List.map_drop, List.getElem?_drop] at hu; exact hu)
    rw [add_lit] at this ⊢
    rw [show off + k + j = off + (k + j) by omega]
    exact this
theorem fat_end {w : World} {g off c : Nat} {L : List ByteArray} (hc : c ≤ maxLen) : FAt w (.slice (some ⟨g, off, none⟩) 0 c) (L.drop L.length) := by
  rw [List.drop_length]
  exact ⟨rfl, .inr ⟨_, _, rfl, Nat.zero_le _, hc, fun j u hu => by cases hu⟩⟩
end Go.Proofs.Ytgflnfmnjlmenaa
namespace Go.Proofs.Ytgflnfmnjlmenaa
open Go.RowKit Go.Deep Go.Joins
set_option maxRecDepth 100000
def nums69 (F : List ByteArray) : List Int := (F.take 69).map rdI
def nums2 (F : List ByteArray) : List Int := ((F.drop 71).take 2).map rdI
def fs (F : List ByteArray) (j : Nat) : ByteArray := F.getD j ⟨#[]⟩
theorem nums69_len {F : List ByteArray} (h : 73 ≤ F.length) : ((nums69 F).take 52).length = 52 := by unfold nums69; rw [List.length_take, List.length_map, List.length_take]; omega
/-- The board of a head's fields. -/
def fillB (F : List ByteArray) (q : Option Addr) (c : Nat) : Bd := { dvF ((nums69 F).drop 52) with pl := plF ((nums69 F).drop 61), inn := fs F 69, sec := fs F 70, fp := q, fn := F.length - 73, fc := c }
def fillM (m : Mc) (F : List ByteArray) (h : 73 ≤ F.length) (q : Option Addr) (c : Nat) : Mc :=
  { m with h := hartF ((nums69 F).take 52) (nums69_len h), b := fillB F q c, cnt := nt (nums2 F) 0, nxt := nt (nums2 F) 1 }
/-- A machine in its block, and that nothing else of old has turned. -/
structure Fs (W w : World) (z : Nat) (m : Mc) : Prop where
  box : MBox w z m
  t : Touch W w (fun k => k = z)
theorem Fs.next {W w w' : World} {z : Nat} {m : Mc} (h : Fs W w z m) (hb : Below w.heap.size w w') : Fs W w' z m := ⟨h.box.next hb, h.t.trans (touch_of_below hb _)⟩
theorem Fs.put {W w w' : World} {z : Nat} {m m' : Mc} (h : Fs W w z m) (hw : w' = w.setRow z (mcC m')) : Fs W w' z m' := ⟨h.box.put hw, by subst hw; exact h.t.setRow (.inl rfl) _⟩
theorem own_fs {W w : World} {z B e n : Nat} {m m0 : Mc} {v : Value} {xs : List Value} (h : Fs W w z m) (K : MBox W z m0) (ho : W.ownsRow B e 1 v n xs) (he : e ≠ 42) : w.ownsRow B e 1 v n xs :=
  owns_touch ho h.t (fun g hg e1 => not_at ho K he (by rw [hg, e1]))
theorem own_ptr {w : World} {B e n c : Nat} {p : Option Addr} {xs : List Value} (h : w.ownsRow B e 1 (.slice p n c) n xs) (h0 : 0 < n) : ∃ g, p = some ⟨g, 0, none⟩ ∧ g < w.heap.size ∧ n ≤ c ∧ c ≤ maxLen ∧ B ≤ g := by
  rcases h.2 with ⟨_, e⟩ | ⟨g, cap, cur, e, hB, hg, h1, h2, _⟩
  · omega
  · simp only [Value.slice.injEq, true_and] at e
    obtain ⟨rfl, rfl⟩ := e
    exact ⟨g, rfl, (Array.getElem?_eq_some_iff.1 hg).1, h1, h2, hB⟩
theorem fs_cell {w : World} {B g c : Nat} {F : List ByteArray} (ho : OwnF w B (.slice (some ⟨g, 0, none⟩) F.length c) F) (j : Nat) (hj : j < F.length) : w.cell? ⟨g, j, none⟩ = some (.string (fs F j)) := by
  obtain ⟨g', off, e, _, hc⟩ := FAt.cell' (FAt.of ho) (by omega)
  simp only [Option.some.injEq, Addr.mk.injEq] at e
  obtain ⟨rfl, rfl, _⟩ := e
  have := hc j hj
  rw [Nat.zero_add] at this
  rw [this, fs, List.getD_eq_getElem?_getD, List.getElem?_eq_getElem hj]
  rfl
theorem todev_at {g off n c : Nat} {L : List Int} {w : World} (hm : MAt w (.slice (some ⟨g, off, none⟩) n c) L) (hn : L.length = n) (h9 : 9 ≤ n) : Calls Try.prog 38 #[.slice (some ⟨g, off, none⟩) n c] w fun e W' => e = .returned (bdV (dvF L)) ∧ Below w.heap.size w W' := by
  subst hn
  exact todev_any _ _ _ _ hm h9
theorem toplic_at {g off n c : Nat} {L : List Int} {w : World} (hm : MAt w (.slice (some ⟨g, off, none⟩) n c) L) (hn : L.length = n) (h9 : 8 ≤ n) : Calls Try.prog 39 #[.slice (some ⟨g, off, none⟩) n c] w fun e W' => e = .returned (.agg (plC (plF L))) ∧ Below w.heap.size w W' := by
  subst hn
  exact toplic_any _ _ _ _ hm h9
theorem reads_at {v : Value} {F : List ByteArray} {w : World} {n : Nat} (hm : FAt w v F) (hn : F.length = n) (hl : n ≤ 100000000) : Calls Try.prog 36 #[v] w fun e W' => ∃ g c, e = .returned (.slice (some ⟨g, 0, none⟩) n c) ∧ n ≤ c ∧ w.heap.size ≤ g ∧ OwnM W' w.heap.size (.slice (some ⟨g, 0, none⟩) n c) (F.map rdI) ∧ Below w.heap.size w W' ∨ n = 0 := by
  subst hn
  refine (reads_any v F w hm hl).mono ?_
  rintro e W' ⟨q, c, rfl, hr⟩
  have ho := hr.own
  rw [List.length_map] at ho ⊢
  by_cases h0 : F.length = 0
  · exact ⟨0, 0, .inr h0⟩
  · have h1 := ho
    unfold OwnM at h1
    rw [List.length_map] at h1
    obtain ⟨g, rfl, _, h2, _, h4⟩ := own_ptr h1 (by omega)
    exact ⟨g, c, .inl ⟨rfl, h2, h4, ho, hr.below⟩⟩
def FillR (B g0 c0 z : Nat) (m : Mc) (F : List ByteArray) (h : 73 ≤ F.length) (W : World) (e : Ending) (W' : World) : Prop :=
  e = .returned (.tuple #[]) ∧ ∃ q c, Fs W W' z (fillM m F h q c) ∧ ∀ w', OwnF w' B (.slice (some ⟨g0, 0, none⟩) F.length c0) F → FAt w' (.slice q (F.length - 73) c) (F.drop 73)
end Go.Proofs.Ytgflnfmnjlmenaa
