/- Who has a number or more. -/
import Derived.Test.YthlghmechldegaaC
namespace Go.Proofs.Ythlghmechldegaa
open Go.RowKit Go.Deep Go.Joins
/-- Who of the first k has this number or more. -/
def atF (h : Nat → Int) (n : Int) (k : Nat) : Nat → Bool := fun j => decide (j < k) && decide (n ≤ h j)
def noF : Nat → Bool := fun _ => false
theorem atF_zero (h : Nat → Int) (n : Int) : atF h n 0 = noF := by funext j; simp [atF, noF]
theorem atF_next (h : Nat → Int) (n : Int) (k : Nat) : upd (atF h n k) k (decide (n ≤ h k)) = atF h n (k + 1) := by
  funext j
  unfold upd atF
  by_cases e : j = k
  · subst e; simp
  · rw [if_neg e]
    congr 1
    exact decide_eq_decide.2 ⟨fun h => by omega, fun h => by omega⟩
abbrev noC : Array Value := #[.bool false, .bool false, .bool false, .bool false, .bool false, .bool false, .bool false]
theorem noC_eq : setC noF = noC := rfl
theorem set_one (f : Nat → Bool) : (setC f).all (·.oneCell') = true := by
  unfold setC setL
  simp [Value.oneCell']
theorem SBox.full {w : World} {b : Nat} {f : Nat → Bool} (k : SBox w b f) (g : Nat → Bool) : (Instr.storeAt 24 (.pointer (some ⟨b, 0, none⟩)) (setV g)).run Try.prog w = .ok () (w.setRow b (setC g)) := by
  simp only [Instr.storeAt, Instr.sureAddr, Sem.run_bind, Sem.run_pure, Result.andThen]
  exact run_storeVar_row w b 24 24 _ (setC g) k (by rw [size24, setC_size]) (by rw [setC_size, setC_size]) (set_one g)
/-- Three blocks of a function's own: numbers, a set, its result. -/
structure Sn (W w : World) (h : Nat → Int) (f r : Nat → Bool) : Prop where
  n : NBox w W.heap.size h
  s : SBox w (W.heap.size + 1 + 1) f
  r : SBox w (W.heap.size + 1) r
  below : Below W.heap.size W w
theorem Sn.start (W : World) (h : Nat → Int) (f r : Nat → Bool) : Sn W (((W.alloc (numO h)).alloc (setO r)).alloc (setO f)) h f r := by
  have e1 : (W.alloc (numO h)).heap.size = W.heap.size + 1 := by simp
  have e2 : ((W.alloc (numO h)).alloc (setO r)).heap.size = W.heap.size + 1 + 1 := by simp
  refine ⟨((NBox.new W h).alloc _).alloc _, ?_, ?_, (((Below.refl _ _).alloc (Nat.le_refl _) _).alloc (by simp) _).alloc (by simp; omega) _⟩
  · have := SBox.new ((W.alloc (numO h)).alloc (setO r)) f; rwa [e2] at this
  · have := (SBox.new (W.alloc (numO h)) r).alloc (setO f); rwa [e1] at this
theorem Sn.put {W w : World} {h : Nat → Int} {f r : Nat → Bool} (k : Sn W w h f r) (g : Nat → Bool) : Sn W (w.setRow (W.heap.size + 1 + 1) (setC g)) h g r :=
  ⟨k.n.over (by omega) _, k.s.mine g, k.r.over (by omega) _, below_setRow k.below (by omega) _⟩
theorem Sn.done {W w : World} {h : Nat → Int} {f r : Nat → Bool} (k : Sn W w h f r) (g : Nat → Bool) : Sn W (w.setRow (W.heap.size + 1) (setC g)) h f g :=
  ⟨k.n.over (by omega) _, k.s.over (by omega) _, k.r.mine g, below_setRow k.below (by omega) _⟩
set_option maxRecDepth 100000 in
set_option maxHeartbeats 1000000 in
theorem least_any (h : Nat → Int) (n : Int) (W : World) : Calls Try.prog 46 #[numV h, .int .u64 n] W fun e W' => e = .returned (setV (atF h n 7)) ∧ Below W.heap.size W W' := by
  go_enter Try.func46, Try.ntmps46
  go_upto_region 2 with (fail)
  have X := Lib.hid (show Sn W (((W.alloc (numO h)).alloc (Obj.cells noC 24)).alloc (Obj.cells noC 24)) h (atF h n 0) noF from by rw [atF_zero]; exact Sn.start W h noF noF)
  generalize ((W.alloc (numO h)).alloc (Obj.cells noC 24)).alloc (Obj.cells noC 24) = w0 at *
  go_wp2_with (first | (with_reducible refine wpList_load_by rfl rfl X.out.n.load rfl ?_) | fail)
  go_loopw [9] (fun i wr => ∃ (k : Nat), k ≤ 7 ∧ i = .int .i64 k ∧ RowKit.Hid (Sn W wr h (atF h n k) noF)) (fun i _ => 7 - (intOf i).toNat)
  case atStart => exact ⟨0, by omega, rfl, X⟩
  case round =>
    obtain ⟨k, hk, rfl, HX⟩ := hrel
    by_cases h7 : k < 7
    · have hl : ((k : Int) < 7) := by omega
      have hix : ∀ w : World, _ := idx_num h k h7
      have HX2 := Lib.hid (HX.out.put (atF h n (k + 1)))
      have HS := Lib.hid (HX.out.s.put k h7 (decide (n ≤ h k)))
      rw [atF_next] at HS
      go_wp2_with (first | (with_reducible refine wpList_store_by rfl rfl HS.out rfl rfl ?_) | fail)
      go_round
      case rel => exact ⟨k + 1, by omega, rfl, HX2⟩
      case measure => simp [intOf]; omega
    · obtain rfl : k = 7 := by omega
      have HR := Lib.hid (HX.out.done (atF h n 7))
      go_wp2_with (first | (with_reducible refine wpList_load_by rfl rfl HX.out.s.load rfl ?_) | (with_reducible refine wpList_store_by rfl rfl (HX.out.r.full _) rfl rfl ?_) | fail)
      exact bodyPost_ret (v := setV (atF h n 7)) (results_cell_row Try.results46 _ _ (W.heap.size + 1) 24 (setC _) (0, 0) _ rfl HR.out.r Try.underlying24 rfl (by rw [size24, setC_size])) rfl ⟨rfl, HR.out.below⟩
end Go.Proofs.Ythlghmechldegaa
