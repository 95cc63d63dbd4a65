/- RamTells: one result for both sides of each call. -/
import Derived.Test.YtocphogddjcblaaM
import Derived.Test.YtocphogddjcblaaS
import Derived.Test.YtocphogddjcblaaT
import Derived.Test.YtocphogddjcblaaU
import Derived.Test.YtocphogddjcblaaV
import Derived.Test.YtocphogddjcblaaX
namespace Go.Proofs.Ytocphogddjcblaa
open Go.RowKit Go.Deep Go.Joins
def ldV (D : List UInt8) (t size : Int) : Int := if stB D.length t size then (le ((D.drop (t - 2147483648).toNat).take size.toNat) : Nat) else 0
theorem load_all (dv mv ev : Value) (D : List UInt8) (t size : Int) (w : World) (hd : DAt w dv D) (ht0 : 0 ≤ t) (ht1 : t ≤ 18446744073709551615) :
    Calls Try.prog 12 #[.agg #[dv, mv, ev], .int .u64 t, .int .i64 size] w fun e w' => e = .returned (.tuple #[.int .u64 (ldV D t size), .int .i64 (stE D.length t size)]) ∧ Below w.heap.size w w' := by
  unfold ldV stE stB
  rcases Bool.eq_false_or_eq_true (loadsB size) with hl | hl
  · rcases Bool.eq_false_or_eq_true (thereB D.length t size) with ht | ht
    · rw [hl, ht]; exact load_any dv D mv ev t size w hd ht0 ht1 hl ht
    · rw [hl, ht]
      obtain ⟨p, cap, rfl⟩ := hd.is
      exact load_ram p D.length cap mv ev t size w hd.le ht0 ht1 hl ht
  · rw [hl]; exact load_arg dv mv ev t size w hl
theorem rload_all (dv mv ev : Value) (D : List UInt8) (t size : Int) (w : World) (hd : DAt w dv D) (ht0 : 0 ≤ t) (ht1 : t ≤ 18446744073709551615) :
    Calls Try.prog 13 #[.agg #[dv, mv, ev], .int .u64 t, .int .i64 size] w fun e w' => e = .returned (.tuple #[.int .u64 (ldV D t size), .int .i64 (stE D.length t size)]) ∧ Below w.heap.size w w' := by
  unfold ldV stE stB
  rcases Bool.eq_false_or_eq_true (loadsB size) with hl | hl
  · rcases Bool.eq_false_or_eq_true (thereB D.length t size) with ht | ht
    · rw [hl, ht]; exact rload_any dv D mv ev t size w hd hl ht
    · rw [hl, ht]
      obtain ⟨p, cap, rfl⟩ := hd.is
      exact rload_ram p D.length cap mv ev t size w hd.le ht0 ht1 hl ht
  · rw [hl]; exact rload_arg dv mv ev t size w hl
def nwB (n : Int) (s : ByteArray) : Bool := decide (1 ≤ n ∧ n ≤ 256 ∧ (s.size : Int) ≤ n * 256)
def nwD (n : Int) (s : ByteArray) : List UInt8 := if nwB n s then spl (List.replicate (n.toNat * 256) 0) 0 s else []
def nwM (n : Int) (s : ByteArray) : List Int := if nwB n s then List.replicate n.toNat 0 else []
def nwE (n : Int) (s : ByteArray) : Int := if nwB n s then 0 else if 1 ≤ n ∧ n ≤ 256 then 2 else 50
def NewRes (w : World) (n : Int) (s : ByteArray) (e : Ending) (w' : World) : Prop := NewMem w (nwD n s) (nwM n s) 0 (nwE n s) e w'
theorem new_all (n : Int) (s : ByteArray) (w : World) : Calls Try.prog 20 #[.int .i64 n, .string s] w (NewRes w n s) := by
  unfold NewRes nwD nwM nwE
  by_cases h1 : 1 ≤ n ∧ n ≤ 256
  · by_cases h2 : (s.size : Int) ≤ n * 256
    · obtain ⟨k, rfl⟩ : ∃ k : Nat, n = k := ⟨n.toNat, by omega⟩
      rw [show nwB k s = true from decide_eq_true ⟨h1.1, h1.2, h2⟩]
      exact new_any k s w (by omega) (by omega) (by omega)
    · rw [show nwB n s = false from decide_eq_false (fun h => h2 h.2.2)]
      refine (new_long n s w h1.1 h1.2 (by omega)).mono ?_
      rintro e w' ⟨rfl, hb⟩
      rw [if_pos h1]
      exact newMem_nil hb
  · rw [show nwB n s = false from decide_eq_false (fun h => h1 ⟨h.1, h.2.1⟩)]
    refine (new_ram n s w h1).mono ?_
    rintro e w' ⟨rfl, hb⟩
    rw [if_neg h1]
    exact newMem_nil hb
theorem rnew_all (n : Int) (s : ByteArray) (w : World) : Calls Try.prog 21 #[.int .i64 n, .string s] w (NewRes w n s) := by
  unfold NewRes nwD nwM nwE
  by_cases h1 : 1 ≤ n ∧ n ≤ 256
  · by_cases h2 : (s.size : Int) ≤ n * 256
    · obtain ⟨k, rfl⟩ : ∃ k : Nat, n = k := ⟨n.toNat, by omega⟩
      rw [show nwB k s = true from decide_eq_true ⟨h1.1, h1.2, h2⟩]
      exact rnew_any k s w (by omega) (by omega) (by omega)
    · rw [show nwB n s = false from decide_eq_false (fun h => h2 h.2.2)]
      refine (rnew_long n s w h1.1 h1.2 (by omega)).mono ?_
      rintro e w' ⟨rfl, hb⟩
      rw [if_pos h1]
      exact newMem_nil hb
  · rw [show nwB n s = false from decide_eq_false (fun h => h1 ⟨h.1, h.2.1⟩)]
    refine (rnew_ram n s w h1).mono ?_
    rintro e w' ⟨rfl, hb⟩
    rw [if_neg h1]
    exact newMem_nil hb
end Go.Proofs.Ytocphogddjcblaa
