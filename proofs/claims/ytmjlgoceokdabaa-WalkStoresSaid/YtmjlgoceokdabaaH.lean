/- One result for both loads. -/
import Derived.Test.YtmjlgoceokdabaaE
namespace Go.Proofs.Ytmjlgoceokdabaa
open Go.RowKit Go.Deep Go.Joins
def stB (n : Nat) (t size : Int) : Bool := loadsB size && thereB n t size
def stE (n : Nat) (t size : Int) : Int := if loadsB size then (if thereB n t size then 0 else 50) else 1
def ldV (D : List UInt8) (t size : Int) : Int := if stB D.length t size then (le ((D.drop (t - 2147483648).toNat).take size.toNat) : Nat) else 0
theorem load_all (dv mv ev : Value) (D : List UInt8) (t size : Int) (w : World) (hd : DAt w dv D) (ht0 : 0 ≤ t) (ht1 : t ≤ 18446744073709551615) :
    Calls Try.prog 16 #[.agg #[dv, mv, ev], .int .u64 t, .int .i64 size] w fun e w' => e = .returned (.tuple #[.int .u64 (ldV D t size), .int .i64 (stE D.length t size)]) ∧ Below w.heap.size w w' := by
  unfold ldV stE stB
  rcases Bool.eq_false_or_eq_true (loadsB size) with hl | hl
  · rcases Bool.eq_false_or_eq_true (thereB D.length t size) with ht | ht
    · rw [hl, ht]; exact load_any dv D mv ev t size w hd ht0 ht1 hl ht
    · rw [hl, ht]
      obtain ⟨p, cap, rfl⟩ := hd.is
      exact load_ram p D.length cap mv ev t size w hd.le ht0 ht1 hl ht
  · rw [hl]; exact load_arg dv mv ev t size w hl
theorem rload_all (dv mv ev : Value) (D : List UInt8) (t size : Int) (w : World) (hd : DAt w dv D) (ht0 : 0 ≤ t) (ht1 : t ≤ 18446744073709551615) :
    Calls Try.prog 23 #[.agg #[dv, mv, ev], .int .u64 t, .int .i64 size] w fun e w' => e = .returned (.tuple #[.int .u64 (ldV D t size), .int .i64 (stE D.length t size)]) ∧ Below w.heap.size w w' := by
  unfold ldV stE stB
  rcases Bool.eq_false_or_eq_true (loadsB size) with hl | hl
  · rcases Bool.eq_false_or_eq_true (thereB D.length t size) with ht | ht
    · rw [hl, ht]; exact rload_any dv D mv ev t size w hd hl ht
    · rw [hl, ht]
      obtain ⟨p, cap, rfl⟩ := hd.is
      exact rload_ram p D.length cap mv ev t size w hd.le ht0 ht1 hl ht
  · rw [hl]; exact rload_arg dv mv ev t size w hl
end Go.Proofs.Ytmjlgoceokdabaa
