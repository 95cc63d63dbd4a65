/- One result for both sides. -/
import Derived.Test.YtnedhjaphfjdmaaRS
import Derived.Test.YtnedhjaphfjdmaaRV
import Derived.Test.YtnedhjaphfjdmaaRC
namespace Go.Proofs.Ytnedhjaphfjdmaa
open Go.RowKit Go.Deep Go.Joins
def stB (n : Nat) (t size : Int) : Bool := loadsB size && thereB n t size
def stE (n : Nat) (t size : Int) : Int := if loadsB size then (if thereB n t size then 0 else 50) else 1
theorem newMem_nil {w w' : World} {er : Int} (hb : Below w.heap.size w w') : NewMem w [] [] 0 er (.returned (.tuple #[.agg #[.slice none 0 0, .slice none 0 0, .int .u64 0], .int .i64 er])) w' :=
  ⟨_, _, rfl, World.ownsRow_nil _ _ _ _, World.ownsRow_nil _ _ _ _, hb⟩
def ldV (D : List UInt8) (t size : Int) : Int := if stB D.length t size then (le ((D.drop (t - 2147483648).toNat).take size.toNat) : Nat) else 0
theorem load_all (dv mv ev : Value) (D : List UInt8) (t size : Int) (w : World) (hd : DAt w dv D) (ht0 : 0 ≤ t) (ht1 : t ≤ 18446744073709551615) :
    Calls Try.prog 40 #[.agg #[dv, mv, ev], .int .u64 t, .int .i64 size] w fun e w' => e = .returned (.tuple #[.int .u64 (ldV D t size), .int .i64 (stE D.length t size)]) ∧ Below w.heap.size w w' := by
  unfold ldV stE stB
  rcases Bool.eq_false_or_eq_true (loadsB size) with hl | hl
  · rcases Bool.eq_false_or_eq_true (thereB D.length t size) with ht | ht
    · rw [hl, ht]; exact load_any dv D mv ev t size w hd ht0 ht1 hl ht
    · rw [hl, ht]
      obtain ⟨p, cap, rfl⟩ := hd.is
      exact load_ram p D.length cap mv ev t size w hd.le ht0 ht1 hl ht
  · rw [hl]; exact load_arg dv mv ev t size w hl
theorem rload_all (dv mv ev : Value) (D : List UInt8) (t size : Int) (w : World) (hd : DAt w dv D) (ht0 : 0 ≤ t) (ht1 : t ≤ 18446744073709551615) :
    Calls Try.prog 16 #[.agg #[dv, mv, ev], .int .u64 t, .int .i64 size] w fun e w' => e = .returned (.tuple #[.int .u64 (ldV D t size), .int .i64 (stE D.length t size)]) ∧ Below w.heap.size w w' := by
  unfold ldV stE stB
  rcases Bool.eq_false_or_eq_true (loadsB size) with hl | hl
  · rcases Bool.eq_false_or_eq_true (thereB D.length t size) with ht | ht
    · rw [hl, ht]; exact rload_any dv D mv ev t size w hd hl ht
    · rw [hl, ht]
      obtain ⟨p, cap, rfl⟩ := hd.is
      exact rload_ram p D.length cap mv ev t size w hd.le ht0 ht1 hl ht
  · rw [hl]; exact rload_arg dv mv ev t size w hl
def nwB (n : Int) (s : ByteArray) : Bool := decide (1 ≤ n ∧ n ≤ 256 ∧ (s.size : Int) ≤ n * 256)
def nwD (n : Int) (s : ByteArray) : List UInt8 := if nwB n s then spl (List.replicate (n.toNat * 256) 0) 0 s else []
def nwM (n : Int) (s : ByteArray) : List Int := if nwB n s then List.replicate n.toNat 0 else []
def nwE (n : Int) (s : ByteArray) : Int := if nwB n s then 0 else if 1 ≤ n ∧ n ≤ 256 then 2 else 50
def NewRes (w : World) (n : Int) (s : ByteArray) (e : Ending) (w' : World) : Prop := NewMem w (nwD n s) (nwM n s) 0 (nwE n s) e w'
theorem rnew_all (n : Int) (s : ByteArray) (w : World) : Calls Try.prog 18 #[.int .i64 n, .string s] w (NewRes w n s) := by
  unfold NewRes nwD nwM nwE
  by_cases h1 : 1 ≤ n ∧ n ≤ 256
  · by_cases h2 : (s.size : Int) ≤ n * 256
    · obtain ⟨k, rfl⟩ : ∃ k : Nat, n = k := ⟨n.toNat, by omega⟩
      rw [show nwB k s = true from decide_eq_true ⟨h1.1, h1.2, h2⟩]
      exact rnew_any k s w (by omega) (by omega) (by omega)
    · rw [show nwB n s = false from decide_eq_false (fun h => h2 h.2.2)]
      refine (rnew_long n s w h1.1 h1.2 (by omega)).mono ?_
      rintro e w' ⟨rfl, hb⟩
      rw [if_pos h1]
      exact newMem_nil hb
  · rw [show nwB n s = false from decide_eq_false (fun h => h1 ⟨h.1, h.2.1⟩)]
    refine (rnew_ram n s w h1).mono ?_
    rintro e w' ⟨rfl, hb⟩
    rw [if_neg h1]
    exact newMem_nil hb
end Go.Proofs.Ytnedhjaphfjdmaa
