/- All the short ones: what they stand for is an instruction. -/
import Derived.Test.YtdodbfpahmkpbaaJS
namespace Go.Proofs.Ytdodbfpahmkpbaa
open Go.RowKit Go.Deep Go.Joins
def goodB (w : Nat) : Bool := decide (1 ≤ (rOI w).1 ∧ (rOI w).1 ≤ 98)
def longB (h : Nat) : Bool := Nat.beq (wordN h) 0 || (Nat.beq (wordN h % 4) 3 && (shortB h && (Nat.blt (wordN h) 4294967296 && goodB (wordN h))))
theorem long_all : allB longB 16 0 = true := by decide +kernel

end Go.Proofs.Ytdodbfpahmkpbaa
