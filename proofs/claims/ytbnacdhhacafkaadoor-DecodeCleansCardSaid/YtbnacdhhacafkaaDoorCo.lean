/- What is asked of the program's nine functions of package ops (each proved of the code, at its round), and the laws on sorts, walked over it. -/
import Derived.Test.YtbnacdhhacafkaaDoorRows
import Derived.Test.YtbnacdhhacafkaaDoorSi
import Derived.Test.YtbnacdhhacafkaaDoorTg
import Derived.WalkKit
import Derived.WalkLawsBesides
import Derived.Deep.QuietTactic
import Derived.BigQuiet
import Derived.WalkSmall
import Derived.WalkSpells
import Derived.Lib.Hide
import Derived.Below
import Derived.Deep.Cut
import Derived.LoopTactic
import Derived.Deep.RegionHeld3
import Derived.Deep.DeepCutAuto
namespace Go.Proofs.YtbnacdhhacafkaaDoor
open Go.RowKit

/-- The operation of a name; 0: none. -/
def bynm (l : List UInt8) : Int := if l ∈ nmL then (nmL.idxOf l : Int) + 1 else 0
def memB (op : Int) : Bool := decide (0 < siz op)
def ldsB (op : Int) : Bool := decide (srt op = 4 ∨ srt op = 10 ∨ srt op = 12)
def stsB (op : Int) : Bool := decide (srt op = 5 ∨ srt op = 11 ∨ srt op = 12)
section
end

end Go.Proofs.YtbnacdhhacafkaaDoor
