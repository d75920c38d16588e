/- The laws on sorts and on registers, walked over what is asked of package ops. -/
import Derived.Test.YtbnacdhhacafkaaDoorRows
import Derived.Test.YtbnacdhhacafkaaDoorCo
import Derived.WalkKit
import Derived.WalkLawsBesides
import Derived.Deep.QuietTactic
import Derived.BigQuiet
import Derived.WalkSmall
import Derived.WalkSpells
import Derived.Lib.Hide
import Derived.Below
import Derived.Deep.Cut
import Derived.LoopTactic
namespace Go.Proofs.YtbnacdhhacafkaaDoor
open Go.RowKit

end Go.Proofs.YtbnacdhhacafkaaDoor
