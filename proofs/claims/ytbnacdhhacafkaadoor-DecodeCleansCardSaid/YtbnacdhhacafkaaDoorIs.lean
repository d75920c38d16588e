/- Whether a word is an operation's: the document's Is. -/
import Derived.Test.YtbnacdhhacafkaaDoorRows
import Derived.Test.YtbnacdhhacafkaaDoorSz
import Derived.Test.YtbnacdhhacafkaaDoorTd
import Derived.Test.YtbnacdhhacafkaaDoorIsa
import Derived.Test.YtbnacdhhacafkaaDoorIsb
import Derived.Test.YtbnacdhhacafkaaDoorIsc
import Derived.WalkKit
import Derived.WalkLawsBesides
import Derived.Deep.QuietTactic
import Derived.BigQuiet
import Derived.WalkSmall
import Derived.WalkSpells
import Derived.Lib.Hide
import Derived.Below
namespace Go.Proofs.YtbnacdhhacafkaaDoor
open Go.RowKit

theorem is_any (op : Int) (h : 1 ≤ op ∧ op ≤ 75) : IsAt op := by
  have hc : op = 1 ∨ op = 2 ∨ op = 3 ∨ op = 4 ∨ op = 5 ∨ op = 6 ∨ op = 7 ∨ op = 8 ∨ op = 9 ∨ op = 10 ∨ op = 11 ∨ op = 12 ∨ op = 13 ∨ op = 14 ∨ op = 15 ∨ op = 16 ∨ op = 17 ∨ op = 18 ∨ op = 19 ∨ op = 20 ∨ op = 21 ∨ op = 22 ∨ op = 23 ∨ op = 24 ∨ op = 25 ∨ op = 26 ∨ op = 27 ∨ op = 28 ∨ op = 29 ∨ op = 30 ∨ op = 31 ∨ op = 32 ∨ op = 33 ∨ op = 34 ∨ op = 35 ∨ op = 36 ∨ op = 37 ∨ op = 38 ∨ op = 39 ∨ op = 40 ∨ op = 41 ∨ op = 42 ∨ op = 43 ∨ op = 44 ∨ op = 45 ∨ op = 46 ∨ op = 47 ∨ op = 48 ∨ op = 49 ∨ op = 50 ∨ op = 51 ∨ op = 52 ∨ op = 53 ∨ op = 54 ∨ op = 55 ∨ op = 56 ∨ op = 57 ∨ op = 58 ∨ op = 59 ∨ op = 60 ∨ op = 61 ∨ op = 62 ∨ op = 63 ∨ op = 64 ∨ op = 65 ∨ op = 66 ∨ op = 67 ∨ op = 68 ∨ op = 69 ∨ op = 70 ∨ op = 71 ∨ op = 72 ∨ op = 73 ∨ op = 74 ∨ op = 75 := by omega
  rcases hc with rfl | rfl | rfl | rfl | rfl | rfl | rfl | rfl | rfl | rfl | rfl | rfl | rfl | rfl | rfl | rfl | rfl | rfl | rfl | rfl | rfl | rfl | rfl | rfl | rfl | rfl | rfl | rfl | rfl | rfl | rfl | rfl | rfl | rfl | rfl | rfl | rfl | rfl | rfl | rfl | rfl | rfl | rfl | rfl | rfl | rfl | rfl | rfl | rfl | rfl | rfl | rfl | rfl | rfl | rfl | rfl | rfl | rfl | rfl | rfl | rfl | rfl | rfl | rfl | rfl | rfl | rfl | rfl | rfl | rfl | rfl | rfl | rfl | rfl | rfl
  · exact is_1
  · exact is_2
  · exact is_3
  · exact is_4
  · exact is_5
  · exact is_6
  · exact is_7
  · exact is_8
  · exact is_9
  · exact is_10
  · exact is_11
  · exact is_12
  · exact is_13
  · exact is_14
  · exact is_15
  · exact is_16
  · exact is_17
  · exact is_18
  · exact is_19
  · exact is_20
  · exact is_21
  · exact is_22
  · exact is_23
  · exact is_24
  · exact is_25
  · exact is_26
  · exact is_27
  · exact is_28
  · exact is_29
  · exact is_30
  · exact is_31
  · exact is_32
  · exact is_33
  · exact is_34
  · exact is_35
  · exact is_36
  · exact is_37
  · exact is_38
  · exact is_39
  · exact is_40
  · exact is_41
  · exact is_42
  · exact is_43
  · exact is_44
  · exact is_45
  · exact is_46
  · exact is_47
  · exact is_48
  · exact is_49
  · exact is_50
  · exact is_51
  · exact is_52
  · exact is_53
  · exact is_54
  · exact is_55
  · exact is_56
  · exact is_57
  · exact is_58
  · exact is_59
  · exact is_60
  · exact is_61
  · exact is_62
  · exact is_63
  · exact is_64
  · exact is_65
  · exact is_66
  · exact is_67
  · exact is_68
  · exact is_69
  · exact is_70
  · exact is_71
  · exact is_72
  · exact is_73
  · exact is_74
  · exact is_75
end Go.Proofs.YtbnacdhhacafkaaDoor
