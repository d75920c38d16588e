/- The document's Text. (Written by a program.) -/
import Derived.Test.YtolmecnjolfjgaaGreatDoorRows
import Derived.Test.YtolmecnjolfjgaaGreatDoorRt9l
import Derived.Test.YtolmecnjolfjgaaGreatDoorRu9l
import Derived.WalkKit
import Derived.WalkLawsBesides
import Derived.Deep.QuietTactic
import Derived.BigQuiet
import Derived.WalkSmall
import Derived.WalkSpells
import Derived.Lib.Hide
import Derived.Below
import Derived.LoopTactic
import Derived.Outline
import Derived.Deep.RegionHeld3
import Derived.Deep.DeepCutAuto
set_option maxRecDepth 100000
namespace Go.Proofs.YtolmecnjolfjgaaGreatDoor
open Go.RowKit

theorem rtext_any (i : Ins) (h : Rgt i) (w : World) : Calls Tryz.prog 36 #[insV i] w fun e w' => e = .returned (tx (textT i)) ∧ BW w w' := by
  have hs := srt_spec i.op
  have hop := h.op
  by_cases e3 : i.op = 3
  · exact text_j i h e3 w
  by_cases e4 : i.op = 4
  · exact text_r i h e4 w
  by_cases e50 : i.op = 50
  · exact text_f i h e50 w
  by_cases e51 : i.op = 51
  · exact text_t i h e51 w
  rcases hs with ⟨_, hk⟩ | ⟨_, _, hk⟩ | ⟨_, _, hk⟩ | ⟨_, _, hk⟩ | ⟨_, _, hk⟩ | ⟨_, _, hk⟩ | ⟨_, _, hk⟩ | ⟨_, _, hk⟩ | ⟨_, _, hk⟩ | ⟨_, _, hk⟩ | ⟨_, _, hk⟩ | ⟨_, _, hk⟩ | ⟨_, _, hk⟩ | ⟨_, hk⟩
  · omega
  · exact text_u i h hk w
  · omega
  · exact text_b i h hk w
  · exact text_l i h hk w
  · exact text_s i h hk w
  · exact text_n i h hk w
  · exact text_p i h hk w
  · omega
  · exact text_h i h hk w
  · exact text_v i h hk w
  · exact text_c i h hk w
  · exact text_a i h hk w
  · omega
end Go.Proofs.YtolmecnjolfjgaaGreatDoor
