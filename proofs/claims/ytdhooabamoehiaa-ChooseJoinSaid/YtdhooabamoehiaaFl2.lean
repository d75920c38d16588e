/- The law on fair picks, walked. -/
import Derived.Test.YtdhooabamoehiaaRows
import Derived.Test.YtdhooabamoehiaaLaw
import Derived.WalkKit
import Derived.WalkLawsBesides
import Derived.Deep.QuietTactic
import Derived.BigQuiet
import Derived.WalkSmall
import Derived.WalkSpells
import Derived.Lib.Hide
import Derived.Below
import Derived.Deep.Cut
import Derived.LoopTactic
namespace Go.Proofs.Ytdhooabamoehiaa
open Go.RowKit

theorem BW.reads {W w : World} {A : Option Addr} {xs : List Value} (h : BW W w) (hr : Rd W W.heap.size A xs) : Rd w w.heap.size A xs := (hr.below h).mono (Below.size h)
theorem BW.on {W w w' : World} (h : BW W w) (hb : Below w.heap.size w w') : BW W w' := Below.trans h (hb.mono (Below.size h))

theorem fair_bw {W : World} (A : Option Addr) (cap : Nat) (l : List Pk) (v : Int) (w : World) (hl : l.length ≤ 9223372036854775807) (hcap : l.length ≤ cap) (hcap2 : cap ≤ 9223372036854775807) (hv : v ≤ 9223372036854775807) (hw : Wd l) (hr : Rd W W.heap.size A (cellsP l)) (h : BW W w) :
    Calls Try.prog 15 #[.slice A l.length cap, .int .i64 v] w fun e w' => e = .returned (.bool (fairB l v)) ∧ BW W w' :=
  (fair_any A cap l v w hl hcap hcap2 hv hw (h.reads hr)).mono fun _ _ ⟨he, hb⟩ => ⟨he, h.on hb⟩
theorem rfair_bw {W : World} (A : Option Addr) (cap : Nat) (l : List Pk) (v : Int) (w : World) (hl : l.length ≤ 9223372036854775807) (hv : v ≤ 9223372036854775807) (hw : Wd l) (hr : Rd W W.heap.size A (cellsP l)) (h : BW W w) :
    Calls Try.prog 16 #[.slice A l.length cap, .int .i64 v] w fun e w' => e = .returned (.bool (fairB l v)) ∧ BW W w' :=
  (rfair_any A cap l v w hl hv hw (h.reads hr)).mono fun _ _ ⟨he, hb⟩ => ⟨he, h.on hb⟩

theorem fair_law (A : Option Addr) (cap : Nat) (l : List Pk) (v : Int) (hl : l.length ≤ 9223372036854775807) (hcap : l.length ≤ cap) (hcap2 : cap ≤ 9223372036854775807) (hv : v ≤ 9223372036854775807) (hv0 : -9223372036854775808 ≤ v) (hw : Wd l) (W : World) (hr : Rd W W.heap.size A (cellsP l)) :
    Calls Try.prog 5 #[.slice A l.length cap, .int .i64 v] W fun e w' => e = .returned (.bool true) ∧ Below W.heap.size W w' := by
  have H1 := fun w => fair_bw (W := W) A cap l v w hl hcap hcap2 hv hw hr
  have H2 := fun w => rfair_bw (W := W) A cap l v w hl hv hw hr
  have H3 := fun w => windows_any A cap l.length v w hl hv
  have HB : BW W W := Below.refl _ _
  clear hw hr
  generalize fairB l v = t at *
  by_cases h2 : 2000 < l.length
  · have h2' : (2000 : Int) < (l.length : Int) := by omega
    go_enter Try.func5, Try.ntmps5
    go_wp2_with (first
      | (go_at_call 8; refine (alive_bw W _ (by assumption)).mono ?_; rintro e w' ⟨rfl, HB⟩))
    go_ret
    exact ⟨rfl, by assumption⟩
  have h2' : ¬ (2000 : Int) < (l.length : Int) := by omega
  by_cases h : v < 1
  · have e : winV l.length v = 0 := by unfold winV; rw [if_neg (by omega)]
    rw [e] at H3
    have HE := Lib.hid e
    clear e
    go_enter Try.func5, Try.ntmps5
    go_wp2_with (first
      | (go_at_call 8; refine (alive_bw W _ (by assumption)).mono ?_; rintro e w' ⟨rfl, HB⟩)
      | (go_at_call 15; refine (H1 _ (by assumption)).mono ?_; rintro e w' ⟨rfl, HB⟩)
      | (go_at_call 16; refine (H2 _ (by assumption)).mono ?_; rintro e w' ⟨rfl, HB⟩)
      | (go_at_call 17; refine (H3 _).mono ?_; rintro e w' ⟨rfl, rfl⟩))
    go_ret
    exact ⟨rfl, by assumption⟩
  · have e : winV l.length v = (l.length : Int) / v := by unfold winV; rw [if_pos (by omega), Int.natCast_ediv, show ((v.toNat : Nat) : Int) = v by omega]
    have hd : 0 ≤ (l.length : Int) / v := Int.ediv_nonneg (by omega) (by omega)
    have hd2 : (l.length : Int) / v ≤ l.length := Int.ediv_le_self _ (by omega)
    rw [e] at H3
    have HE := Lib.hid e
    clear e
    go_enter Try.func5, Try.ntmps5
    go_wp2_with (first
      | (go_at_call 8; refine (alive_bw W _ (by assumption)).mono ?_; rintro e w' ⟨rfl, HB⟩)
      | (go_at_call 15; refine (H1 _ (by assumption)).mono ?_; rintro e w' ⟨rfl, HB⟩)
      | (go_at_call 16; refine (H2 _ (by assumption)).mono ?_; rintro e w' ⟨rfl, HB⟩)
      | (go_at_call 17; refine (H3 _).mono ?_; rintro e w' ⟨rfl, rfl⟩))
    go_ret
    exact ⟨rfl, by assumption⟩
end Go.Proofs.Ytdhooabamoehiaa
