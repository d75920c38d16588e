/- The contracts of the document's Size, First, Second, Writes and Register. -/
import Derived.Test.YtbnacdhhacafkaaDoorRows
import Derived.Test.YtbnacdhhacafkaaDoorNm
import Derived.WalkKit
import Derived.WalkLawsBesides
import Derived.Deep.QuietTactic
import Derived.BigQuiet
import Derived.WalkSmall
import Derived.WalkSpells
import Derived.Lib.Hide
import Derived.Below
import Derived.Deep.Cut
namespace Go.Proofs.YtbnacdhhacafkaaDoor
open Go.RowKit

def szL : List Int := [0, 0, 0, 0, 0, 0, 0, 0, 0, 0, 1, 2, 4, 8, 1, 2, 4, 1, 2, 4, 8, 0, 0, 0, 0, 0, 0, 0, 0, 0, 0, 0, 0, 0, 0, 0, 0, 0, 0, 0, 0, 0, 0, 0, 0, 0, 0, 0, 0, 0, 0, 0, 0, 4, 8, 4, 8, 4, 4, 4, 4, 4, 4, 4, 4, 4, 8, 8, 8, 8, 8, 8, 8, 8, 8]
def siz (op : Int) : Int := if 1 ≤ op ∧ op ≤ 75 then szL.getD (op.toNat - 1) 0 else 0
/-- The sort of an operation, by the bounds between sorts. -/
theorem srt_low {op : Int} (h : op < 11) : srt op < 4 := by
  have := srt_spec op
  omega
theorem srt_mid {op : Int} (h1 : 22 ≤ op) (h2 : op ≤ 53) : 5 < srt op ∧ srt op < 10 := by
  have := srt_spec op
  omega
theorem srt_high {op : Int} (h : 75 < op) : srt op = 0 := by
  have := srt_spec op
  omega

/-- The world is one behind W, with all that W had. -/
def BW (W w : World) : Prop := Below W.heap.size W w
theorem BW.on {W w w' : World} (h : BW W w) (hb : Below w.heap.size w w') : BW W w' := Below.trans h (hb.mono (Below.size h))
theorem BW.new {W w : World} (h : BW W w) (o : Obj) : BW W (w.alloc o) := Below.alloc h (Below.size h) o
theorem name_bw (W w : World) (h : BW W w) (op : Int) (h0 : -9223372036854775808 ≤ op) (h1 : op ≤ 9223372036854775807) :
    Calls Tryd.prog 18 #[.int .i64 op] w fun e w' => e = .returned (tx (nmO op)) ∧ BW W w' := (rname_any op h0 h1 w).mono fun _ _ ⟨he, hb⟩ => ⟨he, h.on hb⟩
theorem sort_bw (W w : World) (h : BW W w) (op : Int) (h0 : -9223372036854775808 ≤ op) (h1 : op ≤ 9223372036854775807) :
    Calls Tryd.prog 19 #[.int .i64 op] w fun e w' => e = .returned (.int .i64 (srt op)) ∧ BW W w' := (rsort_any op h0 h1 w).mono fun _ _ ⟨he, hb⟩ => ⟨he, h.on hb⟩

def regV (r : Int) : Int := if 0 ≤ r ∧ r ≤ 31 then r else 0
def secB (op : Int) : Bool := decide (srt op = 3 ∨ srt op = 5 ∨ srt op = 7 ∨ 11 ≤ srt op)
def wrB (op : Int) : Bool := decide (srt op ≠ 0 ∧ srt op ≠ 3 ∧ srt op ≠ 5 ∧ srt op ≠ 8 ∧ srt op ≠ 9)
def firB (op : Int) : Bool := decide (op = 4 ∨ (3 ≤ srt op ∧ srt op ≤ 7) ∨ 10 ≤ srt op)
theorem bool_of {c : Bool} {p : Prop} [Decidable p] (h : c = true ↔ p) : c = decide p := by rw [Bool.eq_iff_iff, h, decide_eq_true_eq]

theorem rsecond_any (op : Int) (h0 : -9223372036854775808 ≤ op) (h1 : op ≤ 9223372036854775807) (w : World) :
    Calls Tryd.prog 14 #[.int .i64 op] w fun e w' => e = .returned (.bool (secB op)) ∧ BW w w' := by
  have HS := sort_bw w w (Below.refl _ _) op h0 h1
  unfold secB
  generalize srt op = k at *
  go_enter Tryd.func14, Tryd.ntmps14
  go_wp2_with (first
    | (go_at_call 19; refine HS.mono ?_; rintro e w' ⟨rfl, hb⟩))
  all_goals go_ret
  all_goals refine ⟨ret_bool (bool_of ?_), hb⟩
  all_goals simp
  all_goals omega
theorem rwrites_any (op : Int) (h0 : -9223372036854775808 ≤ op) (h1 : op ≤ 9223372036854775807) (w : World) :
    Calls Tryd.prog 12 #[.int .i64 op] w fun e w' => e = .returned (.bool (wrB op)) ∧ BW w w' := by
  have HS := sort_bw w w (Below.refl _ _) op h0 h1
  unfold wrB
  generalize srt op = k at *
  go_enter Tryd.func12, Tryd.ntmps12
  go_wp2_with (first
    | (go_at_call 19; refine HS.mono ?_; rintro e w' ⟨rfl, hb⟩))
  all_goals go_ret
  all_goals refine ⟨ret_bool (bool_of ?_), hb⟩
  all_goals simp
  all_goals omega

theorem bs_list (l : List UInt8) : (bs l).toList = l := by
  unfold bs
  exact ByteArray.toList_mk l
theorem jalr_of (op : Int) : (bs (nmO op)).toList = [106, 97, 108, 114] ↔ op = 4 := by
  rw [bs_list]
  unfold nmO
  split
  · have hall : ∀ k : Fin 75, nmL.getD k.val [] = [106, 97, 108, 114] ↔ k.val = 3 := by decide
    have := hall ⟨op.toNat - 1, by omega⟩
    rw [this]
    show op.toNat - 1 = 3 ↔ _
    omega
  · constructor
    · intro h; cases h
    · intro h; omega
theorem rfirst_any (op : Int) (h0 : -9223372036854775808 ≤ op) (h1 : op ≤ 9223372036854775807) (w : World) :
    Calls Tryd.prog 13 #[.int .i64 op] w fun e w' => e = .returned (.bool (firB op)) ∧ BW w w' := by
  have HS := fun w1 h => sort_bw w w1 h op h0 h1
  have HN := fun w1 h => name_bw w w1 h op h0 h1
  have HB : BW w w := Below.refl _ _
  have HJ := Lib.hid (jalr_of op)
  have HF : Hid (∀ c : Bool, (c = true ↔ op = 4 ∨ (3 ≤ srt op ∧ srt op ≤ 7) ∨ 10 ≤ srt op) → c = firB op) := fun c h => bool_of h
  generalize srt op = k at *
  unfold tx at HN
  generalize bs (nmO op) = q at *
  by_cases h4 : op = 4
  · have hq := HJ.out.2 h4
    have H4 := Lib.hid h4
    clear h4
    go_enter Tryd.func13, Tryd.ntmps13
    go_wp2_with (first
      | (go_at_call 19; refine (HS _ (by assumption)).mono ?_; rintro e w' ⟨rfl, hb⟩)
      | (go_at_call 18; refine (HN _ (by assumption)).mono ?_; rintro e w' ⟨rfl, hb⟩))
    go_ret
    exact ⟨ret_bool (HF.out _ ⟨fun _ => .inl H4.out, fun _ => rfl⟩), by assumption⟩
  · have hq : ¬ q.toList = [106, 97, 108, 114] := fun h => h4 (HJ.out.1 h)
    have hk : k < 3 ∨ (3 ≤ k ∧ k ≤ 7) ∨ (7 < k ∧ k < 10) ∨ 10 ≤ k := by omega
    have H4 := Lib.hid h4
    clear h4
    rcases hk with hk | ⟨hk, hk2⟩ | ⟨hk, hk2⟩ | hk
    all_goals
      have HC : Hid (∀ c : Bool, (c = true ↔ ((3 ≤ k ∧ k ≤ 7) ∨ 10 ≤ k)) → c = firB op) := fun c h => HF.out c (by rw [h]; exact ⟨fun h => .inr h, fun h => h.resolve_left H4.out⟩)
      go_enter Tryd.func13, Tryd.ntmps13
      go_wp2_with (first
        | (go_at_call 19; refine (HS _ (by assumption)).mono ?_; rintro e w' ⟨rfl, hb⟩)
        | (go_at_call 18; refine (HN _ (by assumption)).mono ?_; rintro e w' ⟨rfl, hb⟩))
      all_goals go_ret
      all_goals refine ⟨ret_bool (HC.out _ ?_), by assumption⟩
      all_goals simp [hq]
      all_goals omega
end Go.Proofs.YtbnacdhhacafkaaDoor
