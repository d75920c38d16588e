/- The buffer's small functions: its entries, what a store may be, its block, what is sought. -/
import Derived.Test.YtcddgcchpmjdiaaVm
import Derived.WalkLawsBesides
import Derived.WalkSpells
import Derived.WalkSmall
import Derived.Lib.Hide
import Derived.Deep.LoopGhost
import Derived.Deep.QuietTactic
import Derived.BigQuiet
import Derived.StillTailTactics
import Derived.Deep.RegionHeld3
import Derived.RegionTactic
set_option maxRecDepth 100000
set_option linter.unusedVariables false
namespace Go.Proofs.Ytcddgcchpmjdiaa
open Go.RowKit

theorem all_nil (w : World) : Calls Try.prog 35 #[.pointer none] w fun e w' => e = .returned (.slice none 0 0) ∧ w = w' := by
  go_enter Try.func35, Try.ntmps35
  go_wp2
  go_ret
  exact ⟨rfl, rfl⟩
theorem all_g {g : Nat} {A : Option Addr} {n cap : Nat} {w : World} (h : w.cell? ⟨g, 0, none⟩ = some (.slice A n cap)) : Calls Try.prog 35 #[.pointer (some ⟨g, 0, none⟩)] w fun e w' => e = .returned (.slice A n cap) ∧ w = w' := by
  go_enter Try.func35, Try.ntmps35
  go_wp2
  go_ret
  exact ⟨rfl, rfl⟩
theorem may_any (x : Wr) (hb : x.addr ≤ 9223372036854775807) (w : World) : Calls Try.prog 45 #[.agg #[.int .i64 x.id, .int .i64 x.addr, .int .i64 x.size, .int .u64 x.data]] w fun e w' => e = .returned (.bool (mayW x)) ∧ BW w w' := by
  have hk := aligned_any x.addr x.size hb
  unfold mayW
  obtain ⟨i, a, z, d⟩ := x
  dsimp only at *
  clear hb
  have HK := Lib.hid hk; clear hk
  by_cases h0 : 0 ≤ i
  · have HD := Lib.hid (decide_eq_true h0)
    cases hal : alg a z with
    | false =>
      rw [hal] at HK
      clear hal
      go_enter Try.func45, Try.ntmps45
      go_wp2_with (go_at_call 53; refine (HK.out _).mono ?_; rintro e w1 ⟨rfl, rfl⟩)
      go_ret
      exact ⟨ret_bool (by rw [HD.out]; rfl), BW.new (Below.refl _ _) _⟩
    | true =>
      rw [hal] at HK
      clear hal
      go_enter Try.func45, Try.ntmps45
      go_wp2_with (go_at_call 53; refine (HK.out _).mono ?_; rintro e w1 ⟨rfl, rfl⟩)
      go_ret
      exact ⟨ret_bool (by rw [HD.out]; simp), BW.new (Below.refl _ _) _⟩
  · have HD := Lib.hid (decide_eq_false h0)
    go_enter Try.func45, Try.ntmps45
    go_wp2_with (go_at_call 53; refine (HK.out _).mono ?_; rintro e w1 ⟨rfl, rfl⟩)
    go_ret
    exact ⟨ret_bool (by rw [HD.out]; rfl), BW.new (Below.refl _ _) _⟩
theorem block_any (x : Wr) (h0 : 0 ≤ x.addr) (h1 : x.addr ≤ 1024) (w : World) : Calls Try.prog 47 #[.agg #[.int .i64 x.id, .int .i64 x.addr, .int .i64 x.size, .int .u64 x.data]] w fun e w' => e = .returned (.int .i64 (bkN x)) ∧ BW w w' := by
  unfold bkN
  obtain ⟨i, a, z, d⟩ := x
  dsimp only at *
  have hd : (a / 8 : Int) ≤ 128 ∧ 0 ≤ a / 8 := by omega
  have ht : Int.tdiv a 8 = a / 8 := Int.tdiv_eq_ediv_of_nonneg h0
  go_enter Try.func47, Try.ntmps47
  go_wp2
  go_ret
  refine ⟨?_, BW.new (Below.refl _ _) _⟩
  first | rfl | (rw [ht]) | (congr 2; rw [IntKind.wrap_i64, ht]; omega) | (simp [ht, IntKind.wrap_i64]; omega)
theorem cell_old {w : World} {B k : Nat} {v : Value} (h : w.cell? ⟨B, k, none⟩ = some v) (o : Obj) : (w.alloc o).cell? ⟨B, k, none⟩ = some v :=
  (Below.cell (BW.new (Below.refl _ w) o) (World.block_lt_of_cell? w _ h)).trans h
theorem findS_any (x : Wr) (hx : StOk x) {B : Nat} {q : Int} {w : World} (hB : w.cell? ⟨B, 0, none⟩ = some (.int .i64 q)) : Calls Try.prog 40 #[.agg #[.int .i64 x.id, .int .i64 x.addr, .int .i64 x.size, .int .u64 x.data], .pointer (some ⟨B, 0, none⟩)] w fun e w' => e = .returned (.bool (hasAt q x)) ∧ BW w w' := by
  obtain ⟨_, hz, ha0, _, ha1⟩ := mayW_out hx.may
  unfold hasAt
  obtain ⟨i, a, z, d⟩ := x
  dsimp only at *
  have hz' : 1 ≤ z ∧ z ≤ 8 := by omega
  clear hz hx
  have hB' := cell_old hB (.cells #[.int .i64 i, .int .i64 a, .int .i64 z, .int .u64 d] 34)
  by_cases h0 : a ≤ q
  · have HD := Lib.hid (decide_eq_true h0)
    go_enter Try.func40, Try.ntmps40
    go_wp2
    go_ret
    exact ⟨ret_bool (by rw [HD.out, Bool.true_and]), BW.new (Below.refl _ _) _⟩
  · have HD := Lib.hid (decide_eq_false h0)
    go_enter Try.func40, Try.ntmps40
    go_wp2
    go_ret
    exact ⟨ret_bool (by rw [HD.out, Bool.false_and]), BW.new (Below.refl _ _) _⟩
theorem overS_any (x : Wr) {B C : Nat} {a z : Int} {w : World} (hB : w.cell? ⟨B, 0, none⟩ = some (.int .i64 a)) (hC : w.cell? ⟨C, 0, none⟩ = some (.int .i64 z)) :
    Calls Try.prog 41 #[.agg #[.int .i64 x.id, .int .i64 x.addr, .int .i64 x.size, .int .u64 x.data], .pointer (some ⟨B, 0, none⟩), .pointer (some ⟨C, 0, none⟩)] w fun e w' => e = .returned (.bool (ovAt a z x)) ∧ BW w w' := by
  unfold ovAt
  have HO := Lib.hid (overlap_any x.addr x.size a z)
  obtain ⟨i, b, y, d⟩ := x
  dsimp only at *
  have hB' := cell_old hB (.cells #[.int .i64 i, .int .i64 b, .int .i64 y, .int .u64 d] 34)
  have hC' := cell_old hC (.cells #[.int .i64 i, .int .i64 b, .int .i64 y, .int .u64 d] 34)
  go_enter Try.func41, Try.ntmps41
  go_wp2_with (go_at_call 42; refine (HO.out _).mono ?_; rintro e w1 ⟨rfl, rfl⟩)
  go_ret
  exact ⟨rfl, BW.new (Below.refl _ _) _⟩
end Go.Proofs.Ytcddgcchpmjdiaa
