/- The program's spread, format by format (written by a program: one walk a format). -/
import Derived.Test.YtfgeojajbkggnaaDoorRows
import Derived.Test.YtfgeojajbkggnaaDoorWd
import Derived.Test.YtfgeojajbkggnaaDoorBk
import Derived.Test.YtfgeojajbkggnaaDoorFa
import Derived.WalkKit
import Derived.WalkLawsBesides
import Derived.Deep.QuietTactic
import Derived.BigQuiet
import Derived.WalkSmall
import Derived.WalkSpells
import Derived.Lib.Hide
import Derived.Below
import Derived.Deep.Cut
import Derived.Deep.WholeRow
import Derived.LoopTactic
namespace Go.Proofs.YtfgeojajbkggnaaDoor
open Go.RowKit
theorem below_drewN {B : Nat} {a w : World} (h : Below B a w) (n : Nat) : Below B a (w.drewN n) := ⟨h.os, h.tape, h.output, h.size, h.block⟩
theorem bcell {W w1 : World} (hb : Below W.heap.size W w1) : (∀ b o, b < W.heap.size → w1.cell? ⟨b, o, none⟩ = W.cell? ⟨b, o, none⟩) ∧ (∀ b o, b < W.heap.size → w1.frozen? ⟨b, o, none⟩ = W.frozen? ⟨b, o, none⟩) :=
  ⟨fun b o h => hb.cell (p := ⟨b, o, none⟩) h, fun b o h => hb.frozen (p := ⟨b, o, none⟩) h⟩
theorem held_place {w w2 w' : World} {x y z : Value} {t : TypeId} (hb : Below w.heap.size w w2) (hb2 : Below (w2.alloc (.cells #[x, y, z] t)).heap.size (w2.alloc (.cells #[x, y, z] t)) w')
    (hc : ∀ b o, b < (w2.alloc (.cells #[x, y, z] t)).heap.size → w'.cell? ⟨b, o, none⟩ = (w2.alloc (.cells #[x, y, z] t)).cell? ⟨b, o, none⟩) :
    w'.cell? ⟨w2.heap.size, 0, none⟩ = some x ∧ w'.cell? ⟨w2.heap.size, 1, none⟩ = some y ∧ w'.cell? ⟨w2.heap.size, 2, none⟩ = some z ∧ Below w.heap.size w w' := by
  have hl : w2.heap.size < (w2.alloc (.cells #[x, y, z] t)).heap.size := by simp
  have hn : ∀ o, (w2.alloc (.cells #[x, y, z] t)).cell? ⟨w2.heap.size, o, none⟩ = #[x, y, z][o]? := fun o => cell_of_row _ _ o #[x, y, z] t (0, 0) (heap_alloc_last w2 _)
  refine ⟨?_, ?_, ?_, (hb.alloc hb.size _).trans (hb2.mono (by have := hb.size; simp; omega))⟩
  · rw [hc _ _ hl, hn]; rfl
  · rw [hc _ _ hl, hn]; rfl
  · rw [hc _ _ hl, hn]; rfl
theorem u32_or_free {a p : Int} (lo n : Nat) (hn : lo + n ≤ 32) (a0 : 0 ≤ a) (a1 : a < 4294967296) (h : a / 2 ^ lo % 2 ^ n = 0) (p0 : 0 ≤ p) (p1 : p < 2 ^ n) : bits .or .u32 a (p * 2 ^ lo) = a + p * 2 ^ lo := by
  obtain ⟨A, rfl⟩ := Int.eq_ofNat_of_zero_le a0
  obtain ⟨B, rfl⟩ := Int.eq_ofNat_of_zero_le p0
  have hA : A < 4294967296 := by omega
  have hB : B < 2 ^ n := by exact_mod_cast p1
  have hN : A / 2 ^ lo % 2 ^ n = 0 := by exact_mod_cast h
  have hBl : B * 2 ^ lo < 4294967296 := by
    have h1 : B * 2 ^ lo < 2 ^ n * 2 ^ lo := Nat.mul_lt_mul_of_pos_right hB (Nat.pow_pos (by decide))
    have h2 : 2 ^ n * 2 ^ lo ≤ 2 ^ 32 := by rw [← Nat.pow_add]; exact Nat.pow_le_pow_right (by decide) (by omega)
    omega
  have e : ((B : Int) * 2 ^ lo) = ((B * 2 ^ lo : Nat) : Int) := by simp
  rw [e, u32_or_nat A _ hA hBl, or_disj hA hBl (nor_free lo n hN hB), Int.natCast_add]
set_option maxRecDepth 100000 in
theorem spread1 (h : Int) (w : World) (h0 : 0 ≤ h) (h1 : h < 4294967296) (hT : Tab w) :
    Calls Tryd.prog 15 #[.int .i64 1, .int .u32 h] w fun e w' => e = .returned (.int .u32 (putK 1 h 32)) ∧ Below w.heap.size w w' := by
  have c0 := hT 12 (by decide)
  have c1 := hT 13 (by decide)
  have c2 := hT 14 (by decide)
  have c3 := hT 15 (by decide)
  have c4 := hT 16 (by decide)
  have c5 := hT 17 (by decide)
  have c6 := hT 18 (by decide)
  have c7 := hT 19 (by decide)
  have c8 := hT 20 (by decide)
  have c9 := hT 21 (by decide)
  have c10 := hT 22 (by decide)
  have c11 := hT 23 (by decide)
  simp only [tabL, List.getD_cons_succ, List.getD_cons_zero] at c0 c1 c2 c3 c4 c5 c6 c7 c8 c9 c10 c11
  have HE := Lib.hid (put1 h0)
  clear hT
  have H1 := Lib.hid h1
  clear h1
  go_enter Tryd.func15, Tryd.ntmps15
  go_wp2
  go_step3
  go_wp2_with (first
    | (go_at_call 14; refine (known_yes _ (by omega) _).mono ?_; rintro e w' ⟨rfl, rfl⟩))
  go_step3
  go_wp2_with fail
  clear c0 c1 c2 c3 c4 c5 c6 c7 c8 c9 c10 c11
  go_loopg [5, 14] 1 (fun gg v5 v14 wr => Below w.heap.size w wr ∧ ∃ k A : Int, v14 = .int .i64 k ∧ v5 = .int .u32 A ∧ k + gg = 1 ∧ 0 ≤ k ∧ 0 ≤ A ∧ A < 4294967296 ∧ ((k = 0 ∧ Hid (A = 0)) ∨ (k = 1 ∧ Hid (A = h % 4096 * 1048576))))
  case atStart => exact ⟨Below.refl _ _, 0, 0, rfl, rfl, by omega, by omega, by omega, by omega, .inl ⟨rfl, (show Hid _ from rfl)⟩⟩
  case round =>
    obtain ⟨hb, k, A, rfl, rfl, hk, hk0, A0, A1, hA⟩ := hrel
    obtain ⟨w2, rfl⟩ : ∃ w2 : World, w2 = wr := ⟨_, rfl⟩
    rcases hA with ⟨rfl, HA⟩ | ⟨rfl, HA⟩
    · obtain ⟨P, hP⟩ : ∃ P, h % 4096 = P := ⟨_, rfl⟩
      obtain ⟨P0, P1⟩ : 0 ≤ P ∧ P < 4096 := by omega
      have hF := field_any h 11 0 h0 H1.out
      rw [fieldOf_yes (by decide)] at hF
      have eF : fld h (11 : Int).toNat (0 : Int).toNat = P := by rw [← hP]; unfold fld; simp
      rw [eF] at hF
      have ha : A / 1048576 % 4096 = 0 := by
        rw [HA.out]
        clear hF hP P0 P1 eF hk
        omega
      have hor : bits .or .u32 A (P * 1048576) = A + P * 1048576 := u32_or_free 20 12 (by decide) A0 A1 ha P0 P1
      have hA2 : A + P * 1048576 < 4294967296 := by have := HA.out; omega
      have HP := Lib.hid hP
      clear hP eF ha
      have ix : ∀ w : World, (Instr.index 41 (.agg #[.int .i64 31, .int .i64 20, .int .i64 0, .int .i64 0, .int .i64 0, .int .i64 0, .int .i64 0, .int .i64 0, .int .i64 0, .int .i64 0, .int .i64 0, .int .i64 0]) (.int .i64 0)).run Tryd.prog w = .ok (.agg #[.int .i64 31, .int .i64 20, .int .i64 0]) w := fun _ => by kernel_rfl
      go_wp2_with (first
        | (go_at_call 18; refine (none_c _ _ _ _).mono ?_; rintro e w' ⟨rfl, hb2⟩; obtain ⟨hc, hf⟩ := bcell hb2))
      obtain ⟨q0, q1, q2, HB⟩ := held_place hb hb2 hc
      clear hc hf hb2 hb ix
      generalize w2.heap.size = g at *
      go_quiet (first | (go_at_call 17; refine Calls.quiet_of_same ((hF _).mono (fun _ _ ⟨he, hw⟩ => ⟨he, hw.symm⟩))))
      go_wp2_with fail
      go_roundg (1 - (0 + 1))
      case measure => omega
      case rel =>
        refine ⟨below_drewN HB _, 1, A + P * 1048576, rfl, rfl, by omega, by omega, by omega, hA2, .inr (⟨rfl, (show Hid _ from ?_)⟩)⟩
        rw [HA.out, ← HP.out, Int.zero_add]
        exact Lib.hid rfl
    · have ix : ∀ w : World, (Instr.index 41 (.agg #[.int .i64 31, .int .i64 20, .int .i64 0, .int .i64 0, .int .i64 0, .int .i64 0, .int .i64 0, .int .i64 0, .int .i64 0, .int .i64 0, .int .i64 0, .int .i64 0]) (.int .i64 1)).run Tryd.prog w = .ok (.agg #[.int .i64 0, .int .i64 0, .int .i64 0]) w := fun _ => by kernel_rfl
      go_wp2_with (first
        | (go_at_call 18; refine (none_c _ _ _ _).mono ?_; rintro e w' ⟨rfl, hb2⟩; obtain ⟨hc, hf⟩ := bcell hb2))
      obtain ⟨q0, q1, q2, HB⟩ := held_place hb hb2 hc
      try rw [Exit.noGoto_ret]
      go_ret
      exact ⟨ret_int (by rw [HE.out, HA.out] <;> omega), HB⟩

set_option maxRecDepth 100000 in
theorem spread2 (h : Int) (w : World) (h0 : 0 ≤ h) (h1 : h < 4294967296) (hT : Tab w) :
    Calls Tryd.prog 15 #[.int .i64 2, .int .u32 h] w fun e w' => e = .returned (.int .u32 (putK 2 h 32)) ∧ Below w.heap.size w w' := by
  have c0 := hT 24 (by decide)
  have c1 := hT 25 (by decide)
  have c2 := hT 26 (by decide)
  have c3 := hT 27 (by decide)
  have c4 := hT 28 (by decide)
  have c5 := hT 29 (by decide)
  have c6 := hT 30 (by decide)
  have c7 := hT 31 (by decide)
  have c8 := hT 32 (by decide)
  have c9 := hT 33 (by decide)
  have c10 := hT 34 (by decide)
  have c11 := hT 35 (by decide)
  simp only [tabL, List.getD_cons_succ, List.getD_cons_zero] at c0 c1 c2 c3 c4 c5 c6 c7 c8 c9 c10 c11
  have HE := Lib.hid (put2 h0)
  clear hT
  have H1 := Lib.hid h1
  clear h1
  go_enter Tryd.func15, Tryd.ntmps15
  go_wp2
  go_step3
  go_wp2_with (first
    | (go_at_call 14; refine (known_yes _ (by omega) _).mono ?_; rintro e w' ⟨rfl, rfl⟩))
  go_step3
  go_wp2_with fail
  clear c0 c1 c2 c3 c4 c5 c6 c7 c8 c9 c10 c11
  go_loopg [5, 14] 2 (fun gg v5 v14 wr => Below w.heap.size w wr ∧ ∃ k A : Int, v14 = .int .i64 k ∧ v5 = .int .u32 A ∧ k + gg = 2 ∧ 0 ≤ k ∧ 0 ≤ A ∧ A < 4294967296 ∧ ((k = 0 ∧ Hid (A = 0)) ∨ (k = 1 ∧ Hid (A = h / 32 % 128 * 33554432)) ∨ (k = 2 ∧ Hid (A = h / 32 % 128 * 33554432 + h % 32 * 128))))
  case atStart => exact ⟨Below.refl _ _, 0, 0, rfl, rfl, by omega, by omega, by omega, by omega, .inl ⟨rfl, (show Hid _ from rfl)⟩⟩
  case round =>
    obtain ⟨hb, k, A, rfl, rfl, hk, hk0, A0, A1, hA⟩ := hrel
    obtain ⟨w2, rfl⟩ : ∃ w2 : World, w2 = wr := ⟨_, rfl⟩
    rcases hA with ⟨rfl, HA⟩ | ⟨rfl, HA⟩ | ⟨rfl, HA⟩
    · obtain ⟨P, hP⟩ : ∃ P, h / 32 % 128 = P := ⟨_, rfl⟩
      obtain ⟨P0, P1⟩ : 0 ≤ P ∧ P < 128 := by omega
      have hF := field_any h 11 5 h0 H1.out
      rw [fieldOf_yes (by decide)] at hF
      have eF : fld h (11 : Int).toNat (5 : Int).toNat = P := by rw [← hP]; unfold fld; simp
      rw [eF] at hF
      have ha : A / 33554432 % 128 = 0 := by
        rw [HA.out]
        clear hF hP P0 P1 eF hk
        omega
      have hor : bits .or .u32 A (P * 33554432) = A + P * 33554432 := u32_or_free 25 7 (by decide) A0 A1 ha P0 P1
      have hA2 : A + P * 33554432 < 4294967296 := by have := HA.out; omega
      have HP := Lib.hid hP
      clear hP eF ha
      have ix : ∀ w : World, (Instr.index 41 (.agg #[.int .i64 31, .int .i64 25, .int .i64 5, .int .i64 11, .int .i64 7, .int .i64 0, .int .i64 0, .int .i64 0, .int .i64 0, .int .i64 0, .int .i64 0, .int .i64 0]) (.int .i64 0)).run Tryd.prog w = .ok (.agg #[.int .i64 31, .int .i64 25, .int .i64 5]) w := fun _ => by kernel_rfl
      go_wp2_with (first
        | (go_at_call 18; refine (none_c _ _ _ _).mono ?_; rintro e w' ⟨rfl, hb2⟩; obtain ⟨hc, hf⟩ := bcell hb2))
      obtain ⟨q0, q1, q2, HB⟩ := held_place hb hb2 hc
      clear hc hf hb2 hb ix
      generalize w2.heap.size = g at *
      go_quiet (first | (go_at_call 17; refine Calls.quiet_of_same ((hF _).mono (fun _ _ ⟨he, hw⟩ => ⟨he, hw.symm⟩))))
      go_wp2_with fail
      go_roundg (2 - (0 + 1))
      case measure => omega
      case rel =>
        refine ⟨below_drewN HB _, 1, A + P * 33554432, rfl, rfl, by omega, by omega, by omega, hA2, .inr (.inl ⟨rfl, (show Hid _ from ?_)⟩)⟩
        rw [HA.out, ← HP.out, Int.zero_add]
        exact Lib.hid rfl
    · obtain ⟨P, hP⟩ : ∃ P, h % 32 = P := ⟨_, rfl⟩
      obtain ⟨P0, P1⟩ : 0 ≤ P ∧ P < 32 := by omega
      have hF := field_any h 4 0 h0 H1.out
      rw [fieldOf_yes (by decide)] at hF
      have eF : fld h (4 : Int).toNat (0 : Int).toNat = P := by rw [← hP]; unfold fld; simp
      rw [eF] at hF
      have ha : A / 128 % 32 = 0 := by
        rw [HA.out]
        obtain ⟨x0, e0⟩ : ∃ x, h / 32 % 128 = x := ⟨_, rfl⟩
        have b0 : 0 ≤ x0 ∧ x0 < 128 := by omega
        rw [e0]
        clear e0
        clear hF hP P0 P1 eF hk
        omega
      have hor : bits .or .u32 A (P * 128) = A + P * 128 := u32_or_free 7 5 (by decide) A0 A1 ha P0 P1
      have hA2 : A + P * 128 < 4294967296 := by have := HA.out; omega
      have HP := Lib.hid hP
      clear hP eF ha
      have ix : ∀ w : World, (Instr.index 41 (.agg #[.int .i64 31, .int .i64 25, .int .i64 5, .int .i64 11, .int .i64 7, .int .i64 0, .int .i64 0, .int .i64 0, .int .i64 0, .int .i64 0, .int .i64 0, .int .i64 0]) (.int .i64 1)).run Tryd.prog w = .ok (.agg #[.int .i64 11, .int .i64 7, .int .i64 0]) w := fun _ => by kernel_rfl
      go_wp2_with (first
        | (go_at_call 18; refine (none_c _ _ _ _).mono ?_; rintro e w' ⟨rfl, hb2⟩; obtain ⟨hc, hf⟩ := bcell hb2))
      obtain ⟨q0, q1, q2, HB⟩ := held_place hb hb2 hc
      clear hc hf hb2 hb ix
      generalize w2.heap.size = g at *
      go_quiet (first | (go_at_call 17; refine Calls.quiet_of_same ((hF _).mono (fun _ _ ⟨he, hw⟩ => ⟨he, hw.symm⟩))))
      go_wp2_with fail
      go_roundg (2 - (1 + 1))
      case measure => omega
      case rel =>
        refine ⟨below_drewN HB _, 2, A + P * 128, rfl, rfl, by omega, by omega, by omega, hA2, .inr (.inr (⟨rfl, (show Hid _ from ?_)⟩))⟩
        rw [HA.out, ← HP.out]
        exact Lib.hid rfl
    · have ix : ∀ w : World, (Instr.index 41 (.agg #[.int .i64 31, .int .i64 25, .int .i64 5, .int .i64 11, .int .i64 7, .int .i64 0, .int .i64 0, .int .i64 0, .int .i64 0, .int .i64 0, .int .i64 0, .int .i64 0]) (.int .i64 2)).run Tryd.prog w = .ok (.agg #[.int .i64 0, .int .i64 0, .int .i64 0]) w := fun _ => by kernel_rfl
      go_wp2_with (first
        | (go_at_call 18; refine (none_c _ _ _ _).mono ?_; rintro e w' ⟨rfl, hb2⟩; obtain ⟨hc, hf⟩ := bcell hb2))
      obtain ⟨q0, q1, q2, HB⟩ := held_place hb hb2 hc
      try rw [Exit.noGoto_ret]
      go_ret
      exact ⟨ret_int (by rw [HE.out, HA.out] <;> omega), HB⟩

set_option maxRecDepth 100000 in
theorem spread3 (h : Int) (w : World) (h0 : 0 ≤ h) (h1 : h < 4294967296) (hT : Tab w) :
    Calls Tryd.prog 15 #[.int .i64 3, .int .u32 h] w fun e w' => e = .returned (.int .u32 (putK 3 h 32)) ∧ Below w.heap.size w w' := by
  have c0 := hT 36 (by decide)
  have c1 := hT 37 (by decide)
  have c2 := hT 38 (by decide)
  have c3 := hT 39 (by decide)
  have c4 := hT 40 (by decide)
  have c5 := hT 41 (by decide)
  have c6 := hT 42 (by decide)
  have c7 := hT 43 (by decide)
  have c8 := hT 44 (by decide)
  have c9 := hT 45 (by decide)
  have c10 := hT 46 (by decide)
  have c11 := hT 47 (by decide)
  simp only [tabL, List.getD_cons_succ, List.getD_cons_zero] at c0 c1 c2 c3 c4 c5 c6 c7 c8 c9 c10 c11
  have HE := Lib.hid (put3 h0)
  clear hT
  have H1 := Lib.hid h1
  clear h1
  go_enter Tryd.func15, Tryd.ntmps15
  go_wp2
  go_step3
  go_wp2_with (first
    | (go_at_call 14; refine (known_yes _ (by omega) _).mono ?_; rintro e w' ⟨rfl, rfl⟩))
  go_step3
  go_wp2_with fail
  clear c0 c1 c2 c3 c4 c5 c6 c7 c8 c9 c10 c11
  go_loopg [5, 14] 4 (fun gg v5 v14 wr => Below w.heap.size w wr ∧ ∃ k A : Int, v14 = .int .i64 k ∧ v5 = .int .u32 A ∧ k + gg = 4 ∧ 0 ≤ k ∧ 0 ≤ A ∧ A < 4294967296 ∧ ((k = 0 ∧ Hid (A = 0)) ∨ (k = 1 ∧ Hid (A = h / 4096 % 2 * 2147483648)) ∨ (k = 2 ∧ Hid (A = h / 4096 % 2 * 2147483648 + h / 2048 % 2 * 128)) ∨ (k = 3 ∧ Hid (A = h / 4096 % 2 * 2147483648 + h / 2048 % 2 * 128 + h / 32 % 64 * 33554432)) ∨ (k = 4 ∧ Hid (A = h / 4096 % 2 * 2147483648 + h / 2048 % 2 * 128 + h / 32 % 64 * 33554432 + h / 2 % 16 * 256))))
  case atStart => exact ⟨Below.refl _ _, 0, 0, rfl, rfl, by omega, by omega, by omega, by omega, .inl ⟨rfl, (show Hid _ from rfl)⟩⟩
  case round =>
    obtain ⟨hb, k, A, rfl, rfl, hk, hk0, A0, A1, hA⟩ := hrel
    obtain ⟨w2, rfl⟩ : ∃ w2 : World, w2 = wr := ⟨_, rfl⟩
    rcases hA with ⟨rfl, HA⟩ | ⟨rfl, HA⟩ | ⟨rfl, HA⟩ | ⟨rfl, HA⟩ | ⟨rfl, HA⟩
    · obtain ⟨P, hP⟩ : ∃ P, h / 4096 % 2 = P := ⟨_, rfl⟩
      obtain ⟨P0, P1⟩ : 0 ≤ P ∧ P < 2 := by omega
      have hF := field_any h 12 12 h0 H1.out
      rw [fieldOf_yes (by decide)] at hF
      have eF : fld h (12 : Int).toNat (12 : Int).toNat = P := by rw [← hP]; unfold fld; simp
      rw [eF] at hF
      have ha : A / 2147483648 % 2 = 0 := by
        rw [HA.out]
        clear hF hP P0 P1 eF hk
        omega
      have hor : bits .or .u32 A (P * 2147483648) = A + P * 2147483648 := u32_or_free 31 1 (by decide) A0 A1 ha P0 P1
      have hA2 : A + P * 2147483648 < 4294967296 := by have := HA.out; omega
      have HP := Lib.hid hP
      clear hP eF ha
      have ix : ∀ w : World, (Instr.index 41 (.agg #[.int .i64 31, .int .i64 31, .int .i64 12, .int .i64 7, .int .i64 7, .int .i64 11, .int .i64 30, .int .i64 25, .int .i64 5, .int .i64 11, .int .i64 8, .int .i64 1]) (.int .i64 0)).run Tryd.prog w = .ok (.agg #[.int .i64 31, .int .i64 31, .int .i64 12]) w := fun _ => by kernel_rfl
      go_wp2_with (first
        | (go_at_call 18; refine (none_c _ _ _ _).mono ?_; rintro e w' ⟨rfl, hb2⟩; obtain ⟨hc, hf⟩ := bcell hb2))
      obtain ⟨q0, q1, q2, HB⟩ := held_place hb hb2 hc
      clear hc hf hb2 hb ix
      generalize w2.heap.size = g at *
      go_quiet (first | (go_at_call 17; refine Calls.quiet_of_same ((hF _).mono (fun _ _ ⟨he, hw⟩ => ⟨he, hw.symm⟩))))
      go_wp2_with fail
      go_roundg (4 - (0 + 1))
      case measure => omega
      case rel =>
        refine ⟨below_drewN HB _, 1, A + P * 2147483648, rfl, rfl, by omega, by omega, by omega, hA2, .inr (.inl ⟨rfl, (show Hid _ from ?_)⟩)⟩
        rw [HA.out, ← HP.out, Int.zero_add]
        exact Lib.hid rfl
    · obtain ⟨P, hP⟩ : ∃ P, h / 2048 % 2 = P := ⟨_, rfl⟩
      obtain ⟨P0, P1⟩ : 0 ≤ P ∧ P < 2 := by omega
      have hF := field_any h 11 11 h0 H1.out
      rw [fieldOf_yes (by decide)] at hF
      have eF : fld h (11 : Int).toNat (11 : Int).toNat = P := by rw [← hP]; unfold fld; simp
      rw [eF] at hF
      have ha : A / 128 % 2 = 0 := by
        rw [HA.out]
        obtain ⟨x0, e0⟩ : ∃ x, h / 4096 % 2 = x := ⟨_, rfl⟩
        have b0 : 0 ≤ x0 ∧ x0 < 2 := by omega
        rw [e0]
        clear e0
        clear hF hP P0 P1 eF hk
        omega
      have hor : bits .or .u32 A (P * 128) = A + P * 128 := u32_or_free 7 1 (by decide) A0 A1 ha P0 P1
      have hA2 : A + P * 128 < 4294967296 := by have := HA.out; omega
      have HP := Lib.hid hP
      clear hP eF ha
      have ix : ∀ w : World, (Instr.index 41 (.agg #[.int .i64 31, .int .i64 31, .int .i64 12, .int .i64 7, .int .i64 7, .int .i64 11, .int .i64 30, .int .i64 25, .int .i64 5, .int .i64 11, .int .i64 8, .int .i64 1]) (.int .i64 1)).run Tryd.prog w = .ok (.agg #[.int .i64 7, .int .i64 7, .int .i64 11]) w := fun _ => by kernel_rfl
      go_wp2_with (first
        | (go_at_call 18; refine (none_c _ _ _ _).mono ?_; rintro e w' ⟨rfl, hb2⟩; obtain ⟨hc, hf⟩ := bcell hb2))
      obtain ⟨q0, q1, q2, HB⟩ := held_place hb hb2 hc
      clear hc hf hb2 hb ix
      generalize w2.heap.size = g at *
      go_quiet (first | (go_at_call 17; refine Calls.quiet_of_same ((hF _).mono (fun _ _ ⟨he, hw⟩ => ⟨he, hw.symm⟩))))
      go_wp2_with fail
      go_roundg (4 - (1 + 1))
      case measure => omega
      case rel =>
        refine ⟨below_drewN HB _, 2, A + P * 128, rfl, rfl, by omega, by omega, by omega, hA2, .inr (.inr (.inl ⟨rfl, (show Hid _ from ?_)⟩))⟩
        rw [HA.out, ← HP.out]
        exact Lib.hid rfl
    · obtain ⟨P, hP⟩ : ∃ P, h / 32 % 64 = P := ⟨_, rfl⟩
      obtain ⟨P0, P1⟩ : 0 ≤ P ∧ P < 64 := by omega
      have hF := field_any h 10 5 h0 H1.out
      rw [fieldOf_yes (by decide)] at hF
      have eF : fld h (10 : Int).toNat (5 : Int).toNat = P := by rw [← hP]; unfold fld; simp
      rw [eF] at hF
      have ha : A / 33554432 % 64 = 0 := by
        rw [HA.out]
        obtain ⟨x0, e0⟩ : ∃ x, h / 4096 % 2 = x := ⟨_, rfl⟩
        have b0 : 0 ≤ x0 ∧ x0 < 2 := by omega
        obtain ⟨x1, e1⟩ : ∃ x, h / 2048 % 2 = x := ⟨_, rfl⟩
        have b1 : 0 ≤ x1 ∧ x1 < 2 := by omega
        rw [e0]
        rw [e1]
        clear e0 e1
        clear hF hP P0 P1 eF hk
        omega
      have hor : bits .or .u32 A (P * 33554432) = A + P * 33554432 := u32_or_free 25 6 (by decide) A0 A1 ha P0 P1
      have hA2 : A + P * 33554432 < 4294967296 := by have := HA.out; omega
      have HP := Lib.hid hP
      clear hP eF ha
      have ix : ∀ w : World, (Instr.index 41 (.agg #[.int .i64 31, .int .i64 31, .int .i64 12, .int .i64 7, .int .i64 7, .int .i64 11, .int .i64 30, .int .i64 25, .int .i64 5, .int .i64 11, .int .i64 8, .int .i64 1]) (.int .i64 2)).run Tryd.prog w = .ok (.agg #[.int .i64 30, .int .i64 25, .int .i64 5]) w := fun _ => by kernel_rfl
      go_wp2_with (first
        | (go_at_call 18; refine (none_c _ _ _ _).mono ?_; rintro e w' ⟨rfl, hb2⟩; obtain ⟨hc, hf⟩ := bcell hb2))
      obtain ⟨q0, q1, q2, HB⟩ := held_place hb hb2 hc
      clear hc hf hb2 hb ix
      generalize w2.heap.size = g at *
      go_quiet (first | (go_at_call 17; refine Calls.quiet_of_same ((hF _).mono (fun _ _ ⟨he, hw⟩ => ⟨he, hw.symm⟩))))
      go_wp2_with fail
      go_roundg (4 - (2 + 1))
      case measure => omega
      case rel =>
        refine ⟨below_drewN HB _, 3, A + P * 33554432, rfl, rfl, by omega, by omega, by omega, hA2, .inr (.inr (.inr (.inl ⟨rfl, (show Hid _ from ?_)⟩)))⟩
        rw [HA.out, ← HP.out]
        exact Lib.hid rfl
    · obtain ⟨P, hP⟩ : ∃ P, h / 2 % 16 = P := ⟨_, rfl⟩
      obtain ⟨P0, P1⟩ : 0 ≤ P ∧ P < 16 := by omega
      have hF := field_any h 4 1 h0 H1.out
      rw [fieldOf_yes (by decide)] at hF
      have eF : fld h (4 : Int).toNat (1 : Int).toNat = P := by rw [← hP]; unfold fld; simp
      rw [eF] at hF
      have ha : A / 256 % 16 = 0 := by
        rw [HA.out]
        obtain ⟨x0, e0⟩ : ∃ x, h / 4096 % 2 = x := ⟨_, rfl⟩
        have b0 : 0 ≤ x0 ∧ x0 < 2 := by omega
        obtain ⟨x1, e1⟩ : ∃ x, h / 2048 % 2 = x := ⟨_, rfl⟩
        have b1 : 0 ≤ x1 ∧ x1 < 2 := by omega
        obtain ⟨x2, e2⟩ : ∃ x, h / 32 % 64 = x := ⟨_, rfl⟩
        have b2 : 0 ≤ x2 ∧ x2 < 64 := by omega
        rw [e0]
        rw [e1]
        rw [e2]
        clear e0 e1 e2
        clear hF hP P0 P1 eF hk
        omega
      have hor : bits .or .u32 A (P * 256) = A + P * 256 := u32_or_free 8 4 (by decide) A0 A1 ha P0 P1
      have hA2 : A + P * 256 < 4294967296 := by have := HA.out; omega
      have HP := Lib.hid hP
      clear hP eF ha
      have ix : ∀ w : World, (Instr.index 41 (.agg #[.int .i64 31, .int .i64 31, .int .i64 12, .int .i64 7, .int .i64 7, .int .i64 11, .int .i64 30, .int .i64 25, .int .i64 5, .int .i64 11, .int .i64 8, .int .i64 1]) (.int .i64 3)).run Tryd.prog w = .ok (.agg #[.int .i64 11, .int .i64 8, .int .i64 1]) w := fun _ => by kernel_rfl
      go_wp2_with (first
        | (go_at_call 18; refine (none_c _ _ _ _).mono ?_; rintro e w' ⟨rfl, hb2⟩; obtain ⟨hc, hf⟩ := bcell hb2))
      obtain ⟨q0, q1, q2, HB⟩ := held_place hb hb2 hc
      clear hc hf hb2 hb ix
      generalize w2.heap.size = g at *
      go_quiet (first | (go_at_call 17; refine Calls.quiet_of_same ((hF _).mono (fun _ _ ⟨he, hw⟩ => ⟨he, hw.symm⟩))))
      go_wp2_with fail
      go_roundg (4 - (3 + 1))
      case measure => omega
      case rel =>
        refine ⟨below_drewN HB _, 4, A + P * 256, rfl, rfl, by omega, by omega, by omega, hA2, .inr (.inr (.inr (.inr (⟨rfl, (show Hid _ from ?_)⟩))))⟩
        rw [HA.out, ← HP.out]
        exact Lib.hid rfl
    · go_wp2_with fail
      try rw [Exit.noGoto_ret]
      go_ret
      exact ⟨ret_int (by rw [HE.out, HA.out] <;> omega), hb⟩

set_option maxRecDepth 100000 in
theorem spread4 (h : Int) (w : World) (h0 : 0 ≤ h) (h1 : h < 4294967296) (hT : Tab w) :
    Calls Tryd.prog 15 #[.int .i64 4, .int .u32 h] w fun e w' => e = .returned (.int .u32 (putK 4 h 32)) ∧ Below w.heap.size w w' := by
  have c0 := hT 48 (by decide)
  have c1 := hT 49 (by decide)
  have c2 := hT 50 (by decide)
  have c3 := hT 51 (by decide)
  have c4 := hT 52 (by decide)
  have c5 := hT 53 (by decide)
  have c6 := hT 54 (by decide)
  have c7 := hT 55 (by decide)
  have c8 := hT 56 (by decide)
  have c9 := hT 57 (by decide)
  have c10 := hT 58 (by decide)
  have c11 := hT 59 (by decide)
  simp only [tabL, List.getD_cons_succ, List.getD_cons_zero] at c0 c1 c2 c3 c4 c5 c6 c7 c8 c9 c10 c11
  have HE := Lib.hid (put4 h0)
  clear hT
  have H1 := Lib.hid h1
  clear h1
  go_enter Tryd.func15, Tryd.ntmps15
  go_wp2
  go_step3
  go_wp2_with (first
    | (go_at_call 14; refine (known_yes _ (by omega) _).mono ?_; rintro e w' ⟨rfl, rfl⟩))
  go_step3
  go_wp2_with fail
  clear c0 c1 c2 c3 c4 c5 c6 c7 c8 c9 c10 c11
  go_loopg [5, 14] 1 (fun gg v5 v14 wr => Below w.heap.size w wr ∧ ∃ k A : Int, v14 = .int .i64 k ∧ v5 = .int .u32 A ∧ k + gg = 1 ∧ 0 ≤ k ∧ 0 ≤ A ∧ A < 4294967296 ∧ ((k = 0 ∧ Hid (A = 0)) ∨ (k = 1 ∧ Hid (A = h / 4096 % 1048576 * 4096))))
  case atStart => exact ⟨Below.refl _ _, 0, 0, rfl, rfl, by omega, by omega, by omega, by omega, .inl ⟨rfl, (show Hid _ from rfl)⟩⟩
  case round =>
    obtain ⟨hb, k, A, rfl, rfl, hk, hk0, A0, A1, hA⟩ := hrel
    obtain ⟨w2, rfl⟩ : ∃ w2 : World, w2 = wr := ⟨_, rfl⟩
    rcases hA with ⟨rfl, HA⟩ | ⟨rfl, HA⟩
    · obtain ⟨P, hP⟩ : ∃ P, h / 4096 % 1048576 = P := ⟨_, rfl⟩
      obtain ⟨P0, P1⟩ : 0 ≤ P ∧ P < 1048576 := by omega
      have hF := field_any h 31 12 h0 H1.out
      rw [fieldOf_yes (by decide)] at hF
      have eF : fld h (31 : Int).toNat (12 : Int).toNat = P := by rw [← hP]; unfold fld; simp
      rw [eF] at hF
      have ha : A / 4096 % 1048576 = 0 := by
        rw [HA.out]
        clear hF hP P0 P1 eF hk
        omega
      have hor : bits .or .u32 A (P * 4096) = A + P * 4096 := u32_or_free 12 20 (by decide) A0 A1 ha P0 P1
      have hA2 : A + P * 4096 < 4294967296 := by have := HA.out; omega
      have HP := Lib.hid hP
      clear hP eF ha
      have ix : ∀ w : World, (Instr.index 41 (.agg #[.int .i64 31, .int .i64 12, .int .i64 12, .int .i64 0, .int .i64 0, .int .i64 0, .int .i64 0, .int .i64 0, .int .i64 0, .int .i64 0, .int .i64 0, .int .i64 0]) (.int .i64 0)).run Tryd.prog w = .ok (.agg #[.int .i64 31, .int .i64 12, .int .i64 12]) w := fun _ => by kernel_rfl
      go_wp2_with (first
        | (go_at_call 18; refine (none_c _ _ _ _).mono ?_; rintro e w' ⟨rfl, hb2⟩; obtain ⟨hc, hf⟩ := bcell hb2))
      obtain ⟨q0, q1, q2, HB⟩ := held_place hb hb2 hc
      clear hc hf hb2 hb ix
      generalize w2.heap.size = g at *
      go_quiet (first | (go_at_call 17; refine Calls.quiet_of_same ((hF _).mono (fun _ _ ⟨he, hw⟩ => ⟨he, hw.symm⟩))))
      go_wp2_with fail
      go_roundg (1 - (0 + 1))
      case measure => omega
      case rel =>
        refine ⟨below_drewN HB _, 1, A + P * 4096, rfl, rfl, by omega, by omega, by omega, hA2, .inr (⟨rfl, (show Hid _ from ?_)⟩)⟩
        rw [HA.out, ← HP.out, Int.zero_add]
        exact Lib.hid rfl
    · have ix : ∀ w : World, (Instr.index 41 (.agg #[.int .i64 31, .int .i64 12, .int .i64 12, .int .i64 0, .int .i64 0, .int .i64 0, .int .i64 0, .int .i64 0, .int .i64 0, .int .i64 0, .int .i64 0, .int .i64 0]) (.int .i64 1)).run Tryd.prog w = .ok (.agg #[.int .i64 0, .int .i64 0, .int .i64 0]) w := fun _ => by kernel_rfl
      go_wp2_with (first
        | (go_at_call 18; refine (none_c _ _ _ _).mono ?_; rintro e w' ⟨rfl, hb2⟩; obtain ⟨hc, hf⟩ := bcell hb2))
      obtain ⟨q0, q1, q2, HB⟩ := held_place hb hb2 hc
      try rw [Exit.noGoto_ret]
      go_ret
      exact ⟨ret_int (by rw [HE.out, HA.out] <;> omega), HB⟩

set_option maxRecDepth 100000 in
theorem spread5 (h : Int) (w : World) (h0 : 0 ≤ h) (h1 : h < 4294967296) (hT : Tab w) :
    Calls Tryd.prog 15 #[.int .i64 5, .int .u32 h] w fun e w' => e = .returned (.int .u32 (putK 5 h 32)) ∧ Below w.heap.size w w' := by
  have c0 := hT 60 (by decide)
  have c1 := hT 61 (by decide)
  have c2 := hT 62 (by decide)
  have c3 := hT 63 (by decide)
  have c4 := hT 64 (by decide)
  have c5 := hT 65 (by decide)
  have c6 := hT 66 (by decide)
  have c7 := hT 67 (by decide)
  have c8 := hT 68 (by decide)
  have c9 := hT 69 (by decide)
  have c10 := hT 70 (by decide)
  have c11 := hT 71 (by decide)
  simp only [tabL, List.getD_cons_succ, List.getD_cons_zero] at c0 c1 c2 c3 c4 c5 c6 c7 c8 c9 c10 c11
  have HE := Lib.hid (put5 h0)
  clear hT
  have H1 := Lib.hid h1
  clear h1
  go_enter Tryd.func15, Tryd.ntmps15
  go_wp2
  go_step3
  go_wp2_with (first
    | (go_at_call 14; refine (known_yes _ (by omega) _).mono ?_; rintro e w' ⟨rfl, rfl⟩))
  go_step3
  go_wp2_with fail
  clear c0 c1 c2 c3 c4 c5 c6 c7 c8 c9 c10 c11
  go_loopg [5, 14] 4 (fun gg v5 v14 wr => Below w.heap.size w wr ∧ ∃ k A : Int, v14 = .int .i64 k ∧ v5 = .int .u32 A ∧ k + gg = 4 ∧ 0 ≤ k ∧ 0 ≤ A ∧ A < 4294967296 ∧ ((k = 0 ∧ Hid (A = 0)) ∨ (k = 1 ∧ Hid (A = h / 1048576 % 2 * 2147483648)) ∨ (k = 2 ∧ Hid (A = h / 1048576 % 2 * 2147483648 + h / 4096 % 256 * 4096)) ∨ (k = 3 ∧ Hid (A = h / 1048576 % 2 * 2147483648 + h / 4096 % 256 * 4096 + h / 2048 % 2 * 1048576)) ∨ (k = 4 ∧ Hid (A = h / 1048576 % 2 * 2147483648 + h / 4096 % 256 * 4096 + h / 2048 % 2 * 1048576 + h / 2 % 1024 * 2097152))))
  case atStart => exact ⟨Below.refl _ _, 0, 0, rfl, rfl, by omega, by omega, by omega, by omega, .inl ⟨rfl, (show Hid _ from rfl)⟩⟩
  case round =>
    obtain ⟨hb, k, A, rfl, rfl, hk, hk0, A0, A1, hA⟩ := hrel
    obtain ⟨w2, rfl⟩ : ∃ w2 : World, w2 = wr := ⟨_, rfl⟩
    rcases hA with ⟨rfl, HA⟩ | ⟨rfl, HA⟩ | ⟨rfl, HA⟩ | ⟨rfl, HA⟩ | ⟨rfl, HA⟩
    · obtain ⟨P, hP⟩ : ∃ P, h / 1048576 % 2 = P := ⟨_, rfl⟩
      obtain ⟨P0, P1⟩ : 0 ≤ P ∧ P < 2 := by omega
      have hF := field_any h 20 20 h0 H1.out
      rw [fieldOf_yes (by decide)] at hF
      have eF : fld h (20 : Int).toNat (20 : Int).toNat = P := by rw [← hP]; unfold fld; simp
      rw [eF] at hF
      have ha : A / 2147483648 % 2 = 0 := by
        rw [HA.out]
        clear hF hP P0 P1 eF hk
        omega
      have hor : bits .or .u32 A (P * 2147483648) = A + P * 2147483648 := u32_or_free 31 1 (by decide) A0 A1 ha P0 P1
      have hA2 : A + P * 2147483648 < 4294967296 := by have := HA.out; omega
      have HP := Lib.hid hP
      clear hP eF ha
      have ix : ∀ w : World, (Instr.index 41 (.agg #[.int .i64 31, .int .i64 31, .int .i64 20, .int .i64 19, .int .i64 12, .int .i64 12, .int .i64 20, .int .i64 20, .int .i64 11, .int .i64 30, .int .i64 21, .int .i64 1]) (.int .i64 0)).run Tryd.prog w = .ok (.agg #[.int .i64 31, .int .i64 31, .int .i64 20]) w := fun _ => by kernel_rfl
      go_wp2_with (first
        | (go_at_call 18; refine (none_c _ _ _ _).mono ?_; rintro e w' ⟨rfl, hb2⟩; obtain ⟨hc, hf⟩ := bcell hb2))
      obtain ⟨q0, q1, q2, HB⟩ := held_place hb hb2 hc
      clear hc hf hb2 hb ix
      generalize w2.heap.size = g at *
      go_quiet (first | (go_at_call 17; refine Calls.quiet_of_same ((hF _).mono (fun _ _ ⟨he, hw⟩ => ⟨he, hw.symm⟩))))
      go_wp2_with fail
      go_roundg (4 - (0 + 1))
      case measure => omega
      case rel =>
        refine ⟨below_drewN HB _, 1, A + P * 2147483648, rfl, rfl, by omega, by omega, by omega, hA2, .inr (.inl ⟨rfl, (show Hid _ from ?_)⟩)⟩
        rw [HA.out, ← HP.out, Int.zero_add]
        exact Lib.hid rfl
    · obtain ⟨P, hP⟩ : ∃ P, h / 4096 % 256 = P := ⟨_, rfl⟩
      obtain ⟨P0, P1⟩ : 0 ≤ P ∧ P < 256 := by omega
      have hF := field_any h 19 12 h0 H1.out
      rw [fieldOf_yes (by decide)] at hF
      have eF : fld h (19 : Int).toNat (12 : Int).toNat = P := by rw [← hP]; unfold fld; simp
      rw [eF] at hF
      have ha : A / 4096 % 256 = 0 := by
        rw [HA.out]
        obtain ⟨x0, e0⟩ : ∃ x, h / 1048576 % 2 = x := ⟨_, rfl⟩
        have b0 : 0 ≤ x0 ∧ x0 < 2 := by omega
        rw [e0]
        clear e0
        clear hF hP P0 P1 eF hk
        omega
      have hor : bits .or .u32 A (P * 4096) = A + P * 4096 := u32_or_free 12 8 (by decide) A0 A1 ha P0 P1
      have hA2 : A + P * 4096 < 4294967296 := by have := HA.out; omega
      have HP := Lib.hid hP
      clear hP eF ha
      have ix : ∀ w : World, (Instr.index 41 (.agg #[.int .i64 31, .int .i64 31, .int .i64 20, .int .i64 19, .int .i64 12, .int .i64 12, .int .i64 20, .int .i64 20, .int .i64 11, .int .i64 30, .int .i64 21, .int .i64 1]) (.int .i64 1)).run Tryd.prog w = .ok (.agg #[.int .i64 19, .int .i64 12, .int .i64 12]) w := fun _ => by kernel_rfl
      go_wp2_with (first
        | (go_at_call 18; refine (none_c _ _ _ _).mono ?_; rintro e w' ⟨rfl, hb2⟩; obtain ⟨hc, hf⟩ := bcell hb2))
      obtain ⟨q0, q1, q2, HB⟩ := held_place hb hb2 hc
      clear hc hf hb2 hb ix
      generalize w2.heap.size = g at *
      go_quiet (first | (go_at_call 17; refine Calls.quiet_of_same ((hF _).mono (fun _ _ ⟨he, hw⟩ => ⟨he, hw.symm⟩))))
      go_wp2_with fail
      go_roundg (4 - (1 + 1))
      case measure => omega
      case rel =>
        refine ⟨below_drewN HB _, 2, A + P * 4096, rfl, rfl, by omega, by omega, by omega, hA2, .inr (.inr (.inl ⟨rfl, (show Hid _ from ?_)⟩))⟩
        rw [HA.out, ← HP.out]
        exact Lib.hid rfl
    · obtain ⟨P, hP⟩ : ∃ P, h / 2048 % 2 = P := ⟨_, rfl⟩
      obtain ⟨P0, P1⟩ : 0 ≤ P ∧ P < 2 := by omega
      have hF := field_any h 11 11 h0 H1.out
      rw [fieldOf_yes (by decide)] at hF
      have eF : fld h (11 : Int).toNat (11 : Int).toNat = P := by rw [← hP]; unfold fld; simp
      rw [eF] at hF
      have ha : A / 1048576 % 2 = 0 := by
        rw [HA.out]
        obtain ⟨x0, e0⟩ : ∃ x, h / 1048576 % 2 = x := ⟨_, rfl⟩
        have b0 : 0 ≤ x0 ∧ x0 < 2 := by omega
        obtain ⟨x1, e1⟩ : ∃ x, h / 4096 % 256 = x := ⟨_, rfl⟩
        have b1 : 0 ≤ x1 ∧ x1 < 256 := by omega
        rw [e0]
        rw [e1]
        clear e0 e1
        clear hF hP P0 P1 eF hk
        omega
      have hor : bits .or .u32 A (P * 1048576) = A + P * 1048576 := u32_or_free 20 1 (by decide) A0 A1 ha P0 P1
      have hA2 : A + P * 1048576 < 4294967296 := by have := HA.out; omega
      have HP := Lib.hid hP
      clear hP eF ha
      have ix : ∀ w : World, (Instr.index 41 (.agg #[.int .i64 31, .int .i64 31, .int .i64 20, .int .i64 19, .int .i64 12, .int .i64 12, .int .i64 20, .int .i64 20, .int .i64 11, .int .i64 30, .int .i64 21, .int .i64 1]) (.int .i64 2)).run Tryd.prog w = .ok (.agg #[.int .i64 20, .int .i64 20, .int .i64 11]) w := fun _ => by kernel_rfl
      go_wp2_with (first
        | (go_at_call 18; refine (none_c _ _ _ _).mono ?_; rintro e w' ⟨rfl, hb2⟩; obtain ⟨hc, hf⟩ := bcell hb2))
      obtain ⟨q0, q1, q2, HB⟩ := held_place hb hb2 hc
      clear hc hf hb2 hb ix
      generalize w2.heap.size = g at *
      go_quiet (first | (go_at_call 17; refine Calls.quiet_of_same ((hF _).mono (fun _ _ ⟨he, hw⟩ => ⟨he, hw.symm⟩))))
      go_wp2_with fail
      go_roundg (4 - (2 + 1))
      case measure => omega
      case rel =>
        refine ⟨below_drewN HB _, 3, A + P * 1048576, rfl, rfl, by omega, by omega, by omega, hA2, .inr (.inr (.inr (.inl ⟨rfl, (show Hid _ from ?_)⟩)))⟩
        rw [HA.out, ← HP.out]
        exact Lib.hid rfl
    · obtain ⟨P, hP⟩ : ∃ P, h / 2 % 1024 = P := ⟨_, rfl⟩
      obtain ⟨P0, P1⟩ : 0 ≤ P ∧ P < 1024 := by omega
      have hF := field_any h 10 1 h0 H1.out
      rw [fieldOf_yes (by decide)] at hF
      have eF : fld h (10 : Int).toNat (1 : Int).toNat = P := by rw [← hP]; unfold fld; simp
      rw [eF] at hF
      have ha : A / 2097152 % 1024 = 0 := by
        rw [HA.out]
        obtain ⟨x0, e0⟩ : ∃ x, h / 1048576 % 2 = x := ⟨_, rfl⟩
        have b0 : 0 ≤ x0 ∧ x0 < 2 := by omega
        obtain ⟨x1, e1⟩ : ∃ x, h / 4096 % 256 = x := ⟨_, rfl⟩
        have b1 : 0 ≤ x1 ∧ x1 < 256 := by omega
        obtain ⟨x2, e2⟩ : ∃ x, h / 2048 % 2 = x := ⟨_, rfl⟩
        have b2 : 0 ≤ x2 ∧ x2 < 2 := by omega
        rw [e0]
        rw [e1]
        rw [e2]
        clear e0 e1 e2
        clear hF hP P0 P1 eF hk
        omega
      have hor : bits .or .u32 A (P * 2097152) = A + P * 2097152 := u32_or_free 21 10 (by decide) A0 A1 ha P0 P1
      have hA2 : A + P * 2097152 < 4294967296 := by have := HA.out; omega
      have HP := Lib.hid hP
      clear hP eF ha
      have ix : ∀ w : World, (Instr.index 41 (.agg #[.int .i64 31, .int .i64 31, .int .i64 20, .int .i64 19, .int .i64 12, .int .i64 12, .int .i64 20, .int .i64 20, .int .i64 11, .int .i64 30, .int .i64 21, .int .i64 1]) (.int .i64 3)).run Tryd.prog w = .ok (.agg #[.int .i64 30, .int .i64 21, .int .i64 1]) w := fun _ => by kernel_rfl
      go_wp2_with (first
        | (go_at_call 18; refine (none_c _ _ _ _).mono ?_; rintro e w' ⟨rfl, hb2⟩; obtain ⟨hc, hf⟩ := bcell hb2))
      obtain ⟨q0, q1, q2, HB⟩ := held_place hb hb2 hc
      clear hc hf hb2 hb ix
      generalize w2.heap.size = g at *
      go_quiet (first | (go_at_call 17; refine Calls.quiet_of_same ((hF _).mono (fun _ _ ⟨he, hw⟩ => ⟨he, hw.symm⟩))))
      go_wp2_with fail
      go_roundg (4 - (3 + 1))
      case measure => omega
      case rel =>
        refine ⟨below_drewN HB _, 4, A + P * 2097152, rfl, rfl, by omega, by omega, by omega, hA2, .inr (.inr (.inr (.inr (⟨rfl, (show Hid _ from ?_)⟩))))⟩
        rw [HA.out, ← HP.out]
        exact Lib.hid rfl
    · go_wp2_with fail
      try rw [Exit.noGoto_ret]
      go_ret
      exact ⟨ret_int (by rw [HE.out, HA.out] <;> omega), hb⟩
end Go.Proofs.YtfgeojajbkggnaaDoor
