/- The program's Get, format by format (written by a program: one walk a format). -/
import Derived.Test.YtbnacdhhacafkaaDoorRows
import Derived.Test.YtbnacdhhacafkaaDoorWd
import Derived.Test.YtbnacdhhacafkaaDoorBk
import Derived.Test.YtbnacdhhacafkaaDoorSp
import Derived.Test.YtbnacdhhacafkaaDoorFa
import Derived.WalkKit
import Derived.WalkLawsBesides
import Derived.Deep.QuietTactic
import Derived.BigQuiet
import Derived.WalkSmall
import Derived.WalkSpells
import Derived.Lib.Hide
import Derived.Below
import Derived.Deep.Cut
import Derived.Deep.WholeRow
import Derived.LoopTactic
namespace Go.Proofs.YtbnacdhhacafkaaDoor
open Go.RowKit
theorem u64_or_zero {b : Int} (b0 : 0 ≤ b) (b1 : b < 18446744073709551616) : bits .or .u64 0 b = b := by
  obtain ⟨B, rfl⟩ := Int.eq_ofNat_of_zero_le b0
  have := u64_or_nat 0 B (by decide) (by omega)
  rw [Nat.zero_or] at this
  exact this
theorem or_disj64 {x y : Nat} (hs : x + y < 18446744073709551616) (h : x &&& y = 0) : x ||| y = x + y := by
  have hz : BitVec.ofNat 64 x &&& BitVec.ofNat 64 y = 0#64 := by
    apply BitVec.eq_of_toNat_eq
    rw [BitVec.toNat_and, BitVec.toNat_ofNat, BitVec.toNat_ofNat, Nat.mod_eq_of_lt (by omega), Nat.mod_eq_of_lt (by omega), h]; rfl
  have := congrArg BitVec.toNat (BitVec.add_eq_or_of_and_eq_zero _ _ hz)
  rw [BitVec.toNat_add, BitVec.toNat_or, BitVec.toNat_ofNat, BitVec.toNat_ofNat, Nat.mod_eq_of_lt (a := x) (by omega), Nat.mod_eq_of_lt (a := y) (by omega), Nat.mod_eq_of_lt (by omega)] at this
  exact this.symm
theorem u64_or_free {a p : Int} (lo n : Nat) (a0 : 0 ≤ a) (a1 : a < 18446744073709551616) (h : a / 2 ^ lo % 2 ^ n = 0) (p0 : 0 ≤ p) (p1 : p < 2 ^ n) (hs : a + p * 2 ^ lo < 18446744073709551616) : bits .or .u64 a (p * 2 ^ lo) = a + p * 2 ^ lo := by
  obtain ⟨A, rfl⟩ := Int.eq_ofNat_of_zero_le a0
  obtain ⟨B, rfl⟩ := Int.eq_ofNat_of_zero_le p0
  have hA : A < 18446744073709551616 := by omega
  have hB : B < 2 ^ n := by exact_mod_cast p1
  have hN : A / 2 ^ lo % 2 ^ n = 0 := by exact_mod_cast h
  have e : ((B : Int) * 2 ^ lo) = ((B * 2 ^ lo : Nat) : Int) := by simp
  rw [e] at hs ⊢
  rw [u64_or_nat A _ hA (by omega), or_disj64 (by omega) (nor_free lo n hN hB), Int.natCast_add]
theorem u64_or_free0 {a p : Int} (n : Nat) (a0 : 0 ≤ a) (a1 : a < 18446744073709551616) (h : a % 2 ^ n = 0) (p0 : 0 ≤ p) (p1 : p < 2 ^ n) (hs : a + p < 18446744073709551616) : bits .or .u64 a p = a + p := by
  have := u64_or_free 0 n a0 a1 (by rw [Int.pow_zero, Int.ediv_one]; exact h) p0 p1 (by rw [Int.pow_zero, Int.mul_one]; exact hs)
  rwa [Int.pow_zero, Int.mul_one] at this
theorem sx_low {P : Int} (m : Nat) (h1 : 1 ≤ m) (h2 : m ≤ 64) (P0 : 0 ≤ P) (P1 : P < 2 ^ m) : sx P (cap64 m) = P + P / 2 ^ (m - 1) * (18446744073709551616 - 2 ^ m) := by
  have hc : cap64 m = m := by unfold cap64; omega
  have hz : zx P m = P := by unfold zx; exact Int.emod_eq_of_lt P0 P1
  have hp := two_pow_pos (m - 1)
  have hm : (2 : Int) ^ m = 2 ^ (m - 1) * 2 := by rw [← Int.pow_succ]; congr 1; omega
  rw [hc]
  unfold sx
  rw [if_neg (by omega), hz, show (2 : Int) ^ 64 = 18446744073709551616 by decide]
  have q0 : 0 ≤ P / 2 ^ (m - 1) := Int.ediv_nonneg P0 (by omega)
  have q1 : P / 2 ^ (m - 1) < 2 := Int.ediv_lt_of_lt_mul hp (by rw [Int.mul_comm, ← hm]; exact P1)
  have : P / 2 ^ (m - 1) = 0 ∨ P / 2 ^ (m - 1) = 1 := by omega
  rcases this with e | e
  · rw [e, if_neg (by decide), Int.zero_mul, Int.add_zero]
  · rw [e, if_pos (by decide), Int.one_mul]
theorem fin_get1 (v : Int) : wrap64 ((v / 1048576 % 2048 + 2048 * (v / 2147483648 % 2)) + v / 2147483648 % 2 * 18446744073709547520) = v / 1048576 % 2048 - v / 2147483648 % 2 * 2048 := by
  have hq := Int.emod_two_eq (v / 2147483648)
  rw [wrap64_eq, IntKind.wrap_i64]
  rcases hq with e | e <;> rw [e] <;> clear e <;> omega
set_option maxRecDepth 100000 in
theorem get1_c (v : Int) (w : World) (v0 : 0 ≤ v) (v1 : v < 4294967296) (hT : Tab w) :
    Calls Tryd.prog 47 #[.int .i64 1, .int .u32 v] w fun e w' => e = .returned (.int .i64 (getK 1 v 32)) ∧ Below w.heap.size w w' := by
  have c0 := hT 12 (by decide)
  have c1 := hT 13 (by decide)
  have c2 := hT 14 (by decide)
  have c3 := hT 15 (by decide)
  have c4 := hT 16 (by decide)
  have c5 := hT 17 (by decide)
  have c6 := hT 18 (by decide)
  have c7 := hT 19 (by decide)
  have c8 := hT 20 (by decide)
  have c9 := hT 21 (by decide)
  have c10 := hT 22 (by decide)
  have c11 := hT 23 (by decide)
  simp only [tabL, List.getD_cons_succ, List.getD_cons_zero] at c0 c1 c2 c3 c4 c5 c6 c7 c8 c9 c10 c11
  have HE := Lib.hid (get1 v0)
  clear hT
  have V1 := Lib.hid v1
  clear v1
  go_enter Tryd.func47, Tryd.ntmps47
  go_wp2
  go_step3
  go_wp2_with (first
    | (go_at_call 53; refine (known_yes _ (by omega) _).mono ?_; rintro e w' ⟨rfl, rfl⟩))
  go_step3
  go_wp2_with fail
  clear c0 c1 c2 c3 c4 c5 c6 c7 c8 c9 c10 c11
  go_loopg [5, 15] 1 (fun gg v5 v15 wr => Below w.heap.size w wr ∧ ∃ k A : Int, v15 = .int .i64 k ∧ v5 = .int .u64 A ∧ k + gg = 1 ∧ 0 ≤ k ∧ 0 ≤ A ∧ A < 18446744073709551616 ∧ ((k = 0 ∧ Hid (A = 0)) ∨ (k = 1 ∧ Hid (A = v / 1048576 % 4096 + v / 2147483648 % 2 * 18446744073709547520))))
  case atStart => exact ⟨Below.refl _ _, 0, 0, rfl, rfl, by omega, by omega, by omega, by omega, .inl ⟨rfl, (show Hid _ from rfl)⟩⟩
  case round =>
    obtain ⟨hb, k, A, rfl, rfl, hk, hk0, A0, A1, hA⟩ := hrel
    obtain ⟨w2, rfl⟩ : ∃ w2 : World, w2 = wr := ⟨_, rfl⟩
    rcases hA with ⟨rfl, HA⟩ | ⟨rfl, HA⟩
    · obtain ⟨P, hP⟩ : ∃ P, v / 1048576 % 4096 = P := ⟨_, rfl⟩
      obtain ⟨P0, P1⟩ : 0 ≤ P ∧ P < 4096 := by omega
      have hF := field_any v 31 20 v0 V1.out
      rw [fieldOf_yes (by decide)] at hF
      have eF : fld v (31 : Int).toNat (20 : Int).toNat = P := by rw [← hP]; unfold fld; simp
      rw [eF] at hF
      obtain ⟨S, hS⟩ : ∃ S, sx P (cap64 12) = S := ⟨_, rfl⟩
      have hx := sext_any P 12 P0 (by omega)
      rw [hS] at hx
      have hS2 : S = P + P / 2048 * 18446744073709547520 := by rw [← hS]; exact sx_low 12 (by decide) (by decide) P0 P1
      have hs : P / 2048 = v / 2147483648 % 2 := by have := V1.out; clear hF hx hS eF; omega
      rw [hs] at hS2
      clear hs
      obtain ⟨B, hB⟩ : ∃ B, S = B := ⟨_, rfl⟩
      have hB2 : B = P + v / 2147483648 % 2 * 18446744073709547520 := by rw [← hB, hS2]
      obtain ⟨B0, B1⟩ : 0 ≤ B ∧ B < 18446744073709551616 := by clear hF hx hS hB hS2 eF hP; omega
      obtain ⟨S0, S1⟩ : 0 ≤ S ∧ S < 18446744073709551616 := by clear hF hx hS hB eF hB2 hP; omega
      subst hB
      have hor : bits .or .u64 A S = S := by rw [show A = 0 from HA.out]; exact u64_or_zero B0 B1
      have HB2 := Lib.hid hB2
      have HP := Lib.hid hP
      clear hP eF hS hS2 hB2
      have ix : ∀ w : World, (Instr.index 66 (.agg #[.int .i64 31, .int .i64 20, .int .i64 0, .int .i64 0, .int .i64 0, .int .i64 0, .int .i64 0, .int .i64 0, .int .i64 0, .int .i64 0, .int .i64 0, .int .i64 0]) (.int .i64 0)).run Tryd.prog w = .ok (.agg #[.int .i64 31, .int .i64 20, .int .i64 0]) w := fun _ => by kernel_rfl
      go_wp2_with (first
        | (go_at_call 46; refine (hF _).mono ?_; rintro e w' ⟨rfl, rfl⟩)
        | (go_at_call 54; refine (none_c _ _ _ _).mono ?_; rintro e w' ⟨rfl, hb2⟩; obtain ⟨hc, hf⟩ := bcell hb2)
        | (go_at_call 55; refine (hx _).mono ?_; rintro e w2 ⟨rfl, rfl⟩))
      obtain ⟨q0, q1, q2, HB⟩ := held_place hb hb2 hc
      clear hc hf q0 q1 q2
      go_roundg (1 - (0 + 1))
      case measure => omega
      case rel =>
        refine ⟨HB, 1, S, rfl, rfl, by omega, by omega, B0, B1, .inr (⟨rfl, (show Hid _ from ?_)⟩)⟩
        rw [HB2.out, ← HP.out]
        exact Lib.hid rfl
    · have ix : ∀ w : World, (Instr.index 66 (.agg #[.int .i64 31, .int .i64 20, .int .i64 0, .int .i64 0, .int .i64 0, .int .i64 0, .int .i64 0, .int .i64 0, .int .i64 0, .int .i64 0, .int .i64 0, .int .i64 0]) (.int .i64 1)).run Tryd.prog w = .ok (.agg #[.int .i64 0, .int .i64 0, .int .i64 0]) w := fun _ => by kernel_rfl
      obtain ⟨P, hP⟩ : ∃ P, fieldOf v 0 0 = P := ⟨_, rfl⟩
      have hF := field_any v 0 0 v0 V1.out
      rw [hP] at hF
      obtain ⟨P0, P1⟩ : 0 ≤ P ∧ P < 2 := by
        rw [← hP, fieldOf_yes (by decide)]; unfold fld; clear hF hP; simp; omega
      clear hP
      go_wp2_with (first
        | (go_at_call 46; refine (hF _).mono ?_; rintro e w' ⟨rfl, rfl⟩)
        | (go_at_call 54; refine (none_c _ _ _ _).mono ?_; rintro e w' ⟨rfl, hb2⟩; obtain ⟨hc, hf⟩ := bcell hb2))
      obtain ⟨q0, q1, q2, HB⟩ := held_place hb hb2 hc
      clear hc hf q0 q1 q2
      try rw [Exit.noGoto_ret]
      go_ret
      exact ⟨ret_int (by have := V1.out; rw [HE.out, HA.out, show v / 1048576 % 4096 = v / 1048576 % 2048 + 2048 * (v / 2147483648 % 2) by omega]; exact fin_get1 v), HB⟩

theorem fin_get2 (v : Int) : wrap64 ((v / 33554432 % 64 + 64 * (v / 2147483648 % 2)) * 32 + v / 2147483648 % 2 * 18446744073709547520 + v / 128 % 32) = v / 128 % 32 + v / 33554432 % 64 * 32 - v / 2147483648 % 2 * 2048 := by
  have hq := Int.emod_two_eq (v / 2147483648)
  rw [wrap64_eq, IntKind.wrap_i64]
  rcases hq with e | e <;> rw [e] <;> clear e <;> omega
set_option maxRecDepth 100000 in
theorem get2_c (v : Int) (w : World) (v0 : 0 ≤ v) (v1 : v < 4294967296) (hT : Tab w) :
    Calls Tryd.prog 47 #[.int .i64 2, .int .u32 v] w fun e w' => e = .returned (.int .i64 (getK 2 v 32)) ∧ Below w.heap.size w w' := by
  have c0 := hT 24 (by decide)
  have c1 := hT 25 (by decide)
  have c2 := hT 26 (by decide)
  have c3 := hT 27 (by decide)
  have c4 := hT 28 (by decide)
  have c5 := hT 29 (by decide)
  have c6 := hT 30 (by decide)
  have c7 := hT 31 (by decide)
  have c8 := hT 32 (by decide)
  have c9 := hT 33 (by decide)
  have c10 := hT 34 (by decide)
  have c11 := hT 35 (by decide)
  simp only [tabL, List.getD_cons_succ, List.getD_cons_zero] at c0 c1 c2 c3 c4 c5 c6 c7 c8 c9 c10 c11
  have HE := Lib.hid (get2 v0)
  clear hT
  have V1 := Lib.hid v1
  clear v1
  go_enter Tryd.func47, Tryd.ntmps47
  go_wp2
  go_step3
  go_wp2_with (first
    | (go_at_call 53; refine (known_yes _ (by omega) _).mono ?_; rintro e w' ⟨rfl, rfl⟩))
  go_step3
  go_wp2_with fail
  clear c0 c1 c2 c3 c4 c5 c6 c7 c8 c9 c10 c11
  go_loopg [5, 15] 2 (fun gg v5 v15 wr => Below w.heap.size w wr ∧ ∃ k A : Int, v15 = .int .i64 k ∧ v5 = .int .u64 A ∧ k + gg = 2 ∧ 0 ≤ k ∧ 0 ≤ A ∧ A < 18446744073709551616 ∧ ((k = 0 ∧ Hid (A = 0)) ∨ (k = 1 ∧ Hid (A = v / 33554432 % 128 * 32 + v / 2147483648 % 2 * 18446744073709547520)) ∨ (k = 2 ∧ Hid (A = v / 33554432 % 128 * 32 + v / 2147483648 % 2 * 18446744073709547520 + v / 128 % 32))))
  case atStart => exact ⟨Below.refl _ _, 0, 0, rfl, rfl, by omega, by omega, by omega, by omega, .inl ⟨rfl, (show Hid _ from rfl)⟩⟩
  case round =>
    obtain ⟨hb, k, A, rfl, rfl, hk, hk0, A0, A1, hA⟩ := hrel
    obtain ⟨w2, rfl⟩ : ∃ w2 : World, w2 = wr := ⟨_, rfl⟩
    rcases hA with ⟨rfl, HA⟩ | ⟨rfl, HA⟩ | ⟨rfl, HA⟩
    · obtain ⟨P, hP⟩ : ∃ P, v / 33554432 % 128 = P := ⟨_, rfl⟩
      obtain ⟨P0, P1⟩ : 0 ≤ P ∧ P < 128 := by omega
      have hF := field_any v 31 25 v0 V1.out
      rw [fieldOf_yes (by decide)] at hF
      have eF : fld v (31 : Int).toNat (25 : Int).toNat = P := by rw [← hP]; unfold fld; simp
      rw [eF] at hF
      obtain ⟨S, hS⟩ : ∃ S, sx P (cap64 7) = S := ⟨_, rfl⟩
      have hx := sext_any P 7 P0 (by omega)
      rw [hS] at hx
      have hS2 : S = P + P / 64 * 18446744073709551488 := by rw [← hS]; exact sx_low 7 (by decide) (by decide) P0 P1
      obtain ⟨B, hB⟩ : ∃ B, IntKind.u64.wrap (S * 32) = B := ⟨_, rfl⟩
      have hs : P / 64 = v / 2147483648 % 2 := by have := V1.out; clear hF hx hS hB hS2 eF; omega
      rw [hs] at hS2
      clear hs
      have hB2 : B = P * 32 + v / 2147483648 % 2 * 18446744073709547520 := by
        rw [← hB, hS2, IntKind.wrap_u64]
        clear hF hx hS hB hS2 eF hP
        have hq := Int.emod_two_eq (v / 2147483648)
        rcases hq with e | e <;> rw [e] <;> clear e <;> omega
      obtain ⟨B0, B1⟩ : 0 ≤ B ∧ B < 18446744073709551616 := by rw [← hB, IntKind.wrap_u64]; clear hF hx hS hB hS2 eF hB2; omega
      obtain ⟨S0, S1⟩ : 0 ≤ S ∧ S < 18446744073709551616 := by clear hF hx hS hB eF hB2 hP; omega
      
      have hor : bits .or .u64 A B = B := by rw [show A = 0 from HA.out]; exact u64_or_zero B0 B1
      have HB2 := Lib.hid hB2
      have HP := Lib.hid hP
      clear hP eF hS hS2 hB2
      have ix : ∀ w : World, (Instr.index 66 (.agg #[.int .i64 31, .int .i64 25, .int .i64 5, .int .i64 11, .int .i64 7, .int .i64 0, .int .i64 0, .int .i64 0, .int .i64 0, .int .i64 0, .int .i64 0, .int .i64 0]) (.int .i64 0)).run Tryd.prog w = .ok (.agg #[.int .i64 31, .int .i64 25, .int .i64 5]) w := fun _ => by kernel_rfl
      go_wp2_with (first
        | (go_at_call 46; refine (hF _).mono ?_; rintro e w' ⟨rfl, rfl⟩)
        | (go_at_call 54; refine (none_c _ _ _ _).mono ?_; rintro e w' ⟨rfl, hb2⟩; obtain ⟨hc, hf⟩ := bcell hb2)
        | (go_at_call 55; refine (hx _).mono ?_; rintro e w2 ⟨rfl, rfl⟩))
      obtain ⟨q0, q1, q2, HB⟩ := held_place hb hb2 hc
      clear hc hf q0 q1 q2
      go_roundg (2 - (0 + 1))
      case measure => omega
      case rel =>
        refine ⟨HB, 1, B, rfl, rfl, by omega, by omega, B0, B1, .inr (.inl ⟨rfl, (show Hid _ from ?_)⟩)⟩
        rw [HB2.out, ← HP.out]
        exact Lib.hid rfl
    · obtain ⟨P, hP⟩ : ∃ P, v / 128 % 32 = P := ⟨_, rfl⟩
      obtain ⟨P0, P1⟩ : 0 ≤ P ∧ P < 32 := by omega
      have hF := field_any v 11 7 v0 V1.out
      rw [fieldOf_yes (by decide)] at hF
      have eF : fld v (11 : Int).toNat (7 : Int).toNat = P := by rw [← hP]; unfold fld; simp
      rw [eF] at hF
      have ha : A % 32 = 0 := by
        rw [HA.out]
        obtain ⟨x0, e0⟩ : ∃ x, v / 33554432 % 128 = x := ⟨_, rfl⟩
        have b0 : 0 ≤ x0 ∧ x0 < 128 := by omega
        obtain ⟨q, eq⟩ : ∃ q, v / 2147483648 % 2 = q := ⟨_, rfl⟩
        have bq : 0 ≤ q ∧ q < 2 := by omega
        rw [e0]
        try rw [eq]
        clear eq
        clear e0
        clear hF hP P0 P1 eF hk
        omega
      have hA2 : A + P < 18446744073709551616 := by have := HA.out; have := V1.out; omega
      have hor : bits .or .u64 A (P) = A + P := u64_or_free0 5 A0 A1 ha P0 P1 hA2
      have HP := Lib.hid hP
      clear hP eF ha
      have ix : ∀ w : World, (Instr.index 66 (.agg #[.int .i64 31, .int .i64 25, .int .i64 5, .int .i64 11, .int .i64 7, .int .i64 0, .int .i64 0, .int .i64 0, .int .i64 0, .int .i64 0, .int .i64 0, .int .i64 0]) (.int .i64 1)).run Tryd.prog w = .ok (.agg #[.int .i64 11, .int .i64 7, .int .i64 0]) w := fun _ => by kernel_rfl
      go_wp2_with (first
        | (go_at_call 46; refine (hF _).mono ?_; rintro e w' ⟨rfl, rfl⟩)
        | (go_at_call 54; refine (none_c _ _ _ _).mono ?_; rintro e w' ⟨rfl, hb2⟩; obtain ⟨hc, hf⟩ := bcell hb2)
)
      obtain ⟨q0, q1, q2, HB⟩ := held_place hb hb2 hc
      clear hc hf q0 q1 q2
      go_roundg (2 - (1 + 1))
      case measure => omega
      case rel =>
        refine ⟨HB, 2, A + P, rfl, rfl, by omega, by omega, by omega, hA2, .inr (.inr (⟨rfl, (show Hid _ from ?_)⟩))⟩
        rw [HA.out, ← HP.out]
        exact Lib.hid rfl
    · have ix : ∀ w : World, (Instr.index 66 (.agg #[.int .i64 31, .int .i64 25, .int .i64 5, .int .i64 11, .int .i64 7, .int .i64 0, .int .i64 0, .int .i64 0, .int .i64 0, .int .i64 0, .int .i64 0, .int .i64 0]) (.int .i64 2)).run Tryd.prog w = .ok (.agg #[.int .i64 0, .int .i64 0, .int .i64 0]) w := fun _ => by kernel_rfl
      obtain ⟨P, hP⟩ : ∃ P, fieldOf v 0 0 = P := ⟨_, rfl⟩
      have hF := field_any v 0 0 v0 V1.out
      rw [hP] at hF
      obtain ⟨P0, P1⟩ : 0 ≤ P ∧ P < 2 := by
        rw [← hP, fieldOf_yes (by decide)]; unfold fld; clear hF hP; simp; omega
      clear hP
      go_wp2_with (first
        | (go_at_call 46; refine (hF _).mono ?_; rintro e w' ⟨rfl, rfl⟩)
        | (go_at_call 54; refine (none_c _ _ _ _).mono ?_; rintro e w' ⟨rfl, hb2⟩; obtain ⟨hc, hf⟩ := bcell hb2))
      obtain ⟨q0, q1, q2, HB⟩ := held_place hb hb2 hc
      clear hc hf q0 q1 q2
      try rw [Exit.noGoto_ret]
      go_ret
      exact ⟨ret_int (by have := V1.out; rw [HE.out, HA.out, show v / 33554432 % 128 = v / 33554432 % 64 + 64 * (v / 2147483648 % 2) by omega]; exact fin_get2 v), HB⟩

theorem fin_get3 (v : Int) : wrap64 (v / 2147483648 % 2 * 4096 + v / 2147483648 % 2 * 18446744073709543424 + v / 128 % 2 * 2048 + v / 33554432 % 64 * 32 + v / 256 % 16 * 2) = v / 128 % 2 * 2048 + v / 256 % 16 * 2 + v / 33554432 % 64 * 32 - v / 2147483648 % 2 * 4096 := by
  have hq := Int.emod_two_eq (v / 2147483648)
  rw [wrap64_eq, IntKind.wrap_i64]
  rcases hq with e | e <;> rw [e] <;> clear e <;> omega
set_option maxRecDepth 100000 in
theorem get3_c (v : Int) (w : World) (v0 : 0 ≤ v) (v1 : v < 4294967296) (hT : Tab w) :
    Calls Tryd.prog 47 #[.int .i64 3, .int .u32 v] w fun e w' => e = .returned (.int .i64 (getK 3 v 32)) ∧ Below w.heap.size w w' := by
  have c0 := hT 36 (by decide)
  have c1 := hT 37 (by decide)
  have c2 := hT 38 (by decide)
  have c3 := hT 39 (by decide)
  have c4 := hT 40 (by decide)
  have c5 := hT 41 (by decide)
  have c6 := hT 42 (by decide)
  have c7 := hT 43 (by decide)
  have c8 := hT 44 (by decide)
  have c9 := hT 45 (by decide)
  have c10 := hT 46 (by decide)
  have c11 := hT 47 (by decide)
  simp only [tabL, List.getD_cons_succ, List.getD_cons_zero] at c0 c1 c2 c3 c4 c5 c6 c7 c8 c9 c10 c11
  have HE := Lib.hid (get3 v0)
  clear hT
  have V1 := Lib.hid v1
  clear v1
  go_enter Tryd.func47, Tryd.ntmps47
  go_wp2
  go_step3
  go_wp2_with (first
    | (go_at_call 53; refine (known_yes _ (by omega) _).mono ?_; rintro e w' ⟨rfl, rfl⟩))
  go_step3
  go_wp2_with fail
  clear c0 c1 c2 c3 c4 c5 c6 c7 c8 c9 c10 c11
  go_loopg [5, 15] 4 (fun gg v5 v15 wr => Below w.heap.size w wr ∧ ∃ k A : Int, v15 = .int .i64 k ∧ v5 = .int .u64 A ∧ k + gg = 4 ∧ 0 ≤ k ∧ 0 ≤ A ∧ A < 18446744073709551616 ∧ ((k = 0 ∧ Hid (A = 0)) ∨ (k = 1 ∧ Hid (A = v / 2147483648 % 2 * 4096 + v / 2147483648 % 2 * 18446744073709543424)) ∨ (k = 2 ∧ Hid (A = v / 2147483648 % 2 * 4096 + v / 2147483648 % 2 * 18446744073709543424 + v / 128 % 2 * 2048)) ∨ (k = 3 ∧ Hid (A = v / 2147483648 % 2 * 4096 + v / 2147483648 % 2 * 18446744073709543424 + v / 128 % 2 * 2048 + v / 33554432 % 64 * 32)) ∨ (k = 4 ∧ Hid (A = v / 2147483648 % 2 * 4096 + v / 2147483648 % 2 * 18446744073709543424 + v / 128 % 2 * 2048 + v / 33554432 % 64 * 32 + v / 256 % 16 * 2))))
  case atStart => exact ⟨Below.refl _ _, 0, 0, rfl, rfl, by omega, by omega, by omega, by omega, .inl ⟨rfl, (show Hid _ from rfl)⟩⟩
  case round =>
    obtain ⟨hb, k, A, rfl, rfl, hk, hk0, A0, A1, hA⟩ := hrel
    obtain ⟨w2, rfl⟩ : ∃ w2 : World, w2 = wr := ⟨_, rfl⟩
    rcases hA with ⟨rfl, HA⟩ | ⟨rfl, HA⟩ | ⟨rfl, HA⟩ | ⟨rfl, HA⟩ | ⟨rfl, HA⟩
    · obtain ⟨P, hP⟩ : ∃ P, v / 2147483648 % 2 = P := ⟨_, rfl⟩
      obtain ⟨P0, P1⟩ : 0 ≤ P ∧ P < 2 := by omega
      have hF := field_any v 31 31 v0 V1.out
      rw [fieldOf_yes (by decide)] at hF
      have eF : fld v (31 : Int).toNat (31 : Int).toNat = P := by rw [← hP]; unfold fld; simp
      rw [eF] at hF
      obtain ⟨S, hS⟩ : ∃ S, sx P (cap64 1) = S := ⟨_, rfl⟩
      have hx := sext_any P 1 P0 (by omega)
      rw [hS] at hx
      have hS2 : S = P + P / 1 * 18446744073709551614 := by rw [← hS]; exact sx_low 1 (by decide) (by decide) P0 P1
      obtain ⟨B, hB⟩ : ∃ B, IntKind.u64.wrap (S * 4096) = B := ⟨_, rfl⟩
      have hs : P / 1 = v / 2147483648 % 2 := by have := V1.out; clear hF hx hS hB hS2 eF; omega
      rw [hs] at hS2
      clear hs
      have hB2 : B = P * 4096 + v / 2147483648 % 2 * 18446744073709543424 := by
        rw [← hB, hS2, IntKind.wrap_u64]
        clear hF hx hS hB hS2 eF hP
        have hq := Int.emod_two_eq (v / 2147483648)
        rcases hq with e | e <;> rw [e] <;> clear e <;> omega
      obtain ⟨B0, B1⟩ : 0 ≤ B ∧ B < 18446744073709551616 := by rw [← hB, IntKind.wrap_u64]; clear hF hx hS hB hS2 eF hB2; omega
      obtain ⟨S0, S1⟩ : 0 ≤ S ∧ S < 18446744073709551616 := by clear hF hx hS hB eF hB2 hP; omega
      
      have hor : bits .or .u64 A B = B := by rw [show A = 0 from HA.out]; exact u64_or_zero B0 B1
      have HB2 := Lib.hid hB2
      have HP := Lib.hid hP
      clear hP eF hS hS2 hB2
      have ix : ∀ w : World, (Instr.index 66 (.agg #[.int .i64 31, .int .i64 31, .int .i64 12, .int .i64 7, .int .i64 7, .int .i64 11, .int .i64 30, .int .i64 25, .int .i64 5, .int .i64 11, .int .i64 8, .int .i64 1]) (.int .i64 0)).run Tryd.prog w = .ok (.agg #[.int .i64 31, .int .i64 31, .int .i64 12]) w := fun _ => by kernel_rfl
      go_wp2_with (first
        | (go_at_call 46; refine (hF _).mono ?_; rintro e w' ⟨rfl, rfl⟩)
        | (go_at_call 54; refine (none_c _ _ _ _).mono ?_; rintro e w' ⟨rfl, hb2⟩; obtain ⟨hc, hf⟩ := bcell hb2)
        | (go_at_call 55; refine (hx _).mono ?_; rintro e w2 ⟨rfl, rfl⟩))
      obtain ⟨q0, q1, q2, HB⟩ := held_place hb hb2 hc
      clear hc hf q0 q1 q2
      go_roundg (4 - (0 + 1))
      case measure => omega
      case rel =>
        refine ⟨HB, 1, B, rfl, rfl, by omega, by omega, B0, B1, .inr (.inl ⟨rfl, (show Hid _ from ?_)⟩)⟩
        rw [HB2.out, ← HP.out]
        exact Lib.hid rfl
    · obtain ⟨P, hP⟩ : ∃ P, v / 128 % 2 = P := ⟨_, rfl⟩
      obtain ⟨P0, P1⟩ : 0 ≤ P ∧ P < 2 := by omega
      have hF := field_any v 7 7 v0 V1.out
      rw [fieldOf_yes (by decide)] at hF
      have eF : fld v (7 : Int).toNat (7 : Int).toNat = P := by rw [← hP]; unfold fld; simp
      rw [eF] at hF
      have ha : A / 2048 % 2 = 0 := by
        rw [HA.out]
        obtain ⟨x0, e0⟩ : ∃ x, v / 2147483648 % 2 = x := ⟨_, rfl⟩
        have b0 : 0 ≤ x0 ∧ x0 < 2 := by omega
        obtain ⟨q, eq⟩ : ∃ q, v / 2147483648 % 2 = q := ⟨_, rfl⟩
        have bq : 0 ≤ q ∧ q < 2 := by omega
        rw [e0]
        try rw [eq]
        clear eq
        clear e0
        clear hF hP P0 P1 eF hk
        omega
      have hA2 : A + P * 2048 < 18446744073709551616 := by have := HA.out; have := V1.out; omega
      have hor : bits .or .u64 A (P * 2048) = A + P * 2048 := u64_or_free 11 1 A0 A1 ha P0 P1 hA2
      have HP := Lib.hid hP
      clear hP eF ha
      have ix : ∀ w : World, (Instr.index 66 (.agg #[.int .i64 31, .int .i64 31, .int .i64 12, .int .i64 7, .int .i64 7, .int .i64 11, .int .i64 30, .int .i64 25, .int .i64 5, .int .i64 11, .int .i64 8, .int .i64 1]) (.int .i64 1)).run Tryd.prog w = .ok (.agg #[.int .i64 7, .int .i64 7, .int .i64 11]) w := fun _ => by kernel_rfl
      go_wp2_with (first
        | (go_at_call 46; refine (hF _).mono ?_; rintro e w' ⟨rfl, rfl⟩)
        | (go_at_call 54; refine (none_c _ _ _ _).mono ?_; rintro e w' ⟨rfl, hb2⟩; obtain ⟨hc, hf⟩ := bcell hb2)
)
      obtain ⟨q0, q1, q2, HB⟩ := held_place hb hb2 hc
      clear hc hf q0 q1 q2
      go_roundg (4 - (1 + 1))
      case measure => omega
      case rel =>
        refine ⟨HB, 2, A + P * 2048, rfl, rfl, by omega, by omega, by omega, hA2, .inr (.inr (.inl ⟨rfl, (show Hid _ from ?_)⟩))⟩
        rw [HA.out, ← HP.out]
        exact Lib.hid rfl
    · obtain ⟨P, hP⟩ : ∃ P, v / 33554432 % 64 = P := ⟨_, rfl⟩
      obtain ⟨P0, P1⟩ : 0 ≤ P ∧ P < 64 := by omega
      have hF := field_any v 30 25 v0 V1.out
      rw [fieldOf_yes (by decide)] at hF
      have eF : fld v (30 : Int).toNat (25 : Int).toNat = P := by rw [← hP]; unfold fld; simp
      rw [eF] at hF
      have ha : A / 32 % 64 = 0 := by
        rw [HA.out]
        obtain ⟨x0, e0⟩ : ∃ x, v / 2147483648 % 2 = x := ⟨_, rfl⟩
        have b0 : 0 ≤ x0 ∧ x0 < 2 := by omega
        obtain ⟨x1, e1⟩ : ∃ x, v / 128 % 2 = x := ⟨_, rfl⟩
        have b1 : 0 ≤ x1 ∧ x1 < 2 := by omega
        obtain ⟨q, eq⟩ : ∃ q, v / 2147483648 % 2 = q := ⟨_, rfl⟩
        have bq : 0 ≤ q ∧ q < 2 := by omega
        rw [e0]
        rw [e1]
        try rw [eq]
        clear eq
        clear e0 e1
        clear hF hP P0 P1 eF hk
        omega
      have hA2 : A + P * 32 < 18446744073709551616 := by have := HA.out; have := V1.out; omega
      have hor : bits .or .u64 A (P * 32) = A + P * 32 := u64_or_free 5 6 A0 A1 ha P0 P1 hA2
      have HP := Lib.hid hP
      clear hP eF ha
      have ix : ∀ w : World, (Instr.index 66 (.agg #[.int .i64 31, .int .i64 31, .int .i64 12, .int .i64 7, .int .i64 7, .int .i64 11, .int .i64 30, .int .i64 25, .int .i64 5, .int .i64 11, .int .i64 8, .int .i64 1]) (.int .i64 2)).run Tryd.prog w = .ok (.agg #[.int .i64 30, .int .i64 25, .int .i64 5]) w := fun _ => by kernel_rfl
      go_wp2_with (first
        | (go_at_call 46; refine (hF _).mono ?_; rintro e w' ⟨rfl, rfl⟩)
        | (go_at_call 54; refine (none_c _ _ _ _).mono ?_; rintro e w' ⟨rfl, hb2⟩; obtain ⟨hc, hf⟩ := bcell hb2)
)
      obtain ⟨q0, q1, q2, HB⟩ := held_place hb hb2 hc
      clear hc hf q0 q1 q2
      go_roundg (4 - (2 + 1))
      case measure => omega
      case rel =>
        refine ⟨HB, 3, A + P * 32, rfl, rfl, by omega, by omega, by omega, hA2, .inr (.inr (.inr (.inl ⟨rfl, (show Hid _ from ?_)⟩)))⟩
        rw [HA.out, ← HP.out]
        exact Lib.hid rfl
    · obtain ⟨P, hP⟩ : ∃ P, v / 256 % 16 = P := ⟨_, rfl⟩
      obtain ⟨P0, P1⟩ : 0 ≤ P ∧ P < 16 := by omega
      have hF := field_any v 11 8 v0 V1.out
      rw [fieldOf_yes (by decide)] at hF
      have eF : fld v (11 : Int).toNat (8 : Int).toNat = P := by rw [← hP]; unfold fld; simp
      rw [eF] at hF
      have ha : A / 2 % 16 = 0 := by
        rw [HA.out]
        obtain ⟨x0, e0⟩ : ∃ x, v / 2147483648 % 2 = x := ⟨_, rfl⟩
        have b0 : 0 ≤ x0 ∧ x0 < 2 := by omega
        obtain ⟨x1, e1⟩ : ∃ x, v / 128 % 2 = x := ⟨_, rfl⟩
        have b1 : 0 ≤ x1 ∧ x1 < 2 := by omega
        obtain ⟨x2, e2⟩ : ∃ x, v / 33554432 % 64 = x := ⟨_, rfl⟩
        have b2 : 0 ≤ x2 ∧ x2 < 64 := by omega
        obtain ⟨q, eq⟩ : ∃ q, v / 2147483648 % 2 = q := ⟨_, rfl⟩
        have bq : 0 ≤ q ∧ q < 2 := by omega
        rw [e0]
        rw [e1]
        rw [e2]
        try rw [eq]
        clear eq
        clear e0 e1 e2
        clear hF hP P0 P1 eF hk
        omega
      have hA2 : A + P * 2 < 18446744073709551616 := by have := HA.out; have := V1.out; omega
      have hor : bits .or .u64 A (P * 2) = A + P * 2 := u64_or_free 1 4 A0 A1 ha P0 P1 hA2
      have HP := Lib.hid hP
      clear hP eF ha
      have ix : ∀ w : World, (Instr.index 66 (.agg #[.int .i64 31, .int .i64 31, .int .i64 12, .int .i64 7, .int .i64 7, .int .i64 11, .int .i64 30, .int .i64 25, .int .i64 5, .int .i64 11, .int .i64 8, .int .i64 1]) (.int .i64 3)).run Tryd.prog w = .ok (.agg #[.int .i64 11, .int .i64 8, .int .i64 1]) w := fun _ => by kernel_rfl
      go_wp2_with (first
        | (go_at_call 46; refine (hF _).mono ?_; rintro e w' ⟨rfl, rfl⟩)
        | (go_at_call 54; refine (none_c _ _ _ _).mono ?_; rintro e w' ⟨rfl, hb2⟩; obtain ⟨hc, hf⟩ := bcell hb2)
)
      obtain ⟨q0, q1, q2, HB⟩ := held_place hb hb2 hc
      clear hc hf q0 q1 q2
      go_roundg (4 - (3 + 1))
      case measure => omega
      case rel =>
        refine ⟨HB, 4, A + P * 2, rfl, rfl, by omega, by omega, by omega, hA2, .inr (.inr (.inr (.inr (⟨rfl, (show Hid _ from ?_)⟩))))⟩
        rw [HA.out, ← HP.out]
        exact Lib.hid rfl
    · go_wp2_with fail
      try rw [Exit.noGoto_ret]
      go_ret
      exact ⟨ret_int (by have := V1.out; rw [HE.out, HA.out]; exact fin_get3 v), hb⟩

theorem fin_get4 (v : Int) : wrap64 ((v / 4096 % 524288 + 524288 * (v / 2147483648 % 2)) * 4096 + v / 2147483648 % 2 * 18446744069414584320) = v / 4096 % 524288 * 4096 - v / 2147483648 % 2 * 2147483648 := by
  have hq := Int.emod_two_eq (v / 2147483648)
  rw [wrap64_eq, IntKind.wrap_i64]
  rcases hq with e | e <;> rw [e] <;> clear e <;> omega
set_option maxRecDepth 100000 in
theorem get4_c (v : Int) (w : World) (v0 : 0 ≤ v) (v1 : v < 4294967296) (hT : Tab w) :
    Calls Tryd.prog 47 #[.int .i64 4, .int .u32 v] w fun e w' => e = .returned (.int .i64 (getK 4 v 32)) ∧ Below w.heap.size w w' := by
  have c0 := hT 48 (by decide)
  have c1 := hT 49 (by decide)
  have c2 := hT 50 (by decide)
  have c3 := hT 51 (by decide)
  have c4 := hT 52 (by decide)
  have c5 := hT 53 (by decide)
  have c6 := hT 54 (by decide)
  have c7 := hT 55 (by decide)
  have c8 := hT 56 (by decide)
  have c9 := hT 57 (by decide)
  have c10 := hT 58 (by decide)
  have c11 := hT 59 (by decide)
  simp only [tabL, List.getD_cons_succ, List.getD_cons_zero] at c0 c1 c2 c3 c4 c5 c6 c7 c8 c9 c10 c11
  have HE := Lib.hid (get4 v0)
  clear hT
  have V1 := Lib.hid v1
  clear v1
  go_enter Tryd.func47, Tryd.ntmps47
  go_wp2
  go_step3
  go_wp2_with (first
    | (go_at_call 53; refine (known_yes _ (by omega) _).mono ?_; rintro e w' ⟨rfl, rfl⟩))
  go_step3
  go_wp2_with fail
  clear c0 c1 c2 c3 c4 c5 c6 c7 c8 c9 c10 c11
  go_loopg [5, 15] 1 (fun gg v5 v15 wr => Below w.heap.size w wr ∧ ∃ k A : Int, v15 = .int .i64 k ∧ v5 = .int .u64 A ∧ k + gg = 1 ∧ 0 ≤ k ∧ 0 ≤ A ∧ A < 18446744073709551616 ∧ ((k = 0 ∧ Hid (A = 0)) ∨ (k = 1 ∧ Hid (A = v / 4096 % 1048576 * 4096 + v / 2147483648 % 2 * 18446744069414584320))))
  case atStart => exact ⟨Below.refl _ _, 0, 0, rfl, rfl, by omega, by omega, by omega, by omega, .inl ⟨rfl, (show Hid _ from rfl)⟩⟩
  case round =>
    obtain ⟨hb, k, A, rfl, rfl, hk, hk0, A0, A1, hA⟩ := hrel
    obtain ⟨w2, rfl⟩ : ∃ w2 : World, w2 = wr := ⟨_, rfl⟩
    rcases hA with ⟨rfl, HA⟩ | ⟨rfl, HA⟩
    · obtain ⟨P, hP⟩ : ∃ P, v / 4096 % 1048576 = P := ⟨_, rfl⟩
      obtain ⟨P0, P1⟩ : 0 ≤ P ∧ P < 1048576 := by omega
      have hF := field_any v 31 12 v0 V1.out
      rw [fieldOf_yes (by decide)] at hF
      have eF : fld v (31 : Int).toNat (12 : Int).toNat = P := by rw [← hP]; unfold fld; simp
      rw [eF] at hF
      obtain ⟨S, hS⟩ : ∃ S, sx P (cap64 20) = S := ⟨_, rfl⟩
      have hx := sext_any P 20 P0 (by omega)
      rw [hS] at hx
      have hS2 : S = P + P / 524288 * 18446744073708503040 := by rw [← hS]; exact sx_low 20 (by decide) (by decide) P0 P1
      obtain ⟨B, hB⟩ : ∃ B, IntKind.u64.wrap (S * 4096) = B := ⟨_, rfl⟩
      have hs : P / 524288 = v / 2147483648 % 2 := by have := V1.out; clear hF hx hS hB hS2 eF; omega
      rw [hs] at hS2
      clear hs
      have hB2 : B = P * 4096 + v / 2147483648 % 2 * 18446744069414584320 := by
        rw [← hB, hS2, IntKind.wrap_u64]
        clear hF hx hS hB hS2 eF hP
        have hq := Int.emod_two_eq (v / 2147483648)
        rcases hq with e | e <;> rw [e] <;> clear e <;> omega
      obtain ⟨B0, B1⟩ : 0 ≤ B ∧ B < 18446744073709551616 := by rw [← hB, IntKind.wrap_u64]; clear hF hx hS hB hS2 eF hB2; omega
      obtain ⟨S0, S1⟩ : 0 ≤ S ∧ S < 18446744073709551616 := by clear hF hx hS hB eF hB2 hP; omega
      
      have hor : bits .or .u64 A B = B := by rw [show A = 0 from HA.out]; exact u64_or_zero B0 B1
      have HB2 := Lib.hid hB2
      have HP := Lib.hid hP
      clear hP eF hS hS2 hB2
      have ix : ∀ w : World, (Instr.index 66 (.agg #[.int .i64 31, .int .i64 12, .int .i64 12, .int .i64 0, .int .i64 0, .int .i64 0, .int .i64 0, .int .i64 0, .int .i64 0, .int .i64 0, .int .i64 0, .int .i64 0]) (.int .i64 0)).run Tryd.prog w = .ok (.agg #[.int .i64 31, .int .i64 12, .int .i64 12]) w := fun _ => by kernel_rfl
      go_wp2_with (first
        | (go_at_call 46; refine (hF _).mono ?_; rintro e w' ⟨rfl, rfl⟩)
        | (go_at_call 54; refine (none_c _ _ _ _).mono ?_; rintro e w' ⟨rfl, hb2⟩; obtain ⟨hc, hf⟩ := bcell hb2)
        | (go_at_call 55; refine (hx _).mono ?_; rintro e w2 ⟨rfl, rfl⟩))
      obtain ⟨q0, q1, q2, HB⟩ := held_place hb hb2 hc
      clear hc hf q0 q1 q2
      go_roundg (1 - (0 + 1))
      case measure => omega
      case rel =>
        refine ⟨HB, 1, B, rfl, rfl, by omega, by omega, B0, B1, .inr (⟨rfl, (show Hid _ from ?_)⟩)⟩
        rw [HB2.out, ← HP.out]
        exact Lib.hid rfl
    · have ix : ∀ w : World, (Instr.index 66 (.agg #[.int .i64 31, .int .i64 12, .int .i64 12, .int .i64 0, .int .i64 0, .int .i64 0, .int .i64 0, .int .i64 0, .int .i64 0, .int .i64 0, .int .i64 0, .int .i64 0]) (.int .i64 1)).run Tryd.prog w = .ok (.agg #[.int .i64 0, .int .i64 0, .int .i64 0]) w := fun _ => by kernel_rfl
      obtain ⟨P, hP⟩ : ∃ P, fieldOf v 0 0 = P := ⟨_, rfl⟩
      have hF := field_any v 0 0 v0 V1.out
      rw [hP] at hF
      obtain ⟨P0, P1⟩ : 0 ≤ P ∧ P < 2 := by
        rw [← hP, fieldOf_yes (by decide)]; unfold fld; clear hF hP; simp; omega
      clear hP
      go_wp2_with (first
        | (go_at_call 46; refine (hF _).mono ?_; rintro e w' ⟨rfl, rfl⟩)
        | (go_at_call 54; refine (none_c _ _ _ _).mono ?_; rintro e w' ⟨rfl, hb2⟩; obtain ⟨hc, hf⟩ := bcell hb2))
      obtain ⟨q0, q1, q2, HB⟩ := held_place hb hb2 hc
      clear hc hf q0 q1 q2
      try rw [Exit.noGoto_ret]
      go_ret
      exact ⟨ret_int (by have := V1.out; rw [HE.out, HA.out, show v / 4096 % 1048576 = v / 4096 % 524288 + 524288 * (v / 2147483648 % 2) by omega]; exact fin_get4 v), HB⟩

theorem fin_get5 (v : Int) : wrap64 (v / 2147483648 % 2 * 1048576 + v / 2147483648 % 2 * 18446744073707454464 + v / 4096 % 256 * 4096 + v / 1048576 % 2 * 2048 + v / 2097152 % 1024 * 2) = v / 4096 % 256 * 4096 + v / 1048576 % 2 * 2048 + v / 2097152 % 1024 * 2 - v / 2147483648 % 2 * 1048576 := by
  have hq := Int.emod_two_eq (v / 2147483648)
  rw [wrap64_eq, IntKind.wrap_i64]
  rcases hq with e | e <;> rw [e] <;> clear e <;> omega
set_option maxRecDepth 100000 in
theorem get5_c (v : Int) (w : World) (v0 : 0 ≤ v) (v1 : v < 4294967296) (hT : Tab w) :
    Calls Tryd.prog 47 #[.int .i64 5, .int .u32 v] w fun e w' => e = .returned (.int .i64 (getK 5 v 32)) ∧ Below w.heap.size w w' := by
  have c0 := hT 60 (by decide)
  have c1 := hT 61 (by decide)
  have c2 := hT 62 (by decide)
  have c3 := hT 63 (by decide)
  have c4 := hT 64 (by decide)
  have c5 := hT 65 (by decide)
  have c6 := hT 66 (by decide)
  have c7 := hT 67 (by decide)
  have c8 := hT 68 (by decide)
  have c9 := hT 69 (by decide)
  have c10 := hT 70 (by decide)
  have c11 := hT 71 (by decide)
  simp only [tabL, List.getD_cons_succ, List.getD_cons_zero] at c0 c1 c2 c3 c4 c5 c6 c7 c8 c9 c10 c11
  have HE := Lib.hid (get5 v0)
  clear hT
  have V1 := Lib.hid v1
  clear v1
  go_enter Tryd.func47, Tryd.ntmps47
  go_wp2
  go_step3
  go_wp2_with (first
    | (go_at_call 53; refine (known_yes _ (by omega) _).mono ?_; rintro e w' ⟨rfl, rfl⟩))
  go_step3
  go_wp2_with fail
  clear c0 c1 c2 c3 c4 c5 c6 c7 c8 c9 c10 c11
  go_loopg [5, 15] 4 (fun gg v5 v15 wr => Below w.heap.size w wr ∧ ∃ k A : Int, v15 = .int .i64 k ∧ v5 = .int .u64 A ∧ k + gg = 4 ∧ 0 ≤ k ∧ 0 ≤ A ∧ A < 18446744073709551616 ∧ ((k = 0 ∧ Hid (A = 0)) ∨ (k = 1 ∧ Hid (A = v / 2147483648 % 2 * 1048576 + v / 2147483648 % 2 * 18446744073707454464)) ∨ (k = 2 ∧ Hid (A = v / 2147483648 % 2 * 1048576 + v / 2147483648 % 2 * 18446744073707454464 + v / 4096 % 256 * 4096)) ∨ (k = 3 ∧ Hid (A = v / 2147483648 % 2 * 1048576 + v / 2147483648 % 2 * 18446744073707454464 + v / 4096 % 256 * 4096 + v / 1048576 % 2 * 2048)) ∨ (k = 4 ∧ Hid (A = v / 2147483648 % 2 * 1048576 + v / 2147483648 % 2 * 18446744073707454464 + v / 4096 % 256 * 4096 + v / 1048576 % 2 * 2048 + v / 2097152 % 1024 * 2))))
  case atStart => exact ⟨Below.refl _ _, 0, 0, rfl, rfl, by omega, by omega, by omega, by omega, .inl ⟨rfl, (show Hid _ from rfl)⟩⟩
  case round =>
    obtain ⟨hb, k, A, rfl, rfl, hk, hk0, A0, A1, hA⟩ := hrel
    obtain ⟨w2, rfl⟩ : ∃ w2 : World, w2 = wr := ⟨_, rfl⟩
    rcases hA with ⟨rfl, HA⟩ | ⟨rfl, HA⟩ | ⟨rfl, HA⟩ | ⟨rfl, HA⟩ | ⟨rfl, HA⟩
    · obtain ⟨P, hP⟩ : ∃ P, v / 2147483648 % 2 = P := ⟨_, rfl⟩
      obtain ⟨P0, P1⟩ : 0 ≤ P ∧ P < 2 := by omega
      have hF := field_any v 31 31 v0 V1.out
      rw [fieldOf_yes (by decide)] at hF
      have eF : fld v (31 : Int).toNat (31 : Int).toNat = P := by rw [← hP]; unfold fld; simp
      rw [eF] at hF
      obtain ⟨S, hS⟩ : ∃ S, sx P (cap64 1) = S := ⟨_, rfl⟩
      have hx := sext_any P 1 P0 (by omega)
      rw [hS] at hx
      have hS2 : S = P + P / 1 * 18446744073709551614 := by rw [← hS]; exact sx_low 1 (by decide) (by decide) P0 P1
      obtain ⟨B, hB⟩ : ∃ B, IntKind.u64.wrap (S * 1048576) = B := ⟨_, rfl⟩
      have hs : P / 1 = v / 2147483648 % 2 := by have := V1.out; clear hF hx hS hB hS2 eF; omega
      rw [hs] at hS2
      clear hs
      have hB2 : B = P * 1048576 + v / 2147483648 % 2 * 18446744073707454464 := by
        rw [← hB, hS2, IntKind.wrap_u64]
        clear hF hx hS hB hS2 eF hP
        have hq := Int.emod_two_eq (v / 2147483648)
        rcases hq with e | e <;> rw [e] <;> clear e <;> omega
      obtain ⟨B0, B1⟩ : 0 ≤ B ∧ B < 18446744073709551616 := by rw [← hB, IntKind.wrap_u64]; clear hF hx hS hB hS2 eF hB2; omega
      obtain ⟨S0, S1⟩ : 0 ≤ S ∧ S < 18446744073709551616 := by clear hF hx hS hB eF hB2 hP; omega
      
      have hor : bits .or .u64 A B = B := by rw [show A = 0 from HA.out]; exact u64_or_zero B0 B1
      have HB2 := Lib.hid hB2
      have HP := Lib.hid hP
      clear hP eF hS hS2 hB2
      have ix : ∀ w : World, (Instr.index 66 (.agg #[.int .i64 31, .int .i64 31, .int .i64 20, .int .i64 19, .int .i64 12, .int .i64 12, .int .i64 20, .int .i64 20, .int .i64 11, .int .i64 30, .int .i64 21, .int .i64 1]) (.int .i64 0)).run Tryd.prog w = .ok (.agg #[.int .i64 31, .int .i64 31, .int .i64 20]) w := fun _ => by kernel_rfl
      go_wp2_with (first
        | (go_at_call 46; refine (hF _).mono ?_; rintro e w' ⟨rfl, rfl⟩)
        | (go_at_call 54; refine (none_c _ _ _ _).mono ?_; rintro e w' ⟨rfl, hb2⟩; obtain ⟨hc, hf⟩ := bcell hb2)
        | (go_at_call 55; refine (hx _).mono ?_; rintro e w2 ⟨rfl, rfl⟩))
      obtain ⟨q0, q1, q2, HB⟩ := held_place hb hb2 hc
      clear hc hf q0 q1 q2
      go_roundg (4 - (0 + 1))
      case measure => omega
      case rel =>
        refine ⟨HB, 1, B, rfl, rfl, by omega, by omega, B0, B1, .inr (.inl ⟨rfl, (show Hid _ from ?_)⟩)⟩
        rw [HB2.out, ← HP.out]
        exact Lib.hid rfl
    · obtain ⟨P, hP⟩ : ∃ P, v / 4096 % 256 = P := ⟨_, rfl⟩
      obtain ⟨P0, P1⟩ : 0 ≤ P ∧ P < 256 := by omega
      have hF := field_any v 19 12 v0 V1.out
      rw [fieldOf_yes (by decide)] at hF
      have eF : fld v (19 : Int).toNat (12 : Int).toNat = P := by rw [← hP]; unfold fld; simp
      rw [eF] at hF
      have ha : A / 4096 % 256 = 0 := by
        rw [HA.out]
        obtain ⟨x0, e0⟩ : ∃ x, v / 2147483648 % 2 = x := ⟨_, rfl⟩
        have b0 : 0 ≤ x0 ∧ x0 < 2 := by omega
        obtain ⟨q, eq⟩ : ∃ q, v / 2147483648 % 2 = q := ⟨_, rfl⟩
        have bq : 0 ≤ q ∧ q < 2 := by omega
        rw [e0]
        try rw [eq]
        clear eq
        clear e0
        clear hF hP P0 P1 eF hk
        omega
      have hA2 : A + P * 4096 < 18446744073709551616 := by have := HA.out; have := V1.out; omega
      have hor : bits .or .u64 A (P * 4096) = A + P * 4096 := u64_or_free 12 8 A0 A1 ha P0 P1 hA2
      have HP := Lib.hid hP
      clear hP eF ha
      have ix : ∀ w : World, (Instr.index 66 (.agg #[.int .i64 31, .int .i64 31, .int .i64 20, .int .i64 19, .int .i64 12, .int .i64 12, .int .i64 20, .int .i64 20, .int .i64 11, .int .i64 30, .int .i64 21, .int .i64 1]) (.int .i64 1)).run Tryd.prog w = .ok (.agg #[.int .i64 19, .int .i64 12, .int .i64 12]) w := fun _ => by kernel_rfl
      go_wp2_with (first
        | (go_at_call 46; refine (hF _).mono ?_; rintro e w' ⟨rfl, rfl⟩)
        | (go_at_call 54; refine (none_c _ _ _ _).mono ?_; rintro e w' ⟨rfl, hb2⟩; obtain ⟨hc, hf⟩ := bcell hb2)
)
      obtain ⟨q0, q1, q2, HB⟩ := held_place hb hb2 hc
      clear hc hf q0 q1 q2
      go_roundg (4 - (1 + 1))
      case measure => omega
      case rel =>
        refine ⟨HB, 2, A + P * 4096, rfl, rfl, by omega, by omega, by omega, hA2, .inr (.inr (.inl ⟨rfl, (show Hid _ from ?_)⟩))⟩
        rw [HA.out, ← HP.out]
        exact Lib.hid rfl
    · obtain ⟨P, hP⟩ : ∃ P, v / 1048576 % 2 = P := ⟨_, rfl⟩
      obtain ⟨P0, P1⟩ : 0 ≤ P ∧ P < 2 := by omega
      have hF := field_any v 20 20 v0 V1.out
      rw [fieldOf_yes (by decide)] at hF
      have eF : fld v (20 : Int).toNat (20 : Int).toNat = P := by rw [← hP]; unfold fld; simp
      rw [eF] at hF
      have ha : A / 2048 % 2 = 0 := by
        rw [HA.out]
        obtain ⟨x0, e0⟩ : ∃ x, v / 2147483648 % 2 = x := ⟨_, rfl⟩
        have b0 : 0 ≤ x0 ∧ x0 < 2 := by omega
        obtain ⟨x1, e1⟩ : ∃ x, v / 4096 % 256 = x := ⟨_, rfl⟩
        have b1 : 0 ≤ x1 ∧ x1 < 256 := by omega
        obtain ⟨q, eq⟩ : ∃ q, v / 2147483648 % 2 = q := ⟨_, rfl⟩
        have bq : 0 ≤ q ∧ q < 2 := by omega
        rw [e0]
        rw [e1]
        try rw [eq]
        clear eq
        clear e0 e1
        clear hF hP P0 P1 eF hk
        omega
      have hA2 : A + P * 2048 < 18446744073709551616 := by have := HA.out; have := V1.out; omega
      have hor : bits .or .u64 A (P * 2048) = A + P * 2048 := u64_or_free 11 1 A0 A1 ha P0 P1 hA2
      have HP := Lib.hid hP
      clear hP eF ha
      have ix : ∀ w : World, (Instr.index 66 (.agg #[.int .i64 31, .int .i64 31, .int .i64 20, .int .i64 19, .int .i64 12, .int .i64 12, .int .i64 20, .int .i64 20, .int .i64 11, .int .i64 30, .int .i64 21, .int .i64 1]) (.int .i64 2)).run Tryd.prog w = .ok (.agg #[.int .i64 20, .int .i64 20, .int .i64 11]) w := fun _ => by kernel_rfl
      go_wp2_with (first
        | (go_at_call 46; refine (hF _).mono ?_; rintro e w' ⟨rfl, rfl⟩)
        | (go_at_call 54; refine (none_c _ _ _ _).mono ?_; rintro e w' ⟨rfl, hb2⟩; obtain ⟨hc, hf⟩ := bcell hb2)
)
      obtain ⟨q0, q1, q2, HB⟩ := held_place hb hb2 hc
      clear hc hf q0 q1 q2
      go_roundg (4 - (2 + 1))
      case measure => omega
      case rel =>
        refine ⟨HB, 3, A + P * 2048, rfl, rfl, by omega, by omega, by omega, hA2, .inr (.inr (.inr (.inl ⟨rfl, (show Hid _ from ?_)⟩)))⟩
        rw [HA.out, ← HP.out]
        exact Lib.hid rfl
    · obtain ⟨P, hP⟩ : ∃ P, v / 2097152 % 1024 = P := ⟨_, rfl⟩
      obtain ⟨P0, P1⟩ : 0 ≤ P ∧ P < 1024 := by omega
      have hF := field_any v 30 21 v0 V1.out
      rw [fieldOf_yes (by decide)] at hF
      have eF : fld v (30 : Int).toNat (21 : Int).toNat = P := by rw [← hP]; unfold fld; simp
      rw [eF] at hF
      have ha : A / 2 % 1024 = 0 := by
        rw [HA.out]
        obtain ⟨x0, e0⟩ : ∃ x, v / 2147483648 % 2 = x := ⟨_, rfl⟩
        have b0 : 0 ≤ x0 ∧ x0 < 2 := by omega
        obtain ⟨x1, e1⟩ : ∃ x, v / 4096 % 256 = x := ⟨_, rfl⟩
        have b1 : 0 ≤ x1 ∧ x1 < 256 := by omega
        obtain ⟨x2, e2⟩ : ∃ x, v / 1048576 % 2 = x := ⟨_, rfl⟩
        have b2 : 0 ≤ x2 ∧ x2 < 2 := by omega
        obtain ⟨q, eq⟩ : ∃ q, v / 2147483648 % 2 = q := ⟨_, rfl⟩
        have bq : 0 ≤ q ∧ q < 2 := by omega
        rw [e0]
        rw [e1]
        rw [e2]
        try rw [eq]
        clear eq
        clear e0 e1 e2
        clear hF hP P0 P1 eF hk
        omega
      have hA2 : A + P * 2 < 18446744073709551616 := by have := HA.out; have := V1.out; omega
      have hor : bits .or .u64 A (P * 2) = A + P * 2 := u64_or_free 1 10 A0 A1 ha P0 P1 hA2
      have HP := Lib.hid hP
      clear hP eF ha
      have ix : ∀ w : World, (Instr.index 66 (.agg #[.int .i64 31, .int .i64 31, .int .i64 20, .int .i64 19, .int .i64 12, .int .i64 12, .int .i64 20, .int .i64 20, .int .i64 11, .int .i64 30, .int .i64 21, .int .i64 1]) (.int .i64 3)).run Tryd.prog w = .ok (.agg #[.int .i64 30, .int .i64 21, .int .i64 1]) w := fun _ => by kernel_rfl
      go_wp2_with (first
        | (go_at_call 46; refine (hF _).mono ?_; rintro e w' ⟨rfl, rfl⟩)
        | (go_at_call 54; refine (none_c _ _ _ _).mono ?_; rintro e w' ⟨rfl, hb2⟩; obtain ⟨hc, hf⟩ := bcell hb2)
)
      obtain ⟨q0, q1, q2, HB⟩ := held_place hb hb2 hc
      clear hc hf q0 q1 q2
      go_roundg (4 - (3 + 1))
      case measure => omega
      case rel =>
        refine ⟨HB, 4, A + P * 2, rfl, rfl, by omega, by omega, by omega, hA2, .inr (.inr (.inr (.inr (⟨rfl, (show Hid _ from ?_)⟩))))⟩
        rw [HA.out, ← HP.out]
        exact Lib.hid rfl
    · go_wp2_with fail
      try rw [Exit.noGoto_ret]
      go_ret
      exact ⟨ret_int (by have := V1.out; rw [HE.out, HA.out]; exact fin_get5 v), hb⟩
end Go.Proofs.YtbnacdhhacafkaaDoor
