/- Of stage 11. -/
import Derived.Test.YtmamblgpekafbaaGreatDoorWxpa
import Derived.Test.YtmamblgpekafbaaGreatDoorBk4pa
import Derived.Deep.Cut
import Derived.LoopTactic
set_option maxRecDepth 100000
namespace Go.Proofs.YtmamblgpekafbaaGreatDoor
open Go.RowKit
theorem zd2 {B : Nat} {a w : World} (h : Below B a w) (n : Nat) : Below B a (w.drewN n) := ⟨h.os, h.tape, h.output, h.size, h.block⟩
theorem zi2 {W w1 : World} (hb : Below W.heap.size W w1) : (∀ b o, b < W.heap.size → w1.cell? ⟨b, o, none⟩ = W.cell? ⟨b, o, none⟩) ∧ (∀ b o, b < W.heap.size → w1.frozen? ⟨b, o, none⟩ = W.frozen? ⟨b, o, none⟩) :=
  ⟨fun b o h => hb.cell (p := ⟨b, o, none⟩) h, fun b o h => hb.frozen (p := ⟨b, o, none⟩) h⟩
theorem zb4 {w w2 w' : World} {x y z : Value} {t : TypeId} (hb : Below w.heap.size w w2) (hb2 : Below (w2.alloc (.cells #[x, y, z] t)).heap.size (w2.alloc (.cells #[x, y, z] t)) w')
    (hc : ∀ b o, b < (w2.alloc (.cells #[x, y, z] t)).heap.size → w'.cell? ⟨b, o, none⟩ = (w2.alloc (.cells #[x, y, z] t)).cell? ⟨b, o, none⟩) :
    w'.cell? ⟨w2.heap.size, 0, none⟩ = some x ∧ w'.cell? ⟨w2.heap.size, 1, none⟩ = some y ∧ w'.cell? ⟨w2.heap.size, 2, none⟩ = some z ∧ Below w.heap.size w w' := by
  have hl : w2.heap.size < (w2.alloc (.cells #[x, y, z] t)).heap.size := by simp
  have hn : ∀ o, (w2.alloc (.cells #[x, y, z] t)).cell? ⟨w2.heap.size, o, none⟩ = #[x, y, z][o]? := fun o => cell_of_row _ _ o #[x, y, z] t (0, 0) (heap_alloc_last w2 _)
  refine ⟨?_, ?_, ?_, (hb.alloc hb.size _).trans (hb2.mono (by have := hb.size; simp; omega))⟩
  · rw [hc _ _ hl, hn]; rfl
  · rw [hc _ _ hl, hn]; rfl
  · rw [hc _ _ hl, hn]; rfl
theorem ze0 {a p : Int} (lo n : Nat) (hn : lo + n ≤ 32) (a0 : 0 ≤ a) (a1 : a < 4294967296) (h : a / 2 ^ lo % 2 ^ n = 0) (p0 : 0 ≤ p) (p1 : p < 2 ^ n) : bits .or .u32 a (p * 2 ^ lo) = a + p * 2 ^ lo := by
  obtain ⟨A, rfl⟩ := Int.eq_ofNat_of_zero_le a0
  obtain ⟨B, rfl⟩ := Int.eq_ofNat_of_zero_le p0
  have hA : A < 4294967296 := by omega
  have hB : B < 2 ^ n := by exact_mod_cast p1
  have hN : A / 2 ^ lo % 2 ^ n = 0 := by exact_mod_cast h
  have hBl : B * 2 ^ lo < 4294967296 := by
    have h1 : B * 2 ^ lo < 2 ^ n * 2 ^ lo := Nat.mul_lt_mul_of_pos_right hB (Nat.pow_pos (by decide))
    have h2 : 2 ^ n * 2 ^ lo ≤ 2 ^ 32 := by rw [← Nat.pow_add]; exact Nat.pow_le_pow_right (by decide) (by omega)
    omega
  have e : ((B : Int) * 2 ^ lo) = ((B * 2 ^ lo : Nat) : Int) := by simp
  rw [e, u32_or_nat A _ hA hBl, or_disj hA hBl (zQ8 lo n hN hB), Int.natCast_add]
set_option maxRecDepth 100000 in
theorem spread1 (h : Int) (w : World) (h0 : 0 ≤ h) (h1 : h < 4294967296) (hT : Tab w) :
    Calls Tryz.prog 167 #[.int .i64 1, .int .u32 h] w fun e w' => e = .returned (.int .u32 (putK 1 h 32)) ∧ Below w.heap.size w w' := by
  have c0 := hT 12 (by decide)
  have c1 := hT 13 (by decide)
  have c2 := hT 14 (by decide)
  have c3 := hT 15 (by decide)
  have c4 := hT 16 (by decide)
  have c5 := hT 17 (by decide)
  have c6 := hT 18 (by decide)
  have c7 := hT 19 (by decide)
  have c8 := hT 20 (by decide)
  have c9 := hT 21 (by decide)
  have c10 := hT 22 (by decide)
  have c11 := hT 23 (by decide)
  simp only [tabL, List.getD_cons_succ, List.getD_cons_zero] at c0 c1 c2 c3 c4 c5 c6 c7 c8 c9 c10 c11
  have HE := Lib.hid (put1 h0)
  clear hT
  have H1 := Lib.hid h1
  clear h1
  go_enter Tryz.func167, Tryz.ntmps167
  go_wp2
  go_step3
  go_wp2_with (first
    | (go_at_call 166; refine (zg8 _ (by omega) _).mono ?_; rintro e w' ⟨rfl, rfl⟩))
  go_step3
  go_wp2_with fail
  clear c0 c1 c2 c3 c4 c5 c6 c7 c8 c9 c10 c11
  go_loopg [5, 14] 1 (fun gg v5 v14 wr => Below w.heap.size w wr ∧ ∃ k A : Int, v14 = .int .i64 k ∧ v5 = .int .u32 A ∧ k + gg = 1 ∧ 0 ≤ k ∧ 0 ≤ A ∧ A < 4294967296 ∧ ((k = 0 ∧ Hid (A = 0)) ∨ (k = 1 ∧ Hid (A = h % 4096 * 1048576))))
  case atStart => exact ⟨Below.refl _ _, 0, 0, rfl, rfl, by omega, by omega, by omega, by omega, .inl ⟨rfl, (show Hid _ from rfl)⟩⟩
  case round =>
    obtain ⟨hb, k, A, rfl, rfl, hk, hk0, A0, A1, hA⟩ := hrel
    obtain ⟨w2, rfl⟩ : ∃ w2 : World, w2 = wr := ⟨_, rfl⟩
    rcases hA with ⟨rfl, HA⟩ | ⟨rfl, HA⟩
    · obtain ⟨P, hP⟩ : ∃ P, h % 4096 = P := ⟨_, rfl⟩
      obtain ⟨P0, P1⟩ : 0 ≤ P ∧ P < 4096 := by omega
      have hF := zb9 h 11 0 h0 H1.out
      rw [za6 (by decide)] at hF
      have eF : fld h (11 : Int).toNat (0 : Int).toNat = P := by rw [← hP]; unfold fld; simp
      rw [eF] at hF
      have ha : A / 1048576 % 4096 = 0 := by
        rw [HA.out]
        clear hF hP P0 P1 eF hk
        omega
      have hor : bits .or .u32 A (P * 1048576) = A + P * 1048576 := ze0 20 12 (by decide) A0 A1 ha P0 P1
      have hA2 : A + P * 1048576 < 4294967296 := by have := HA.out; omega
      have HP := Lib.hid hP
      clear hP eF ha
      have ix : ∀ w : World, (Instr.index 172 (.agg #[.int .i64 31, .int .i64 20, .int .i64 0, .int .i64 0, .int .i64 0, .int .i64 0, .int .i64 0, .int .i64 0, .int .i64 0, .int .i64 0, .int .i64 0, .int .i64 0]) (.int .i64 0)).run Tryz.prog w = .ok (.agg #[.int .i64 31, .int .i64 20, .int .i64 0]) w := fun _ => by kernel_rfl
      go_wp2_with (first
        | (go_at_call 174; refine (ze9 _ _ _ _).mono ?_; rintro e w' ⟨rfl, hb2⟩; obtain ⟨hc, hf⟩ := zi2 hb2))
      obtain ⟨q0, q1, q2, HB⟩ := zb4 hb hb2 hc
      clear hc hf hb2 hb ix
      generalize w2.heap.size = g at *
      go_quiet (first | (go_at_call 143; refine Calls.quiet_of_same ((hF _).mono (fun _ _ ⟨he, hw⟩ => ⟨he, hw.symm⟩))))
      go_wp2_with fail
      go_roundg (1 - (0 + 1))
      case measure => omega
      case rel =>
        refine ⟨zd2 HB _, 1, A + P * 1048576, rfl, rfl, by omega, by omega, by omega, hA2, .inr (⟨rfl, (show Hid _ from ?_)⟩)⟩
        rw [HA.out, ← HP.out, Int.zero_add]
        exact Lib.hid rfl
    · have ix : ∀ w : World, (Instr.index 172 (.agg #[.int .i64 31, .int .i64 20, .int .i64 0, .int .i64 0, .int .i64 0, .int .i64 0, .int .i64 0, .int .i64 0, .int .i64 0, .int .i64 0, .int .i64 0, .int .i64 0]) (.int .i64 1)).run Tryz.prog w = .ok (.agg #[.int .i64 0, .int .i64 0, .int .i64 0]) w := fun _ => by kernel_rfl
      go_wp2_with (first
        | (go_at_call 174; refine (ze9 _ _ _ _).mono ?_; rintro e w' ⟨rfl, hb2⟩; obtain ⟨hc, hf⟩ := zi2 hb2))
      obtain ⟨q0, q1, q2, HB⟩ := zb4 hb hb2 hc
      try rw [Exit.noGoto_ret]
      go_ret
      exact ⟨za1 (by rw [HE.out, HA.out] <;> omega), HB⟩
set_option maxRecDepth 100000 in
theorem spread2 (h : Int) (w : World) (h0 : 0 ≤ h) (h1 : h < 4294967296) (hT : Tab w) :
    Calls Tryz.prog 167 #[.int .i64 2, .int .u32 h] w fun e w' => e = .returned (.int .u32 (putK 2 h 32)) ∧ Below w.heap.size w w' := by
  have c0 := hT 24 (by decide)
  have c1 := hT 25 (by decide)
  have c2 := hT 26 (by decide)
  have c3 := hT 27 (by decide)
  have c4 := hT 28 (by decide)
  have c5 := hT 29 (by decide)
  have c6 := hT 30 (by decide)
  have c7 := hT 31 (by decide)
  have c8 := hT 32 (by decide)
  have c9 := hT 33 (by decide)
  have c10 := hT 34 (by decide)
  have c11 := hT 35 (by decide)
  simp only [tabL, List.getD_cons_succ, List.getD_cons_zero] at c0 c1 c2 c3 c4 c5 c6 c7 c8 c9 c10 c11
  have HE := Lib.hid (put2 h0)
  clear hT
  have H1 := Lib.hid h1
  clear h1
  go_enter Tryz.func167, Tryz.ntmps167
  go_wp2
  go_step3
  go_wp2_with (first
    | (go_at_call 166; refine (zg8 _ (by omega) _).mono ?_; rintro e w' ⟨rfl, rfl⟩))
  go_step3
  go_wp2_with fail
  clear c0 c1 c2 c3 c4 c5 c6 c7 c8 c9 c10 c11
  go_loopg [5, 14] 2 (fun gg v5 v14 wr => Below w.heap.size w wr ∧ ∃ k A : Int, v14 = .int .i64 k ∧ v5 = .int .u32 A ∧ k + gg = 2 ∧ 0 ≤ k ∧ 0 ≤ A ∧ A < 4294967296 ∧ ((k = 0 ∧ Hid (A = 0)) ∨ (k = 1 ∧ Hid (A = h / 32 % 128 * 33554432)) ∨ (k = 2 ∧ Hid (A = h / 32 % 128 * 33554432 + h % 32 * 128))))
  case atStart => exact ⟨Below.refl _ _, 0, 0, rfl, rfl, by omega, by omega, by omega, by omega, .inl ⟨rfl, (show Hid _ from rfl)⟩⟩
  case round =>
    obtain ⟨hb, k, A, rfl, rfl, hk, hk0, A0, A1, hA⟩ := hrel
    obtain ⟨w2, rfl⟩ : ∃ w2 : World, w2 = wr := ⟨_, rfl⟩
    rcases hA with ⟨rfl, HA⟩ | ⟨rfl, HA⟩ | ⟨rfl, HA⟩
    · obtain ⟨P, hP⟩ : ∃ P, h / 32 % 128 = P := ⟨_, rfl⟩
      obtain ⟨P0, P1⟩ : 0 ≤ P ∧ P < 128 := by omega
      have hF := zb9 h 11 5 h0 H1.out
      rw [za6 (by decide)] at hF
      have eF : fld h (11 : Int).toNat (5 : Int).toNat = P := by rw [← hP]; unfold fld; simp
      rw [eF] at hF
      have ha : A / 33554432 % 128 = 0 := by
        rw [HA.out]
        clear hF hP P0 P1 eF hk
        omega
      have hor : bits .or .u32 A (P * 33554432) = A + P * 33554432 := ze0 25 7 (by decide) A0 A1 ha P0 P1
      have hA2 : A + P * 33554432 < 4294967296 := by have := HA.out; omega
      have HP := Lib.hid hP
      clear hP eF ha
      have ix : ∀ w : World, (Instr.index 172 (.agg #[.int .i64 31, .int .i64 25, .int .i64 5, .int .i64 11, .int .i64 7, .int .i64 0, .int .i64 0, .int .i64 0, .int .i64 0, .int .i64 0, .int .i64 0, .int .i64 0]) (.int .i64 0)).run Tryz.prog w = .ok (.agg #[.int .i64 31, .int .i64 25, .int .i64 5]) w := fun _ => by kernel_rfl
      go_wp2_with (first
        | (go_at_call 174; refine (ze9 _ _ _ _).mono ?_; rintro e w' ⟨rfl, hb2⟩; obtain ⟨hc, hf⟩ := zi2 hb2))
      obtain ⟨q0, q1, q2, HB⟩ := zb4 hb hb2 hc
      clear hc hf hb2 hb ix
      generalize w2.heap.size = g at *
      go_quiet (first | (go_at_call 143; refine Calls.quiet_of_same ((hF _).mono (fun _ _ ⟨he, hw⟩ => ⟨he, hw.symm⟩))))
      go_wp2_with fail
      go_roundg (2 - (0 + 1))
      case measure => omega
      case rel =>
        refine ⟨zd2 HB _, 1, A + P * 33554432, rfl, rfl, by omega, by omega, by omega, hA2, .inr (.inl ⟨rfl, (show Hid _ from ?_)⟩)⟩
        rw [HA.out, ← HP.out, Int.zero_add]
        exact Lib.hid rfl
    · obtain ⟨P, hP⟩ : ∃ P, h % 32 = P := ⟨_, rfl⟩
      obtain ⟨P0, P1⟩ : 0 ≤ P ∧ P < 32 := by omega
      have hF := zb9 h 4 0 h0 H1.out
      rw [za6 (by decide)] at hF
      have eF : fld h (4 : Int).toNat (0 : Int).toNat = P := by rw [← hP]; unfold fld; simp
      rw [eF] at hF
      have ha : A / 128 % 32 = 0 := by
        rw [HA.out]
        obtain ⟨x0, e0⟩ : ∃ x, h / 32 % 128 = x := ⟨_, rfl⟩
        have b0 : 0 ≤ x0 ∧ x0 < 128 := by omega
        rw [e0]
        clear e0
        clear hF hP P0 P1 eF hk
        omega
      have hor : bits .or .u32 A (P * 128) = A + P * 128 := ze0 7 5 (by decide) A0 A1 ha P0 P1
      have hA2 : A + P * 128 < 4294967296 := by have := HA.out; omega
      have HP := Lib.hid hP
      clear hP eF ha
      have ix : ∀ w : World, (Instr.index 172 (.agg #[.int .i64 31, .int .i64 25, .int .i64 5, .int .i64 11, .int .i64 7, .int .i64 0, .int .i64 0, .int .i64 0, .int .i64 0, .int .i64 0, .int .i64 0, .int .i64 0]) (.int .i64 1)).run Tryz.prog w = .ok (.agg #[.int .i64 11, .int .i64 7, .int .i64 0]) w := fun _ => by kernel_rfl
      go_wp2_with (first
        | (go_at_call 174; refine (ze9 _ _ _ _).mono ?_; rintro e w' ⟨rfl, hb2⟩; obtain ⟨hc, hf⟩ := zi2 hb2))
      obtain ⟨q0, q1, q2, HB⟩ := zb4 hb hb2 hc
      clear hc hf hb2 hb ix
      generalize w2.heap.size = g at *
      go_quiet (first | (go_at_call 143; refine Calls.quiet_of_same ((hF _).mono (fun _ _ ⟨he, hw⟩ => ⟨he, hw.symm⟩))))
      go_wp2_with fail
      go_roundg (2 - (1 + 1))
      case measure => omega
      case rel =>
        refine ⟨zd2 HB _, 2, A + P * 128, rfl, rfl, by omega, by omega, by omega, hA2, .inr (.inr (⟨rfl, (show Hid _ from ?_)⟩))⟩
        rw [HA.out, ← HP.out]
        exact Lib.hid rfl
    · have ix : ∀ w : World, (Instr.index 172 (.agg #[.int .i64 31, .int .i64 25, .int .i64 5, .int .i64 11, .int .i64 7, .int .i64 0, .int .i64 0, .int .i64 0, .int .i64 0, .int .i64 0, .int .i64 0, .int .i64 0]) (.int .i64 2)).run Tryz.prog w = .ok (.agg #[.int .i64 0, .int .i64 0, .int .i64 0]) w := fun _ => by kernel_rfl
      go_wp2_with (first
        | (go_at_call 174; refine (ze9 _ _ _ _).mono ?_; rintro e w' ⟨rfl, hb2⟩; obtain ⟨hc, hf⟩ := zi2 hb2))
      obtain ⟨q0, q1, q2, HB⟩ := zb4 hb hb2 hc
      try rw [Exit.noGoto_ret]
      go_ret
      exact ⟨za1 (by rw [HE.out, HA.out] <;> omega), HB⟩
set_option maxRecDepth 100000 in
theorem spread3 (h : Int) (w : World) (h0 : 0 ≤ h) (h1 : h < 4294967296) (hT : Tab w) :
    Calls Tryz.prog 167 #[.int .i64 3, .int .u32 h] w fun e w' => e = .returned (.int .u32 (putK 3 h 32)) ∧ Below w.heap.size w w' := by
  have c0 := hT 36 (by decide)
  have c1 := hT 37 (by decide)
  have c2 := hT 38 (by decide)
  have c3 := hT 39 (by decide)
  have c4 := hT 40 (by decide)
  have c5 := hT 41 (by decide)
  have c6 := hT 42 (by decide)
  have c7 := hT 43 (by decide)
  have c8 := hT 44 (by decide)
  have c9 := hT 45 (by decide)
  have c10 := hT 46 (by decide)
  have c11 := hT 47 (by decide)
  simp only [tabL, List.getD_cons_succ, List.getD_cons_zero] at c0 c1 c2 c3 c4 c5 c6 c7 c8 c9 c10 c11
  have HE := Lib.hid (put3 h0)
  clear hT
  have H1 := Lib.hid h1
  clear h1
  go_enter Tryz.func167, Tryz.ntmps167
  go_wp2
  go_step3
  go_wp2_with (first
    | (go_at_call 166; refine (zg8 _ (by omega) _).mono ?_; rintro e w' ⟨rfl, rfl⟩))
  go_step3
  go_wp2_with fail
  clear c0 c1 c2 c3 c4 c5 c6 c7 c8 c9 c10 c11
  go_loopg [5, 14] 4 (fun gg v5 v14 wr => Below w.heap.size w wr ∧ ∃ k A : Int, v14 = .int .i64 k ∧ v5 = .int .u32 A ∧ k + gg = 4 ∧ 0 ≤ k ∧ 0 ≤ A ∧ A < 4294967296 ∧ ((k = 0 ∧ Hid (A = 0)) ∨ (k = 1 ∧ Hid (A = h / 4096 % 2 * 2147483648)) ∨ (k = 2 ∧ Hid (A = h / 4096 % 2 * 2147483648 + h / 2048 % 2 * 128)) ∨ (k = 3 ∧ Hid (A = h / 4096 % 2 * 2147483648 + h / 2048 % 2 * 128 + h / 32 % 64 * 33554432)) ∨ (k = 4 ∧ Hid (A = h / 4096 % 2 * 2147483648 + h / 2048 % 2 * 128 + h / 32 % 64 * 33554432 + h / 2 % 16 * 256))))
  case atStart => exact ⟨Below.refl _ _, 0, 0, rfl, rfl, by omega, by omega, by omega, by omega, .inl ⟨rfl, (show Hid _ from rfl)⟩⟩
  case round =>
    obtain ⟨hb, k, A, rfl, rfl, hk, hk0, A0, A1, hA⟩ := hrel
    obtain ⟨w2, rfl⟩ : ∃ w2 : World, w2 = wr := ⟨_, rfl⟩
    rcases hA with ⟨rfl, HA⟩ | ⟨rfl, HA⟩ | ⟨rfl, HA⟩ | ⟨rfl, HA⟩ | ⟨rfl, HA⟩
    · obtain ⟨P, hP⟩ : ∃ P, h / 4096 % 2 = P := ⟨_, rfl⟩
      obtain ⟨P0, P1⟩ : 0 ≤ P ∧ P < 2 := by omega
      have hF := zb9 h 12 12 h0 H1.out
      rw [za6 (by decide)] at hF
      have eF : fld h (12 : Int).toNat (12 : Int).toNat = P := by rw [← hP]; unfold fld; simp
      rw [eF] at hF
      have ha : A / 2147483648 % 2 = 0 := by
        rw [HA.out]
        clear hF hP P0 P1 eF hk
        omega
      have hor : bits .or .u32 A (P * 2147483648) = A + P * 2147483648 := ze0 31 1 (by decide) A0 A1 ha P0 P1
      have hA2 : A + P * 2147483648 < 4294967296 := by have := HA.out; omega
      have HP := Lib.hid hP
      clear hP eF ha
      have ix : ∀ w : World, (Instr.index 172 (.agg #[.int .i64 31, .int .i64 31, .int .i64 12, .int .i64 7, .int .i64 7, .int .i64 11, .int .i64 30, .int .i64 25, .int .i64 5, .int .i64 11, .int .i64 8, .int .i64 1]) (.int .i64 0)).run Tryz.prog w = .ok (.agg #[.int .i64 31, .int .i64 31, .int .i64 12]) w := fun _ => by kernel_rfl
      go_wp2_with (first
        | (go_at_call 174; refine (ze9 _ _ _ _).mono ?_; rintro e w' ⟨rfl, hb2⟩; obtain ⟨hc, hf⟩ := zi2 hb2))
      obtain ⟨q0, q1, q2, HB⟩ := zb4 hb hb2 hc
      clear hc hf hb2 hb ix
      generalize w2.heap.size = g at *
      go_quiet (first | (go_at_call 143; refine Calls.quiet_of_same ((hF _).mono (fun _ _ ⟨he, hw⟩ => ⟨he, hw.symm⟩))))
      go_wp2_with fail
      go_roundg (4 - (0 + 1))
      case measure => omega
      case rel =>
        refine ⟨zd2 HB _, 1, A + P * 2147483648, rfl, rfl, by omega, by omega, by omega, hA2, .inr (.inl ⟨rfl, (show Hid _ from ?_)⟩)⟩
        rw [HA.out, ← HP.out, Int.zero_add]
        exact Lib.hid rfl
    · obtain ⟨P, hP⟩ : ∃ P, h / 2048 % 2 = P := ⟨_, rfl⟩
      obtain ⟨P0, P1⟩ : 0 ≤ P ∧ P < 2 := by omega
      have hF := zb9 h 11 11 h0 H1.out
      rw [za6 (by decide)] at hF
      have eF : fld h (11 : Int).toNat (11 : Int).toNat = P := by rw [← hP]; unfold fld; simp
      rw [eF] at hF
      have ha : A / 128 % 2 = 0 := by
        rw [HA.out]
        obtain ⟨x0, e0⟩ : ∃ x, h / 4096 % 2 = x := ⟨_, rfl⟩
        have b0 : 0 ≤ x0 ∧ x0 < 2 := by omega
        rw [e0]
        clear e0
        clear hF hP P0 P1 eF hk
        omega
      have hor : bits .or .u32 A (P * 128) = A + P * 128 := ze0 7 1 (by decide) A0 A1 ha P0 P1
      have hA2 : A + P * 128 < 4294967296 := by have := HA.out; omega
      have HP := Lib.hid hP
      clear hP eF ha
      have ix : ∀ w : World, (Instr.index 172 (.agg #[.int .i64 31, .int .i64 31, .int .i64 12, .int .i64 7, .int .i64 7, .int .i64 11, .int .i64 30, .int .i64 25, .int .i64 5, .int .i64 11, .int .i64 8, .int .i64 1]) (.int .i64 1)).run Tryz.prog w = .ok (.agg #[.int .i64 7, .int .i64 7, .int .i64 11]) w := fun _ => by kernel_rfl
      go_wp2_with (first
        | (go_at_call 174; refine (ze9 _ _ _ _).mono ?_; rintro e w' ⟨rfl, hb2⟩; obtain ⟨hc, hf⟩ := zi2 hb2))
      obtain ⟨q0, q1, q2, HB⟩ := zb4 hb hb2 hc
      clear hc hf hb2 hb ix
      generalize w2.heap.size = g at *
      go_quiet (first | (go_at_call 143; refine Calls.quiet_of_same ((hF _).mono (fun _ _ ⟨he, hw⟩ => ⟨he, hw.symm⟩))))
      go_wp2_with fail
      go_roundg (4 - (1 + 1))
      case measure => omega
      case rel =>
        refine ⟨zd2 HB _, 2, A + P * 128, rfl, rfl, by omega, by omega, by omega, hA2, .inr (.inr (.inl ⟨rfl, (show Hid _ from ?_)⟩))⟩
        rw [HA.out, ← HP.out]
        exact Lib.hid rfl
    · obtain ⟨P, hP⟩ : ∃ P, h / 32 % 64 = P := ⟨_, rfl⟩
      obtain ⟨P0, P1⟩ : 0 ≤ P ∧ P < 64 := by omega
      have hF := zb9 h 10 5 h0 H1.out
      rw [za6 (by decide)] at hF
      have eF : fld h (10 : Int).toNat (5 : Int).toNat = P := by rw [← hP]; unfold fld; simp
      rw [eF] at hF
      have ha : A / 33554432 % 64 = 0 := by
        rw [HA.out]
        obtain ⟨x0, e0⟩ : ∃ x, h / 4096 % 2 = x := ⟨_, rfl⟩
        have b0 : 0 ≤ x0 ∧ x0 < 2 := by omega
        obtain ⟨x1, e1⟩ : ∃ x, h / 2048 % 2 = x := ⟨_, rfl⟩
        have b1 : 0 ≤ x1 ∧ x1 < 2 := by omega
        rw [e0]
        rw [e1]
        clear e0 e1
        clear hF hP P0 P1 eF hk
        omega
      have hor : bits .or .u32 A (P * 33554432) = A + P * 33554432 := ze0 25 6 (by decide) A0 A1 ha P0 P1
      have hA2 : A + P * 33554432 < 4294967296 := by have := HA.out; omega
      have HP := Lib.hid hP
      clear hP eF ha
      have ix : ∀ w : World, (Instr.index 172 (.agg #[.int .i64 31, .int .i64 31, .int .i64 12, .int .i64 7, .int .i64 7, .int .i64 11, .int .i64 30, .int .i64 25, .int .i64 5, .int .i64 11, .int .i64 8, .int .i64 1]) (.int .i64 2)).run Tryz.prog w = .ok (.agg #[.int .i64 30, .int .i64 25, .int .i64 5]) w := fun _ => by kernel_rfl
      go_wp2_with (first
        | (go_at_call 174; refine (ze9 _ _ _ _).mono ?_; rintro e w' ⟨rfl, hb2⟩; obtain ⟨hc, hf⟩ := zi2 hb2))
      obtain ⟨q0, q1, q2, HB⟩ := zb4 hb hb2 hc
      clear hc hf hb2 hb ix
      generalize w2.heap.size = g at *
      go_quiet (first | (go_at_call 143; refine Calls.quiet_of_same ((hF _).mono (fun _ _ ⟨he, hw⟩ => ⟨he, hw.symm⟩))))
      go_wp2_with fail
      go_roundg (4 - (2 + 1))
      case measure => omega
      case rel =>
        refine ⟨zd2 HB _, 3, A + P * 33554432, rfl, rfl, by omega, by omega, by omega, hA2, .inr (.inr (.inr (.inl ⟨rfl, (show Hid _ from ?_)⟩)))⟩
        rw [HA.out, ← HP.out]
        exact Lib.hid rfl
    · obtain ⟨P, hP⟩ : ∃ P, h / 2 % 16 = P := ⟨_, rfl⟩
      obtain ⟨P0, P1⟩ : 0 ≤ P ∧ P < 16 := by omega
      have hF := zb9 h 4 1 h0 H1.out
      rw [za6 (by decide)] at hF
      have eF : fld h (4 : Int).toNat (1 : Int).toNat = P := by rw [← hP]; unfold fld; simp
      rw [eF] at hF
      have ha : A / 256 % 16 = 0 := by
        rw [HA.out]
        obtain ⟨x0, e0⟩ : ∃ x, h / 4096 % 2 = x := ⟨_, rfl⟩
        have b0 : 0 ≤ x0 ∧ x0 < 2 := by omega
        obtain ⟨x1, e1⟩ : ∃ x, h / 2048 % 2 = x := ⟨_, rfl⟩
        have b1 : 0 ≤ x1 ∧ x1 < 2 := by omega
        obtain ⟨x2, e2⟩ : ∃ x, h / 32 % 64 = x := ⟨_, rfl⟩
        have b2 : 0 ≤ x2 ∧ x2 < 64 := by omega
        rw [e0]
        rw [e1]
        rw [e2]
        clear e0 e1 e2
        clear hF hP P0 P1 eF hk
        omega
      have hor : bits .or .u32 A (P * 256) = A + P * 256 := ze0 8 4 (by decide) A0 A1 ha P0 P1
      have hA2 : A + P * 256 < 4294967296 := by have := HA.out; omega
      have HP := Lib.hid hP
      clear hP eF ha
      have ix : ∀ w : World, (Instr.index 172 (.agg #[.int .i64 31, .int .i64 31, .int .i64 12, .int .i64 7, .int .i64 7, .int .i64 11, .int .i64 30, .int .i64 25, .int .i64 5, .int .i64 11, .int .i64 8, .int .i64 1]) (.int .i64 3)).run Tryz.prog w = .ok (.agg #[.int .i64 11, .int .i64 8, .int .i64 1]) w := fun _ => by kernel_rfl
      go_wp2_with (first
        | (go_at_call 174; refine (ze9 _ _ _ _).mono ?_; rintro e w' ⟨rfl, hb2⟩; obtain ⟨hc, hf⟩ := zi2 hb2))
      obtain ⟨q0, q1, q2, HB⟩ := zb4 hb hb2 hc
      clear hc hf hb2 hb ix
      generalize w2.heap.size = g at *
      go_quiet (first | (go_at_call 143; refine Calls.quiet_of_same ((hF _).mono (fun _ _ ⟨he, hw⟩ => ⟨he, hw.symm⟩))))
      go_wp2_with fail
      go_roundg (4 - (3 + 1))
      case measure => omega
      case rel =>
        refine ⟨zd2 HB _, 4, A + P * 256, rfl, rfl, by omega, by omega, by omega, hA2, .inr (.inr (.inr (.inr (⟨rfl, (show Hid _ from ?_)⟩))))⟩
        rw [HA.out, ← HP.out]
        exact Lib.hid rfl
    · go_wp2_with fail
      try rw [Exit.noGoto_ret]
      go_ret
      exact ⟨za1 (by rw [HE.out, HA.out] <;> omega), hb⟩
set_option maxRecDepth 100000 in
theorem spread4 (h : Int) (w : World) (h0 : 0 ≤ h) (h1 : h < 4294967296) (hT : Tab w) :
    Calls Tryz.prog 167 #[.int .i64 4, .int .u32 h] w fun e w' => e = .returned (.int .u32 (putK 4 h 32)) ∧ Below w.heap.size w w' := by
  have c0 := hT 48 (by decide)
  have c1 := hT 49 (by decide)
  have c2 := hT 50 (by decide)
  have c3 := hT 51 (by decide)
  have c4 := hT 52 (by decide)
  have c5 := hT 53 (by decide)
  have c6 := hT 54 (by decide)
  have c7 := hT 55 (by decide)
  have c8 := hT 56 (by decide)
  have c9 := hT 57 (by decide)
  have c10 := hT 58 (by decide)
  have c11 := hT 59 (by decide)
  simp only [tabL, List.getD_cons_succ, List.getD_cons_zero] at c0 c1 c2 c3 c4 c5 c6 c7 c8 c9 c10 c11
  have HE := Lib.hid (put4 h0)
  clear hT
  have H1 := Lib.hid h1
  clear h1
  go_enter Tryz.func167, Tryz.ntmps167
  go_wp2
  go_step3
  go_wp2_with (first
    | (go_at_call 166; refine (zg8 _ (by omega) _).mono ?_; rintro e w' ⟨rfl, rfl⟩))
  go_step3
  go_wp2_with fail
  clear c0 c1 c2 c3 c4 c5 c6 c7 c8 c9 c10 c11
  go_loopg [5, 14] 1 (fun gg v5 v14 wr => Below w.heap.size w wr ∧ ∃ k A : Int, v14 = .int .i64 k ∧ v5 = .int .u32 A ∧ k + gg = 1 ∧ 0 ≤ k ∧ 0 ≤ A ∧ A < 4294967296 ∧ ((k = 0 ∧ Hid (A = 0)) ∨ (k = 1 ∧ Hid (A = h / 4096 % 1048576 * 4096))))
  case atStart => exact ⟨Below.refl _ _, 0, 0, rfl, rfl, by omega, by omega, by omega, by omega, .inl ⟨rfl, (show Hid _ from rfl)⟩⟩
  case round =>
    obtain ⟨hb, k, A, rfl, rfl, hk, hk0, A0, A1, hA⟩ := hrel
    obtain ⟨w2, rfl⟩ : ∃ w2 : World, w2 = wr := ⟨_, rfl⟩
    rcases hA with ⟨rfl, HA⟩ | ⟨rfl, HA⟩
    · obtain ⟨P, hP⟩ : ∃ P, h / 4096 % 1048576 = P := ⟨_, rfl⟩
      obtain ⟨P0, P1⟩ : 0 ≤ P ∧ P < 1048576 := by omega
      have hF := zb9 h 31 12 h0 H1.out
      rw [za6 (by decide)] at hF
      have eF : fld h (31 : Int).toNat (12 : Int).toNat = P := by rw [← hP]; unfold fld; simp
      rw [eF] at hF
      have ha : A / 4096 % 1048576 = 0 := by
        rw [HA.out]
        clear hF hP P0 P1 eF hk
        omega
      have hor : bits .or .u32 A (P * 4096) = A + P * 4096 := ze0 12 20 (by decide) A0 A1 ha P0 P1
      have hA2 : A + P * 4096 < 4294967296 := by have := HA.out; omega
      have HP := Lib.hid hP
      clear hP eF ha
      have ix : ∀ w : World, (Instr.index 172 (.agg #[.int .i64 31, .int .i64 12, .int .i64 12, .int .i64 0, .int .i64 0, .int .i64 0, .int .i64 0, .int .i64 0, .int .i64 0, .int .i64 0, .int .i64 0, .int .i64 0]) (.int .i64 0)).run Tryz.prog w = .ok (.agg #[.int .i64 31, .int .i64 12, .int .i64 12]) w := fun _ => by kernel_rfl
      go_wp2_with (first
        | (go_at_call 174; refine (ze9 _ _ _ _).mono ?_; rintro e w' ⟨rfl, hb2⟩; obtain ⟨hc, hf⟩ := zi2 hb2))
      obtain ⟨q0, q1, q2, HB⟩ := zb4 hb hb2 hc
      clear hc hf hb2 hb ix
      generalize w2.heap.size = g at *
      go_quiet (first | (go_at_call 143; refine Calls.quiet_of_same ((hF _).mono (fun _ _ ⟨he, hw⟩ => ⟨he, hw.symm⟩))))
      go_wp2_with fail
      go_roundg (1 - (0 + 1))
      case measure => omega
      case rel =>
        refine ⟨zd2 HB _, 1, A + P * 4096, rfl, rfl, by omega, by omega, by omega, hA2, .inr (⟨rfl, (show Hid _ from ?_)⟩)⟩
        rw [HA.out, ← HP.out, Int.zero_add]
        exact Lib.hid rfl
    · have ix : ∀ w : World, (Instr.index 172 (.agg #[.int .i64 31, .int .i64 12, .int .i64 12, .int .i64 0, .int .i64 0, .int .i64 0, .int .i64 0, .int .i64 0, .int .i64 0, .int .i64 0, .int .i64 0, .int .i64 0]) (.int .i64 1)).run Tryz.prog w = .ok (.agg #[.int .i64 0, .int .i64 0, .int .i64 0]) w := fun _ => by kernel_rfl
      go_wp2_with (first
        | (go_at_call 174; refine (ze9 _ _ _ _).mono ?_; rintro e w' ⟨rfl, hb2⟩; obtain ⟨hc, hf⟩ := zi2 hb2))
      obtain ⟨q0, q1, q2, HB⟩ := zb4 hb hb2 hc
      try rw [Exit.noGoto_ret]
      go_ret
      exact ⟨za1 (by rw [HE.out, HA.out] <;> omega), HB⟩
set_option maxRecDepth 100000 in
theorem spread5 (h : Int) (w : World) (h0 : 0 ≤ h) (h1 : h < 4294967296) (hT : Tab w) :
    Calls Tryz.prog 167 #[.int .i64 5, .int .u32 h] w fun e w' => e = .returned (.int .u32 (putK 5 h 32)) ∧ Below w.heap.size w w' := by
  have c0 := hT 60 (by decide)
  have c1 := hT 61 (by decide)
  have c2 := hT 62 (by decide)
  have c3 := hT 63 (by decide)
  have c4 := hT 64 (by decide)
  have c5 := hT 65 (by decide)
  have c6 := hT 66 (by decide)
  have c7 := hT 67 (by decide)
  have c8 := hT 68 (by decide)
  have c9 := hT 69 (by decide)
  have c10 := hT 70 (by decide)
  have c11 := hT 71 (by decide)
  simp only [tabL, List.getD_cons_succ, List.getD_cons_zero] at c0 c1 c2 c3 c4 c5 c6 c7 c8 c9 c10 c11
  have HE := Lib.hid (put5 h0)
  clear hT
  have H1 := Lib.hid h1
  clear h1
  go_enter Tryz.func167, Tryz.ntmps167
  go_wp2
  go_step3
  go_wp2_with (first
    | (go_at_call 166; refine (zg8 _ (by omega) _).mono ?_; rintro e w' ⟨rfl, rfl⟩))
  go_step3
  go_wp2_with fail
  clear c0 c1 c2 c3 c4 c5 c6 c7 c8 c9 c10 c11
  go_loopg [5, 14] 4 (fun gg v5 v14 wr => Below w.heap.size w wr ∧ ∃ k A : Int, v14 = .int .i64 k ∧ v5 = .int .u32 A ∧ k + gg = 4 ∧ 0 ≤ k ∧ 0 ≤ A ∧ A < 4294967296 ∧ ((k = 0 ∧ Hid (A = 0)) ∨ (k = 1 ∧ Hid (A = h / 1048576 % 2 * 2147483648)) ∨ (k = 2 ∧ Hid (A = h / 1048576 % 2 * 2147483648 + h / 4096 % 256 * 4096)) ∨ (k = 3 ∧ Hid (A = h / 1048576 % 2 * 2147483648 + h / 4096 % 256 * 4096 + h / 2048 % 2 * 1048576)) ∨ (k = 4 ∧ Hid (A = h / 1048576 % 2 * 2147483648 + h / 4096 % 256 * 4096 + h / 2048 % 2 * 1048576 + h / 2 % 1024 * 2097152))))
  case atStart => exact ⟨Below.refl _ _, 0, 0, rfl, rfl, by omega, by omega, by omega, by omega, .inl ⟨rfl, (show Hid _ from rfl)⟩⟩
  case round =>
    obtain ⟨hb, k, A, rfl, rfl, hk, hk0, A0, A1, hA⟩ := hrel
    obtain ⟨w2, rfl⟩ : ∃ w2 : World, w2 = wr := ⟨_, rfl⟩
    rcases hA with ⟨rfl, HA⟩ | ⟨rfl, HA⟩ | ⟨rfl, HA⟩ | ⟨rfl, HA⟩ | ⟨rfl, HA⟩
    · obtain ⟨P, hP⟩ : ∃ P, h / 1048576 % 2 = P := ⟨_, rfl⟩
      obtain ⟨P0, P1⟩ : 0 ≤ P ∧ P < 2 := by omega
      have hF := zb9 h 20 20 h0 H1.out
      rw [za6 (by decide)] at hF
      have eF : fld h (20 : Int).toNat (20 : Int).toNat = P := by rw [← hP]; unfold fld; simp
      rw [eF] at hF
      have ha : A / 2147483648 % 2 = 0 := by
        rw [HA.out]
        clear hF hP P0 P1 eF hk
        omega
      have hor : bits .or .u32 A (P * 2147483648) = A + P * 2147483648 := ze0 31 1 (by decide) A0 A1 ha P0 P1
      have hA2 : A + P * 2147483648 < 4294967296 := by have := HA.out; omega
      have HP := Lib.hid hP
      clear hP eF ha
      have ix : ∀ w : World, (Instr.index 172 (.agg #[.int .i64 31, .int .i64 31, .int .i64 20, .int .i64 19, .int .i64 12, .int .i64 12, .int .i64 20, .int .i64 20, .int .i64 11, .int .i64 30, .int .i64 21, .int .i64 1]) (.int .i64 0)).run Tryz.prog w = .ok (.agg #[.int .i64 31, .int .i64 31, .int .i64 20]) w := fun _ => by kernel_rfl
      go_wp2_with (first
        | (go_at_call 174; refine (ze9 _ _ _ _).mono ?_; rintro e w' ⟨rfl, hb2⟩; obtain ⟨hc, hf⟩ := zi2 hb2))
      obtain ⟨q0, q1, q2, HB⟩ := zb4 hb hb2 hc
      clear hc hf hb2 hb ix
      generalize w2.heap.size = g at *
      go_quiet (first | (go_at_call 143; refine Calls.quiet_of_same ((hF _).mono (fun _ _ ⟨he, hw⟩ => ⟨he, hw.symm⟩))))
      go_wp2_with fail
      go_roundg (4 - (0 + 1))
      case measure => omega
      case rel =>
        refine ⟨zd2 HB _, 1, A + P * 2147483648, rfl, rfl, by omega, by omega, by omega, hA2, .inr (.inl ⟨rfl, (show Hid _ from ?_)⟩)⟩
        rw [HA.out, ← HP.out, Int.zero_add]
        exact Lib.hid rfl
    · obtain ⟨P, hP⟩ : ∃ P, h / 4096 % 256 = P := ⟨_, rfl⟩
      obtain ⟨P0, P1⟩ : 0 ≤ P ∧ P < 256 := by omega
      have hF := zb9 h 19 12 h0 H1.out
      rw [za6 (by decide)] at hF
      have eF : fld h (19 : Int).toNat (12 : Int).toNat = P := by rw [← hP]; unfold fld; simp
      rw [eF] at hF
      have ha : A / 4096 % 256 = 0 := by
        rw [HA.out]
        obtain ⟨x0, e0⟩ : ∃ x, h / 1048576 % 2 = x := ⟨_, rfl⟩
        have b0 : 0 ≤ x0 ∧ x0 < 2 := by omega
        rw [e0]
        clear e0
        clear hF hP P0 P1 eF hk
        omega
      have hor : bits .or .u32 A (P * 4096) = A + P * 4096 := ze0 12 8 (by decide) A0 A1 ha P0 P1
      have hA2 : A + P * 4096 < 4294967296 := by have := HA.out; omega
      have HP := Lib.hid hP
      clear hP eF ha
      have ix : ∀ w : World, (Instr.index 172 (.agg #[.int .i64 31, .int .i64 31, .int .i64 20, .int .i64 19, .int .i64 12, .int .i64 12, .int .i64 20, .int .i64 20, .int .i64 11, .int .i64 30, .int .i64 21, .int .i64 1]) (.int .i64 1)).run Tryz.prog w = .ok (.agg #[.int .i64 19, .int .i64 12, .int .i64 12]) w := fun _ => by kernel_rfl
      go_wp2_with (first
        | (go_at_call 174; refine (ze9 _ _ _ _).mono ?_; rintro e w' ⟨rfl, hb2⟩; obtain ⟨hc, hf⟩ := zi2 hb2))
      obtain ⟨q0, q1, q2, HB⟩ := zb4 hb hb2 hc
      clear hc hf hb2 hb ix
      generalize w2.heap.size = g at *
      go_quiet (first | (go_at_call 143; refine Calls.quiet_of_same ((hF _).mono (fun _ _ ⟨he, hw⟩ => ⟨he, hw.symm⟩))))
      go_wp2_with fail
      go_roundg (4 - (1 + 1))
      case measure => omega
      case rel =>
        refine ⟨zd2 HB _, 2, A + P * 4096, rfl, rfl, by omega, by omega, by omega, hA2, .inr (.inr (.inl ⟨rfl, (show Hid _ from ?_)⟩))⟩
        rw [HA.out, ← HP.out]
        exact Lib.hid rfl
    · obtain ⟨P, hP⟩ : ∃ P, h / 2048 % 2 = P := ⟨_, rfl⟩
      obtain ⟨P0, P1⟩ : 0 ≤ P ∧ P < 2 := by omega
      have hF := zb9 h 11 11 h0 H1.out
      rw [za6 (by decide)] at hF
      have eF : fld h (11 : Int).toNat (11 : Int).toNat = P := by rw [← hP]; unfold fld; simp
      rw [eF] at hF
      have ha : A / 1048576 % 2 = 0 := by
        rw [HA.out]
        obtain ⟨x0, e0⟩ : ∃ x, h / 1048576 % 2 = x := ⟨_, rfl⟩
        have b0 : 0 ≤ x0 ∧ x0 < 2 := by omega
        obtain ⟨x1, e1⟩ : ∃ x, h / 4096 % 256 = x := ⟨_, rfl⟩
        have b1 : 0 ≤ x1 ∧ x1 < 256 := by omega
        rw [e0]
        rw [e1]
        clear e0 e1
        clear hF hP P0 P1 eF hk
        omega
      have hor : bits .or .u32 A (P * 1048576) = A + P * 1048576 := ze0 20 1 (by decide) A0 A1 ha P0 P1
      have hA2 : A + P * 1048576 < 4294967296 := by have := HA.out; omega
      have HP := Lib.hid hP
      clear hP eF ha
      have ix : ∀ w : World, (Instr.index 172 (.agg #[.int .i64 31, .int .i64 31, .int .i64 20, .int .i64 19, .int .i64 12, .int .i64 12, .int .i64 20, .int .i64 20, .int .i64 11, .int .i64 30, .int .i64 21, .int .i64 1]) (.int .i64 2)).run Tryz.prog w = .ok (.agg #[.int .i64 20, .int .i64 20, .int .i64 11]) w := fun _ => by kernel_rfl
      go_wp2_with (first
        | (go_at_call 174; refine (ze9 _ _ _ _).mono ?_; rintro e w' ⟨rfl, hb2⟩; obtain ⟨hc, hf⟩ := zi2 hb2))
      obtain ⟨q0, q1, q2, HB⟩ := zb4 hb hb2 hc
      clear hc hf hb2 hb ix
      generalize w2.heap.size = g at *
      go_quiet (first | (go_at_call 143; refine Calls.quiet_of_same ((hF _).mono (fun _ _ ⟨he, hw⟩ => ⟨he, hw.symm⟩))))
      go_wp2_with fail
      go_roundg (4 - (2 + 1))
      case measure => omega
      case rel =>
        refine ⟨zd2 HB _, 3, A + P * 1048576, rfl, rfl, by omega, by omega, by omega, hA2, .inr (.inr (.inr (.inl ⟨rfl, (show Hid _ from ?_)⟩)))⟩
        rw [HA.out, ← HP.out]
        exact Lib.hid rfl
    · obtain ⟨P, hP⟩ : ∃ P, h / 2 % 1024 = P := ⟨_, rfl⟩
      obtain ⟨P0, P1⟩ : 0 ≤ P ∧ P < 1024 := by omega
      have hF := zb9 h 10 1 h0 H1.out
      rw [za6 (by decide)] at hF
      have eF : fld h (10 : Int).toNat (1 : Int).toNat = P := by rw [← hP]; unfold fld; simp
      rw [eF] at hF
      have ha : A / 2097152 % 1024 = 0 := by
        rw [HA.out]
        obtain ⟨x0, e0⟩ : ∃ x, h / 1048576 % 2 = x := ⟨_, rfl⟩
        have b0 : 0 ≤ x0 ∧ x0 < 2 := by omega
        obtain ⟨x1, e1⟩ : ∃ x, h / 4096 % 256 = x := ⟨_, rfl⟩
        have b1 : 0 ≤ x1 ∧ x1 < 256 := by omega
        obtain ⟨x2, e2⟩ : ∃ x, h / 2048 % 2 = x := ⟨_, rfl⟩
        have b2 : 0 ≤ x2 ∧ x2 < 2 := by omega
        rw [e0]
        rw [e1]
        rw [e2]
        clear e0 e1 e2
        clear hF hP P0 P1 eF hk
        omega
      have hor : bits .or .u32 A (P * 2097152) = A + P * 2097152 := ze0 21 10 (by decide) A0 A1 ha P0 P1
      have hA2 : A + P * 2097152 < 4294967296 := by have := HA.out; omega
      have HP := Lib.hid hP
      clear hP eF ha
      have ix : ∀ w : World, (Instr.index 172 (.agg #[.int .i64 31, .int .i64 31, .int .i64 20, .int .i64 19, .int .i64 12, .int .i64 12, .int .i64 20, .int .i64 20, .int .i64 11, .int .i64 30, .int .i64 21, .int .i64 1]) (.int .i64 3)).run Tryz.prog w = .ok (.agg #[.int .i64 30, .int .i64 21, .int .i64 1]) w := fun _ => by kernel_rfl
      go_wp2_with (first
        | (go_at_call 174; refine (ze9 _ _ _ _).mono ?_; rintro e w' ⟨rfl, hb2⟩; obtain ⟨hc, hf⟩ := zi2 hb2))
      obtain ⟨q0, q1, q2, HB⟩ := zb4 hb hb2 hc
      clear hc hf hb2 hb ix
      generalize w2.heap.size = g at *
      go_quiet (first | (go_at_call 143; refine Calls.quiet_of_same ((hF _).mono (fun _ _ ⟨he, hw⟩ => ⟨he, hw.symm⟩))))
      go_wp2_with fail
      go_roundg (4 - (3 + 1))
      case measure => omega
      case rel =>
        refine ⟨zd2 HB _, 4, A + P * 2097152, rfl, rfl, by omega, by omega, by omega, hA2, .inr (.inr (.inr (.inr (⟨rfl, (show Hid _ from ?_)⟩))))⟩
        rw [HA.out, ← HP.out]
        exact Lib.hid rfl
    · go_wp2_with fail
      try rw [Exit.noGoto_ret]
      go_ret
      exact ⟨za1 (by rw [HE.out, HA.out] <;> omega), hb⟩
end Go.Proofs.YtmamblgpekafbaaGreatDoor
namespace Go.Proofs.YtmamblgpekafbaaGreatDoor
open Go.RowKit
theorem zk3 {b : Int} (b0 : 0 ≤ b) (b1 : b < 18446744073709551616) : bits .or .u64 0 b = b := by
  obtain ⟨B, rfl⟩ := Int.eq_ofNat_of_zero_le b0
  have := u64_or_nat 0 B (by decide) (by omega)
  rw [Nat.zero_or] at this
  exact this
theorem Zi3 {x y : Nat} (hs : x + y < 18446744073709551616) (h : x &&& y = 0) : x ||| y = x + y := by
  have hz : BitVec.ofNat 64 x &&& BitVec.ofNat 64 y = 0#64 := by
    apply BitVec.eq_of_toNat_eq
    rw [BitVec.toNat_and, BitVec.toNat_ofNat, BitVec.toNat_ofNat, Nat.mod_eq_of_lt (by omega), Nat.mod_eq_of_lt (by omega), h]; rfl
  have := congrArg BitVec.toNat (BitVec.add_eq_or_of_and_eq_zero _ _ hz)
  rw [BitVec.toNat_add, BitVec.toNat_or, BitVec.toNat_ofNat, BitVec.toNat_ofNat, Nat.mod_eq_of_lt (a := x) (by omega), Nat.mod_eq_of_lt (a := y) (by omega), Nat.mod_eq_of_lt (by omega)] at this
  exact this.symm
theorem zi0 {a p : Int} (lo n : Nat) (a0 : 0 ≤ a) (a1 : a < 18446744073709551616) (h : a / 2 ^ lo % 2 ^ n = 0) (p0 : 0 ≤ p) (p1 : p < 2 ^ n) (hs : a + p * 2 ^ lo < 18446744073709551616) : bits .or .u64 a (p * 2 ^ lo) = a + p * 2 ^ lo := by
  obtain ⟨A, rfl⟩ := Int.eq_ofNat_of_zero_le a0
  obtain ⟨B, rfl⟩ := Int.eq_ofNat_of_zero_le p0
  have hA : A < 18446744073709551616 := by omega
  have hB : B < 2 ^ n := by exact_mod_cast p1
  have hN : A / 2 ^ lo % 2 ^ n = 0 := by exact_mod_cast h
  have e : ((B : Int) * 2 ^ lo) = ((B * 2 ^ lo : Nat) : Int) := by simp
  rw [e] at hs ⊢
  rw [u64_or_nat A _ hA (by omega), Zi3 (by omega) (zQ8 lo n hN hB), Int.natCast_add]
theorem zK6 {a p : Int} (n : Nat) (a0 : 0 ≤ a) (a1 : a < 18446744073709551616) (h : a % 2 ^ n = 0) (p0 : 0 ≤ p) (p1 : p < 2 ^ n) (hs : a + p < 18446744073709551616) : bits .or .u64 a p = a + p := by
  have := zi0 0 n a0 a1 (by rw [Int.pow_zero, Int.ediv_one]; exact h) p0 p1 (by rw [Int.pow_zero, Int.mul_one]; exact hs)
  rwa [Int.pow_zero, Int.mul_one] at this
theorem zG9 {P : Int} (m : Nat) (h1 : 1 ≤ m) (h2 : m ≤ 64) (P0 : 0 ≤ P) (P1 : P < 2 ^ m) : sx P (zc6 m) = P + P / 2 ^ (m - 1) * (18446744073709551616 - 2 ^ m) := by
  have hc : zc6 m = m := by unfold zc6; omega
  have hz : zx P m = P := by unfold zx; exact Int.emod_eq_of_lt P0 P1
  have hp := zc0 (m - 1)
  have hm : (2 : Int) ^ m = 2 ^ (m - 1) * 2 := by rw [← Int.pow_succ]; congr 1; omega
  rw [hc]
  unfold sx
  rw [if_neg (by omega), hz, show (2 : Int) ^ 64 = 18446744073709551616 by decide]
  have q0 : 0 ≤ P / 2 ^ (m - 1) := Int.ediv_nonneg P0 (by omega)
  have q1 : P / 2 ^ (m - 1) < 2 := Int.ediv_lt_of_lt_mul hp (by rw [Int.mul_comm, ← hm]; exact P1)
  have : P / 2 ^ (m - 1) = 0 ∨ P / 2 ^ (m - 1) = 1 := by omega
  rcases this with e | e
  · rw [e, if_neg (by decide), Int.zero_mul, Int.add_zero]
  · rw [e, if_pos (by decide), Int.one_mul]
theorem fin_get1 (v : Int) : wrap64 ((v / 1048576 % 2048 + 2048 * (v / 2147483648 % 2)) + v / 2147483648 % 2 * 18446744073709547520) = v / 1048576 % 2048 - v / 2147483648 % 2 * 2048 := by
  have hq := Int.emod_two_eq (v / 2147483648)
  rw [ze2, IntKind.wrap_i64]
  rcases hq with e | e <;> rw [e] <;> clear e <;> omega
set_option maxRecDepth 100000 in
theorem get1_c (v : Int) (w : World) (v0 : 0 ≤ v) (v1 : v < 4294967296) (hT : Tab w) :
    Calls Tryz.prog 144 #[.int .i64 1, .int .u32 v] w fun e w' => e = .returned (.int .i64 (getK 1 v 32)) ∧ Below w.heap.size w w' := by
  have c0 := hT 12 (by decide)
  have c1 := hT 13 (by decide)
  have c2 := hT 14 (by decide)
  have c3 := hT 15 (by decide)
  have c4 := hT 16 (by decide)
  have c5 := hT 17 (by decide)
  have c6 := hT 18 (by decide)
  have c7 := hT 19 (by decide)
  have c8 := hT 20 (by decide)
  have c9 := hT 21 (by decide)
  have c10 := hT 22 (by decide)
  have c11 := hT 23 (by decide)
  simp only [tabL, List.getD_cons_succ, List.getD_cons_zero] at c0 c1 c2 c3 c4 c5 c6 c7 c8 c9 c10 c11
  have HE := Lib.hid (get1 v0)
  clear hT
  have V1 := Lib.hid v1
  clear v1
  go_enter Tryz.func144, Tryz.ntmps144
  go_wp2
  go_step3
  go_wp2_with (first
    | (go_at_call 166; refine (zg8 _ (by omega) _).mono ?_; rintro e w' ⟨rfl, rfl⟩))
  go_step3
  go_wp2_with fail
  clear c0 c1 c2 c3 c4 c5 c6 c7 c8 c9 c10 c11
  go_loopg [5, 15] 1 (fun gg v5 v15 wr => Below w.heap.size w wr ∧ ∃ k A : Int, v15 = .int .i64 k ∧ v5 = .int .u64 A ∧ k + gg = 1 ∧ 0 ≤ k ∧ 0 ≤ A ∧ A < 18446744073709551616 ∧ ((k = 0 ∧ Hid (A = 0)) ∨ (k = 1 ∧ Hid (A = v / 1048576 % 4096 + v / 2147483648 % 2 * 18446744073709547520))))
  case atStart => exact ⟨Below.refl _ _, 0, 0, rfl, rfl, by omega, by omega, by omega, by omega, .inl ⟨rfl, (show Hid _ from rfl)⟩⟩
  case round =>
    obtain ⟨hb, k, A, rfl, rfl, hk, hk0, A0, A1, hA⟩ := hrel
    obtain ⟨w2, rfl⟩ : ∃ w2 : World, w2 = wr := ⟨_, rfl⟩
    rcases hA with ⟨rfl, HA⟩ | ⟨rfl, HA⟩
    · obtain ⟨P, hP⟩ : ∃ P, v / 1048576 % 4096 = P := ⟨_, rfl⟩
      obtain ⟨P0, P1⟩ : 0 ≤ P ∧ P < 4096 := by omega
      have hF := zb9 v 31 20 v0 V1.out
      rw [za6 (by decide)] at hF
      have eF : fld v (31 : Int).toNat (20 : Int).toNat = P := by rw [← hP]; unfold fld; simp
      rw [eF] at hF
      obtain ⟨S, hS⟩ : ∃ S, sx P (zc6 12) = S := ⟨_, rfl⟩
      have hx := zi8 P 12 P0 (by omega)
      rw [hS] at hx
      have hS2 : S = P + P / 2048 * 18446744073709547520 := by rw [← hS]; exact zG9 12 (by decide) (by decide) P0 P1
      have hs : P / 2048 = v / 2147483648 % 2 := by have := V1.out; clear hF hx hS eF; omega
      rw [hs] at hS2
      clear hs
      obtain ⟨B, hB⟩ : ∃ B, S = B := ⟨_, rfl⟩
      have hB2 : B = P + v / 2147483648 % 2 * 18446744073709547520 := by rw [← hB, hS2]
      obtain ⟨B0, B1⟩ : 0 ≤ B ∧ B < 18446744073709551616 := by clear hF hx hS hB hS2 eF hP; omega
      obtain ⟨S0, S1⟩ : 0 ≤ S ∧ S < 18446744073709551616 := by clear hF hx hS hB eF hB2 hP; omega
      subst hB
      have hor : bits .or .u64 A S = S := by rw [show A = 0 from HA.out]; exact zk3 B0 B1
      have HB2 := Lib.hid hB2
      have HP := Lib.hid hP
      clear hP eF hS hS2 hB2
      have ix : ∀ w : World, (Instr.index 172 (.agg #[.int .i64 31, .int .i64 20, .int .i64 0, .int .i64 0, .int .i64 0, .int .i64 0, .int .i64 0, .int .i64 0, .int .i64 0, .int .i64 0, .int .i64 0, .int .i64 0]) (.int .i64 0)).run Tryz.prog w = .ok (.agg #[.int .i64 31, .int .i64 20, .int .i64 0]) w := fun _ => by kernel_rfl
      go_wp2_with (first
        | (go_at_call 143; refine (hF _).mono ?_; rintro e w' ⟨rfl, rfl⟩)
        | (go_at_call 174; refine (ze9 _ _ _ _).mono ?_; rintro e w' ⟨rfl, hb2⟩; obtain ⟨hc, hf⟩ := zi2 hb2)
        | (go_at_call 58; refine (hx _).mono ?_; rintro e w2 ⟨rfl, rfl⟩))
      obtain ⟨q0, q1, q2, HB⟩ := zb4 hb hb2 hc
      clear hc hf q0 q1 q2
      go_roundg (1 - (0 + 1))
      case measure => omega
      case rel =>
        refine ⟨HB, 1, S, rfl, rfl, by omega, by omega, B0, B1, .inr (⟨rfl, (show Hid _ from ?_)⟩)⟩
        rw [HB2.out, ← HP.out]
        exact Lib.hid rfl
    · have ix : ∀ w : World, (Instr.index 172 (.agg #[.int .i64 31, .int .i64 20, .int .i64 0, .int .i64 0, .int .i64 0, .int .i64 0, .int .i64 0, .int .i64 0, .int .i64 0, .int .i64 0, .int .i64 0, .int .i64 0]) (.int .i64 1)).run Tryz.prog w = .ok (.agg #[.int .i64 0, .int .i64 0, .int .i64 0]) w := fun _ => by kernel_rfl
      obtain ⟨P, hP⟩ : ∃ P, ze1 v 0 0 = P := ⟨_, rfl⟩
      have hF := zb9 v 0 0 v0 V1.out
      rw [hP] at hF
      obtain ⟨P0, P1⟩ : 0 ≤ P ∧ P < 2 := by
        rw [← hP, za6 (by decide)]; unfold fld; clear hF hP; simp; omega
      clear hP
      go_wp2_with (first
        | (go_at_call 143; refine (hF _).mono ?_; rintro e w' ⟨rfl, rfl⟩)
        | (go_at_call 174; refine (ze9 _ _ _ _).mono ?_; rintro e w' ⟨rfl, hb2⟩; obtain ⟨hc, hf⟩ := zi2 hb2))
      obtain ⟨q0, q1, q2, HB⟩ := zb4 hb hb2 hc
      clear hc hf q0 q1 q2
      try rw [Exit.noGoto_ret]
      go_ret
      exact ⟨za1 (by have := V1.out; rw [HE.out, HA.out, show v / 1048576 % 4096 = v / 1048576 % 2048 + 2048 * (v / 2147483648 % 2) by omega]; exact fin_get1 v), HB⟩
theorem fin_get2 (v : Int) : wrap64 ((v / 33554432 % 64 + 64 * (v / 2147483648 % 2)) * 32 + v / 2147483648 % 2 * 18446744073709547520 + v / 128 % 32) = v / 128 % 32 + v / 33554432 % 64 * 32 - v / 2147483648 % 2 * 2048 := by
  have hq := Int.emod_two_eq (v / 2147483648)
  rw [ze2, IntKind.wrap_i64]
  rcases hq with e | e <;> rw [e] <;> clear e <;> omega
set_option maxRecDepth 100000 in
theorem get2_c (v : Int) (w : World) (v0 : 0 ≤ v) (v1 : v < 4294967296) (hT : Tab w) :
    Calls Tryz.prog 144 #[.int .i64 2, .int .u32 v] w fun e w' => e = .returned (.int .i64 (getK 2 v 32)) ∧ Below w.heap.size w w' := by
  have c0 := hT 24 (by decide)
  have c1 := hT 25 (by decide)
  have c2 := hT 26 (by decide)
  have c3 := hT 27 (by decide)
  have c4 := hT 28 (by decide)
  have c5 := hT 29 (by decide)
  have c6 := hT 30 (by decide)
  have c7 := hT 31 (by decide)
  have c8 := hT 32 (by decide)
  have c9 := hT 33 (by decide)
  have c10 := hT 34 (by decide)
  have c11 := hT 35 (by decide)
  simp only [tabL, List.getD_cons_succ, List.getD_cons_zero] at c0 c1 c2 c3 c4 c5 c6 c7 c8 c9 c10 c11
  have HE := Lib.hid (get2 v0)
  clear hT
  have V1 := Lib.hid v1
  clear v1
  go_enter Tryz.func144, Tryz.ntmps144
  go_wp2
  go_step3
  go_wp2_with (first
    | (go_at_call 166; refine (zg8 _ (by omega) _).mono ?_; rintro e w' ⟨rfl, rfl⟩))
  go_step3
  go_wp2_with fail
  clear c0 c1 c2 c3 c4 c5 c6 c7 c8 c9 c10 c11
  go_loopg [5, 15] 2 (fun gg v5 v15 wr => Below w.heap.size w wr ∧ ∃ k A : Int, v15 = .int .i64 k ∧ v5 = .int .u64 A ∧ k + gg = 2 ∧ 0 ≤ k ∧ 0 ≤ A ∧ A < 18446744073709551616 ∧ ((k = 0 ∧ Hid (A = 0)) ∨ (k = 1 ∧ Hid (A = v / 33554432 % 128 * 32 + v / 2147483648 % 2 * 18446744073709547520)) ∨ (k = 2 ∧ Hid (A = v / 33554432 % 128 * 32 + v / 2147483648 % 2 * 18446744073709547520 + v / 128 % 32))))
  case atStart => exact ⟨Below.refl _ _, 0, 0, rfl, rfl, by omega, by omega, by omega, by omega, .inl ⟨rfl, (show Hid _ from rfl)⟩⟩
  case round =>
    obtain ⟨hb, k, A, rfl, rfl, hk, hk0, A0, A1, hA⟩ := hrel
    obtain ⟨w2, rfl⟩ : ∃ w2 : World, w2 = wr := ⟨_, rfl⟩
    rcases hA with ⟨rfl, HA⟩ | ⟨rfl, HA⟩ | ⟨rfl, HA⟩
    · obtain ⟨P, hP⟩ : ∃ P, v / 33554432 % 128 = P := ⟨_, rfl⟩
      obtain ⟨P0, P1⟩ : 0 ≤ P ∧ P < 128 := by omega
      have hF := zb9 v 31 25 v0 V1.out
      rw [za6 (by decide)] at hF
      have eF : fld v (31 : Int).toNat (25 : Int).toNat = P := by rw [← hP]; unfold fld; simp
      rw [eF] at hF
      obtain ⟨S, hS⟩ : ∃ S, sx P (zc6 7) = S := ⟨_, rfl⟩
      have hx := zi8 P 7 P0 (by omega)
      rw [hS] at hx
      have hS2 : S = P + P / 64 * 18446744073709551488 := by rw [← hS]; exact zG9 7 (by decide) (by decide) P0 P1
      obtain ⟨B, hB⟩ : ∃ B, IntKind.u64.wrap (S * 32) = B := ⟨_, rfl⟩
      have hs : P / 64 = v / 2147483648 % 2 := by have := V1.out; clear hF hx hS hB hS2 eF; omega
      rw [hs] at hS2
      clear hs
      have hB2 : B = P * 32 + v / 2147483648 % 2 * 18446744073709547520 := by
        rw [← hB, hS2, IntKind.wrap_u64]
        clear hF hx hS hB hS2 eF hP
        have hq := Int.emod_two_eq (v / 2147483648)
        rcases hq with e | e <;> rw [e] <;> clear e <;> omega
      obtain ⟨B0, B1⟩ : 0 ≤ B ∧ B < 18446744073709551616 := by rw [← hB, IntKind.wrap_u64]; clear hF hx hS hB hS2 eF hB2; omega
      obtain ⟨S0, S1⟩ : 0 ≤ S ∧ S < 18446744073709551616 := by clear hF hx hS hB eF hB2 hP; omega
      have hor : bits .or .u64 A B = B := by rw [show A = 0 from HA.out]; exact zk3 B0 B1
      have HB2 := Lib.hid hB2
      have HP := Lib.hid hP
      clear hP eF hS hS2 hB2
      have ix : ∀ w : World, (Instr.index 172 (.agg #[.int .i64 31, .int .i64 25, .int .i64 5, .int .i64 11, .int .i64 7, .int .i64 0, .int .i64 0, .int .i64 0, .int .i64 0, .int .i64 0, .int .i64 0, .int .i64 0]) (.int .i64 0)).run Tryz.prog w = .ok (.agg #[.int .i64 31, .int .i64 25, .int .i64 5]) w := fun _ => by kernel_rfl
      go_wp2_with (first
        | (go_at_call 143; refine (hF _).mono ?_; rintro e w' ⟨rfl, rfl⟩)
        | (go_at_call 174; refine (ze9 _ _ _ _).mono ?_; rintro e w' ⟨rfl, hb2⟩; obtain ⟨hc, hf⟩ := zi2 hb2)
        | (go_at_call 58; refine (hx _).mono ?_; rintro e w2 ⟨rfl, rfl⟩))
      obtain ⟨q0, q1, q2, HB⟩ := zb4 hb hb2 hc
      clear hc hf q0 q1 q2
      go_roundg (2 - (0 + 1))
      case measure => omega
      case rel =>
        refine ⟨HB, 1, B, rfl, rfl, by omega, by omega, B0, B1, .inr (.inl ⟨rfl, (show Hid _ from ?_)⟩)⟩
        rw [HB2.out, ← HP.out]
        exact Lib.hid rfl
    · obtain ⟨P, hP⟩ : ∃ P, v / 128 % 32 = P := ⟨_, rfl⟩
      obtain ⟨P0, P1⟩ : 0 ≤ P ∧ P < 32 := by omega
      have hF := zb9 v 11 7 v0 V1.out
      rw [za6 (by decide)] at hF
      have eF : fld v (11 : Int).toNat (7 : Int).toNat = P := by rw [← hP]; unfold fld; simp
      rw [eF] at hF
      have ha : A % 32 = 0 := by
        rw [HA.out]
        obtain ⟨x0, e0⟩ : ∃ x, v / 33554432 % 128 = x := ⟨_, rfl⟩
        have b0 : 0 ≤ x0 ∧ x0 < 128 := by omega
        obtain ⟨q, eq⟩ : ∃ q, v / 2147483648 % 2 = q := ⟨_, rfl⟩
        have bq : 0 ≤ q ∧ q < 2 := by omega
        rw [e0]
        try rw [eq]
        clear eq
        clear e0
        clear hF hP P0 P1 eF hk
        omega
      have hA2 : A + P < 18446744073709551616 := by have := HA.out; have := V1.out; omega
      have hor : bits .or .u64 A (P) = A + P := zK6 5 A0 A1 ha P0 P1 hA2
      have HP := Lib.hid hP
      clear hP eF ha
      have ix : ∀ w : World, (Instr.index 172 (.agg #[.int .i64 31, .int .i64 25, .int .i64 5, .int .i64 11, .int .i64 7, .int .i64 0, .int .i64 0, .int .i64 0, .int .i64 0, .int .i64 0, .int .i64 0, .int .i64 0]) (.int .i64 1)).run Tryz.prog w = .ok (.agg #[.int .i64 11, .int .i64 7, .int .i64 0]) w := fun _ => by kernel_rfl
      go_wp2_with (first
        | (go_at_call 143; refine (hF _).mono ?_; rintro e w' ⟨rfl, rfl⟩)
        | (go_at_call 174; refine (ze9 _ _ _ _).mono ?_; rintro e w' ⟨rfl, hb2⟩; obtain ⟨hc, hf⟩ := zi2 hb2)
)
      obtain ⟨q0, q1, q2, HB⟩ := zb4 hb hb2 hc
      clear hc hf q0 q1 q2
      go_roundg (2 - (1 + 1))
      case measure => omega
      case rel =>
        refine ⟨HB, 2, A + P, rfl, rfl, by omega, by omega, by omega, hA2, .inr (.inr (⟨rfl, (show Hid _ from ?_)⟩))⟩
        rw [HA.out, ← HP.out]
        exact Lib.hid rfl
    · have ix : ∀ w : World, (Instr.index 172 (.agg #[.int .i64 31, .int .i64 25, .int .i64 5, .int .i64 11, .int .i64 7, .int .i64 0, .int .i64 0, .int .i64 0, .int .i64 0, .int .i64 0, .int .i64 0, .int .i64 0]) (.int .i64 2)).run Tryz.prog w = .ok (.agg #[.int .i64 0, .int .i64 0, .int .i64 0]) w := fun _ => by kernel_rfl
      obtain ⟨P, hP⟩ : ∃ P, ze1 v 0 0 = P := ⟨_, rfl⟩
      have hF := zb9 v 0 0 v0 V1.out
      rw [hP] at hF
      obtain ⟨P0, P1⟩ : 0 ≤ P ∧ P < 2 := by
        rw [← hP, za6 (by decide)]; unfold fld; clear hF hP; simp; omega
      clear hP
      go_wp2_with (first
        | (go_at_call 143; refine (hF _).mono ?_; rintro e w' ⟨rfl, rfl⟩)
        | (go_at_call 174; refine (ze9 _ _ _ _).mono ?_; rintro e w' ⟨rfl, hb2⟩; obtain ⟨hc, hf⟩ := zi2 hb2))
      obtain ⟨q0, q1, q2, HB⟩ := zb4 hb hb2 hc
      clear hc hf q0 q1 q2
      try rw [Exit.noGoto_ret]
      go_ret
      exact ⟨za1 (by have := V1.out; rw [HE.out, HA.out, show v / 33554432 % 128 = v / 33554432 % 64 + 64 * (v / 2147483648 % 2) by omega]; exact fin_get2 v), HB⟩
theorem fin_get3 (v : Int) : wrap64 (v / 2147483648 % 2 * 4096 + v / 2147483648 % 2 * 18446744073709543424 + v / 128 % 2 * 2048 + v / 33554432 % 64 * 32 + v / 256 % 16 * 2) = v / 128 % 2 * 2048 + v / 256 % 16 * 2 + v / 33554432 % 64 * 32 - v / 2147483648 % 2 * 4096 := by
  have hq := Int.emod_two_eq (v / 2147483648)
  rw [ze2, IntKind.wrap_i64]
  rcases hq with e | e <;> rw [e] <;> clear e <;> omega
set_option maxRecDepth 100000 in
theorem get3_c (v : Int) (w : World) (v0 : 0 ≤ v) (v1 : v < 4294967296) (hT : Tab w) :
    Calls Tryz.prog 144 #[.int .i64 3, .int .u32 v] w fun e w' => e = .returned (.int .i64 (getK 3 v 32)) ∧ Below w.heap.size w w' := by
  have c0 := hT 36 (by decide)
  have c1 := hT 37 (by decide)
  have c2 := hT 38 (by decide)
  have c3 := hT 39 (by decide)
  have c4 := hT 40 (by decide)
  have c5 := hT 41 (by decide)
  have c6 := hT 42 (by decide)
  have c7 := hT 43 (by decide)
  have c8 := hT 44 (by decide)
  have c9 := hT 45 (by decide)
  have c10 := hT 46 (by decide)
  have c11 := hT 47 (by decide)
  simp only [tabL, List.getD_cons_succ, List.getD_cons_zero] at c0 c1 c2 c3 c4 c5 c6 c7 c8 c9 c10 c11
  have HE := Lib.hid (get3 v0)
  clear hT
  have V1 := Lib.hid v1
  clear v1
  go_enter Tryz.func144, Tryz.ntmps144
  go_wp2
  go_step3
  go_wp2_with (first
    | (go_at_call 166; refine (zg8 _ (by omega) _).mono ?_; rintro e w' ⟨rfl, rfl⟩))
  go_step3
  go_wp2_with fail
  clear c0 c1 c2 c3 c4 c5 c6 c7 c8 c9 c10 c11
  go_loopg [5, 15] 4 (fun gg v5 v15 wr => Below w.heap.size w wr ∧ ∃ k A : Int, v15 = .int .i64 k ∧ v5 = .int .u64 A ∧ k + gg = 4 ∧ 0 ≤ k ∧ 0 ≤ A ∧ A < 18446744073709551616 ∧ ((k = 0 ∧ Hid (A = 0)) ∨ (k = 1 ∧ Hid (A = v / 2147483648 % 2 * 4096 + v / 2147483648 % 2 * 18446744073709543424)) ∨ (k = 2 ∧ Hid (A = v / 2147483648 % 2 * 4096 + v / 2147483648 % 2 * 18446744073709543424 + v / 128 % 2 * 2048)) ∨ (k = 3 ∧ Hid (A = v / 2147483648 % 2 * 4096 + v / 2147483648 % 2 * 18446744073709543424 + v / 128 % 2 * 2048 + v / 33554432 % 64 * 32)) ∨ (k = 4 ∧ Hid (A = v / 2147483648 % 2 * 4096 + v / 2147483648 % 2 * 18446744073709543424 + v / 128 % 2 * 2048 + v / 33554432 % 64 * 32 + v / 256 % 16 * 2))))
  case atStart => exact ⟨Below.refl _ _, 0, 0, rfl, rfl, by omega, by omega, by omega, by omega, .inl ⟨rfl, (show Hid _ from rfl)⟩⟩
  case round =>
    obtain ⟨hb, k, A, rfl, rfl, hk, hk0, A0, A1, hA⟩ := hrel
    obtain ⟨w2, rfl⟩ : ∃ w2 : World, w2 = wr := ⟨_, rfl⟩
    rcases hA with ⟨rfl, HA⟩ | ⟨rfl, HA⟩ | ⟨rfl, HA⟩ | ⟨rfl, HA⟩ | ⟨rfl, HA⟩
    · obtain ⟨P, hP⟩ : ∃ P, v / 2147483648 % 2 = P := ⟨_, rfl⟩
      obtain ⟨P0, P1⟩ : 0 ≤ P ∧ P < 2 := by omega
      have hF := zb9 v 31 31 v0 V1.out
      rw [za6 (by decide)] at hF
      have eF : fld v (31 : Int).toNat (31 : Int).toNat = P := by rw [← hP]; unfold fld; simp
      rw [eF] at hF
      obtain ⟨S, hS⟩ : ∃ S, sx P (zc6 1) = S := ⟨_, rfl⟩
      have hx := zi8 P 1 P0 (by omega)
      rw [hS] at hx
      have hS2 : S = P + P / 1 * 18446744073709551614 := by rw [← hS]; exact zG9 1 (by decide) (by decide) P0 P1
      obtain ⟨B, hB⟩ : ∃ B, IntKind.u64.wrap (S * 4096) = B := ⟨_, rfl⟩
      have hs : P / 1 = v / 2147483648 % 2 := by have := V1.out; clear hF hx hS hB hS2 eF; omega
      rw [hs] at hS2
      clear hs
      have hB2 : B = P * 4096 + v / 2147483648 % 2 * 18446744073709543424 := by
        rw [← hB, hS2, IntKind.wrap_u64]
        clear hF hx hS hB hS2 eF hP
        have hq := Int.emod_two_eq (v / 2147483648)
        rcases hq with e | e <;> rw [e] <;> clear e <;> omega
      obtain ⟨B0, B1⟩ : 0 ≤ B ∧ B < 18446744073709551616 := by rw [← hB, IntKind.wrap_u64]; clear hF hx hS hB hS2 eF hB2; omega
      obtain ⟨S0, S1⟩ : 0 ≤ S ∧ S < 18446744073709551616 := by clear hF hx hS hB eF hB2 hP; omega
      have hor : bits .or .u64 A B = B := by rw [show A = 0 from HA.out]; exact zk3 B0 B1
      have HB2 := Lib.hid hB2
      have HP := Lib.hid hP
      clear hP eF hS hS2 hB2
      have ix : ∀ w : World, (Instr.index 172 (.agg #[.int .i64 31, .int .i64 31, .int .i64 12, .int .i64 7, .int .i64 7, .int .i64 11, .int .i64 30, .int .i64 25, .int .i64 5, .int .i64 11, .int .i64 8, .int .i64 1]) (.int .i64 0)).run Tryz.prog w = .ok (.agg #[.int .i64 31, .int .i64 31, .int .i64 12]) w := fun _ => by kernel_rfl
      go_wp2_with (first
        | (go_at_call 143; refine (hF _).mono ?_; rintro e w' ⟨rfl, rfl⟩)
        | (go_at_call 174; refine (ze9 _ _ _ _).mono ?_; rintro e w' ⟨rfl, hb2⟩; obtain ⟨hc, hf⟩ := zi2 hb2)
        | (go_at_call 58; refine (hx _).mono ?_; rintro e w2 ⟨rfl, rfl⟩))
      obtain ⟨q0, q1, q2, HB⟩ := zb4 hb hb2 hc
      clear hc hf q0 q1 q2
      go_roundg (4 - (0 + 1))
      case measure => omega
      case rel =>
        refine ⟨HB, 1, B, rfl, rfl, by omega, by omega, B0, B1, .inr (.inl ⟨rfl, (show Hid _ from ?_)⟩)⟩
        rw [HB2.out, ← HP.out]
        exact Lib.hid rfl
    · obtain ⟨P, hP⟩ : ∃ P, v / 128 % 2 = P := ⟨_, rfl⟩
      obtain ⟨P0, P1⟩ : 0 ≤ P ∧ P < 2 := by omega
      have hF := zb9 v 7 7 v0 V1.out
      rw [za6 (by decide)] at hF
      have eF : fld v (7 : Int).toNat (7 : Int).toNat = P := by rw [← hP]; unfold fld; simp
      rw [eF] at hF
      have ha : A / 2048 % 2 = 0 := by
        rw [HA.out]
        obtain ⟨x0, e0⟩ : ∃ x, v / 2147483648 % 2 = x := ⟨_, rfl⟩
        have b0 : 0 ≤ x0 ∧ x0 < 2 := by omega
        obtain ⟨q, eq⟩ : ∃ q, v / 2147483648 % 2 = q := ⟨_, rfl⟩
        have bq : 0 ≤ q ∧ q < 2 := by omega
        rw [e0]
        try rw [eq]
        clear eq
        clear e0
        clear hF hP P0 P1 eF hk
        omega
      have hA2 : A + P * 2048 < 18446744073709551616 := by have := HA.out; have := V1.out; omega
      have hor : bits .or .u64 A (P * 2048) = A + P * 2048 := zi0 11 1 A0 A1 ha P0 P1 hA2
      have HP := Lib.hid hP
      clear hP eF ha
      have ix : ∀ w : World, (Instr.index 172 (.agg #[.int .i64 31, .int .i64 31, .int .i64 12, .int .i64 7, .int .i64 7, .int .i64 11, .int .i64 30, .int .i64 25, .int .i64 5, .int .i64 11, .int .i64 8, .int .i64 1]) (.int .i64 1)).run Tryz.prog w = .ok (.agg #[.int .i64 7, .int .i64 7, .int .i64 11]) w := fun _ => by kernel_rfl
      go_wp2_with (first
        | (go_at_call 143; refine (hF _).mono ?_; rintro e w' ⟨rfl, rfl⟩)
        | (go_at_call 174; refine (ze9 _ _ _ _).mono ?_; rintro e w' ⟨rfl, hb2⟩; obtain ⟨hc, hf⟩ := zi2 hb2)
)
      obtain ⟨q0, q1, q2, HB⟩ := zb4 hb hb2 hc
      clear hc hf q0 q1 q2
      go_roundg (4 - (1 + 1))
      case measure => omega
      case rel =>
        refine ⟨HB, 2, A + P * 2048, rfl, rfl, by omega, by omega, by omega, hA2, .inr (.inr (.inl ⟨rfl, (show Hid _ from ?_)⟩))⟩
        rw [HA.out, ← HP.out]
        exact Lib.hid rfl
    · obtain ⟨P, hP⟩ : ∃ P, v / 33554432 % 64 = P := ⟨_, rfl⟩
      obtain ⟨P0, P1⟩ : 0 ≤ P ∧ P < 64 := by omega
      have hF := zb9 v 30 25 v0 V1.out
      rw [za6 (by decide)] at hF
      have eF : fld v (30 : Int).toNat (25 : Int).toNat = P := by rw [← hP]; unfold fld; simp
      rw [eF] at hF
      have ha : A / 32 % 64 = 0 := by
        rw [HA.out]
        obtain ⟨x0, e0⟩ : ∃ x, v / 2147483648 % 2 = x := ⟨_, rfl⟩
        have b0 : 0 ≤ x0 ∧ x0 < 2 := by omega
        obtain ⟨x1, e1⟩ : ∃ x, v / 128 % 2 = x := ⟨_, rfl⟩
        have b1 : 0 ≤ x1 ∧ x1 < 2 := by omega
        obtain ⟨q, eq⟩ : ∃ q, v / 2147483648 % 2 = q := ⟨_, rfl⟩
        have bq : 0 ≤ q ∧ q < 2 := by omega
        rw [e0]
        rw [e1]
        try rw [eq]
        clear eq
        clear e0 e1
        clear hF hP P0 P1 eF hk
        omega
      have hA2 : A + P * 32 < 18446744073709551616 := by have := HA.out; have := V1.out; omega
      have hor : bits .or .u64 A (P * 32) = A + P * 32 := zi0 5 6 A0 A1 ha P0 P1 hA2
      have HP := Lib.hid hP
      clear hP eF ha
      have ix : ∀ w : World, (Instr.index 172 (.agg #[.int .i64 31, .int .i64 31, .int .i64 12, .int .i64 7, .int .i64 7, .int .i64 11, .int .i64 30, .int .i64 25, .int .i64 5, .int .i64 11, .int .i64 8, .int .i64 1]) (.int .i64 2)).run Tryz.prog w = .ok (.agg #[.int .i64 30, .int .i64 25, .int .i64 5]) w := fun _ => by kernel_rfl
      go_wp2_with (first
        | (go_at_call 143; refine (hF _).mono ?_; rintro e w' ⟨rfl, rfl⟩)
        | (go_at_call 174; refine (ze9 _ _ _ _).mono ?_; rintro e w' ⟨rfl, hb2⟩; obtain ⟨hc, hf⟩ := zi2 hb2)
)
      obtain ⟨q0, q1, q2, HB⟩ := zb4 hb hb2 hc
      clear hc hf q0 q1 q2
      go_roundg (4 - (2 + 1))
      case measure => omega
      case rel =>
        refine ⟨HB, 3, A + P * 32, rfl, rfl, by omega, by omega, by omega, hA2, .inr (.inr (.inr (.inl ⟨rfl, (show Hid _ from ?_)⟩)))⟩
        rw [HA.out, ← HP.out]
        exact Lib.hid rfl
    · obtain ⟨P, hP⟩ : ∃ P, v / 256 % 16 = P := ⟨_, rfl⟩
      obtain ⟨P0, P1⟩ : 0 ≤ P ∧ P < 16 := by omega
      have hF := zb9 v 11 8 v0 V1.out
      rw [za6 (by decide)] at hF
      have eF : fld v (11 : Int).toNat (8 : Int).toNat = P := by rw [← hP]; unfold fld; simp
      rw [eF] at hF
      have ha : A / 2 % 16 = 0 := by
        rw [HA.out]
        obtain ⟨x0, e0⟩ : ∃ x, v / 2147483648 % 2 = x := ⟨_, rfl⟩
        have b0 : 0 ≤ x0 ∧ x0 < 2 := by omega
        obtain ⟨x1, e1⟩ : ∃ x, v / 128 % 2 = x := ⟨_, rfl⟩
        have b1 : 0 ≤ x1 ∧ x1 < 2 := by omega
        obtain ⟨x2, e2⟩ : ∃ x, v / 33554432 % 64 = x := ⟨_, rfl⟩
        have b2 : 0 ≤ x2 ∧ x2 < 64 := by omega
        obtain ⟨q, eq⟩ : ∃ q, v / 2147483648 % 2 = q := ⟨_, rfl⟩
        have bq : 0 ≤ q ∧ q < 2 := by omega
        rw [e0]
        rw [e1]
        rw [e2]
        try rw [eq]
        clear eq
        clear e0 e1 e2
        clear hF hP P0 P1 eF hk
        omega
      have hA2 : A + P * 2 < 18446744073709551616 := by have := HA.out; have := V1.out; omega
      have hor : bits .or .u64 A (P * 2) = A + P * 2 := zi0 1 4 A0 A1 ha P0 P1 hA2
      have HP := Lib.hid hP
      clear hP eF ha
      have ix : ∀ w : World, (Instr.index 172 (.agg #[.int .i64 31, .int .i64 31, .int .i64 12, .int .i64 7, .int .i64 7, .int .i64 11, .int .i64 30, .int .i64 25, .int .i64 5, .int .i64 11, .int .i64 8, .int .i64 1]) (.int .i64 3)).run Tryz.prog w = .ok (.agg #[.int .i64 11, .int .i64 8, .int .i64 1]) w := fun _ => by kernel_rfl
      go_wp2_with (first
        | (go_at_call 143; refine (hF _).mono ?_; rintro e w' ⟨rfl, rfl⟩)
        | (go_at_call 174; refine (ze9 _ _ _ _).mono ?_; rintro e w' ⟨rfl, hb2⟩; obtain ⟨hc, hf⟩ := zi2 hb2)
)
      obtain ⟨q0, q1, q2, HB⟩ := zb4 hb hb2 hc
      clear hc hf q0 q1 q2
      go_roundg (4 - (3 + 1))
      case measure => omega
      case rel =>
        refine ⟨HB, 4, A + P * 2, rfl, rfl, by omega, by omega, by omega, hA2, .inr (.inr (.inr (.inr (⟨rfl, (show Hid _ from ?_)⟩))))⟩
        rw [HA.out, ← HP.out]
        exact Lib.hid rfl
    · go_wp2_with fail
      try rw [Exit.noGoto_ret]
      go_ret
      exact ⟨za1 (by have := V1.out; rw [HE.out, HA.out]; exact fin_get3 v), hb⟩
theorem fin_get4 (v : Int) : wrap64 ((v / 4096 % 524288 + 524288 * (v / 2147483648 % 2)) * 4096 + v / 2147483648 % 2 * 18446744069414584320) = v / 4096 % 524288 * 4096 - v / 2147483648 % 2 * 2147483648 := by
  have hq := Int.emod_two_eq (v / 2147483648)
  rw [ze2, IntKind.wrap_i64]
  rcases hq with e | e <;> rw [e] <;> clear e <;> omega
set_option maxRecDepth 100000 in
theorem get4_c (v : Int) (w : World) (v0 : 0 ≤ v) (v1 : v < 4294967296) (hT : Tab w) :
    Calls Tryz.prog 144 #[.int .i64 4, .int .u32 v] w fun e w' => e = .returned (.int .i64 (getK 4 v 32)) ∧ Below w.heap.size w w' := by
  have c0 := hT 48 (by decide)
  have c1 := hT 49 (by decide)
  have c2 := hT 50 (by decide)
  have c3 := hT 51 (by decide)
  have c4 := hT 52 (by decide)
  have c5 := hT 53 (by decide)
  have c6 := hT 54 (by decide)
  have c7 := hT 55 (by decide)
  have c8 := hT 56 (by decide)
  have c9 := hT 57 (by decide)
  have c10 := hT 58 (by decide)
  have c11 := hT 59 (by decide)
  simp only [tabL, List.getD_cons_succ, List.getD_cons_zero] at c0 c1 c2 c3 c4 c5 c6 c7 c8 c9 c10 c11
  have HE := Lib.hid (get4 v0)
  clear hT
  have V1 := Lib.hid v1
  clear v1
  go_enter Tryz.func144, Tryz.ntmps144
  go_wp2
  go_step3
  go_wp2_with (first
    | (go_at_call 166; refine (zg8 _ (by omega) _).mono ?_; rintro e w' ⟨rfl, rfl⟩))
  go_step3
  go_wp2_with fail
  clear c0 c1 c2 c3 c4 c5 c6 c7 c8 c9 c10 c11
  go_loopg [5, 15] 1 (fun gg v5 v15 wr => Below w.heap.size w wr ∧ ∃ k A : Int, v15 = .int .i64 k ∧ v5 = .int .u64 A ∧ k + gg = 1 ∧ 0 ≤ k ∧ 0 ≤ A ∧ A < 18446744073709551616 ∧ ((k = 0 ∧ Hid (A = 0)) ∨ (k = 1 ∧ Hid (A = v / 4096 % 1048576 * 4096 + v / 2147483648 % 2 * 18446744069414584320))))
  case atStart => exact ⟨Below.refl _ _, 0, 0, rfl, rfl, by omega, by omega, by omega, by omega, .inl ⟨rfl, (show Hid _ from rfl)⟩⟩
  case round =>
    obtain ⟨hb, k, A, rfl, rfl, hk, hk0, A0, A1, hA⟩ := hrel
    obtain ⟨w2, rfl⟩ : ∃ w2 : World, w2 = wr := ⟨_, rfl⟩
    rcases hA with ⟨rfl, HA⟩ | ⟨rfl, HA⟩
    · obtain ⟨P, hP⟩ : ∃ P, v / 4096 % 1048576 = P := ⟨_, rfl⟩
      obtain ⟨P0, P1⟩ : 0 ≤ P ∧ P < 1048576 := by omega
      have hF := zb9 v 31 12 v0 V1.out
      rw [za6 (by decide)] at hF
      have eF : fld v (31 : Int).toNat (12 : Int).toNat = P := by rw [← hP]; unfold fld; simp
      rw [eF] at hF
      obtain ⟨S, hS⟩ : ∃ S, sx P (zc6 20) = S := ⟨_, rfl⟩
      have hx := zi8 P 20 P0 (by omega)
      rw [hS] at hx
      have hS2 : S = P + P / 524288 * 18446744073708503040 := by rw [← hS]; exact zG9 20 (by decide) (by decide) P0 P1
      obtain ⟨B, hB⟩ : ∃ B, IntKind.u64.wrap (S * 4096) = B := ⟨_, rfl⟩
      have hs : P / 524288 = v / 2147483648 % 2 := by have := V1.out; clear hF hx hS hB hS2 eF; omega
      rw [hs] at hS2
      clear hs
      have hB2 : B = P * 4096 + v / 2147483648 % 2 * 18446744069414584320 := by
        rw [← hB, hS2, IntKind.wrap_u64]
        clear hF hx hS hB hS2 eF hP
        have hq := Int.emod_two_eq (v / 2147483648)
        rcases hq with e | e <;> rw [e] <;> clear e <;> omega
      obtain ⟨B0, B1⟩ : 0 ≤ B ∧ B < 18446744073709551616 := by rw [← hB, IntKind.wrap_u64]; clear hF hx hS hB hS2 eF hB2; omega
      obtain ⟨S0, S1⟩ : 0 ≤ S ∧ S < 18446744073709551616 := by clear hF hx hS hB eF hB2 hP; omega
      have hor : bits .or .u64 A B = B := by rw [show A = 0 from HA.out]; exact zk3 B0 B1
      have HB2 := Lib.hid hB2
      have HP := Lib.hid hP
      clear hP eF hS hS2 hB2
      have ix : ∀ w : World, (Instr.index 172 (.agg #[.int .i64 31, .int .i64 12, .int .i64 12, .int .i64 0, .int .i64 0, .int .i64 0, .int .i64 0, .int .i64 0, .int .i64 0, .int .i64 0, .int .i64 0, .int .i64 0]) (.int .i64 0)).run Tryz.prog w = .ok (.agg #[.int .i64 31, .int .i64 12, .int .i64 12]) w := fun _ => by kernel_rfl
      go_wp2_with (first
        | (go_at_call 143; refine (hF _).mono ?_; rintro e w' ⟨rfl, rfl⟩)
        | (go_at_call 174; refine (ze9 _ _ _ _).mono ?_; rintro e w' ⟨rfl, hb2⟩; obtain ⟨hc, hf⟩ := zi2 hb2)
        | (go_at_call 58; refine (hx _).mono ?_; rintro e w2 ⟨rfl, rfl⟩))
      obtain ⟨q0, q1, q2, HB⟩ := zb4 hb hb2 hc
      clear hc hf q0 q1 q2
      go_roundg (1 - (0 + 1))
      case measure => omega
      case rel =>
        refine ⟨HB, 1, B, rfl, rfl, by omega, by omega, B0, B1, .inr (⟨rfl, (show Hid _ from ?_)⟩)⟩
        rw [HB2.out, ← HP.out]
        exact Lib.hid rfl
    · have ix : ∀ w : World, (Instr.index 172 (.agg #[.int .i64 31, .int .i64 12, .int .i64 12, .int .i64 0, .int .i64 0, .int .i64 0, .int .i64 0, .int .i64 0, .int .i64 0, .int .i64 0, .int .i64 0, .int .i64 0]) (.int .i64 1)).run Tryz.prog w = .ok (.agg #[.int .i64 0, .int .i64 0, .int .i64 0]) w := fun _ => by kernel_rfl
      obtain ⟨P, hP⟩ : ∃ P, ze1 v 0 0 = P := ⟨_, rfl⟩
      have hF := zb9 v 0 0 v0 V1.out
      rw [hP] at hF
      obtain ⟨P0, P1⟩ : 0 ≤ P ∧ P < 2 := by
        rw [← hP, za6 (by decide)]; unfold fld; clear hF hP; simp; omega
      clear hP
      go_wp2_with (first
        | (go_at_call 143; refine (hF _).mono ?_; rintro e w' ⟨rfl, rfl⟩)
        | (go_at_call 174; refine (ze9 _ _ _ _).mono ?_; rintro e w' ⟨rfl, hb2⟩; obtain ⟨hc, hf⟩ := zi2 hb2))
      obtain ⟨q0, q1, q2, HB⟩ := zb4 hb hb2 hc
      clear hc hf q0 q1 q2
      try rw [Exit.noGoto_ret]
      go_ret
      exact ⟨za1 (by have := V1.out; rw [HE.out, HA.out, show v / 4096 % 1048576 = v / 4096 % 524288 + 524288 * (v / 2147483648 % 2) by omega]; exact fin_get4 v), HB⟩
theorem fin_get5 (v : Int) : wrap64 (v / 2147483648 % 2 * 1048576 + v / 2147483648 % 2 * 18446744073707454464 + v / 4096 % 256 * 4096 + v / 1048576 % 2 * 2048 + v / 2097152 % 1024 * 2) = v / 4096 % 256 * 4096 + v / 1048576 % 2 * 2048 + v / 2097152 % 1024 * 2 - v / 2147483648 % 2 * 1048576 := by
  have hq := Int.emod_two_eq (v / 2147483648)
  rw [ze2, IntKind.wrap_i64]
  rcases hq with e | e <;> rw [e] <;> clear e <;> omega
set_option maxRecDepth 100000 in
theorem get5_c (v : Int) (w : World) (v0 : 0 ≤ v) (v1 : v < 4294967296) (hT : Tab w) :
    Calls Tryz.prog 144 #[.int .i64 5, .int .u32 v] w fun e w' => e = .returned (.int .i64 (getK 5 v 32)) ∧ Below w.heap.size w w' := by
  have c0 := hT 60 (by decide)
  have c1 := hT 61 (by decide)
  have c2 := hT 62 (by decide)
  have c3 := hT 63 (by decide)
  have c4 := hT 64 (by decide)
  have c5 := hT 65 (by decide)
  have c6 := hT 66 (by decide)
  have c7 := hT 67 (by decide)
  have c8 := hT 68 (by decide)
  have c9 := hT 69 (by decide)
  have c10 := hT 70 (by decide)
  have c11 := hT 71 (by decide)
  simp only [tabL, List.getD_cons_succ, List.getD_cons_zero] at c0 c1 c2 c3 c4 c5 c6 c7 c8 c9 c10 c11
  have HE := Lib.hid (get5 v0)
  clear hT
  have V1 := Lib.hid v1
  clear v1
  go_enter Tryz.func144, Tryz.ntmps144
  go_wp2
  go_step3
  go_wp2_with (first
    | (go_at_call 166; refine (zg8 _ (by omega) _).mono ?_; rintro e w' ⟨rfl, rfl⟩))
  go_step3
  go_wp2_with fail
  clear c0 c1 c2 c3 c4 c5 c6 c7 c8 c9 c10 c11
  go_loopg [5, 15] 4 (fun gg v5 v15 wr => Below w.heap.size w wr ∧ ∃ k A : Int, v15 = .int .i64 k ∧ v5 = .int .u64 A ∧ k + gg = 4 ∧ 0 ≤ k ∧ 0 ≤ A ∧ A < 18446744073709551616 ∧ ((k = 0 ∧ Hid (A = 0)) ∨ (k = 1 ∧ Hid (A = v / 2147483648 % 2 * 1048576 + v / 2147483648 % 2 * 18446744073707454464)) ∨ (k = 2 ∧ Hid (A = v / 2147483648 % 2 * 1048576 + v / 2147483648 % 2 * 18446744073707454464 + v / 4096 % 256 * 4096)) ∨ (k = 3 ∧ Hid (A = v / 2147483648 % 2 * 1048576 + v / 2147483648 % 2 * 18446744073707454464 + v / 4096 % 256 * 4096 + v / 1048576 % 2 * 2048)) ∨ (k = 4 ∧ Hid (A = v / 2147483648 % 2 * 1048576 + v / 2147483648 % 2 * 18446744073707454464 + v / 4096 % 256 * 4096 + v / 1048576 % 2 * 2048 + v / 2097152 % 1024 * 2))))
  case atStart => exact ⟨Below.refl _ _, 0, 0, rfl, rfl, by omega, by omega, by omega, by omega, .inl ⟨rfl, (show Hid _ from rfl)⟩⟩
  case round =>
    obtain ⟨hb, k, A, rfl, rfl, hk, hk0, A0, A1, hA⟩ := hrel
    obtain ⟨w2, rfl⟩ : ∃ w2 : World, w2 = wr := ⟨_, rfl⟩
    rcases hA with ⟨rfl, HA⟩ | ⟨rfl, HA⟩ | ⟨rfl, HA⟩ | ⟨rfl, HA⟩ | ⟨rfl, HA⟩
    · obtain ⟨P, hP⟩ : ∃ P, v / 2147483648 % 2 = P := ⟨_, rfl⟩
      obtain ⟨P0, P1⟩ : 0 ≤ P ∧ P < 2 := by omega
      have hF := zb9 v 31 31 v0 V1.out
      rw [za6 (by decide)] at hF
      have eF : fld v (31 : Int).toNat (31 : Int).toNat = P := by rw [← hP]; unfold fld; simp
      rw [eF] at hF
      obtain ⟨S, hS⟩ : ∃ S, sx P (zc6 1) = S := ⟨_, rfl⟩
      have hx := zi8 P 1 P0 (by omega)
      rw [hS] at hx
      have hS2 : S = P + P / 1 * 18446744073709551614 := by rw [← hS]; exact zG9 1 (by decide) (by decide) P0 P1
      obtain ⟨B, hB⟩ : ∃ B, IntKind.u64.wrap (S * 1048576) = B := ⟨_, rfl⟩
      have hs : P / 1 = v / 2147483648 % 2 := by have := V1.out; clear hF hx hS hB hS2 eF; omega
      rw [hs] at hS2
      clear hs
      have hB2 : B = P * 1048576 + v / 2147483648 % 2 * 18446744073707454464 := by
        rw [← hB, hS2, IntKind.wrap_u64]
        clear hF hx hS hB hS2 eF hP
        have hq := Int.emod_two_eq (v / 2147483648)
        rcases hq with e | e <;> rw [e] <;> clear e <;> omega
      obtain ⟨B0, B1⟩ : 0 ≤ B ∧ B < 18446744073709551616 := by rw [← hB, IntKind.wrap_u64]; clear hF hx hS hB hS2 eF hB2; omega
      obtain ⟨S0, S1⟩ : 0 ≤ S ∧ S < 18446744073709551616 := by clear hF hx hS hB eF hB2 hP; omega
      have hor : bits .or .u64 A B = B := by rw [show A = 0 from HA.out]; exact zk3 B0 B1
      have HB2 := Lib.hid hB2
      have HP := Lib.hid hP
      clear hP eF hS hS2 hB2
      have ix : ∀ w : World, (Instr.index 172 (.agg #[.int .i64 31, .int .i64 31, .int .i64 20, .int .i64 19, .int .i64 12, .int .i64 12, .int .i64 20, .int .i64 20, .int .i64 11, .int .i64 30, .int .i64 21, .int .i64 1]) (.int .i64 0)).run Tryz.prog w = .ok (.agg #[.int .i64 31, .int .i64 31, .int .i64 20]) w := fun _ => by kernel_rfl
      go_wp2_with (first
        | (go_at_call 143; refine (hF _).mono ?_; rintro e w' ⟨rfl, rfl⟩)
        | (go_at_call 174; refine (ze9 _ _ _ _).mono ?_; rintro e w' ⟨rfl, hb2⟩; obtain ⟨hc, hf⟩ := zi2 hb2)
        | (go_at_call 58; refine (hx _).mono ?_; rintro e w2 ⟨rfl, rfl⟩))
      obtain ⟨q0, q1, q2, HB⟩ := zb4 hb hb2 hc
      clear hc hf q0 q1 q2
      go_roundg (4 - (0 + 1))
      case measure => omega
      case rel =>
        refine ⟨HB, 1, B, rfl, rfl, by omega, by omega, B0, B1, .inr (.inl ⟨rfl, (show Hid _ from ?_)⟩)⟩
        rw [HB2.out, ← HP.out]
        exact Lib.hid rfl
    · obtain ⟨P, hP⟩ : ∃ P, v / 4096 % 256 = P := ⟨_, rfl⟩
      obtain ⟨P0, P1⟩ : 0 ≤ P ∧ P < 256 := by omega
      have hF := zb9 v 19 12 v0 V1.out
      rw [za6 (by decide)] at hF
      have eF : fld v (19 : Int).toNat (12 : Int).toNat = P := by rw [← hP]; unfold fld; simp
      rw [eF] at hF
      have ha : A / 4096 % 256 = 0 := by
        rw [HA.out]
        obtain ⟨x0, e0⟩ : ∃ x, v / 2147483648 % 2 = x := ⟨_, rfl⟩
        have b0 : 0 ≤ x0 ∧ x0 < 2 := by omega
        obtain ⟨q, eq⟩ : ∃ q, v / 2147483648 % 2 = q := ⟨_, rfl⟩
        have bq : 0 ≤ q ∧ q < 2 := by omega
        rw [e0]
        try rw [eq]
        clear eq
        clear e0
        clear hF hP P0 P1 eF hk
        omega
      have hA2 : A + P * 4096 < 18446744073709551616 := by have := HA.out; have := V1.out; omega
      have hor : bits .or .u64 A (P * 4096) = A + P * 4096 := zi0 12 8 A0 A1 ha P0 P1 hA2
      have HP := Lib.hid hP
      clear hP eF ha
      have ix : ∀ w : World, (Instr.index 172 (.agg #[.int .i64 31, .int .i64 31, .int .i64 20, .int .i64 19, .int .i64 12, .int .i64 12, .int .i64 20, .int .i64 20, .int .i64 11, .int .i64 30, .int .i64 21, .int .i64 1]) (.int .i64 1)).run Tryz.prog w = .ok (.agg #[.int .i64 19, .int .i64 12, .int .i64 12]) w := fun _ => by kernel_rfl
      go_wp2_with (first
        | (go_at_call 143; refine (hF _).mono ?_; rintro e w' ⟨rfl, rfl⟩)
        | (go_at_call 174; refine (ze9 _ _ _ _).mono ?_; rintro e w' ⟨rfl, hb2⟩; obtain ⟨hc, hf⟩ := zi2 hb2)
)
      obtain ⟨q0, q1, q2, HB⟩ := zb4 hb hb2 hc
      clear hc hf q0 q1 q2
      go_roundg (4 - (1 + 1))
      case measure => omega
      case rel =>
        refine ⟨HB, 2, A + P * 4096, rfl, rfl, by omega, by omega, by omega, hA2, .inr (.inr (.inl ⟨rfl, (show Hid _ from ?_)⟩))⟩
        rw [HA.out, ← HP.out]
        exact Lib.hid rfl
    · obtain ⟨P, hP⟩ : ∃ P, v / 1048576 % 2 = P := ⟨_, rfl⟩
      obtain ⟨P0, P1⟩ : 0 ≤ P ∧ P < 2 := by omega
      have hF := zb9 v 20 20 v0 V1.out
      rw [za6 (by decide)] at hF
      have eF : fld v (20 : Int).toNat (20 : Int).toNat = P := by rw [← hP]; unfold fld; simp
      rw [eF] at hF
      have ha : A / 2048 % 2 = 0 := by
        rw [HA.out]
        obtain ⟨x0, e0⟩ : ∃ x, v / 2147483648 % 2 = x := ⟨_, rfl⟩
        have b0 : 0 ≤ x0 ∧ x0 < 2 := by omega
        obtain ⟨x1, e1⟩ : ∃ x, v / 4096 % 256 = x := ⟨_, rfl⟩
        have b1 : 0 ≤ x1 ∧ x1 < 256 := by omega
        obtain ⟨q, eq⟩ : ∃ q, v / 2147483648 % 2 = q := ⟨_, rfl⟩
        have bq : 0 ≤ q ∧ q < 2 := by omega
        rw [e0]
        rw [e1]
        try rw [eq]
        clear eq
        clear e0 e1
        clear hF hP P0 P1 eF hk
        omega
      have hA2 : A + P * 2048 < 18446744073709551616 := by have := HA.out; have := V1.out; omega
      have hor : bits .or .u64 A (P * 2048) = A + P * 2048 := zi0 11 1 A0 A1 ha P0 P1 hA2
      have HP := Lib.hid hP
      clear hP eF ha
      have ix : ∀ w : World, (Instr.index 172 (.agg #[.int .i64 31, .int .i64 31, .int .i64 20, .int .i64 19, .int .i64 12, .int .i64 12, .int .i64 20, .int .i64 20, .int .i64 11, .int .i64 30, .int .i64 21, .int .i64 1]) (.int .i64 2)).run Tryz.prog w = .ok (.agg #[.int .i64 20, .int .i64 20, .int .i64 11]) w := fun _ => by kernel_rfl
      go_wp2_with (first
        | (go_at_call 143; refine (hF _).mono ?_; rintro e w' ⟨rfl, rfl⟩)
        | (go_at_call 174; refine (ze9 _ _ _ _).mono ?_; rintro e w' ⟨rfl, hb2⟩; obtain ⟨hc, hf⟩ := zi2 hb2)
)
      obtain ⟨q0, q1, q2, HB⟩ := zb4 hb hb2 hc
      clear hc hf q0 q1 q2
      go_roundg (4 - (2 + 1))
      case measure => omega
      case rel =>
        refine ⟨HB, 3, A + P * 2048, rfl, rfl, by omega, by omega, by omega, hA2, .inr (.inr (.inr (.inl ⟨rfl, (show Hid _ from ?_)⟩)))⟩
        rw [HA.out, ← HP.out]
        exact Lib.hid rfl
    · obtain ⟨P, hP⟩ : ∃ P, v / 2097152 % 1024 = P := ⟨_, rfl⟩
      obtain ⟨P0, P1⟩ : 0 ≤ P ∧ P < 1024 := by omega
      have hF := zb9 v 30 21 v0 V1.out
      rw [za6 (by decide)] at hF
      have eF : fld v (30 : Int).toNat (21 : Int).toNat = P := by rw [← hP]; unfold fld; simp
      rw [eF] at hF
      have ha : A / 2 % 1024 = 0 := by
        rw [HA.out]
        obtain ⟨x0, e0⟩ : ∃ x, v / 2147483648 % 2 = x := ⟨_, rfl⟩
        have b0 : 0 ≤ x0 ∧ x0 < 2 := by omega
        obtain ⟨x1, e1⟩ : ∃ x, v / 4096 % 256 = x := ⟨_, rfl⟩
        have b1 : 0 ≤ x1 ∧ x1 < 256 := by omega
        obtain ⟨x2, e2⟩ : ∃ x, v / 1048576 % 2 = x := ⟨_, rfl⟩
        have b2 : 0 ≤ x2 ∧ x2 < 2 := by omega
        obtain ⟨q, eq⟩ : ∃ q, v / 2147483648 % 2 = q := ⟨_, rfl⟩
        have bq : 0 ≤ q ∧ q < 2 := by omega
        rw [e0]
        rw [e1]
        rw [e2]
        try rw [eq]
        clear eq
        clear e0 e1 e2
        clear hF hP P0 P1 eF hk
        omega
      have hA2 : A + P * 2 < 18446744073709551616 := by have := HA.out; have := V1.out; omega
      have hor : bits .or .u64 A (P * 2) = A + P * 2 := zi0 1 10 A0 A1 ha P0 P1 hA2
      have HP := Lib.hid hP
      clear hP eF ha
      have ix : ∀ w : World, (Instr.index 172 (.agg #[.int .i64 31, .int .i64 31, .int .i64 20, .int .i64 19, .int .i64 12, .int .i64 12, .int .i64 20, .int .i64 20, .int .i64 11, .int .i64 30, .int .i64 21, .int .i64 1]) (.int .i64 3)).run Tryz.prog w = .ok (.agg #[.int .i64 30, .int .i64 21, .int .i64 1]) w := fun _ => by kernel_rfl
      go_wp2_with (first
        | (go_at_call 143; refine (hF _).mono ?_; rintro e w' ⟨rfl, rfl⟩)
        | (go_at_call 174; refine (ze9 _ _ _ _).mono ?_; rintro e w' ⟨rfl, hb2⟩; obtain ⟨hc, hf⟩ := zi2 hb2)
)
      obtain ⟨q0, q1, q2, HB⟩ := zb4 hb hb2 hc
      clear hc hf q0 q1 q2
      go_roundg (4 - (3 + 1))
      case measure => omega
      case rel =>
        refine ⟨HB, 4, A + P * 2, rfl, rfl, by omega, by omega, by omega, hA2, .inr (.inr (.inr (.inr (⟨rfl, (show Hid _ from ?_)⟩))))⟩
        rw [HA.out, ← HP.out]
        exact Lib.hid rfl
    · go_wp2_with fail
      try rw [Exit.noGoto_ret]
      go_ret
      exact ⟨za1 (by have := V1.out; rw [HE.out, HA.out]; exact fin_get5 v), hb⟩
end Go.Proofs.YtmamblgpekafbaaGreatDoor
namespace Go.Proofs.YtmamblgpekafbaaGreatDoor
open Go.RowKit
theorem Zh0 {a c : Int} {b d : Bool} (h : a = c) (g : b = d) : Ending.returned (.tuple #[.int .u32 a, .bool b]) = .returned (.tuple #[.int .u32 c, .bool d]) := by rw [h, g]
def putV (f x : Int) : Int := if mayB f x then putK f (x % 18446744073709551616) 32 else 0
theorem Tab.pos {w : World} (h : Tab w) : 3 < w.heap.size := World.block_lt_of_cell? w _ (h 0 (by decide))
theorem Zd3 {f : Int} (h : ¬ (1 ≤ f ∧ f ≤ 5)) (v : Int) : getK f v 32 = 0 := by
  have := zk6 (f := f) (w := v) 0 32 (fun i _ => Zb1 h _)
  rw [Nat.zero_add] at this; rw [this]; rfl
theorem putK_no {f : Int} (h : ¬ (1 ≤ f ∧ f ≤ 5)) (v : Int) : putK f v 32 = 0 := by
  have := zk4 (f := f) (u := v) 0 32 (fun i _ => Zb1 h _)
  rw [Nat.zero_add] at this; rw [this]; rfl
theorem may_no {f : Int} (h : ¬ (1 ≤ f ∧ f ≤ 5)) (x : Int) : mayB f x = false := decide_eq_false (by unfold May; omega)
theorem get_c (f v : Int) (hv0 : 0 ≤ v) (hv1 : v < 4294967296) (w : World) (hT : Tab w) :
    Calls Tryz.prog 144 #[.int .i64 f, .int .u32 v] w fun e w' => e = .returned (.int .i64 (getK f v 32)) ∧ Below w.heap.size w w' := by
  by_cases h : 1 ≤ f ∧ f ≤ 5
  · have hf : f = 1 ∨ f = 2 ∨ f = 3 ∨ f = 4 ∨ f = 5 := by omega
    rcases hf with rfl | rfl | rfl | rfl | rfl
    · exact get1_c v w hv0 hv1 hT
    · exact get2_c v w hv0 hv1 hT
    · exact get3_c v w hv0 hv1 hT
    · exact get4_c v w hv0 hv1 hT
    · exact get5_c v w hv0 hv1 hT
  · rw [Zd3 h]
    have HK := fun w => zF1 f h w
    clear h hT hv1
    go_enter Tryz.func144, Tryz.ntmps144
    go_wp2
    go_step3
    go_wp2_with (first
      | (go_at_call 166; refine (HK _).mono ?_; rintro e w' ⟨rfl, rfl⟩))
    try rw [Exit.noGoto_ret]
    go_ret
    exact ⟨rfl, Below.refl _ _⟩
theorem spread_c (f h : Int) (h0 : 0 ≤ h) (h1 : h < 4294967296) (w : World) (hT : Tab w) :
    Calls Tryz.prog 167 #[.int .i64 f, .int .u32 h] w fun e w' => e = .returned (.int .u32 (putK f h 32)) ∧ Below w.heap.size w w' := by
  by_cases hk : 1 ≤ f ∧ f ≤ 5
  · have hf : f = 1 ∨ f = 2 ∨ f = 3 ∨ f = 4 ∨ f = 5 := by omega
    rcases hf with rfl | rfl | rfl | rfl | rfl
    · exact spread1 h w h0 h1 hT
    · exact spread2 h w h0 h1 hT
    · exact spread3 h w h0 h1 hT
    · exact spread4 h w h0 h1 hT
    · exact spread5 h w h0 h1 hT
  · rw [putK_no hk]
    have HK := fun w => zF1 f hk w
    clear hk hT h1
    go_enter Tryz.func167, Tryz.ntmps167
    go_wp2
    go_step3
    go_wp2_with (first
      | (go_at_call 166; refine (HK _).mono ?_; rintro e w' ⟨rfl, rfl⟩))
    try rw [Exit.noGoto_ret]
    go_ret
    exact ⟨rfl, Below.refl _ _⟩
theorem zT6 (f : Int) {u : Int} (hu : 0 ≤ u) : ∀ k : Nat, k ≤ 32 → putK f (u % 4294967296) k = putK f u k
  | 0, _ => rfl
  | k + 1, hk => by
    rw [zr5, zr5, zT6 f hu k (by omega)]
    have hr := zw7 f k (by omega)
    by_cases h0 : 0 ≤ plc f k
    · obtain ⟨n, hn⟩ : ∃ n : Nat, (plc f k).toNat = n := ⟨_, rfl⟩
      rw [hn]
      have hn31 : n ≤ 31 := by omega
      have e : u % 4294967296 / 2 ^ n % 2 = u / 2 ^ n % 2 := by
        obtain ⟨a, rfl⟩ := Int.eq_ofNat_of_zero_le hu
        have h := Nat.testBit_mod_two_pow a 32 n
        have hl : n < 32 := by omega
        simp only [hl, decide_true, Bool.true_and] at h
        rw [Nat.testBit_eq_decide_div_mod_eq, Nat.testBit_eq_decide_div_mod_eq] at h
        have h2 : (a % 2 ^ 32 / 2 ^ n % 2 = 1) ↔ (a / 2 ^ n % 2 = 1) := by simpa using h
        have h3 : a % 2 ^ 32 / 2 ^ n % 2 = a / 2 ^ n % 2 := by
          have := Nat.mod_two_eq_zero_or_one (a % 2 ^ 32 / 2 ^ n)
          have := Nat.mod_two_eq_zero_or_one (a / 2 ^ n)
          omega
        have h4 : ((a % 2 ^ 32 / 2 ^ n % 2 : Nat) : Int) = ((a / 2 ^ n % 2 : Nat) : Int) := by rw [h3]
        simp only [Int.natCast_emod, Int.natCast_ediv, Int.natCast_pow, Int.cast_ofNat_Int] at h4
        exact h4
      rw [e]
    · rw [if_neg (fun g => h0 g.1), if_neg (fun g => h0 g.1)]
theorem put_c (f x : Int) (w : World) (hT : Tab w) :
    Calls Tryz.prog 133 #[.int .i64 f, .int .i64 x] w fun e w' => e = .returned (.tuple #[.int .u32 (putV f x), .bool (mayB f x)]) ∧ Below w.heap.size w w' := by
  by_cases h : 1 ≤ f ∧ f ≤ 5
  · have HK := fun w => zg8 f h w
    obtain ⟨F, hF⟩ : ∃ F : Nat, f = (F : Int) := ⟨f.toNat, by omega⟩
    have hF1 : 1 ≤ F := by omega
    have hF5 : F ≤ 5 := by omega
    obtain ⟨U, hU⟩ : ∃ U, putK f (x % 18446744073709551616) 32 = U := ⟨_, rfl⟩
    obtain ⟨U0, U1⟩ := zi1 f (x % 18446744073709551616) 32
    rw [hU, show (2 : Int) ^ 32 = 4294967296 by decide] at U1
    rw [hU] at U0
    have hlow : putK f (IntKind.u32.wrap x) 32 = U := by
      rw [IntKind.wrap_u32, ← hU, ← zT6 f (u := x % 18446744073709551616) (by omega) 32 (Nat.le_refl _), show x % 18446744073709551616 % 4294967296 = x % 4294967296 by omega]
    have H1 := fun w hT => spread_c f (IntKind.u32.wrap x) (by rw [IntKind.wrap_u32]; omega) (by rw [IntKind.wrap_u32]; omega) w hT
    rw [hlow] at H1
    have H2 := fun w hT => get_c f U U0 U1 w hT
    obtain ⟨G, hG⟩ : ∃ G, getK f U 32 = G := ⟨_, rfl⟩
    rw [hG] at H2
    have hm : mayB f x = decide (G = x) := by
      refine (mayB_eq ?_).symm
      rw [decide_eq_true_eq]
      constructor
      · intro e
        have := (zt1 hF1 hF5 U0 U1).1
        rw [← hF, hG, e] at this; exact this
      · intro hM
        have := (Zl2 hF1 hF5 (x := x) (by rw [← hF]; exact hM)).1
        rw [← hF, hU, hG] at this; exact this
    have HP : Hid (putV f x = if mayB f x then U else 0) := by show _ = _; unfold putV; rw [hU]
    have HZ := Lib.hid hT.pos
    clear hF hF1 hF5 hU U0 U1 hlow hG h
    by_cases hx : G = x
    · have HM : Hid (mayB f x = true) := by show _ = _; rw [hm]; exact decide_eq_true hx
      clear hm
      subst hx
      go_enter Tryz.func133, Tryz.ntmps133
      go_wp2_with (first
        | (go_at_call 166; refine (HK _).mono ?_; rintro e w' ⟨rfl, rfl⟩)
        | (go_at_call 167; refine (H1 _ hT).mono ?_; rintro e w1 ⟨rfl, hb1⟩)
        | (go_at_call 144; refine (H2 _ (hT.below hb1 HZ.out)).mono ?_; rintro e w2 ⟨rfl, hb2⟩))
      go_ret2
      exact ⟨Zh0 (by rw [HP.out, HM.out]; rfl) HM.out.symm, hb1.trans (hb2.mono hb1.size)⟩
    · have HM : Hid (mayB f x = false) := by show _ = _; rw [hm]; exact decide_eq_false hx
      have hne : (G != x) = true := by simp [hx]
      clear hm hx
      go_enter Tryz.func133, Tryz.ntmps133
      go_wp2_with (first
        | (go_at_call 166; refine (HK _).mono ?_; rintro e w' ⟨rfl, rfl⟩)
        | (go_at_call 167; refine (H1 _ hT).mono ?_; rintro e w1 ⟨rfl, hb1⟩)
        | (go_at_call 144; refine (H2 _ (hT.below hb1 HZ.out)).mono ?_; rintro e w2 ⟨rfl, hb2⟩))
      go_ret2
      exact ⟨Zh0 (by rw [HP.out, HM.out]; rfl) HM.out.symm, hb1.trans (hb2.mono hb1.size)⟩
  · have HK := fun w => zF1 f h w
    have HM : Hid (mayB f x = false) := may_no h x
    have HP : Hid (putV f x = 0) := by show _ = _; unfold putV; rw [may_no h x]; rfl
    clear h hT
    go_enter Tryz.func133, Tryz.ntmps133
    go_wp2_with (first
      | (go_at_call 166; refine (HK _).mono ?_; rintro e w' ⟨rfl, rfl⟩))
    go_ret2
    exact ⟨Zh0 HP.out.symm HM.out.symm, Below.refl _ _⟩
end Go.Proofs.YtmamblgpekafbaaGreatDoor
