/- The five statements of the layer's words, walked: each answers true in whatever world. -/
import Derived.Test.YtmaiginpnncfdaaRows
import Derived.Test.YtmaiginpnncfdaaNum
import Derived.Test.YtmaiginpnncfdaaMem
import Derived.Test.YtmaiginpnncfdaaExt
import Derived.Test.YtmaiginpnncfdaaRng
import Derived.Test.YtmaiginpnncfdaaByt
import Derived.Test.YtmaiginpnncfdaaOpen
import Derived.WalkKit
import Derived.WalkLawsBesides
import Derived.Lib.Hide
namespace Go.Proofs.Ytmaiginpnncfdaa
open Go.RowKit

theorem alive1 (w : World) : Calls Try.prog 11 #[.int .u64 128, .int .i64 8] w fun e w' => e = .returned (.int .u64 18446744073709551488) ∧ w = w' :=
  (sext_any 128 8 (by decide) (by decide) w).mono fun e w' h => ⟨h.1.trans (ret_int (by decide)), h.2⟩
theorem alive2 (w : World) : Calls Try.prog 13 #[.int .u32 2882343476, .int .i64 15, .int .i64 8] w fun e w' => e = .returned (.int .u32 18) ∧ w = w' :=
  (field_any 2882343476 15 8 (by decide) (by decide) w).mono fun e w' h => ⟨h.1.trans (ret_int (by decide)), h.2⟩
theorem alive4 (w : World) : Calls Try.prog 20 #[.int .i64 0, .int .i64 4, .int .i64 3, .int .i64 1] w fun e w' => e = .returned (.bool true) ∧ w = w' :=
  (overlap_any 0 4 3 1 w).mono fun e w' h => ⟨h.1.trans (ret_bool (by decide)), h.2⟩
theorem alive3 (w : World) (g : Nat) (h : g < w.heap.size) (h0 : w.cell? ⟨g, 0, none⟩ = some (.int .u8 2)) (h1 : w.cell? ⟨g, 1, none⟩ = some (.int .u8 1)) :
    Calls Try.prog 18 #[.slice (some ⟨g, 0, none⟩) 2 2] w fun e w' => e = .returned (.int .u64 258) ∧ w = w' := by
  have hr : Rd w w.heap.size (some ⟨g, 0, none⟩) (cellsB [2, 1]) := .inr ⟨g, 0, rfl, h, fun i v hv => by
    match i with
    | 0 => cases hv; exact h0
    | 1 => cases hv; exact h1
    | i + 2 => cases hv⟩
  exact (of_any (some ⟨g, 0, none⟩) 2 [2, 1] w (by decide) (fun z hz => by simp at hz; omega) hr).mono fun e w' h => ⟨h.1.trans (ret_int (by decide)), h.2⟩

theorem alive_any (w : World) : Calls Try.prog 8 #[] w fun e w' => e = .returned (.bool true) ∧ Below w.heap.size w w' := by
  go_enter Try.func8, Try.ntmps8
  go_wp2_with fail
  refine (alive1 _).mono ?_; rintro e w' ⟨rfl, rfl⟩
  go_wp2_with fail
  refine (alive2 _).mono ?_; rintro e w' ⟨rfl, rfl⟩
  go_wp2_with fail
  refine (alive3 _ _ ?_ ?_ ?_).mono ?_
  · simp
  · simp [World.cell?_alloc_new]
  · simp [World.cell?_alloc_new]
  rintro e w' ⟨rfl, rfl⟩
  go_wp2_with fail
  refine (alive4 _).mono ?_; rintro e w' ⟨rfl, rfl⟩
  go_wp2
  go_ret
  exact ⟨rfl, (Below.refl _ _).alloc (Nat.le_refl _) _⟩

theorem extends_any (x n : Int) (h0 : 0 ≤ x) (h : x < 2 ^ 64) (w : World) :
    Calls Try.prog 3 #[.int .u64 x, .int .i64 n] w fun e w' => e = .returned (.bool true) ∧ Below w.heap.size w w' := by
  have H := Lib.hid h; clear h
  go_enter Try.func3, Try.ntmps3
  go_wp2_with fail
  refine (alive_any _).mono ?_; rintro e w1 ⟨rfl, hb⟩
  go_wp2_with fail
  go_loopw [5] (fun i wx => Below w.heap.size w wx ∧ ∃ k : Int, -1 ≤ k ∧ k ≤ 67 ∧ i = .int .i64 k) (fun i _ => (67 - intOf i).toNat)
  case atStart => exact ⟨hb, -1, by omega, by omega, rfl⟩
  case round =>
    obtain ⟨hb2, k, hk1, hk2, rfl⟩ := hrel
    go_wp2_with (first
      | (go_at_call 9; refine (zext_any _ _ h0 H.out _).mono ?_; rintro e w' ⟨rfl, rfl⟩)
      | (go_at_call 10; refine (rzext_any _ _ h0 H.out _).mono ?_; rintro e w' ⟨rfl, rfl⟩)
      | (go_at_call 11; refine (sext_any _ _ h0 H.out _).mono ?_; rintro e w' ⟨rfl, rfl⟩)
      | (go_at_call 12; refine (rsext_any _ _ h0 H.out _).mono ?_; rintro e w' ⟨rfl, rfl⟩))
    · go_roundw
      case rel => exact ⟨hb2, k + 1, by omega, by omega, rfl⟩
      case measure => simp [intOf]; omega
    · go_ret
      exact ⟨rfl, hb2⟩

theorem fields_any (x hi lo : Int) (h0 : 0 ≤ x) (h : x < 2 ^ 32) (w : World) :
    Calls Try.prog 4 #[.int .u32 x, .int .i64 hi, .int .i64 lo] w fun e w' => e = .returned (.bool true) ∧ Below w.heap.size w w' := by
  have H := Lib.hid h; clear h
  go_enter Try.func4, Try.ntmps4
  go_wp2_with fail
  refine (alive_any _).mono ?_; rintro e w1 ⟨rfl, hb⟩
  go_wp2_with (first
    | (go_at_call 13; refine (field_any _ _ _ h0 H.out _).mono ?_; rintro e w' ⟨rfl, rfl⟩)
    | (go_at_call 14; refine (rfield_any _ _ _ h0 H.out _).mono ?_; rintro e w' ⟨rfl, rfl⟩))
  go_ret
  exact ⟨by simp, hb⟩

theorem ranges_any (a n b m : Int) (ha : a ≤ 9223372036854775807) (w : World) :
    Calls Try.prog 6 #[.int .i64 a, .int .i64 n, .int .i64 b, .int .i64 m] w fun e w' => e = .returned (.bool true) ∧ Below w.heap.size w w' := by
  go_enter Try.func6, Try.ntmps6
  go_wp2_with fail
  refine (alive_any _).mono ?_; rintro e w1 ⟨rfl, hb⟩
  go_wp2_with (first
    | (go_at_call 20; refine (overlap_any _ _ _ _ _).mono ?_; rintro e w' ⟨rfl, rfl⟩)
    | (go_at_call 21; refine (roverlap_any _ _ _ _ _).mono ?_; rintro e w' ⟨rfl, rfl⟩)
    | (go_at_call 22; refine (aligned_any _ _ ha _).mono ?_; rintro e w' ⟨rfl, rfl⟩)
    | (go_at_call 23; refine (raligned_any _ _ ha _).mono ?_; rintro e w' ⟨rfl, rfl⟩))
  go_ret
  exact ⟨by simp, hb⟩

theorem wbytes_any (x n : Int) (A : Option Addr) (cap : Nat) (l : List Int) (h0 : 0 ≤ x) (h : x < 2 ^ 64) (hl : l.length ≤ 9223372036854775807) (hb : Byts l) (w : World) (hr : Rd w w.heap.size A (cellsB l)) :
    Calls Try.prog 5 #[.int .u64 x, .int .i64 n, .slice A l.length cap] w fun e w' => e = .returned (.bool true) ∧ Below w.heap.size w w' := by
  have H := Lib.hid h; clear h
  have hl8 : (bytesL x (cap8 n)).length ≤ 9223372036854775807 := by rw [bytesL_length]; unfold cap8; omega
  go_enter Try.func5, Try.ntmps5
  go_wp2_with fail
  refine (alive_any _).mono ?_; rintro e w1 ⟨rfl, hb1⟩
  go_wp2_with fail
  refine (bytes_any x n h0 _).mono ?_; rintro e w2 ⟨A2, c2, rfl, hr2, hb2⟩
  go_wp2_with fail
  refine (rbytes_any x n h0 H.out _).mono ?_; rintro e w3 ⟨A3, c3, rfl, hr3, hb3⟩
  have s1 := hb1.size
  have s2 := hb2.size
  have s3 := hb3.size
  go_wp2_with fail
  refine (same_any A2 A3 c2 c3 _ _ _ hl8 ((hr2.below hb3).mono s3) hr3).mono ?_; rintro e w4 ⟨rfl, hb4⟩
  have s4 := hb4.size
  have hbA : Below w.heap.size w w4 := ((hb1.trans (hb2.mono s1)).trans (hb3.mono (by omega))).trans (hb4.mono (by omega))
  have hr' : Rd w4 w4.heap.size A (cellsB l) := (hr.below hbA).mono (by omega)
  go_wp2_with fail
  refine (of_any A cap l _ hl hb hr').mono ?_; rintro e w' ⟨rfl, rfl⟩
  go_wp2_with fail
  refine (rof_any A cap l _ hl hb hr').mono ?_; rintro e w' ⟨rfl, rfl⟩
  go_wp2
  go_ret
  exact ⟨by simp, hbA⟩

theorem zext_at (x n : Int) (c : Nat) (h0 : 0 ≤ x) (h : x < 2 ^ 64) (hc : cap64 n = c) (w : World) :
    Calls Try.prog 9 #[.int .u64 x, .int .i64 n] w fun e w' => e = .returned (.int .u64 (zx x c)) ∧ w = w' := hc ▸ zext_any x n h0 h w

/-- The law's own clamp of n. -/
theorem back_any (x n a b m : Int) (h0 : 0 ≤ x) (h : x < 2 ^ 64) (w : World) :
    Calls Try.prog 7 #[.int .u64 x, .int .i64 n, .int .i64 a, .int .i64 b, .int .i64 m] w fun e w' => e = .returned (.bool true) ∧ Below w.heap.size w w' := by
  have H := Lib.hid h; clear h
  have hl8 : (bytesL x (cap8 n)).length ≤ 9223372036854775807 := by rw [bytesL_length]; unfold cap8; omega
  have hc64 : cap64 n ≤ 64 := by unfold cap64; omega
  have hsr := sx_range x (cap64 n) hc64
  have HS1 := Lib.hid hsr.1
  have HS2 := Lib.hid hsr.2
  have HO := Lib.hid (of_bytes x h0 (cap8 n) (by unfold cap8; omega))
  have HSS := Lib.hid (sx_sx x h0 (cap64 n) hc64)
  have HZS := Lib.hid (zx_sx x (cap64 n) hc64)
  have HOV := Lib.hid (ovl_comm a n b m)
  clear hsr
  have hcase : 8 < n ∨ n < 0 ∨ (0 ≤ n ∧ n ≤ 8) := by omega
  rcases hcase with h8 | h8 | ⟨h8, h9⟩
  all_goals
    go_enter Try.func7, Try.ntmps7
    go_wp2_with fail
    refine (alive_any _).mono ?_; rintro e w1 ⟨rfl, hb1⟩
    go_wp2_with fail
    refine (bytes_any x n h0 _).mono ?_; rintro e w2 ⟨A2, c2, rfl, hr2, hb2⟩
    go_wp2_with fail
    refine (of_any A2 c2 _ _ hl8 (byts_bytesL _ _) hr2).mono ?_; rintro e w' ⟨rfl, rfl⟩
    rw [HO.out]
    go_wp2_with fail
    refine (zext_at x _ (8 * cap8 n) h0 H.out ?_ _).mono ?_
    · unfold cap64 cap8; omega
    rintro e w' ⟨rfl, rfl⟩
    go_wp2_with fail
    refine (sext_any x n h0 H.out _).mono ?_; rintro e w' ⟨rfl, rfl⟩
    go_wp2_with fail
    refine (sext_any _ n HS1.out HS2.out _).mono ?_; rintro e w' ⟨rfl, rfl⟩
    rw [HSS.out]
    go_wp2_with fail
    refine (sext_any x n h0 H.out _).mono ?_; rintro e w' ⟨rfl, rfl⟩
    go_wp2_with fail
    refine (sext_any x n h0 H.out _).mono ?_; rintro e w' ⟨rfl, rfl⟩
    go_wp2_with fail
    refine (zext_any _ n HS1.out HS2.out _).mono ?_; rintro e w' ⟨rfl, rfl⟩
    rw [HZS.out]
    go_wp2_with fail
    refine (zext_any x n h0 H.out _).mono ?_; rintro e w' ⟨rfl, rfl⟩
    go_wp2_with fail
    refine (overlap_any _ _ _ _ _).mono ?_; rintro e w' ⟨rfl, rfl⟩
    go_wp2_with fail
    refine (overlap_any _ _ _ _ _).mono ?_; rintro e w' ⟨rfl, rfl⟩
    rw [HOV.out]
    go_wp2
    go_ret
    exact ⟨by simp, hb1.trans (hb2.mono hb1.size)⟩

/-! ### The statements' walks, as their frames ask them -/
theorem wordExtends_law (x n : Int) (W : World) (wx : (Lit.int .u64 x).wf = true) (_ : (Lit.int .i64 n).wf = true) :
    Calls Try.prog 3 #[.int .u64 x, .int .i64 n] W fun e w' => e = .returned (.bool true) ∧ Below W.heap.size W w' :=
  extends_any x n (wf_u64_out wx).1 (wf_u64_out wx).2 W
theorem wordFields_law (x hi lo : Int) (W : World) (wx : (Lit.int .u32 x).wf = true) (_ : (Lit.int .i64 hi).wf = true) (_ : (Lit.int .i64 lo).wf = true) :
    Calls Try.prog 4 #[.int .u32 x, .int .i64 hi, .int .i64 lo] W fun e w' => e = .returned (.bool true) ∧ Below W.heap.size W w' :=
  fields_any x hi lo (wf_u32_out wx).1 (wf_u32_out wx).2 W
theorem wordBytes_law (x n : Int) (A : Option Addr) (cap : Nat) (l : List Int) (W : World) (wx : (Lit.int .u64 x).wf = true) (_ : (Lit.int .i64 n).wf = true)
    (hl : l.length ≤ 9223372036854775807) (hw : ∀ z ∈ l, (Lit.int .u8 z).wf = true) (hr : Rd W W.heap.size A (l.map (Value.int .u8))) :
    Calls Try.prog 5 #[.int .u64 x, .int .i64 n, .slice A l.length cap] W fun e w' => e = .returned (.bool true) ∧ Below W.heap.size W w' :=
  wbytes_any x n A cap l (wf_u64_out wx).1 (wf_u64_out wx).2 hl (fun z hz => wf_u8_out (hw z hz)) W hr
theorem wordRanges_law (a n b m : Int) (W : World) (wa : (Lit.int .i64 a).wf = true) (_ : (Lit.int .i64 n).wf = true) (_ : (Lit.int .i64 b).wf = true) (_ : (Lit.int .i64 m).wf = true) :
    Calls Try.prog 6 #[.int .i64 a, .int .i64 n, .int .i64 b, .int .i64 m] W fun e w' => e = .returned (.bool true) ∧ Below W.heap.size W w' :=
  ranges_any a n b m (wf_i64_out wa).2 W
theorem wordBack_law (x n a b m : Int) (W : World) (wx : (Lit.int .u64 x).wf = true) (_ : (Lit.int .i64 n).wf = true) (_ : (Lit.int .i64 a).wf = true) (_ : (Lit.int .i64 b).wf = true) (_ : (Lit.int .i64 m).wf = true) :
    Calls Try.prog 7 #[.int .u64 x, .int .i64 n, .int .i64 a, .int .i64 b, .int .i64 m] W fun e w' => e = .returned (.bool true) ∧ Below W.heap.size W w' :=
  back_any x n a b m (wf_u64_out wx).1 (wf_u64_out wx).2 W
end Go.Proofs.Ytmaiginpnncfdaa
