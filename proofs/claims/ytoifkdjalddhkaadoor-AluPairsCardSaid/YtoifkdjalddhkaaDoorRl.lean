/- The document's Loaded. -/
import Derived.Test.YtoifkdjalddhkaaDoorRows
import Derived.Test.YtoifkdjalddhkaaDoorRv
import Derived.Test.YtoifkdjalddhkaaDoorBr
import Derived.Test.YtoifkdjalddhkaaDoorSy
import Derived.Test.YtoifkdjalddhkaaDoorOp5
import Derived.Test.YtoifkdjalddhkaaDoorWx
import Derived.WalkKit
import Derived.WalkLawsBesides
import Derived.Deep.QuietTactic
import Derived.BigQuiet
import Derived.WalkSmall
import Derived.WalkSpells
import Derived.Lib.Hide
import Derived.Below
namespace Go.Proofs.YtoifkdjalddhkaaDoor
open Go.RowKit

theorem z_11 : siz 11 = 1 := by decide
theorem z_12 : siz 12 = 2 := by decide
theorem z_13 : siz 13 = 4 := by decide
theorem z_14 : siz 14 = 8 := by decide
theorem z_15 : siz 15 = 1 := by decide
theorem z_16 : siz 16 = 2 := by decide
theorem z_17 : siz 17 = 4 := by decide
theorem z_18 : siz 18 = 1 := by decide
theorem z_19 : siz 19 = 2 := by decide
theorem z_20 : siz 20 = 4 := by decide
theorem z_21 : siz 21 = 8 := by decide
theorem z_50 : siz 50 = 0 := by decide
theorem z_51 : siz 51 = 0 := by decide
theorem z_52 : siz 52 = 0 := by decide
theorem z_53 : siz 53 = 0 := by decide
theorem z_54 : siz 54 = 4 := by decide
theorem z_55 : siz 55 = 8 := by decide
theorem z_56 : siz 56 = 4 := by decide
theorem z_57 : siz 57 = 8 := by decide
theorem z_58 : siz 58 = 4 := by decide
theorem z_59 : siz 59 = 4 := by decide
theorem z_60 : siz 60 = 4 := by decide
theorem z_61 : siz 61 = 4 := by decide
theorem z_62 : siz 62 = 4 := by decide
theorem z_63 : siz 63 = 4 := by decide
theorem z_64 : siz 64 = 4 := by decide
theorem z_65 : siz 65 = 4 := by decide
theorem z_66 : siz 66 = 4 := by decide
theorem z_67 : siz 67 = 8 := by decide
theorem z_68 : siz 68 = 8 := by decide
theorem z_69 : siz 69 = 8 := by decide
theorem z_70 : siz 70 = 8 := by decide
theorem z_71 : siz 71 = 8 := by decide
theorem z_72 : siz 72 = 8 := by decide
theorem z_73 : siz 73 = 8 := by decide
theorem z_74 : siz 74 = 8 := by decide
theorem z_75 : siz 75 = 8 := by decide
def loaV (op raw : Int) : Int := if srt op = 4 ∨ srt op = 10 ∨ srt op = 12 then (if 15 ≤ op ∧ op ≤ 17 then zx raw (8 * siz op).toNat else sx raw (8 * siz op).toNat) else 0
theorem loaV_u {op raw : Int} (n : Nat) (h : srt op = 4 ∨ srt op = 10 ∨ srt op = 12) (hu : 15 ≤ op ∧ op ≤ 17) (hn : (8 * siz op).toNat = n) : loaV op raw = zx raw n := by unfold loaV; rw [if_pos h, if_pos hu, hn]
theorem loaV_s {op raw : Int} (n : Nat) (h : srt op = 4 ∨ srt op = 10 ∨ srt op = 12) (hu : ¬ (15 ≤ op ∧ op ≤ 17)) (hn : (8 * siz op).toNat = n) : loaV op raw = sx raw n := by unfold loaV; rw [if_pos h, if_neg hu, hn]
theorem loaV_n {op raw : Int} (h : ¬ (srt op = 4 ∨ srt op = 10 ∨ srt op = 12)) : loaV op raw = 0 := by unfold loaV; rw [if_neg h]
theorem rloaded_no (op raw : Int) (ho : I64 op) (h : srt op ≠ 4 ∧ srt op ≠ 10 ∧ srt op ≠ 12) (w : World) : Calls Tryd.prog 18 #[.int .i64 op, .int .u64 raw] w fun e w' => e = .returned (.int .u64 (loaV op raw)) ∧ BW w w' := by
  have HS := sort_bw w w (Below.refl _ _) op ho.1 ho.2
  have HV := Lib.hid (loaV_n (op := op) (raw := raw) (by omega))
  generalize loaV op raw = r at *
  generalize srt op = k at *
  have b1 : (k != 4) = true := by simpa using h.1
  have b2 : (k != 10) = true := by simpa using h.2.1
  have b3 : (k != 12) = true := by simpa using h.2.2
  clear h
  go_enter Tryd.func18, Tryd.ntmps18
  go_wp2_with (first
    | (go_at_call 26; refine HS.mono ?_; rintro e w' ⟨rfl, hb⟩))
  go_ret
  exact ⟨ret_int HV.out.symm, hb⟩
set_option maxHeartbeats 8000000 in
theorem loa_b (op raw : Int) (hop : 11 ≤ op ∧ op ≤ 21) (hk : srt op = 4 ∨ srt op = 10 ∨ srt op = 12) (hr : U64 raw) (w : World) : Calls Tryd.prog 18 #[.int .i64 op, .int .u64 raw] w fun e w' => e = .returned (.int .u64 (loaV op raw)) ∧ BW w w' := by
  have HS := fun w1 h => sort_bw w w1 h op (by omega) (by omega)
  have HN := fun w1 h => name_bw w w1 h op (by omega) (by omega)
  have HG := fun w1 (h : BW w w1) => (rsize_any op (by omega) (by omega) w1).mono fun e w' (hh : _ ∧ _) => And.intro hh.1 (BW.on h hh.2)
  have HB : BW w w := Below.refl _ _
  have KZ := fun n x => rzext_any raw n hr.1 hr.lt x
  have KX := fun n x => rsext_any raw n hr.1 hr.lt x
  clear hr
  rcases nfs_b hop with ⟨rfl, hs, hn, e0⟩ | ⟨rfl, hs, hn, e0⟩ | ⟨rfl, hs, hn, e0⟩ | ⟨rfl, hs, hn, e0⟩ | ⟨rfl, hs, hn, e0⟩ | ⟨rfl, hs, hn, e0⟩ | ⟨rfl, hs, hn, e0⟩ | ⟨rfl, hs, hn, e0⟩ | ⟨rfl, hs, hn, e0⟩ | ⟨rfl, hs, hn, e0⟩ | ⟨rfl, hs, hn, e0⟩
  all_goals
    try (exfalso; rw [hs] at hk; omega)
  all_goals
    clear hk hop
    rw [hs] at HS
    rw [hn] at HN
    simp only [z_11, z_12, z_13, z_14, z_15, z_16, z_17] at HG
    clear hs hn
    go_enter Tryd.func18, Tryd.ntmps18
    go_wp2_with (first
      | (go_at_call 26; refine (HS _ (by assumption)).mono ?_; rintro e w' ⟨rfl, hb⟩)
      | (go_at_call 27; refine (HN _ (by assumption)).mono ?_; rintro e w' ⟨rfl, hb⟩)
      | (go_at_call 22; refine (HG _ (by assumption)).mono ?_; rintro e w' ⟨rfl, hb⟩)
      | (go_at_call 21; refine (KZ _ _).mono ?_; rintro e w' ⟨rfl, rfl⟩)
      | (go_at_call 32; refine (KX _ _).mono ?_; rintro e w' ⟨rfl, rfl⟩))
    go_ret
  · exact ⟨ret_int (by rw [loaV_s 8 (by decide) (by decide) (by decide)]; rfl), by assumption⟩
  · exact ⟨ret_int (by rw [loaV_s 16 (by decide) (by decide) (by decide)]; rfl), by assumption⟩
  · exact ⟨ret_int (by rw [loaV_s 32 (by decide) (by decide) (by decide)]; rfl), by assumption⟩
  · exact ⟨ret_int (by rw [loaV_s 64 (by decide) (by decide) (by decide)]; rfl), by assumption⟩
  · exact ⟨ret_int (by rw [loaV_u 8 (by decide) (by decide) (by decide)]; rfl), by assumption⟩
  · exact ⟨ret_int (by rw [loaV_u 16 (by decide) (by decide) (by decide)]; rfl), by assumption⟩
  · exact ⟨ret_int (by rw [loaV_u 32 (by decide) (by decide) (by decide)]; rfl), by assumption⟩
set_option maxHeartbeats 8000000 in
theorem loa_f (op raw : Int) (hop : 50 ≤ op ∧ op ≤ 57) (hk : srt op = 4 ∨ srt op = 10 ∨ srt op = 12) (hr : U64 raw) (w : World) : Calls Tryd.prog 18 #[.int .i64 op, .int .u64 raw] w fun e w' => e = .returned (.int .u64 (loaV op raw)) ∧ BW w w' := by
  have HS := fun w1 h => sort_bw w w1 h op (by omega) (by omega)
  have HN := fun w1 h => name_bw w w1 h op (by omega) (by omega)
  have HG := fun w1 (h : BW w w1) => (rsize_any op (by omega) (by omega) w1).mono fun e w' (hh : _ ∧ _) => And.intro hh.1 (BW.on h hh.2)
  have HB : BW w w := Below.refl _ _
  have KZ := fun n x => rzext_any raw n hr.1 hr.lt x
  have KX := fun n x => rsext_any raw n hr.1 hr.lt x
  clear hr
  rcases nfs_f hop with ⟨rfl, hs, hn, e0⟩ | ⟨rfl, hs, hn, e0⟩ | ⟨rfl, hs, hn, e0⟩ | ⟨rfl, hs, hn, e0⟩ | ⟨rfl, hs, hn, e0⟩ | ⟨rfl, hs, hn, e0⟩ | ⟨rfl, hs, hn, e0⟩ | ⟨rfl, hs, hn, e0⟩
  all_goals
    try (exfalso; rw [hs] at hk; omega)
  all_goals
    clear hk hop
    rw [hs] at HS
    rw [hn] at HN
    simp only [z_54, z_55] at HG
    clear hs hn
    go_enter Tryd.func18, Tryd.ntmps18
    go_wp2_with (first
      | (go_at_call 26; refine (HS _ (by assumption)).mono ?_; rintro e w' ⟨rfl, hb⟩)
      | (go_at_call 27; refine (HN _ (by assumption)).mono ?_; rintro e w' ⟨rfl, hb⟩)
      | (go_at_call 22; refine (HG _ (by assumption)).mono ?_; rintro e w' ⟨rfl, hb⟩)
      | (go_at_call 21; refine (KZ _ _).mono ?_; rintro e w' ⟨rfl, rfl⟩)
      | (go_at_call 32; refine (KX _ _).mono ?_; rintro e w' ⟨rfl, rfl⟩))
    go_ret
  · exact ⟨ret_int (by rw [loaV_s 32 (by decide) (by decide) (by decide)]; rfl), by assumption⟩
  · exact ⟨ret_int (by rw [loaV_s 64 (by decide) (by decide) (by decide)]; rfl), by assumption⟩
set_option maxHeartbeats 8000000 in
theorem loa_g (op raw : Int) (hop : 58 ≤ op ∧ op ≤ 66) (hk : srt op = 4 ∨ srt op = 10 ∨ srt op = 12) (hr : U64 raw) (w : World) : Calls Tryd.prog 18 #[.int .i64 op, .int .u64 raw] w fun e w' => e = .returned (.int .u64 (loaV op raw)) ∧ BW w w' := by
  have HS := fun w1 h => sort_bw w w1 h op (by omega) (by omega)
  have HN := fun w1 h => name_bw w w1 h op (by omega) (by omega)
  have HG := fun w1 (h : BW w w1) => (rsize_any op (by omega) (by omega) w1).mono fun e w' (hh : _ ∧ _) => And.intro hh.1 (BW.on h hh.2)
  have HB : BW w w := Below.refl _ _
  have KZ := fun n x => rzext_any raw n hr.1 hr.lt x
  have KX := fun n x => rsext_any raw n hr.1 hr.lt x
  clear hr
  rcases nfs_g hop with ⟨rfl, hs, hn, e0⟩ | ⟨rfl, hs, hn, e0⟩ | ⟨rfl, hs, hn, e0⟩ | ⟨rfl, hs, hn, e0⟩ | ⟨rfl, hs, hn, e0⟩ | ⟨rfl, hs, hn, e0⟩ | ⟨rfl, hs, hn, e0⟩ | ⟨rfl, hs, hn, e0⟩ | ⟨rfl, hs, hn, e0⟩
  all_goals
    try (exfalso; rw [hs] at hk; omega)
  all_goals
    clear hk hop
    rw [hs] at HS
    rw [hn] at HN
    simp only [z_58, z_59, z_60, z_61, z_62, z_63, z_64, z_65, z_66] at HG
    clear hs hn
    go_enter Tryd.func18, Tryd.ntmps18
    go_wp2_with (first
      | (go_at_call 26; refine (HS _ (by assumption)).mono ?_; rintro e w' ⟨rfl, hb⟩)
      | (go_at_call 27; refine (HN _ (by assumption)).mono ?_; rintro e w' ⟨rfl, hb⟩)
      | (go_at_call 22; refine (HG _ (by assumption)).mono ?_; rintro e w' ⟨rfl, hb⟩)
      | (go_at_call 21; refine (KZ _ _).mono ?_; rintro e w' ⟨rfl, rfl⟩)
      | (go_at_call 32; refine (KX _ _).mono ?_; rintro e w' ⟨rfl, rfl⟩))
    go_ret
  · exact ⟨ret_int (by rw [loaV_s 32 (by decide) (by decide) (by decide)]; rfl), by assumption⟩
  · exact ⟨ret_int (by rw [loaV_s 32 (by decide) (by decide) (by decide)]; rfl), by assumption⟩
  · exact ⟨ret_int (by rw [loaV_s 32 (by decide) (by decide) (by decide)]; rfl), by assumption⟩
  · exact ⟨ret_int (by rw [loaV_s 32 (by decide) (by decide) (by decide)]; rfl), by assumption⟩
  · exact ⟨ret_int (by rw [loaV_s 32 (by decide) (by decide) (by decide)]; rfl), by assumption⟩
  · exact ⟨ret_int (by rw [loaV_s 32 (by decide) (by decide) (by decide)]; rfl), by assumption⟩
  · exact ⟨ret_int (by rw [loaV_s 32 (by decide) (by decide) (by decide)]; rfl), by assumption⟩
  · exact ⟨ret_int (by rw [loaV_s 32 (by decide) (by decide) (by decide)]; rfl), by assumption⟩
  · exact ⟨ret_int (by rw [loaV_s 32 (by decide) (by decide) (by decide)]; rfl), by assumption⟩
set_option maxHeartbeats 8000000 in
theorem loa_h (op raw : Int) (hop : 67 ≤ op ∧ op ≤ 75) (hk : srt op = 4 ∨ srt op = 10 ∨ srt op = 12) (hr : U64 raw) (w : World) : Calls Tryd.prog 18 #[.int .i64 op, .int .u64 raw] w fun e w' => e = .returned (.int .u64 (loaV op raw)) ∧ BW w w' := by
  have HS := fun w1 h => sort_bw w w1 h op (by omega) (by omega)
  have HN := fun w1 h => name_bw w w1 h op (by omega) (by omega)
  have HG := fun w1 (h : BW w w1) => (rsize_any op (by omega) (by omega) w1).mono fun e w' (hh : _ ∧ _) => And.intro hh.1 (BW.on h hh.2)
  have HB : BW w w := Below.refl _ _
  have KZ := fun n x => rzext_any raw n hr.1 hr.lt x
  have KX := fun n x => rsext_any raw n hr.1 hr.lt x
  clear hr
  rcases nfs_h hop with ⟨rfl, hs, hn, e0⟩ | ⟨rfl, hs, hn, e0⟩ | ⟨rfl, hs, hn, e0⟩ | ⟨rfl, hs, hn, e0⟩ | ⟨rfl, hs, hn, e0⟩ | ⟨rfl, hs, hn, e0⟩ | ⟨rfl, hs, hn, e0⟩ | ⟨rfl, hs, hn, e0⟩ | ⟨rfl, hs, hn, e0⟩
  all_goals
    try (exfalso; rw [hs] at hk; omega)
  all_goals
    clear hk hop
    rw [hs] at HS
    rw [hn] at HN
    simp only [z_67, z_68, z_69, z_70, z_71, z_72, z_73, z_74, z_75] at HG
    clear hs hn
    go_enter Tryd.func18, Tryd.ntmps18
    go_wp2_with (first
      | (go_at_call 26; refine (HS _ (by assumption)).mono ?_; rintro e w' ⟨rfl, hb⟩)
      | (go_at_call 27; refine (HN _ (by assumption)).mono ?_; rintro e w' ⟨rfl, hb⟩)
      | (go_at_call 22; refine (HG _ (by assumption)).mono ?_; rintro e w' ⟨rfl, hb⟩)
      | (go_at_call 21; refine (KZ _ _).mono ?_; rintro e w' ⟨rfl, rfl⟩)
      | (go_at_call 32; refine (KX _ _).mono ?_; rintro e w' ⟨rfl, rfl⟩))
    go_ret
  · exact ⟨ret_int (by rw [loaV_s 64 (by decide) (by decide) (by decide)]; rfl), by assumption⟩
  · exact ⟨ret_int (by rw [loaV_s 64 (by decide) (by decide) (by decide)]; rfl), by assumption⟩
  · exact ⟨ret_int (by rw [loaV_s 64 (by decide) (by decide) (by decide)]; rfl), by assumption⟩
  · exact ⟨ret_int (by rw [loaV_s 64 (by decide) (by decide) (by decide)]; rfl), by assumption⟩
  · exact ⟨ret_int (by rw [loaV_s 64 (by decide) (by decide) (by decide)]; rfl), by assumption⟩
  · exact ⟨ret_int (by rw [loaV_s 64 (by decide) (by decide) (by decide)]; rfl), by assumption⟩
  · exact ⟨ret_int (by rw [loaV_s 64 (by decide) (by decide) (by decide)]; rfl), by assumption⟩
  · exact ⟨ret_int (by rw [loaV_s 64 (by decide) (by decide) (by decide)]; rfl), by assumption⟩
  · exact ⟨ret_int (by rw [loaV_s 64 (by decide) (by decide) (by decide)]; rfl), by assumption⟩
theorem rloaded_any (op raw : Int) (ho : I64 op) (hr : U64 raw) (w : World) : Calls Tryd.prog 18 #[.int .i64 op, .int .u64 raw] w fun e w' => e = .returned (.int .u64 (loaV op raw)) ∧ BW w w' := by
  by_cases h : srt op = 4 ∨ srt op = 10 ∨ srt op = 12
  · have hs := srt_spec op
    by_cases h1 : op ≤ 21
    · exact loa_b op raw (by omega) h hr w
    by_cases h2 : op ≤ 57
    · exact loa_f op raw (by omega) h hr w
    by_cases h3 : op ≤ 66
    · exact loa_g op raw (by omega) h hr w
    · exact loa_h op raw (by omega) h hr w
  · exact rloaded_no op raw ho (by omega) w
end Go.Proofs.YtoifkdjalddhkaaDoor
