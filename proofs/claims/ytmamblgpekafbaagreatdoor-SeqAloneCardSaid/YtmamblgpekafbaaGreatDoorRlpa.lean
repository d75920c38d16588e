/- Of stage 11. -/
import Derived.Test.YtmamblgpekafbaaGreatDoorArpa
import Derived.Test.YtmamblgpekafbaaGreatDoorOp5pa
import Derived.Test.YtmamblgpekafbaaGreatDoorWxpa
import Derived.Test.YtmamblgpekafbaaGreatDoorOcpa
set_option maxRecDepth 100000
set_option maxHeartbeats 8000000
namespace Go.Proofs.YtmamblgpekafbaaGreatDoor
open Go.RowKit
theorem z_11 : siz 11 = 1 := by decide
theorem z_12 : siz 12 = 2 := by decide
theorem z_13 : siz 13 = 4 := by decide
theorem z_14 : siz 14 = 8 := by decide
theorem z_15 : siz 15 = 1 := by decide
theorem z_16 : siz 16 = 2 := by decide
theorem z_17 : siz 17 = 4 := by decide
theorem z_54 : siz 54 = 4 := by decide
theorem z_55 : siz 55 = 8 := by decide
theorem z_58 : siz 58 = 4 := by decide
theorem z_59 : siz 59 = 4 := by decide
theorem z_60 : siz 60 = 4 := by decide
theorem z_61 : siz 61 = 4 := by decide
theorem z_62 : siz 62 = 4 := by decide
theorem z_63 : siz 63 = 4 := by decide
theorem z_64 : siz 64 = 4 := by decide
theorem z_65 : siz 65 = 4 := by decide
theorem z_66 : siz 66 = 4 := by decide
theorem z_67 : siz 67 = 8 := by decide
theorem z_68 : siz 68 = 8 := by decide
theorem z_69 : siz 69 = 8 := by decide
theorem z_70 : siz 70 = 8 := by decide
theorem z_71 : siz 71 = 8 := by decide
theorem z_72 : siz 72 = 8 := by decide
theorem z_73 : siz 73 = 8 := by decide
theorem z_74 : siz 74 = 8 := by decide
theorem z_75 : siz 75 = 8 := by decide
def loaV (op raw : Int) : Int := if srt op = 4 ∨ srt op = 10 ∨ srt op = 12 then (if 15 ≤ op ∧ op ≤ 17 then zx raw (8 * siz op).toNat else sx raw (8 * siz op).toNat) else 0
theorem Zk8 {op raw : Int} (n : Nat) (h : srt op = 4 ∨ srt op = 10 ∨ srt op = 12) (hu : 15 ≤ op ∧ op ≤ 17) (hn : (8 * siz op).toNat = n) : loaV op raw = zx raw n := by unfold loaV; rw [if_pos h, if_pos hu, hn]
theorem zg4 {op raw : Int} (n : Nat) (h : srt op = 4 ∨ srt op = 10 ∨ srt op = 12) (hu : ¬ (15 ≤ op ∧ op ≤ 17)) (hn : (8 * siz op).toNat = n) : loaV op raw = sx raw n := by unfold loaV; rw [if_pos h, if_neg hu, hn]
theorem loaV_n {op raw : Int} (h : ¬ (srt op = 4 ∨ srt op = 10 ∨ srt op = 12)) : loaV op raw = 0 := by unfold loaV; rw [if_neg h]
theorem zX7 (op raw : Int) (ho : I64 op) (h : srt op ≠ 4 ∧ srt op ≠ 10 ∧ srt op ≠ 12) (w : World) : Calls Tryz.prog 46 #[.int .i64 op, .int .u64 raw] w fun e w' => e = .returned (.int .u64 (loaV op raw)) ∧ BW w w' := by
  have HS := za7 w w (Below.refl _ _) op ho.1 ho.2
  have HV := Lib.hid (loaV_n (op := op) (raw := raw) (by omega))
  generalize loaV op raw = r at *
  generalize srt op = k at *
  have b1 : (k != 4) = true := by simpa using h.1
  have b2 : (k != 10) = true := by simpa using h.2.1
  have b3 : (k != 12) = true := by simpa using h.2.2
  clear h
  go_enter Tryz.func46, Tryz.ntmps46
  go_wp2_with (first
    | (go_at_call 23; refine HS.mono ?_; rintro e w' ⟨rfl, hb⟩))
  go_ret
  exact ⟨za1 HV.out.symm, hb⟩
theorem loa_b (op raw : Int) (hop : 11 ≤ op ∧ op ≤ 21) (hk : srt op = 4 ∨ srt op = 10 ∨ srt op = 12) (hr : U64 raw) (w : World) : Calls Tryz.prog 46 #[.int .i64 op, .int .u64 raw] w fun e w' => e = .returned (.int .u64 (loaV op raw)) ∧ BW w w' := by
  have HS := fun w1 h => za7 w w1 h op (by omega) (by omega)
  have HN := fun w1 h => za9 w w1 h op (by omega) (by omega)
  have HG := fun w1 (h : BW w w1) => (zg9 op (by omega) (by omega) w1).mono fun e w' (hh : _ ∧ _) => And.intro hh.1 (BW.on h hh.2)
  have HB : BW w w := Below.refl _ _
  have KZ := fun n x => zh6 raw n hr.1 hr.lt x
  have KX := fun n x => zi6 raw n hr.1 hr.lt x
  clear hr
  rcases zZ4 hop with ⟨rfl, hs, hn, e0⟩ | ⟨rfl, hs, hn, e0⟩ | ⟨rfl, hs, hn, e0⟩ | ⟨rfl, hs, hn, e0⟩ | ⟨rfl, hs, hn, e0⟩ | ⟨rfl, hs, hn, e0⟩ | ⟨rfl, hs, hn, e0⟩ | ⟨rfl, hs, hn, e0⟩ | ⟨rfl, hs, hn, e0⟩ | ⟨rfl, hs, hn, e0⟩ | ⟨rfl, hs, hn, e0⟩
  all_goals
    try (exfalso; rw [hs] at hk; omega)
  all_goals
    clear hk hop
    rw [hs] at HS
    rw [hn] at HN
    simp only [z_11, z_12, z_13, z_14, z_15, z_16, z_17] at HG
    clear hs hn
    go_enter Tryz.func46, Tryz.ntmps46
    go_wp2_with (first
      | (go_at_call 23; refine (HS _ (by assumption)).mono ?_; rintro e w' ⟨rfl, hb⟩)
      | (go_at_call 41; refine (HN _ (by assumption)).mono ?_; rintro e w' ⟨rfl, hb⟩)
      | (go_at_call 18; refine (HG _ (by assumption)).mono ?_; rintro e w' ⟨rfl, hb⟩)
      | (go_at_call 42; refine (KZ _ _).mono ?_; rintro e w' ⟨rfl, rfl⟩)
      | (go_at_call 72; refine (KX _ _).mono ?_; rintro e w' ⟨rfl, rfl⟩))
    go_ret
  · exact ⟨za1 (by rw [zg4 8 (by decide) (by decide) (by decide)]; rfl), by assumption⟩
  · exact ⟨za1 (by rw [zg4 16 (by decide) (by decide) (by decide)]; rfl), by assumption⟩
  · exact ⟨za1 (by rw [zg4 32 (by decide) (by decide) (by decide)]; rfl), by assumption⟩
  · exact ⟨za1 (by rw [zg4 64 (by decide) (by decide) (by decide)]; rfl), by assumption⟩
  · exact ⟨za1 (by rw [Zk8 8 (by decide) (by decide) (by decide)]; rfl), by assumption⟩
  · exact ⟨za1 (by rw [Zk8 16 (by decide) (by decide) (by decide)]; rfl), by assumption⟩
  · exact ⟨za1 (by rw [Zk8 32 (by decide) (by decide) (by decide)]; rfl), by assumption⟩
theorem loa_f (op raw : Int) (hop : 50 ≤ op ∧ op ≤ 57) (hk : srt op = 4 ∨ srt op = 10 ∨ srt op = 12) (hr : U64 raw) (w : World) : Calls Tryz.prog 46 #[.int .i64 op, .int .u64 raw] w fun e w' => e = .returned (.int .u64 (loaV op raw)) ∧ BW w w' := by
  have HS := fun w1 h => za7 w w1 h op (by omega) (by omega)
  have HN := fun w1 h => za9 w w1 h op (by omega) (by omega)
  have HG := fun w1 (h : BW w w1) => (zg9 op (by omega) (by omega) w1).mono fun e w' (hh : _ ∧ _) => And.intro hh.1 (BW.on h hh.2)
  have HB : BW w w := Below.refl _ _
  have KZ := fun n x => zh6 raw n hr.1 hr.lt x
  have KX := fun n x => zi6 raw n hr.1 hr.lt x
  clear hr
  rcases zV9 hop with ⟨rfl, hs, hn, e0⟩ | ⟨rfl, hs, hn, e0⟩ | ⟨rfl, hs, hn, e0⟩ | ⟨rfl, hs, hn, e0⟩ | ⟨rfl, hs, hn, e0⟩ | ⟨rfl, hs, hn, e0⟩ | ⟨rfl, hs, hn, e0⟩ | ⟨rfl, hs, hn, e0⟩
  all_goals
    try (exfalso; rw [hs] at hk; omega)
  all_goals
    clear hk hop
    rw [hs] at HS
    rw [hn] at HN
    simp only [z_54, z_55] at HG
    clear hs hn
    go_enter Tryz.func46, Tryz.ntmps46
    go_wp2_with (first
      | (go_at_call 23; refine (HS _ (by assumption)).mono ?_; rintro e w' ⟨rfl, hb⟩)
      | (go_at_call 41; refine (HN _ (by assumption)).mono ?_; rintro e w' ⟨rfl, hb⟩)
      | (go_at_call 18; refine (HG _ (by assumption)).mono ?_; rintro e w' ⟨rfl, hb⟩)
      | (go_at_call 42; refine (KZ _ _).mono ?_; rintro e w' ⟨rfl, rfl⟩)
      | (go_at_call 72; refine (KX _ _).mono ?_; rintro e w' ⟨rfl, rfl⟩))
    go_ret
  · exact ⟨za1 (by rw [zg4 32 (by decide) (by decide) (by decide)]; rfl), by assumption⟩
  · exact ⟨za1 (by rw [zg4 64 (by decide) (by decide) (by decide)]; rfl), by assumption⟩
theorem loa_g (op raw : Int) (hop : 58 ≤ op ∧ op ≤ 66) (hk : srt op = 4 ∨ srt op = 10 ∨ srt op = 12) (hr : U64 raw) (w : World) : Calls Tryz.prog 46 #[.int .i64 op, .int .u64 raw] w fun e w' => e = .returned (.int .u64 (loaV op raw)) ∧ BW w w' := by
  have HS := fun w1 h => za7 w w1 h op (by omega) (by omega)
  have HN := fun w1 h => za9 w w1 h op (by omega) (by omega)
  have HG := fun w1 (h : BW w w1) => (zg9 op (by omega) (by omega) w1).mono fun e w' (hh : _ ∧ _) => And.intro hh.1 (BW.on h hh.2)
  have HB : BW w w := Below.refl _ _
  have KZ := fun n x => zh6 raw n hr.1 hr.lt x
  have KX := fun n x => zi6 raw n hr.1 hr.lt x
  clear hr
  rcases zM4 hop with ⟨rfl, hs, hn, e0⟩ | ⟨rfl, hs, hn, e0⟩ | ⟨rfl, hs, hn, e0⟩ | ⟨rfl, hs, hn, e0⟩ | ⟨rfl, hs, hn, e0⟩ | ⟨rfl, hs, hn, e0⟩ | ⟨rfl, hs, hn, e0⟩ | ⟨rfl, hs, hn, e0⟩ | ⟨rfl, hs, hn, e0⟩
  all_goals
    try (exfalso; rw [hs] at hk; omega)
  all_goals
    clear hk hop
    rw [hs] at HS
    rw [hn] at HN
    simp only [z_58, z_59, z_60, z_61, z_62, z_63, z_64, z_65, z_66] at HG
    clear hs hn
    go_enter Tryz.func46, Tryz.ntmps46
    go_wp2_with (first
      | (go_at_call 23; refine (HS _ (by assumption)).mono ?_; rintro e w' ⟨rfl, hb⟩)
      | (go_at_call 41; refine (HN _ (by assumption)).mono ?_; rintro e w' ⟨rfl, hb⟩)
      | (go_at_call 18; refine (HG _ (by assumption)).mono ?_; rintro e w' ⟨rfl, hb⟩)
      | (go_at_call 42; refine (KZ _ _).mono ?_; rintro e w' ⟨rfl, rfl⟩)
      | (go_at_call 72; refine (KX _ _).mono ?_; rintro e w' ⟨rfl, rfl⟩))
    go_ret
  · exact ⟨za1 (by rw [zg4 32 (by decide) (by decide) (by decide)]; rfl), by assumption⟩
  · exact ⟨za1 (by rw [zg4 32 (by decide) (by decide) (by decide)]; rfl), by assumption⟩
  · exact ⟨za1 (by rw [zg4 32 (by decide) (by decide) (by decide)]; rfl), by assumption⟩
  · exact ⟨za1 (by rw [zg4 32 (by decide) (by decide) (by decide)]; rfl), by assumption⟩
  · exact ⟨za1 (by rw [zg4 32 (by decide) (by decide) (by decide)]; rfl), by assumption⟩
  · exact ⟨za1 (by rw [zg4 32 (by decide) (by decide) (by decide)]; rfl), by assumption⟩
  · exact ⟨za1 (by rw [zg4 32 (by decide) (by decide) (by decide)]; rfl), by assumption⟩
  · exact ⟨za1 (by rw [zg4 32 (by decide) (by decide) (by decide)]; rfl), by assumption⟩
  · exact ⟨za1 (by rw [zg4 32 (by decide) (by decide) (by decide)]; rfl), by assumption⟩
theorem loa_h (op raw : Int) (hop : 67 ≤ op ∧ op ≤ 75) (hk : srt op = 4 ∨ srt op = 10 ∨ srt op = 12) (hr : U64 raw) (w : World) : Calls Tryz.prog 46 #[.int .i64 op, .int .u64 raw] w fun e w' => e = .returned (.int .u64 (loaV op raw)) ∧ BW w w' := by
  have HS := fun w1 h => za7 w w1 h op (by omega) (by omega)
  have HN := fun w1 h => za9 w w1 h op (by omega) (by omega)
  have HG := fun w1 (h : BW w w1) => (zg9 op (by omega) (by omega) w1).mono fun e w' (hh : _ ∧ _) => And.intro hh.1 (BW.on h hh.2)
  have HB : BW w w := Below.refl _ _
  have KZ := fun n x => zh6 raw n hr.1 hr.lt x
  have KX := fun n x => zi6 raw n hr.1 hr.lt x
  clear hr
  rcases zN5 hop with ⟨rfl, hs, hn, e0⟩ | ⟨rfl, hs, hn, e0⟩ | ⟨rfl, hs, hn, e0⟩ | ⟨rfl, hs, hn, e0⟩ | ⟨rfl, hs, hn, e0⟩ | ⟨rfl, hs, hn, e0⟩ | ⟨rfl, hs, hn, e0⟩ | ⟨rfl, hs, hn, e0⟩ | ⟨rfl, hs, hn, e0⟩
  all_goals
    try (exfalso; rw [hs] at hk; omega)
  all_goals
    clear hk hop
    rw [hs] at HS
    rw [hn] at HN
    simp only [z_67, z_68, z_69, z_70, z_71, z_72, z_73, z_74, z_75] at HG
    clear hs hn
    go_enter Tryz.func46, Tryz.ntmps46
    go_wp2_with (first
      | (go_at_call 23; refine (HS _ (by assumption)).mono ?_; rintro e w' ⟨rfl, hb⟩)
      | (go_at_call 41; refine (HN _ (by assumption)).mono ?_; rintro e w' ⟨rfl, hb⟩)
      | (go_at_call 18; refine (HG _ (by assumption)).mono ?_; rintro e w' ⟨rfl, hb⟩)
      | (go_at_call 42; refine (KZ _ _).mono ?_; rintro e w' ⟨rfl, rfl⟩)
      | (go_at_call 72; refine (KX _ _).mono ?_; rintro e w' ⟨rfl, rfl⟩))
    go_ret
  · exact ⟨za1 (by rw [zg4 64 (by decide) (by decide) (by decide)]; rfl), by assumption⟩
  · exact ⟨za1 (by rw [zg4 64 (by decide) (by decide) (by decide)]; rfl), by assumption⟩
  · exact ⟨za1 (by rw [zg4 64 (by decide) (by decide) (by decide)]; rfl), by assumption⟩
  · exact ⟨za1 (by rw [zg4 64 (by decide) (by decide) (by decide)]; rfl), by assumption⟩
  · exact ⟨za1 (by rw [zg4 64 (by decide) (by decide) (by decide)]; rfl), by assumption⟩
  · exact ⟨za1 (by rw [zg4 64 (by decide) (by decide) (by decide)]; rfl), by assumption⟩
  · exact ⟨za1 (by rw [zg4 64 (by decide) (by decide) (by decide)]; rfl), by assumption⟩
  · exact ⟨za1 (by rw [zg4 64 (by decide) (by decide) (by decide)]; rfl), by assumption⟩
  · exact ⟨za1 (by rw [zg4 64 (by decide) (by decide) (by decide)]; rfl), by assumption⟩
theorem zP8 (op raw : Int) (ho : I64 op) (hr : U64 raw) (w : World) : Calls Tryz.prog 46 #[.int .i64 op, .int .u64 raw] w fun e w' => e = .returned (.int .u64 (loaV op raw)) ∧ BW w w' := by
  by_cases h : srt op = 4 ∨ srt op = 10 ∨ srt op = 12
  · have hs := zd0 op
    by_cases h1 : op ≤ 21
    · exact loa_b op raw (by omega) h hr w
    by_cases h2 : op ≤ 57
    · exact loa_f op raw (by omega) h hr w
    by_cases h3 : op ≤ 66
    · exact loa_g op raw (by omega) h hr w
    · exact loa_h op raw (by omega) h hr w
  · exact zX7 op raw ho (by omega) w
end Go.Proofs.YtmamblgpekafbaaGreatDoor
namespace Go.Proofs.YtmamblgpekafbaaGreatDoor
open Go.RowKit
def amoV (j x y u v : Int) : Int :=
  if j = 0 then y else if j = 1 then IntKind.u64.wrap (x + y) else if j = 2 then bits .xor .u64 x y else if j = 3 then bits .and .u64 x y else if j = 4 then bits .or .u64 x y
  else if j = 5 then (if lowB x y then x else y) else if j = 6 then (if lowB y x then x else y) else if j = 7 then (if u < v then u else y) else (if v < u then u else y)
def stoV (op old b : Int) : Int :=
  if srt op = 5 ∨ srt op = 11 then zx b (8 * siz op).toNat else if srt op = 12 then zx (amoV ((op - 58) % 9) (sx old (8 * siz op).toNat) (sx b (8 * siz op).toNat) (zx old (8 * siz op).toNat) (zx b (8 * siz op).toNat)) (8 * siz op).toNat else 0
theorem zS5 {op old b : Int} (h : srt op = 5 ∨ srt op = 11) : stoV op old b = zx b (8 * siz op).toNat := by unfold stoV; rw [if_pos h]
theorem zU7 {op old b : Int} (h : srt op ≠ 5 ∧ srt op ≠ 11 ∧ srt op ≠ 12) : stoV op old b = 0 := by unfold stoV; rw [if_neg (by omega), if_neg (by omega)]
theorem zN6 {op old b : Int} (h : srt op = 12) : stoV op old b = zx (amoV ((op - 58) % 9) (sx old (8 * siz op).toNat) (sx b (8 * siz op).toNat) (zx old (8 * siz op).toNat) (zx b (8 * siz op).toNat)) (8 * siz op).toNat := by
  unfold stoV; rw [if_neg (by omega), if_pos h]
theorem siz_cap : ∀ k : Fin 75, zc6 (8 * siz ((k.val : Int) + 1)) = (8 * siz ((k.val : Int) + 1)).toNat ∧ 0 ≤ siz ((k.val : Int) + 1) ∧ siz ((k.val : Int) + 1) ≤ 8 := by decide
theorem zg0 (op : Int) : zc6 (8 * siz op) = (8 * siz op).toNat ∧ 0 ≤ siz op ∧ siz op ≤ 8 := by
  by_cases h : 1 ≤ op ∧ op ≤ 75
  · have := siz_cap ⟨op.toNat - 1, by omega⟩
    simp only [show ((op.toNat - 1 : Nat) : Int) + 1 = op by omega] at this
    exact this
  · have : siz op = 0 := by unfold siz; rw [if_neg h]
    rw [this]; decide
theorem zW7 (op old b : Int) (ho : I64 op) (h : srt op ≠ 5 ∧ srt op ≠ 11 ∧ srt op ≠ 12) (w : World) : Calls Tryz.prog 43 #[.int .i64 op, .int .u64 old, .int .u64 b] w fun e w' => e = .returned (.int .u64 (stoV op old b)) ∧ BW w w' := by
  have HS := za7 w w (Below.refl _ _) op ho.1 ho.2
  have HG := fun w1 (h : BW w w1) => (zg9 op ho.1 ho.2 w1).mono fun e w' (hh : _ ∧ _) => And.intro hh.1 (BW.on h hh.2)
  have HV := Lib.hid (zU7 (op := op) (old := old) (b := b) h)
  have hz := (zg0 op).2
  generalize stoV op old b = r at *
  generalize siz op = z at *
  generalize srt op = k at *
  have b1 : (k == 5) = false := by simpa using h.1
  have b2 : (k == 11) = false := by simpa using h.2.1
  have b3 : (k != 12) = true := by simpa using h.2.2
  clear h
  go_enter Tryz.func43, Tryz.ntmps43
  go_wp2_with (first
    | (go_at_call 23; refine HS.mono ?_; rintro e w1 ⟨rfl, hb⟩)
    | (go_at_call 18; refine (HG _ hb).mono ?_; rintro e w2 ⟨rfl, hb2⟩))
  go_ret
  exact ⟨za1 HV.out.symm, hb2⟩
theorem zK1 (op old b : Int) (ho : I64 op) (hk : srt op = 5 ∨ srt op = 11) (hu : U64 b) (w : World) : Calls Tryz.prog 43 #[.int .i64 op, .int .u64 old, .int .u64 b] w fun e w' => e = .returned (.int .u64 (stoV op old b)) ∧ BW w w' := by
  have HS := za7 w w (Below.refl _ _) op ho.1 ho.2
  have HG := fun w1 (h : BW w w1) => (zg9 op ho.1 ho.2 w1).mono fun e w' (hh : _ ∧ _) => And.intro hh.1 (BW.on h hh.2)
  have hv := zS5 (op := op) (old := old) (b := b) hk
  rw [← (zg0 op).1] at hv
  have hz := (zg0 op).2
  have KZ := fun x => zh6 b (8 * siz op) hu.1 hu.lt x
  generalize stoV op old b = r at *
  generalize zx b (zc6 (8 * siz op)) = v at *
  generalize siz op = z at *
  have e8 : wrap64 (8 * z) = 8 * z := by rw [ze2, IntKind.wrap_i64]; omega
  have HV := Lib.hid hv
  clear hv hu
  rcases hk with hk | hk
  all_goals
    rw [hk] at HS
    clear hk
    go_enter Tryz.func43, Tryz.ntmps43
    go_wp2_with (first
      | (go_at_call 23; refine HS.mono ?_; rintro e w1 ⟨rfl, hb⟩)
      | (go_at_call 18; refine (HG _ hb).mono ?_; rintro e w2 ⟨rfl, hb2⟩)
      | (go_at_call 42; refine (KZ _).mono ?_; rintro e w' ⟨rfl, rfl⟩))
    go_ret
    exact ⟨za1 HV.out.symm, hb2⟩
theorem x_58 : (⟨#[97, 109, 111, 115, 119, 97, 112, 46, 119]⟩ : ByteArray).extract 3 7 = ⟨#[115, 119, 97, 112]⟩ := rfl
theorem x_59 : (⟨#[97, 109, 111, 97, 100, 100, 46, 119]⟩ : ByteArray).extract 3 6 = ⟨#[97, 100, 100]⟩ := rfl
theorem x_60 : (⟨#[97, 109, 111, 120, 111, 114, 46, 119]⟩ : ByteArray).extract 3 6 = ⟨#[120, 111, 114]⟩ := rfl
theorem x_61 : (⟨#[97, 109, 111, 97, 110, 100, 46, 119]⟩ : ByteArray).extract 3 6 = ⟨#[97, 110, 100]⟩ := rfl
theorem x_62 : (⟨#[97, 109, 111, 111, 114, 46, 119]⟩ : ByteArray).extract 3 5 = ⟨#[111, 114]⟩ := rfl
theorem x_63 : (⟨#[97, 109, 111, 109, 105, 110, 46, 119]⟩ : ByteArray).extract 3 6 = ⟨#[109, 105, 110]⟩ := rfl
theorem x_64 : (⟨#[97, 109, 111, 109, 97, 120, 46, 119]⟩ : ByteArray).extract 3 6 = ⟨#[109, 97, 120]⟩ := rfl
theorem x_65 : (⟨#[97, 109, 111, 109, 105, 110, 117, 46, 119]⟩ : ByteArray).extract 3 7 = ⟨#[109, 105, 110, 117]⟩ := rfl
theorem x_66 : (⟨#[97, 109, 111, 109, 97, 120, 117, 46, 119]⟩ : ByteArray).extract 3 7 = ⟨#[109, 97, 120, 117]⟩ := rfl
theorem x_67 : (⟨#[97, 109, 111, 115, 119, 97, 112, 46, 100]⟩ : ByteArray).extract 3 7 = ⟨#[115, 119, 97, 112]⟩ := rfl
theorem x_68 : (⟨#[97, 109, 111, 97, 100, 100, 46, 100]⟩ : ByteArray).extract 3 6 = ⟨#[97, 100, 100]⟩ := rfl
theorem x_69 : (⟨#[97, 109, 111, 120, 111, 114, 46, 100]⟩ : ByteArray).extract 3 6 = ⟨#[120, 111, 114]⟩ := rfl
theorem x_70 : (⟨#[97, 109, 111, 97, 110, 100, 46, 100]⟩ : ByteArray).extract 3 6 = ⟨#[97, 110, 100]⟩ := rfl
theorem x_71 : (⟨#[97, 109, 111, 111, 114, 46, 100]⟩ : ByteArray).extract 3 5 = ⟨#[111, 114]⟩ := rfl
theorem x_72 : (⟨#[97, 109, 111, 109, 105, 110, 46, 100]⟩ : ByteArray).extract 3 6 = ⟨#[109, 105, 110]⟩ := rfl
theorem x_73 : (⟨#[97, 109, 111, 109, 97, 120, 46, 100]⟩ : ByteArray).extract 3 6 = ⟨#[109, 97, 120]⟩ := rfl
theorem x_74 : (⟨#[97, 109, 111, 109, 105, 110, 117, 46, 100]⟩ : ByteArray).extract 3 7 = ⟨#[109, 105, 110, 117]⟩ := rfl
theorem x_75 : (⟨#[97, 109, 111, 109, 97, 120, 117, 46, 100]⟩ : ByteArray).extract 3 7 = ⟨#[109, 97, 120, 117]⟩ := rfl
theorem sx_U (x : Int) (n : Int) : U64 (sx x (zc6 n)) := by
  have := zm4 x (zc6 n) (by unfold zc6; omega)
  unfold U64
  omega
theorem zx_U (x : Int) (n : Int) : U64 (zx x (zc6 n)) := by
  have h0 := zi3 x (zc6 n)
  have h1 := zD9 x (zc6 n)
  have h2 : (2 : Int) ^ (zc6 n) ≤ 2 ^ 64 := ze7 (by unfold zc6; omega)
  unfold U64
  omega
theorem sto_g (op old b : Int) (hop : 58 ≤ op ∧ op ≤ 66) (ho : U64 old) (hb : U64 b) (w : World) : Calls Tryz.prog 43 #[.int .i64 op, .int .u64 old, .int .u64 b] w fun e w' => e = .returned (.int .u64 (stoV op old b)) ∧ BW w w' := by
  have HS := fun w1 h => za7 w w1 h op (by omega) (by omega)
  have HN := fun w1 h => za9 w w1 h op (by omega) (by omega)
  have HG := fun w1 (h : BW w w1) => (zg9 op (by omega) (by omega) w1).mono fun e w' (hh : _ ∧ _) => And.intro hh.1 (BW.on h hh.2)
  have HB : BW w w := Below.refl _ _
  have KZ := fun o (h : U64 o) x => zh6 o (8 * siz op) h.1 h.lt x
  have KX := fun x => zi6 old (8 * siz op) ho.1 ho.lt x
  have KY := fun x => zi6 b (8 * siz op) hb.1 hb.lt x
  have hv := zN6 (op := op) (old := old) (b := b) (by have := zd0 op; omega)
  rw [← (zg0 op).1] at hv
  have hX : U64 (sx old (zc6 (8 * siz op))) := sx_U _ _
  have hY : U64 (sx b (zc6 (8 * siz op))) := sx_U _ _
  have hU : U64 (zx old (zc6 (8 * siz op))) := zx_U _ _
  have hVV : U64 (zx b (zc6 (8 * siz op))) := zx_U _ _
  generalize stoV op old b = r at *
  generalize sx old (zc6 (8 * siz op)) = X at *
  generalize sx b (zc6 (8 * siz op)) = Y at *
  obtain ⟨Z, HZ⟩ : ∃ f : Int → Int, Hid (∀ o : Int, f o = zx o (zc6 (8 * siz op))) := ⟨fun o => zx o (zc6 (8 * siz op)), fun _ => rfl⟩
  simp only [← HZ.out] at KZ hv hU hVV
  have KU := KZ old ho
  have KV := KZ b hb
  generalize Z old = U at *
  generalize Z b = V at *
  have HX := Lib.hid hX
  have HY := Lib.hid hY
  have HU := Lib.hid hU
  have HVV := Lib.hid hVV
  have HV := Lib.hid hv
  clear HZ hX hY hU hVV hv ho hb
  have x58 := x_58
  have x59 := x_59
  have x60 := x_60
  have x61 := x_61
  have x62 := x_62
  have x63 := x_63
  have x64 := x_64
  have x65 := x_65
  have x66 := x_66
  rcases zM4 hop with ⟨rfl, hs, hn, e0⟩ | ⟨rfl, hs, hn, e0⟩ | ⟨rfl, hs, hn, e0⟩ | ⟨rfl, hs, hn, e0⟩ | ⟨rfl, hs, hn, e0⟩ | ⟨rfl, hs, hn, e0⟩ | ⟨rfl, hs, hn, e0⟩ | ⟨rfl, hs, hn, e0⟩ | ⟨rfl, hs, hn, e0⟩
  all_goals
    clear hop
    rw [hs] at HS
    rw [hn] at HN
    simp only [z_58, z_59, z_60, z_61, z_62, z_63, z_64, z_65, z_66, Int.reduceMul] at HG KZ KX KY KU KV
    clear hs hn
    go_enter Tryz.func43, Tryz.ntmps43
    go_wp2_with (first
      | (go_at_call 23; refine (HS _ (by assumption)).mono ?_; rintro e w' ⟨rfl, hb⟩)
      | (go_at_call 41; refine (HN _ (by assumption)).mono ?_; rintro e w' ⟨rfl, hb⟩)
      | (go_at_call 18; refine (HG _ (by assumption)).mono ?_; rintro e w' ⟨rfl, hb⟩)
      | (go_at_call 72; ((with_reducible refine (KX _).mono ?_); rintro e w' ⟨rfl, rfl⟩))
      | (go_at_call 72; ((with_reducible refine (KY _).mono ?_); rintro e w' ⟨rfl, rfl⟩))
      | (go_at_call 42; ((with_reducible refine (KU _).mono ?_); rintro e w' ⟨rfl, rfl⟩))
      | (go_at_call 42; ((with_reducible refine (KV _).mono ?_); rintro e w' ⟨rfl, rfl⟩))
      | (go_at_call 73; refine (zm8 _ _ (by first | exact HX.out | exact HY.out) (by first | exact HX.out | exact HY.out) _).mono ?_; rintro e w' ⟨rfl, rfl⟩)
      | (go_at_call 42; refine (KZ _ (by first | exact HX.out | exact HY.out | exact HU.out | with_reducible exact w_U _ | exact (zB4 _ _ HX.out HY.out).2.2.2.1) _).mono ?_; rintro e w' ⟨rfl, rfl⟩))
    all_goals go_ret
    all_goals refine ⟨za1 ?_, by assumption⟩
    all_goals rw [HV.out]
    all_goals congr 1
    all_goals
      first
        | rfl
        | exact w_xor _ _ HX.out HY.out
        | exact w_or X Y HX.out HY.out
        | (simp_all [amoV]; done)
        | (simp_all [amoV]; intro _; exfalso; omega)
theorem sto_h (op old b : Int) (hop : 67 ≤ op ∧ op ≤ 75) (ho : U64 old) (hb : U64 b) (w : World) : Calls Tryz.prog 43 #[.int .i64 op, .int .u64 old, .int .u64 b] w fun e w' => e = .returned (.int .u64 (stoV op old b)) ∧ BW w w' := by
  have HS := fun w1 h => za7 w w1 h op (by omega) (by omega)
  have HN := fun w1 h => za9 w w1 h op (by omega) (by omega)
  have HG := fun w1 (h : BW w w1) => (zg9 op (by omega) (by omega) w1).mono fun e w' (hh : _ ∧ _) => And.intro hh.1 (BW.on h hh.2)
  have HB : BW w w := Below.refl _ _
  have KZ := fun o (h : U64 o) x => zh6 o (8 * siz op) h.1 h.lt x
  have KX := fun x => zi6 old (8 * siz op) ho.1 ho.lt x
  have KY := fun x => zi6 b (8 * siz op) hb.1 hb.lt x
  have hv := zN6 (op := op) (old := old) (b := b) (by have := zd0 op; omega)
  rw [← (zg0 op).1] at hv
  have hX : U64 (sx old (zc6 (8 * siz op))) := sx_U _ _
  have hY : U64 (sx b (zc6 (8 * siz op))) := sx_U _ _
  have hU : U64 (zx old (zc6 (8 * siz op))) := zx_U _ _
  have hVV : U64 (zx b (zc6 (8 * siz op))) := zx_U _ _
  generalize stoV op old b = r at *
  generalize sx old (zc6 (8 * siz op)) = X at *
  generalize sx b (zc6 (8 * siz op)) = Y at *
  obtain ⟨Z, HZ⟩ : ∃ f : Int → Int, Hid (∀ o : Int, f o = zx o (zc6 (8 * siz op))) := ⟨fun o => zx o (zc6 (8 * siz op)), fun _ => rfl⟩
  simp only [← HZ.out] at KZ hv hU hVV
  have KU := KZ old ho
  have KV := KZ b hb
  generalize Z old = U at *
  generalize Z b = V at *
  have HX := Lib.hid hX
  have HY := Lib.hid hY
  have HU := Lib.hid hU
  have HVV := Lib.hid hVV
  have HV := Lib.hid hv
  clear HZ hX hY hU hVV hv ho hb
  have x67 := x_67
  have x68 := x_68
  have x69 := x_69
  have x70 := x_70
  have x71 := x_71
  have x72 := x_72
  have x73 := x_73
  have x74 := x_74
  have x75 := x_75
  rcases zN5 hop with ⟨rfl, hs, hn, e0⟩ | ⟨rfl, hs, hn, e0⟩ | ⟨rfl, hs, hn, e0⟩ | ⟨rfl, hs, hn, e0⟩ | ⟨rfl, hs, hn, e0⟩ | ⟨rfl, hs, hn, e0⟩ | ⟨rfl, hs, hn, e0⟩ | ⟨rfl, hs, hn, e0⟩ | ⟨rfl, hs, hn, e0⟩
  all_goals
    clear hop
    rw [hs] at HS
    rw [hn] at HN
    simp only [z_67, z_68, z_69, z_70, z_71, z_72, z_73, z_74, z_75, Int.reduceMul] at HG KZ KX KY KU KV
    clear hs hn
    go_enter Tryz.func43, Tryz.ntmps43
    go_wp2_with (first
      | (go_at_call 23; refine (HS _ (by assumption)).mono ?_; rintro e w' ⟨rfl, hb⟩)
      | (go_at_call 41; refine (HN _ (by assumption)).mono ?_; rintro e w' ⟨rfl, hb⟩)
      | (go_at_call 18; refine (HG _ (by assumption)).mono ?_; rintro e w' ⟨rfl, hb⟩)
      | (go_at_call 72; ((with_reducible refine (KX _).mono ?_); rintro e w' ⟨rfl, rfl⟩))
      | (go_at_call 72; ((with_reducible refine (KY _).mono ?_); rintro e w' ⟨rfl, rfl⟩))
      | (go_at_call 42; ((with_reducible refine (KU _).mono ?_); rintro e w' ⟨rfl, rfl⟩))
      | (go_at_call 42; ((with_reducible refine (KV _).mono ?_); rintro e w' ⟨rfl, rfl⟩))
      | (go_at_call 73; refine (zm8 _ _ (by first | exact HX.out | exact HY.out) (by first | exact HX.out | exact HY.out) _).mono ?_; rintro e w' ⟨rfl, rfl⟩)
      | (go_at_call 42; refine (KZ _ (by first | exact HX.out | exact HY.out | exact HU.out | with_reducible exact w_U _ | exact (zB4 _ _ HX.out HY.out).2.2.2.1) _).mono ?_; rintro e w' ⟨rfl, rfl⟩))
    all_goals go_ret
    all_goals refine ⟨za1 ?_, by assumption⟩
    all_goals rw [HV.out]
    all_goals congr 1
    all_goals
      first
        | rfl
        | exact w_xor _ _ HX.out HY.out
        | exact w_or X Y HX.out HY.out
        | (simp_all [amoV]; done)
        | (simp_all [amoV]; intro _; exfalso; omega)
theorem zN2 (op old b : Int) (ho : I64 op) (hu : U64 old) (hv : U64 b) (w : World) : Calls Tryz.prog 43 #[.int .i64 op, .int .u64 old, .int .u64 b] w fun e w' => e = .returned (.int .u64 (stoV op old b)) ∧ BW w w' := by
  by_cases h1 : srt op = 5 ∨ srt op = 11
  · exact zK1 op old b ho h1 hv w
  by_cases h2 : srt op = 12
  · have hs := zd0 op
    by_cases h3 : op ≤ 66
    · exact sto_g op old b (by omega) hu hv w
    · exact sto_h op old b (by omega) hu hv w
  · exact zW7 op old b ho (by omega) w
end Go.Proofs.YtmamblgpekafbaaGreatDoor
namespace Go.Proofs.YtmamblgpekafbaaGreatDoor
open Go.RowKit
theorem Zb6 : ∀ j k : Fin 75, nmL.getD j.val [] = nmL.getD k.val [] → j = k := by decide +kernel
theorem nm_some : ∀ k : Fin 75, nmL.getD k.val [] ≠ [] := by decide +kernel
theorem zG4 {op : Int} {l : List UInt8} (k : Nat) (hk : k < 75) (hl : nmL.getD k [] = l) (h : op ≠ (k : Int) + 1) : nmO op ≠ l := by
  subst hl
  unfold nmO
  split
  · intro e
    have := Zb6 ⟨op.toNat - 1, by omega⟩ ⟨k, hk⟩ e
    have : op.toNat - 1 = k := by injection this
    omega
  · exact fun e => nm_some ⟨k, hk⟩ e.symm
theorem zI3 {op : Int} {l : List UInt8} (h : nmO op ≠ l) : ((bs (nmO op)).toList == l) = false := by rw [ze3]; simpa using h
def takV (op a b : Int) : Bool := if op = 5 then a == b else if op = 6 then a != b else if op = 7 then lowB a b else if op = 8 then !lowB a b else if op = 9 then decide (a < b) else if op = 10 then !decide (a < b) else false
section
variable (i : Ins) (a b : Int) (ha : U64 a) (hb : U64 b) (ho : I64 i.op) (w : World)
include ha hb ho
theorem taken_in (h : 5 ≤ i.op ∧ i.op ≤ 10) : Calls Tryz.prog 74 #[insV i, .int .u64 a, .int .u64 b] w fun e w' => e = .returned (.bool (takV i.op a b)) ∧ Below w.heap.size w w' := by
  have HJ : Jn w i w.heap.size (w.alloc (.cells (za0 i) 39)) := ⟨BW.new (Below.refl _ _) _, Blk.new _ _ _, Nat.le_refl _⟩
  have KN := fun i' x (h : Jn w i' w.heap.size x) => (zf6 i.op ho.1 ho.2 x).mono fun e w' (hh : _ ∧ _) => And.intro hh.1 (h.on hh.2)
  have KL := fun x => zm8 a b ha hb x
  have hc : i.op = 5 ∨ i.op = 6 ∨ i.op = 7 ∨ i.op = 8 ∨ i.op = 9 ∨ i.op = 10 := by omega
  clear h ho ha hb
  obtain ⟨op, rd, rs1, rs2, imm, aq, rl, pred, succ⟩ := i
  unfold insV
  simp only at hc KN ⊢
  unfold za0 at HJ
  simp only at HJ
  have hf : (op = 5 ∧ NF 5 3 ⟨#[98, 101, 113]⟩ 2 113) ∨ (op = 6 ∧ NF 6 3 ⟨#[98, 110, 101]⟩ 2 101) ∨ (op = 7 ∧ NF 7 3 ⟨#[98, 108, 116]⟩ 2 116) ∨ (op = 8 ∧ NF 8 3 ⟨#[98, 103, 101]⟩ 2 101) ∨ (op = 9 ∧ NF 9 3 ⟨#[98, 108, 116, 117]⟩ 3 117) ∨ (op = 10 ∧ NF 10 3 ⟨#[98, 103, 101, 117]⟩ 3 117) := by
    rcases hc with rfl | rfl | rfl | rfl | rfl | rfl
    · exact .inl ⟨rfl, nf_5⟩
    · exact .inr (.inl ⟨rfl, nf_6⟩)
    · exact .inr (.inr (.inl ⟨rfl, nf_7⟩))
    · exact .inr (.inr (.inr (.inl ⟨rfl, nf_8⟩)))
    · exact .inr (.inr (.inr (.inr (.inl ⟨rfl, nf_9⟩))))
    · exact .inr (.inr (.inr (.inr (.inr ⟨rfl, nf_10⟩))))
  clear hc
  rcases hf with ⟨rfl, _, hn, _⟩ | ⟨rfl, _, hn, _⟩ | ⟨rfl, _, hn, _⟩ | ⟨rfl, _, hn, _⟩ | ⟨rfl, _, hn, _⟩ | ⟨rfl, _, hn, _⟩
  all_goals
    rw [hn] at KN
    clear hn
    go_enter Tryz.func74, Tryz.ntmps74
    go_wp2_with (first
      | (go_at_call 41; refine (KN _ _ HJ).mono ?_; rintro e w2 ⟨rfl, HJ⟩)
      | (go_at_call 73; refine (KL _).mono ?_; rintro e w' ⟨rfl, rfl⟩))
    go_ret
    exact ⟨zb0 (by simp [takV]), HJ.1⟩
omit ha hb in
theorem Zn0 (h : ¬ (5 ≤ i.op ∧ i.op ≤ 10)) : Calls Tryz.prog 74 #[insV i, .int .u64 a, .int .u64 b] w fun e w' => e = .returned (.bool (takV i.op a b)) ∧ Below w.heap.size w w' := by
  have HJ : Jn w i w.heap.size (w.alloc (.cells (za0 i) 39)) := ⟨BW.new (Below.refl _ _) _, Blk.new _ _ _, Nat.le_refl _⟩
  have KN := fun i' x (h : Jn w i' w.heap.size x) => (zf6 i.op ho.1 ho.2 x).mono fun e w' (hh : _ ∧ _) => And.intro hh.1 (h.on hh.2)
  have HV : Hid (takV i.op a b = false) := by
    show _ = _
    unfold takV
    rw [if_neg (by omega), if_neg (by omega), if_neg (by omega), if_neg (by omega), if_neg (by omega), if_neg (by omega)]
  have q1 := zI3 (zG4 (op := i.op) (l := [98, 101, 113]) 4 (by decide) rfl (by omega))
  have q2 := zI3 (zG4 (op := i.op) (l := [98, 110, 101]) 5 (by decide) rfl (by omega))
  have q3 := zI3 (zG4 (op := i.op) (l := [98, 108, 116]) 6 (by decide) rfl (by omega))
  have q4 := zI3 (zG4 (op := i.op) (l := [98, 103, 101]) 7 (by decide) rfl (by omega))
  have q5 := zI3 (zG4 (op := i.op) (l := [98, 108, 116, 117]) 8 (by decide) rfl (by omega))
  have q6 := zI3 (zG4 (op := i.op) (l := [98, 103, 101, 117]) 9 (by decide) rfl (by omega))
  clear h ho
  obtain ⟨op, rd, rs1, rs2, imm, aq, rl, pred, succ⟩ := i
  unfold insV
  simp only at KN HV q1 q2 q3 q4 q5 q6 ⊢
  unfold za0 at HJ
  simp only at HJ
  unfold tx at KN
  generalize bs (nmO op) = q at *
  go_enter Tryz.func74, Tryz.ntmps74
  go_wp2_with (first
    | (go_at_call 41; refine (KN _ _ HJ).mono ?_; rintro e w2 ⟨rfl, HJ⟩))
  go_ret
  exact ⟨zb0 HV.out.symm, HJ.1⟩
theorem zW6 : Calls Tryz.prog 74 #[insV i, .int .u64 a, .int .u64 b] w fun e w' => e = .returned (.bool (takV i.op a b)) ∧ Below w.heap.size w w' := by
  by_cases h : 5 ≤ i.op ∧ i.op ≤ 10
  · exact taken_in i a b ha hb ho w h
  · exact Zn0 i a b ho w h
end
def nxtV (op imm pc a b : Int) : Int := if op = 3 ∨ takV op a b = true then u64 (pc + IntKind.u64.wrap imm) else if op = 4 then u64 (a + IntKind.u64.wrap imm) - u64 (a + IntKind.u64.wrap imm) % 2 else u64 (pc + 4)
theorem w_even {X : Int} (h : U64 X) : IntKind.u64.wrap (X - X.tmod 2) = X - X % 2 := by
  unfold U64 at h
  rw [Int.tmod_eq_emod_of_nonneg h.1, IntKind.wrap_u64]
  omega
theorem w_even' (x : Int) : IntKind.u64.wrap (IntKind.u64.wrap x - (IntKind.u64.wrap x).tmod 2) = u64 x - u64 x % 2 := by
  rw [w_even (w_U x), zz2]
section
variable (i : Ins) (pc a b : Int) (ha : U64 a) (hb : U64 b) (ho : I64 i.op) (w : World)
include ha hb ho
theorem Zh8 : Calls Tryz.prog 44 #[insV i, .int .u64 pc, .int .u64 a, .int .u64 b] w fun e w' => e = .returned (.int .u64 (nxtV i.op i.imm pc a b)) ∧ Below w.heap.size w w' := by
  have HJ : Jn w i w.heap.size (w.alloc (.cells (za0 i) 39)) := ⟨BW.new (Below.refl _ _) _, Blk.new _ _ _, Nat.le_refl _⟩
  have KN := fun i' x (h : Jn w i' w.heap.size x) => (zf6 i.op ho.1 ho.2 x).mono fun e w' (hh : _ ∧ _) => And.intro hh.1 (h.on hh.2)
  have KT := fun i' x (h : Jn w i' w.heap.size x) => (zW6 i a b ha hb ho x).mono fun e w' (hh : _ ∧ _) => And.intro hh.1 (h.on hh.2)
  have hv : nxtV i.op i.imm pc a b = if i.op = 3 ∨ takV i.op a b = true then u64 (pc + IntKind.u64.wrap i.imm) else if i.op = 4 then u64 (a + IntKind.u64.wrap i.imm) - u64 (a + IntKind.u64.wrap i.imm) % 2 else u64 (pc + 4) := rfl
  have hq1 := fun h => zI3 (zG4 (op := i.op) (l := [106, 97, 108]) 2 (by decide) rfl h)
  have hq2 := fun h => zI3 (zG4 (op := i.op) (l := [106, 97, 108, 114]) 3 (by decide) rfl h)
  have h34 : (i.op = 3 ∧ NF 3 2 ⟨#[106, 97, 108]⟩ 2 108) ∨ (i.op = 4 ∧ NF 4 2 ⟨#[106, 97, 108, 114]⟩ 3 114) ∨ (i.op ≠ 3 ∧ i.op ≠ 4) := by
    by_cases h3 : i.op = 3
    · exact .inl ⟨h3, nf_3⟩
    by_cases h4 : i.op = 4
    · exact .inr (.inl ⟨h4, nf_4⟩)
    · exact .inr (.inr ⟨h3, h4⟩)
  have ht4 : i.op = 4 → takV i.op a b = false := fun h => by rw [h]; rfl
  clear ho ha hb
  obtain ⟨op, rd, rs1, rs2, imm, aq, rl, pred, succ⟩ := i
  unfold insV at KT ⊢
  simp only at KN KT hv hq1 hq2 h34 ht4 ⊢
  unfold za0 at HJ
  simp only at HJ
  obtain ⟨c0, c1, c2, c3, c4, c5, c6, c7, c8⟩ := HJ.cells
  simp only at c0 c1 c2 c3 c4 c5 c6 c7 c8
  rcases h34 with ⟨rfl, _, hn, _⟩ | ⟨rfl, _, hn, _⟩ | ⟨h3, h4⟩
  · rw [if_pos (.inl rfl)] at hv
    have HV := Lib.hid hv
    rw [hn] at KN
    clear hn hv hq1 hq2 ht4 KT
    go_enter Tryz.func44, Tryz.ntmps44
    go_wp2_with (first
      | (go_at_call 41; refine (KN _ _ HJ).mono ?_; rintro e w2 ⟨rfl, HJ⟩; obtain ⟨c0, c1, c2, c3, c4, c5, c6, c7, c8⟩ := HJ.cells))
    go_ret
    exact ⟨za1 (by rw [HV.out]; exact zz2 _), HJ.1⟩
  · have ht := ht4 rfl
    rw [ht] at KT hv
    rw [if_neg (by simp), if_pos rfl] at hv
    have HV := Lib.hid hv
    rw [hn] at KN
    clear hn hv hq1 hq2 ht4 ht
    go_enter Tryz.func44, Tryz.ntmps44
    go_wp2_with (first
      | (go_at_call 41; refine (KN _ _ HJ).mono ?_; rintro e w2 ⟨rfl, HJ⟩; obtain ⟨c0, c1, c2, c3, c4, c5, c6, c7, c8⟩ := HJ.cells; have HB := HJ.2.1; simp only [za0] at HB)
      | (with_reducible refine za8 (o := ⟨some 17, _, _, _, _, _⟩) rfl 39 (.tmp 4) rfl HB rfl Tryz.underlying39 rfl (by kernel_rfl) ?_)
      | (go_at_call 74; refine (KT _ _ HJ).mono ?_; rintro e w3 ⟨rfl, HJ⟩; obtain ⟨c0, c1, c2, c3, c4, c5, c6, c7, c8⟩ := HJ.cells))
    go_ret
    exact ⟨za1 (by rw [HV.out]; exact w_even' _), HJ.1⟩
  · have q1 := hq1 (by omega)
    have q2 := hq2 (by omega)
    clear hq1 hq2 ht4
    unfold tx at KN
    generalize bs (nmO op) = q at *
    cases ht : takV op a b
    · rw [ht] at KT hv
      rw [if_neg (by simp [h3]), if_neg h4] at hv
      have HV := Lib.hid hv
      clear hv ht h3 h4
      go_enter Tryz.func44, Tryz.ntmps44
      go_wp2_with (first
        | (go_at_call 41; refine (KN _ _ HJ).mono ?_; rintro e w2 ⟨rfl, HJ⟩; obtain ⟨c0, c1, c2, c3, c4, c5, c6, c7, c8⟩ := HJ.cells; have HB := HJ.2.1; simp only [za0] at HB)
        | (with_reducible refine za8 (o := ⟨some 17, _, _, _, _, _⟩) rfl 39 (.tmp 4) rfl HB rfl Tryz.underlying39 rfl (by kernel_rfl) ?_)
        | (go_at_call 74; refine (KT _ _ HJ).mono ?_; rintro e w3 ⟨rfl, HJ⟩; obtain ⟨c0, c1, c2, c3, c4, c5, c6, c7, c8⟩ := HJ.cells))
      go_ret
      exact ⟨za1 (by rw [HV.out]; exact zz2 _), HJ.1⟩
    · rw [ht] at KT hv
      rw [if_pos (.inr rfl)] at hv
      have HV := Lib.hid hv
      clear hv ht h3 h4
      go_enter Tryz.func44, Tryz.ntmps44
      go_wp2_with (first
        | (go_at_call 41; refine (KN _ _ HJ).mono ?_; rintro e w2 ⟨rfl, HJ⟩; obtain ⟨c0, c1, c2, c3, c4, c5, c6, c7, c8⟩ := HJ.cells; have HB := HJ.2.1; simp only [za0] at HB)
        | (with_reducible refine za8 (o := ⟨some 17, _, _, _, _, _⟩) rfl 39 (.tmp 4) rfl HB rfl Tryz.underlying39 rfl (by kernel_rfl) ?_)
        | (go_at_call 74; refine (KT _ _ HJ).mono ?_; rintro e w3 ⟨rfl, HJ⟩; obtain ⟨c0, c1, c2, c3, c4, c5, c6, c7, c8⟩ := HJ.cells))
      go_ret
      exact ⟨za1 (by rw [HV.out]; exact zz2 _), HJ.1⟩
end
def adrV (op imm a : Int) : Int := if srt op = 4 ∨ srt op = 5 then u64 (a + IntKind.u64.wrap imm) else if 10 ≤ srt op then a else 0
theorem zu6 (i : Ins) (a : Int) (ho : I64 i.op) (w : World) : Calls Tryz.prog 19 #[insV i, .int .u64 a] w fun e w' => e = .returned (.int .u64 (adrV i.op i.imm a)) ∧ Below w.heap.size w w' := by
  have HJ : Jn w i w.heap.size (w.alloc (.cells (za0 i) 39)) := ⟨BW.new (Below.refl _ _) _, Blk.new _ _ _, Nat.le_refl _⟩
  have KS := fun i' x (h : Jn w i' w.heap.size x) => (zf0 i.op ho.1 ho.2 x).mono fun e w' (hh : _ ∧ _) => And.intro hh.1 (h.on hh.2)
  have hv : adrV i.op i.imm a = if srt i.op = 4 ∨ srt i.op = 5 then u64 (a + IntKind.u64.wrap i.imm) else if 10 ≤ srt i.op then a else 0 := rfl
  clear ho
  obtain ⟨op, rd, rs1, rs2, imm, aq, rl, pred, succ⟩ := i
  unfold insV
  simp only at KS hv ⊢
  unfold za0 at HJ
  simp only at HJ
  obtain ⟨c0, c1, c2, c3, c4, c5, c6, c7, c8⟩ := HJ.cells
  simp only at c0 c1 c2 c3 c4 c5 c6 c7 c8
  generalize adrV op imm a = r at *
  generalize srt op = k at *
  have hc : k = 4 ∨ k = 5 ∨ (k ≠ 4 ∧ k ≠ 5 ∧ 10 ≤ k) ∨ (k ≠ 4 ∧ k ≠ 5 ∧ k < 10) := by omega
  rcases hc with rfl | rfl | ⟨h4, h5, hk⟩ | ⟨h4, h5, hk⟩
  · rw [if_pos (.inl rfl)] at hv
    have HV := Lib.hid hv
    clear hv
    go_enter Tryz.func19, Tryz.ntmps19
    go_wp2_with (first
      | (go_at_call 23; refine (KS _ _ HJ).mono ?_; rintro e w2 ⟨rfl, HJ⟩; obtain ⟨c0, c1, c2, c3, c4, c5, c6, c7, c8⟩ := HJ.cells))
    go_ret
    exact ⟨za1 (by rw [HV.out]; exact zz2 _), HJ.1⟩
  · rw [if_pos (.inr rfl)] at hv
    have HV := Lib.hid hv
    clear hv
    go_enter Tryz.func19, Tryz.ntmps19
    go_wp2_with (first
      | (go_at_call 23; refine (KS _ _ HJ).mono ?_; rintro e w2 ⟨rfl, HJ⟩; obtain ⟨c0, c1, c2, c3, c4, c5, c6, c7, c8⟩ := HJ.cells))
    go_ret
    exact ⟨za1 (by rw [HV.out]; exact zz2 _), HJ.1⟩
  · rw [if_neg (by omega), if_pos hk] at hv
    have HV := Lib.hid hv
    have b4 : (k == 4) = false := by simpa using h4
    have b5 : (k == 5) = false := by simpa using h5
    clear hv h4 h5
    go_enter Tryz.func19, Tryz.ntmps19
    go_wp2_with (first
      | (go_at_call 23; refine (KS _ _ HJ).mono ?_; rintro e w2 ⟨rfl, HJ⟩; obtain ⟨c0, c1, c2, c3, c4, c5, c6, c7, c8⟩ := HJ.cells))
    go_ret
    exact ⟨za1 HV.out.symm, HJ.1⟩
  · rw [if_neg (by omega), if_neg (by omega)] at hv
    have HV := Lib.hid hv
    have b4 : (k == 4) = false := by simpa using h4
    have b5 : (k == 5) = false := by simpa using h5
    clear hv h4 h5
    go_enter Tryz.func19, Tryz.ntmps19
    go_wp2_with (first
      | (go_at_call 23; refine (KS _ _ HJ).mono ?_; rintro e w2 ⟨rfl, HJ⟩; obtain ⟨c0, c1, c2, c3, c4, c5, c6, c7, c8⟩ := HJ.cells))
    go_ret
    exact ⟨za1 HV.out.symm, HJ.1⟩
end Go.Proofs.YtmamblgpekafbaaGreatDoor
