/- The document's Stored. -/
import Derived.Test.YtoifkdjalddhkaaDoorRows
import Derived.Test.YtoifkdjalddhkaaDoorRl
import Derived.WalkKit
import Derived.WalkLawsBesides
import Derived.Deep.QuietTactic
import Derived.BigQuiet
import Derived.WalkSmall
import Derived.WalkSpells
import Derived.Lib.Hide
import Derived.Below
namespace Go.Proofs.YtoifkdjalddhkaaDoor
open Go.RowKit

/-- What an atomic operation makes of what was there and of b, both with their sign (x, y) and without (u, v). -/
def amoV (j x y u v : Int) : Int :=
  if j = 0 then y else if j = 1 then IntKind.u64.wrap (x + y) else if j = 2 then bits .xor .u64 x y else if j = 3 then bits .and .u64 x y else if j = 4 then bits .or .u64 x y
  else if j = 5 then (if lowB x y then x else y) else if j = 6 then (if lowB y x then x else y) else if j = 7 then (if u < v then u else y) else (if v < u then u else y)
def stoV (op old b : Int) : Int :=
  if srt op = 5 ∨ srt op = 11 then zx b (8 * siz op).toNat else if srt op = 12 then zx (amoV ((op - 58) % 9) (sx old (8 * siz op).toNat) (sx b (8 * siz op).toNat) (zx old (8 * siz op).toNat) (zx b (8 * siz op).toNat)) (8 * siz op).toNat else 0
theorem sto_some {op old b : Int} (h : srt op = 5 ∨ srt op = 11) : stoV op old b = zx b (8 * siz op).toNat := by unfold stoV; rw [if_pos h]
theorem sto_none {op old b : Int} (h : srt op ≠ 5 ∧ srt op ≠ 11 ∧ srt op ≠ 12) : stoV op old b = 0 := by unfold stoV; rw [if_neg (by omega), if_neg (by omega)]
theorem sto_amo {op old b : Int} (h : srt op = 12) : stoV op old b = zx (amoV ((op - 58) % 9) (sx old (8 * siz op).toNat) (sx b (8 * siz op).toNat) (zx old (8 * siz op).toNat) (zx b (8 * siz op).toNat)) (8 * siz op).toNat := by
  unfold stoV; rw [if_neg (by omega), if_pos h]
theorem siz_cap : ∀ k : Fin 75, cap64 (8 * siz ((k.val : Int) + 1)) = (8 * siz ((k.val : Int) + 1)).toNat ∧ 0 ≤ siz ((k.val : Int) + 1) ∧ siz ((k.val : Int) + 1) ≤ 8 := by decide
theorem siz_capx (op : Int) : cap64 (8 * siz op) = (8 * siz op).toNat ∧ 0 ≤ siz op ∧ siz op ≤ 8 := by
  by_cases h : 1 ≤ op ∧ op ≤ 75
  · have := siz_cap ⟨op.toNat - 1, by omega⟩
    simp only [show ((op.toNat - 1 : Nat) : Int) + 1 = op by omega] at this
    exact this
  · have : siz op = 0 := by unfold siz; rw [if_neg h]
    rw [this]; decide
theorem rstored_no (op old b : Int) (ho : I64 op) (h : srt op ≠ 5 ∧ srt op ≠ 11 ∧ srt op ≠ 12) (w : World) : Calls Tryd.prog 20 #[.int .i64 op, .int .u64 old, .int .u64 b] w fun e w' => e = .returned (.int .u64 (stoV op old b)) ∧ BW w w' := by
  have HS := sort_bw w w (Below.refl _ _) op ho.1 ho.2
  have HG := fun w1 (h : BW w w1) => (rsize_any op ho.1 ho.2 w1).mono fun e w' (hh : _ ∧ _) => And.intro hh.1 (BW.on h hh.2)
  have HV := Lib.hid (sto_none (op := op) (old := old) (b := b) h)
  have hz := (siz_capx op).2
  generalize stoV op old b = r at *
  generalize siz op = z at *
  generalize srt op = k at *
  have b1 : (k == 5) = false := by simpa using h.1
  have b2 : (k == 11) = false := by simpa using h.2.1
  have b3 : (k != 12) = true := by simpa using h.2.2
  clear h
  go_enter Tryd.func20, Tryd.ntmps20
  go_wp2_with (first
    | (go_at_call 26; refine HS.mono ?_; rintro e w1 ⟨rfl, hb⟩)
    | (go_at_call 22; refine (HG _ hb).mono ?_; rintro e w2 ⟨rfl, hb2⟩))
  go_ret
  exact ⟨ret_int HV.out.symm, hb2⟩
theorem rstored_some (op old b : Int) (ho : I64 op) (hk : srt op = 5 ∨ srt op = 11) (hu : U64 b) (w : World) : Calls Tryd.prog 20 #[.int .i64 op, .int .u64 old, .int .u64 b] w fun e w' => e = .returned (.int .u64 (stoV op old b)) ∧ BW w w' := by
  have HS := sort_bw w w (Below.refl _ _) op ho.1 ho.2
  have HG := fun w1 (h : BW w w1) => (rsize_any op ho.1 ho.2 w1).mono fun e w' (hh : _ ∧ _) => And.intro hh.1 (BW.on h hh.2)
  have hv := sto_some (op := op) (old := old) (b := b) hk
  rw [← (siz_capx op).1] at hv
  have hz := (siz_capx op).2
  have KZ := fun x => rzext_any b (8 * siz op) hu.1 hu.lt x
  generalize stoV op old b = r at *
  generalize zx b (cap64 (8 * siz op)) = v at *
  generalize siz op = z at *
  have e8 : wrap64 (8 * z) = 8 * z := by rw [wrap64_eq, IntKind.wrap_i64]; omega
  have HV := Lib.hid hv
  clear hv hu
  rcases hk with hk | hk
  all_goals
    rw [hk] at HS
    clear hk
    go_enter Tryd.func20, Tryd.ntmps20
    go_wp2_with (first
      | (go_at_call 26; refine HS.mono ?_; rintro e w1 ⟨rfl, hb⟩)
      | (go_at_call 22; refine (HG _ hb).mono ?_; rintro e w2 ⟨rfl, hb2⟩)
      | (go_at_call 21; refine (KZ _).mono ?_; rintro e w' ⟨rfl, rfl⟩))
    go_ret
    exact ⟨ret_int HV.out.symm, hb2⟩
theorem x_58 : (⟨#[97, 109, 111, 115, 119, 97, 112, 46, 119]⟩ : ByteArray).extract 3 7 = ⟨#[115, 119, 97, 112]⟩ := rfl
theorem x_59 : (⟨#[97, 109, 111, 97, 100, 100, 46, 119]⟩ : ByteArray).extract 3 6 = ⟨#[97, 100, 100]⟩ := rfl
theorem x_60 : (⟨#[97, 109, 111, 120, 111, 114, 46, 119]⟩ : ByteArray).extract 3 6 = ⟨#[120, 111, 114]⟩ := rfl
theorem x_61 : (⟨#[97, 109, 111, 97, 110, 100, 46, 119]⟩ : ByteArray).extract 3 6 = ⟨#[97, 110, 100]⟩ := rfl
theorem x_62 : (⟨#[97, 109, 111, 111, 114, 46, 119]⟩ : ByteArray).extract 3 5 = ⟨#[111, 114]⟩ := rfl
theorem x_63 : (⟨#[97, 109, 111, 109, 105, 110, 46, 119]⟩ : ByteArray).extract 3 6 = ⟨#[109, 105, 110]⟩ := rfl
theorem x_64 : (⟨#[97, 109, 111, 109, 97, 120, 46, 119]⟩ : ByteArray).extract 3 6 = ⟨#[109, 97, 120]⟩ := rfl
theorem x_65 : (⟨#[97, 109, 111, 109, 105, 110, 117, 46, 119]⟩ : ByteArray).extract 3 7 = ⟨#[109, 105, 110, 117]⟩ := rfl
theorem x_66 : (⟨#[97, 109, 111, 109, 97, 120, 117, 46, 119]⟩ : ByteArray).extract 3 7 = ⟨#[109, 97, 120, 117]⟩ := rfl
theorem x_67 : (⟨#[97, 109, 111, 115, 119, 97, 112, 46, 100]⟩ : ByteArray).extract 3 7 = ⟨#[115, 119, 97, 112]⟩ := rfl
theorem x_68 : (⟨#[97, 109, 111, 97, 100, 100, 46, 100]⟩ : ByteArray).extract 3 6 = ⟨#[97, 100, 100]⟩ := rfl
theorem x_69 : (⟨#[97, 109, 111, 120, 111, 114, 46, 100]⟩ : ByteArray).extract 3 6 = ⟨#[120, 111, 114]⟩ := rfl
theorem x_70 : (⟨#[97, 109, 111, 97, 110, 100, 46, 100]⟩ : ByteArray).extract 3 6 = ⟨#[97, 110, 100]⟩ := rfl
theorem x_71 : (⟨#[97, 109, 111, 111, 114, 46, 100]⟩ : ByteArray).extract 3 5 = ⟨#[111, 114]⟩ := rfl
theorem x_72 : (⟨#[97, 109, 111, 109, 105, 110, 46, 100]⟩ : ByteArray).extract 3 6 = ⟨#[109, 105, 110]⟩ := rfl
theorem x_73 : (⟨#[97, 109, 111, 109, 97, 120, 46, 100]⟩ : ByteArray).extract 3 6 = ⟨#[109, 97, 120]⟩ := rfl
theorem x_74 : (⟨#[97, 109, 111, 109, 105, 110, 117, 46, 100]⟩ : ByteArray).extract 3 7 = ⟨#[109, 105, 110, 117]⟩ := rfl
theorem x_75 : (⟨#[97, 109, 111, 109, 97, 120, 117, 46, 100]⟩ : ByteArray).extract 3 7 = ⟨#[109, 97, 120, 117]⟩ := rfl
theorem sx_U (x : Int) (n : Int) : U64 (sx x (cap64 n)) := by
  have := sx_range x (cap64 n) (by unfold cap64; omega)
  unfold U64
  omega
theorem zx_U (x : Int) (n : Int) : U64 (zx x (cap64 n)) := by
  have h0 := zx_nonneg x (cap64 n)
  have h1 := zx_lt x (cap64 n)
  have h2 : (2 : Int) ^ (cap64 n) ≤ 2 ^ 64 := two_pow_le (by unfold cap64; omega)
  unfold U64
  omega
set_option maxHeartbeats 8000000 in
theorem sto_g (op old b : Int) (hop : 58 ≤ op ∧ op ≤ 66) (ho : U64 old) (hb : U64 b) (w : World) : Calls Tryd.prog 20 #[.int .i64 op, .int .u64 old, .int .u64 b] w fun e w' => e = .returned (.int .u64 (stoV op old b)) ∧ BW w w' := by
  have HS := fun w1 h => sort_bw w w1 h op (by omega) (by omega)
  have HN := fun w1 h => name_bw w w1 h op (by omega) (by omega)
  have HG := fun w1 (h : BW w w1) => (rsize_any op (by omega) (by omega) w1).mono fun e w' (hh : _ ∧ _) => And.intro hh.1 (BW.on h hh.2)
  have HB : BW w w := Below.refl _ _
  have KZ := fun o (h : U64 o) x => rzext_any o (8 * siz op) h.1 h.lt x
  have KX := fun x => rsext_any old (8 * siz op) ho.1 ho.lt x
  have KY := fun x => rsext_any b (8 * siz op) hb.1 hb.lt x
  have hv := sto_amo (op := op) (old := old) (b := b) (by have := srt_spec op; omega)
  rw [← (siz_capx op).1] at hv
  have hX : U64 (sx old (cap64 (8 * siz op))) := sx_U _ _
  have hY : U64 (sx b (cap64 (8 * siz op))) := sx_U _ _
  have hU : U64 (zx old (cap64 (8 * siz op))) := zx_U _ _
  have hVV : U64 (zx b (cap64 (8 * siz op))) := zx_U _ _
  generalize stoV op old b = r at *
  generalize sx old (cap64 (8 * siz op)) = X at *
  generalize sx b (cap64 (8 * siz op)) = Y at *
  obtain ⟨Z, HZ⟩ : ∃ f : Int → Int, Hid (∀ o : Int, f o = zx o (cap64 (8 * siz op))) := ⟨fun o => zx o (cap64 (8 * siz op)), fun _ => rfl⟩
  simp only [← HZ.out] at KZ hv hU hVV
  have KU := KZ old ho
  have KV := KZ b hb
  generalize Z old = U at *
  generalize Z b = V at *
  have HX := Lib.hid hX
  have HY := Lib.hid hY
  have HU := Lib.hid hU
  have HVV := Lib.hid hVV
  have HV := Lib.hid hv
  clear HZ hX hY hU hVV hv ho hb
  have x58 := x_58
  have x59 := x_59
  have x60 := x_60
  have x61 := x_61
  have x62 := x_62
  have x63 := x_63
  have x64 := x_64
  have x65 := x_65
  have x66 := x_66
  rcases nfs_g hop with ⟨rfl, hs, hn, e0⟩ | ⟨rfl, hs, hn, e0⟩ | ⟨rfl, hs, hn, e0⟩ | ⟨rfl, hs, hn, e0⟩ | ⟨rfl, hs, hn, e0⟩ | ⟨rfl, hs, hn, e0⟩ | ⟨rfl, hs, hn, e0⟩ | ⟨rfl, hs, hn, e0⟩ | ⟨rfl, hs, hn, e0⟩
  all_goals
    clear hop
    rw [hs] at HS
    rw [hn] at HN
    simp only [z_58, z_59, z_60, z_61, z_62, z_63, z_64, z_65, z_66, Int.reduceMul] at HG KZ KX KY KU KV
    clear hs hn
    go_enter Tryd.func20, Tryd.ntmps20
    go_wp2_with (first
      | (go_at_call 26; refine (HS _ (by assumption)).mono ?_; rintro e w' ⟨rfl, hb⟩)
      | (go_at_call 27; refine (HN _ (by assumption)).mono ?_; rintro e w' ⟨rfl, hb⟩)
      | (go_at_call 22; refine (HG _ (by assumption)).mono ?_; rintro e w' ⟨rfl, hb⟩)
      | (go_at_call 32; ((with_reducible refine (KX _).mono ?_); rintro e w' ⟨rfl, rfl⟩))
      | (go_at_call 32; ((with_reducible refine (KY _).mono ?_); rintro e w' ⟨rfl, rfl⟩))
      | (go_at_call 21; ((with_reducible refine (KU _).mono ?_); rintro e w' ⟨rfl, rfl⟩))
      | (go_at_call 21; ((with_reducible refine (KV _).mono ?_); rintro e w' ⟨rfl, rfl⟩))
      | (go_at_call 29; refine (rlow_c _ _ (by first | exact HX.out | exact HY.out) (by first | exact HX.out | exact HY.out) _).mono ?_; rintro e w' ⟨rfl, rfl⟩)
      | (go_at_call 21; refine (KZ _ (by first | exact HX.out | exact HY.out | exact HU.out | with_reducible exact w_U _ | exact (i_bits _ _ HX.out HY.out).2.2.2.1) _).mono ?_; rintro e w' ⟨rfl, rfl⟩))
    all_goals go_ret
    all_goals refine ⟨ret_int ?_, by assumption⟩
    all_goals rw [HV.out]
    all_goals congr 1
    all_goals
      first
        | rfl
        | exact w_xor _ _ HX.out HY.out
        | exact w_or X Y HX.out HY.out
        | (simp_all [amoV]; done)
        | (simp_all [amoV]; intro _; exfalso; omega)
set_option maxHeartbeats 8000000 in
theorem sto_h (op old b : Int) (hop : 67 ≤ op ∧ op ≤ 75) (ho : U64 old) (hb : U64 b) (w : World) : Calls Tryd.prog 20 #[.int .i64 op, .int .u64 old, .int .u64 b] w fun e w' => e = .returned (.int .u64 (stoV op old b)) ∧ BW w w' := by
  have HS := fun w1 h => sort_bw w w1 h op (by omega) (by omega)
  have HN := fun w1 h => name_bw w w1 h op (by omega) (by omega)
  have HG := fun w1 (h : BW w w1) => (rsize_any op (by omega) (by omega) w1).mono fun e w' (hh : _ ∧ _) => And.intro hh.1 (BW.on h hh.2)
  have HB : BW w w := Below.refl _ _
  have KZ := fun o (h : U64 o) x => rzext_any o (8 * siz op) h.1 h.lt x
  have KX := fun x => rsext_any old (8 * siz op) ho.1 ho.lt x
  have KY := fun x => rsext_any b (8 * siz op) hb.1 hb.lt x
  have hv := sto_amo (op := op) (old := old) (b := b) (by have := srt_spec op; omega)
  rw [← (siz_capx op).1] at hv
  have hX : U64 (sx old (cap64 (8 * siz op))) := sx_U _ _
  have hY : U64 (sx b (cap64 (8 * siz op))) := sx_U _ _
  have hU : U64 (zx old (cap64 (8 * siz op))) := zx_U _ _
  have hVV : U64 (zx b (cap64 (8 * siz op))) := zx_U _ _
  generalize stoV op old b = r at *
  generalize sx old (cap64 (8 * siz op)) = X at *
  generalize sx b (cap64 (8 * siz op)) = Y at *
  obtain ⟨Z, HZ⟩ : ∃ f : Int → Int, Hid (∀ o : Int, f o = zx o (cap64 (8 * siz op))) := ⟨fun o => zx o (cap64 (8 * siz op)), fun _ => rfl⟩
  simp only [← HZ.out] at KZ hv hU hVV
  have KU := KZ old ho
  have KV := KZ b hb
  generalize Z old = U at *
  generalize Z b = V at *
  have HX := Lib.hid hX
  have HY := Lib.hid hY
  have HU := Lib.hid hU
  have HVV := Lib.hid hVV
  have HV := Lib.hid hv
  clear HZ hX hY hU hVV hv ho hb
  have x67 := x_67
  have x68 := x_68
  have x69 := x_69
  have x70 := x_70
  have x71 := x_71
  have x72 := x_72
  have x73 := x_73
  have x74 := x_74
  have x75 := x_75
  rcases nfs_h hop with ⟨rfl, hs, hn, e0⟩ | ⟨rfl, hs, hn, e0⟩ | ⟨rfl, hs, hn, e0⟩ | ⟨rfl, hs, hn, e0⟩ | ⟨rfl, hs, hn, e0⟩ | ⟨rfl, hs, hn, e0⟩ | ⟨rfl, hs, hn, e0⟩ | ⟨rfl, hs, hn, e0⟩ | ⟨rfl, hs, hn, e0⟩
  all_goals
    clear hop
    rw [hs] at HS
    rw [hn] at HN
    simp only [z_67, z_68, z_69, z_70, z_71, z_72, z_73, z_74, z_75, Int.reduceMul] at HG KZ KX KY KU KV
    clear hs hn
    go_enter Tryd.func20, Tryd.ntmps20
    go_wp2_with (first
      | (go_at_call 26; refine (HS _ (by assumption)).mono ?_; rintro e w' ⟨rfl, hb⟩)
      | (go_at_call 27; refine (HN _ (by assumption)).mono ?_; rintro e w' ⟨rfl, hb⟩)
      | (go_at_call 22; refine (HG _ (by assumption)).mono ?_; rintro e w' ⟨rfl, hb⟩)
      | (go_at_call 32; ((with_reducible refine (KX _).mono ?_); rintro e w' ⟨rfl, rfl⟩))
      | (go_at_call 32; ((with_reducible refine (KY _).mono ?_); rintro e w' ⟨rfl, rfl⟩))
      | (go_at_call 21; ((with_reducible refine (KU _).mono ?_); rintro e w' ⟨rfl, rfl⟩))
      | (go_at_call 21; ((with_reducible refine (KV _).mono ?_); rintro e w' ⟨rfl, rfl⟩))
      | (go_at_call 29; refine (rlow_c _ _ (by first | exact HX.out | exact HY.out) (by first | exact HX.out | exact HY.out) _).mono ?_; rintro e w' ⟨rfl, rfl⟩)
      | (go_at_call 21; refine (KZ _ (by first | exact HX.out | exact HY.out | exact HU.out | with_reducible exact w_U _ | exact (i_bits _ _ HX.out HY.out).2.2.2.1) _).mono ?_; rintro e w' ⟨rfl, rfl⟩))
    all_goals go_ret
    all_goals refine ⟨ret_int ?_, by assumption⟩
    all_goals rw [HV.out]
    all_goals congr 1
    all_goals
      first
        | rfl
        | exact w_xor _ _ HX.out HY.out
        | exact w_or X Y HX.out HY.out
        | (simp_all [amoV]; done)
        | (simp_all [amoV]; intro _; exfalso; omega)
theorem rstored_any (op old b : Int) (ho : I64 op) (hu : U64 old) (hv : U64 b) (w : World) : Calls Tryd.prog 20 #[.int .i64 op, .int .u64 old, .int .u64 b] w fun e w' => e = .returned (.int .u64 (stoV op old b)) ∧ BW w w' := by
  by_cases h1 : srt op = 5 ∨ srt op = 11
  · exact rstored_some op old b ho h1 hv w
  by_cases h2 : srt op = 12
  · have hs := srt_spec op
    by_cases h3 : op ≤ 66
    · exact sto_g op old b (by omega) hu hv w
    · exact sto_h op old b (by omega) hu hv w
  · exact rstored_no op old b ho (by omega) w
end Go.Proofs.YtoifkdjalddhkaaDoor
