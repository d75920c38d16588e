/- The code's ofHalves, ofPair, changed. -/
import Derived.Test.YtoifkdjalddhkaaDoorRows
import Derived.Test.YtoifkdjalddhkaaDoorKa
import Derived.WalkKit
import Derived.WalkLawsBesides
import Derived.WalkSmall
import Derived.WalkSpells
import Derived.Lib.Hide
import Derived.Below
import Derived.Outline
namespace Go.Proofs.YtoifkdjalddhkaaDoor
open Go.RowKit

theorem div_U {z x : Int} (hz : 0 ≤ z ∧ z < 4294967296) (_ : 0 ≤ x) : U64 (z / 2 ^ x.toNat) := by
  have h0 : 0 ≤ z / 2 ^ x.toNat := Int.ediv_nonneg hz.1 (Int.le_of_lt (two_pow_pos _))
  have h1 : z / 2 ^ x.toNat ≤ z := Int.ediv_le_self _ hz.1
  unfold U64
  omega
/-- A number whose low half, its sign carried, is what the operation of 32 bits makes. -/
def RetH (p a b : Int) (w : World) (e : Ending) (w' : World) : Prop := ∃ h : Int, U64 h ∧ sxw h = pairV p a b ∧ e = .returned (.int .u64 h) ∧ w = w'
theorem halves_c (p a b : Int) (hp : 45 ≤ p ∧ p ≤ 49) (ha : U64 a) (hb : U64 b) (w : World) : Calls Tryd.prog 39 #[.int .i64 p, .int .u64 a, .int .u64 b] w (RetH p a b w) := by
  have hy := and31 hb
  have y0 : 0 ≤ b % 32 ∧ b % 32 ≤ 31 := by omega
  have KZ := fun x => zext_any a 32 ha.1 ha.lt x
  have KS := fun x => sext_any a 32 ha.1 ha.lt x
  rw [show cap64 32 = 32 from rfl] at KZ KS
  have hs := Lib.hid (w_sgn (a := sx a 32) (by have := sx_range a 32 (by decide); unfold U64; omega))
  have hq : Hid (∀ x : Int, 0 ≤ x → x ≤ 31 → sxw (IntKind.u64.wrap (sgn (sx a 32) / 2 ^ x.toNat)) = sxw (rigV (zxw a) 32 x.toNat (zxw a / 2147483648))) := fun x h0 h1 => sraw_code a (by omega)
  have h45 : Hid (pairV 45 a b = addwV a b) := p_45 a b
  have h46 : Hid (pairV 46 a b = subwV a b) := p_46 a b
  have h47 : Hid (pairV 47 a b = sxw (lefV a (b % 32).toNat)) := p_47 a b
  have h48 : Hid (pairV 48 a b = sxw (rigV (zxw a) 32 (b % 32).toNat 0)) := p_48 a b
  have h49 : Hid (pairV 49 a b = sxw (rigV (zxw a) 32 (b % 32).toNat (zxw a / 2147483648))) := p_49 a b
  have HA := Lib.hid ha
  have HZ := Lib.hid (zxw_r a)
  generalize b % 32 = y at *
  obtain ⟨y0, y1⟩ := y0
  clear ha hb
  have hc : p = 45 ∨ p = 46 ∨ p = 47 ∨ p = 48 ∨ p = 49 := by omega
  clear hp
  rcases hc with rfl | rfl | rfl | rfl | rfl
  · go_enter Tryd.func39, Tryd.ntmps39
    go_wp2
    go_ret
    exact ⟨_, w_U _, by rw [h45.out, IntKind.wrap_u64]; rfl, rfl, rfl⟩
  · go_enter Tryd.func39, Tryd.ntmps39
    go_wp2
    go_ret
    exact ⟨_, w_U _, by rw [h46.out, IntKind.wrap_u64]; rfl, rfl, rfl⟩
  · go_enter Tryd.func39, Tryd.ntmps39
    go_wp2
    go_ret
    exact ⟨_, w_U _, by rw [h47.out, IntKind.wrap_u64]; rfl, rfl, rfl⟩
  · go_enter Tryd.func39, Tryd.ntmps39
    go_wp2_with (first | (go_at_call 35; refine (KZ _).mono ?_; rintro e w' ⟨rfl, rfl⟩))
    go_ret
    refine ⟨_, ?_, by rw [h48.out, rig_zero]; rfl, rfl, rfl⟩
    exact div_U HZ.out y0
  · go_enter Tryd.func39, Tryd.ntmps39
    go_wp2_with (first | (go_at_call 36; refine (KS _).mono ?_; rintro e w' ⟨rfl, rfl⟩))
    go_ret
    exact ⟨_, w_U _, by rw [h49.out, ← hq.out _ y0 y1, ← hs.out], rfl, rfl⟩

theorem fifteen {p : Int} (h : 35 ≤ p ∧ p ≤ 49) : p = 35 ∨ p = 36 ∨ p = 37 ∨ p = 38 ∨ p = 39 ∨ p = 40 ∨ p = 41 ∨ p = 42 ∨ p = 43 ∨ p = 44 ∨ (45 ≤ p ∧ p ≤ 49) := by omega
theorem ofpair_c (p a b : Int) (hp : 35 ≤ p ∧ p ≤ 49) (ha : U64 a) (hb : U64 b) (w : World) : Calls Tryd.prog 25 #[.int .i64 p, .int .u64 a, .int .u64 b] w fun e w' => e = .returned (.int .u64 (pairV p a b)) ∧ w = w' := by
  have hy := and63 hb
  have y0 : 0 ≤ b % 64 ∧ b % 64 ≤ 63 := by omega
  have KL := fun x => less_c a b ha hb x
  have KH := fun (h : 45 ≤ p ∧ p ≤ 49) x => halves_c p a b h ha hb x
  have hs := Lib.hid (w_sgn ha)
  have hq : Hid (∀ x : Int, 0 ≤ x → x ≤ 63 → IntKind.u64.wrap (sgn a / 2 ^ x.toNat) = rigV a 64 x.toNat (a / 9223372036854775808)) := fun x h0 h1 => sgn_div ha (by omega)
  have h35 : Hid (pairV 35 a b = u64 (a + b)) := p_35 a b
  have h36 : Hid (pairV 36 a b = u64 (a - b)) := p_36 a b
  have h37 : Hid (pairV 37 a b = u64 (a * 2 ^ (b % 64).toNat)) := p_37 a b
  have h38 : Hid (pairV 38 a b = boolV (lowB a b)) := p_38 a b
  have h39 : Hid (pairV 39 a b = boolV (decide (a < b))) := p_39 a b
  have h40 : Hid (pairV 40 a b = bits .xor .u64 a b) := p_40 a b
  have h41 : Hid (pairV 41 a b = rigV a 64 (b % 64).toNat 0) := p_41 a b
  have h42 : Hid (pairV 42 a b = rigV a 64 (b % 64).toNat (a / 9223372036854775808)) := p_42 a b
  have h43 : Hid (pairV 43 a b = bits .or .u64 a b) := p_43 a b
  have h44 : Hid (pairV 44 a b = bits .and .u64 a b) := p_44 a b
  generalize b % 64 = y at *
  obtain ⟨y0, y1⟩ := y0
  clear ha hb
  rcases fifteen hp with rfl | rfl | rfl | rfl | rfl | rfl | rfl | rfl | rfl | rfl | hp5
  · go_enter Tryd.func25, Tryd.ntmps25
    go_wp2
    go_ret
    exact ⟨ret_int (by rw [h35.out, IntKind.wrap_u64]; rfl), rfl⟩
  · go_enter Tryd.func25, Tryd.ntmps25
    go_wp2
    go_ret
    exact ⟨ret_int (by rw [h36.out, IntKind.wrap_u64]; rfl), rfl⟩
  · go_enter Tryd.func25, Tryd.ntmps25
    go_wp2
    go_ret
    exact ⟨ret_int (by rw [h37.out, IntKind.wrap_u64]; rfl), rfl⟩
  · generalize lowB a b = c at *
    go_enter Tryd.func25, Tryd.ntmps25
    go_wp2_with (first | (go_at_call 33; refine (KL _).mono ?_; rintro e w' ⟨rfl, rfl⟩) | (go_at_call 38; refine (number_c _ _).mono ?_; rintro e w' ⟨rfl, rfl⟩))
    go_ret
    exact ⟨ret_int h38.out.symm, rfl⟩
  · go_enter Tryd.func25, Tryd.ntmps25
    go_wp2_with (first | (go_at_call 38; refine (number_c _ _).mono ?_; rintro e w' ⟨rfl, rfl⟩))
    go_ret
    exact ⟨ret_int h39.out.symm, rfl⟩
  · go_enter Tryd.func25, Tryd.ntmps25
    go_wp2
    go_ret
    exact ⟨ret_int h40.out.symm, rfl⟩
  · go_enter Tryd.func25, Tryd.ntmps25
    go_wp2
    go_ret
    exact ⟨ret_int (by rw [h41.out, rig_zero]), rfl⟩
  · go_enter Tryd.func25, Tryd.ntmps25
    go_wp2
    go_ret
    exact ⟨ret_int (by rw [h42.out, ← hq.out _ y0 y1, ← hs.out]), rfl⟩
  · go_enter Tryd.func25, Tryd.ntmps25
    go_wp2
    go_ret
    exact ⟨ret_int h43.out.symm, rfl⟩
  · go_enter Tryd.func25, Tryd.ntmps25
    go_wp2
    go_ret
    exact ⟨ret_int h44.out.symm, rfl⟩
  · have HH := KH hp5
    have HP := Lib.hid hp5
    have b35 : (p == 35) = false := by simp; omega
    have b36 : (p == 36) = false := by simp; omega
    have b37 : (p == 37) = false := by simp; omega
    have b38 : (p == 38) = false := by simp; omega
    have b39 : (p == 39) = false := by simp; omega
    have b40 : (p == 40) = false := by simp; omega
    have b41 : (p == 41) = false := by simp; omega
    have b42 : (p == 42) = false := by simp; omega
    have b43 : (p == 43) = false := by simp; omega
    have b44 : (p == 44) = false := by simp; omega
    clear hp hp5 KH
    unfold RetH at HH
    generalize pairV p a b = r at *
    go_enter Tryd.func25, Tryd.ntmps25
    go_wp2_with (first | (go_at_call 39; refine (HH _).mono ?_; rintro e w' ⟨h, hU, hv, rfl, rfl⟩; have HV := Lib.hid hv; clear hv) | (go_at_call 36; refine (sext_any h 32 hU.1 hU.lt _).mono ?_; rintro e w' ⟨rfl, rfl⟩))
    go_ret
    exact ⟨ret_int (HV.out ▸ rfl), rfl⟩

/-! ### Atomic operations -/
/-- What the code makes of the two, both with the sign of their size. -/
def chgV (j x y : Int) : Int :=
  if j = 0 then y else if j = 1 then IntKind.u64.wrap (x + y) else if j = 2 then bits .xor .u64 x y else if j = 3 then bits .and .u64 x y else if j = 4 then bits .or .u64 x y
  else if j = 5 then (if lowB x y then x else y) else if j = 6 then (if lowB y x then x else y) else if j = 7 then (if y < x then y else x) else (if x < y then y else x)
theorem chg_amo (j old b : Int) (hj : 0 ≤ j ∧ j ≤ 8) {n : Nat} (h : n = 32 ∨ n = 64) : zx (chgV j (sx old n) (sx b n)) n = zx (amoV j (sx old n) (sx b n) (zx old n) (zx b n)) n := by
  have hc : j = 0 ∨ j = 1 ∨ j = 2 ∨ j = 3 ∨ j = 4 ∨ j = 5 ∨ j = 6 ∨ j = 7 ∨ j = 8 := by omega
  rcases hc with rfl | rfl | rfl | rfl | rfl | rfl | rfl | rfl | rfl <;> simp only [chgV, amoV, reduceIte, Int.reduceEq]
  · exact min_code old b h
  · exact max_code old b h
theorem chg_U {j x y : Int} (hx : U64 x) (hy : U64 y) : U64 (chgV j x y) := by
  obtain ⟨_, _, h3, h4, h5⟩ := i_bits x y hx hy
  unfold chgV
  split
  · exact hy
  split
  · exact w_U _
  split
  · exact h5
  split
  · exact h4
  split
  · exact h3
  split
  · split <;> assumption
  split
  · split <;> assumption
  split
  · split <;> assumption
  · split <;> assumption
theorem amo18 {op : Int} (h : 58 ≤ op ∧ op ≤ 75) : (op = 58 ∨ op = 59 ∨ op = 60 ∨ op = 61 ∨ op = 62 ∨ op = 63 ∨ op = 64 ∨ op = 65 ∨ op = 66) ∨ (op = 67 ∨ op = 68 ∨ op = 69 ∨ op = 70 ∨ op = 71 ∨ op = 72 ∨ op = 73 ∨ op = 74 ∨ op = 75) := by omega
theorem changed_c (op x y : Int) (hp : 58 ≤ op ∧ op ≤ 75) (hx : U64 x) (hy : U64 y) (w : World) : Calls Tryd.prog 37 #[.int .i64 op, .int .u64 x, .int .u64 y] w fun e w' => e = .returned (.int .u64 (chgV ((op - 58) % 9) x y)) ∧ w = w' := by
  have K1 := fun w => less_c x y hx hy w
  have K2 := fun w => less_c y x hy hx w
  have H0 : Hid (chgV 0 x y = y) := rfl
  have H1 : Hid (chgV 1 x y = IntKind.u64.wrap (x + y)) := rfl
  have H2 : Hid (chgV 2 x y = bits .xor .u64 x y) := rfl
  have H3 : Hid (chgV 3 x y = bits .and .u64 x y) := rfl
  have H4 : Hid (chgV 4 x y = bits .or .u64 x y) := rfl
  have H5 : Hid (chgV 5 x y = if lowB x y then x else y) := rfl
  have H6 : Hid (chgV 6 x y = if lowB y x then x else y) := rfl
  have H7 : Hid (chgV 7 x y = if y < x then y else x) := rfl
  have H8 : Hid (chgV 8 x y = if x < y then y else x) := rfl
  generalize lowB x y = c1 at *
  generalize lowB y x = c2 at *
  clear hx hy
  rcases amo18 hp with h | h <;> rcases h with rfl | rfl | rfl | rfl | rfl | rfl | rfl | rfl | rfl
  all_goals
    go_enter Tryd.func37, Tryd.ntmps37
    go_wp2_with (first | (go_at_call 33; ((with_reducible refine (K1 _).mono ?_); rintro e w' ⟨rfl, rfl⟩)) | (go_at_call 33; ((with_reducible refine (K2 _).mono ?_); rintro e w' ⟨rfl, rfl⟩)) | (go_at_call 41; refine (chosen_c _ _ _ _).mono ?_; rintro e w' ⟨rfl, rfl⟩))
    all_goals
      go_ret
      refine ⟨ret_int ?_, rfl⟩
      first
        | exact H0.out.symm
        | exact H1.out.symm
        | exact H2.out.symm
        | exact H3.out.symm
        | exact H4.out.symm
        | (rw [H5.out, if_pos (by assumption)])
        | (rw [H5.out, if_neg (by assumption)])
        | (rw [H6.out, if_pos (by assumption)])
        | (rw [H6.out, if_neg (by assumption)])
        | (rw [H7.out, if_pos (by omega)])
        | (rw [H7.out, if_neg (by omega)])
        | (rw [H8.out, if_pos (by omega)])
        | (rw [H8.out, if_neg (by omega)])
end Go.Proofs.YtoifkdjalddhkaaDoor
