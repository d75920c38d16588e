/- What follows of shifts and of what is stored: plain. Nothing here speaks of a program. -/
import Derived.Test.YtoifkdjalddhkaaDoorPq
import Derived.Test.YtoifkdjalddhkaaDoorRk
namespace Go.Proofs.YtoifkdjalddhkaaDoor
open Go.RowKit

/-- To the left and back. -/
theorem shift_back (a : Int) (k : Nat) (hk : k < 64) : lefV a k / 2 ^ k = zx a (64 - k) := by
  have h := zx_shift a (64 - k) (by omega)
  rw [show 64 - (64 - k) = k by omega, IntKind.wrap_u64] at h
  have e : lefV a k = zx a (64 - k) * 2 ^ k := by unfold lefV u64; exact h
  rw [e, Int.mul_ediv_cancel _ (Int.ne_of_gt (two_pow_pos k))]
theorem slli_srli (a : Int) (k : Nat) (hk : k < 64) : resV 29 k 0 (resV 28 k 0 a 0) 0 = zx a (64 - k) := by
  have hw : IntKind.u64.wrap (k : Int) = k := by rw [IntKind.wrap_u64]; omega
  have hm : ((k : Int) % 64).toNat = k := by omega
  rw [res_n (op := 29) 41 (by decide) (by decide), p_41, res_n (op := 28) 37 (by decide) (by decide), p_37, hw]
  unfold sllV srlV rigV
  rw [hm, Int.zero_mul, Int.add_zero]
  exact shift_back a k hk
/-- What an atomic operation stores has no more bytes than it may. -/
theorem sto_zx (op old b : Int) (h : 58 ≤ op ∧ op ≤ 75) : zx (stoV op old b) (8 * siz op).toNat = stoV op old b := by
  rw [sto_amo (by have := srt_spec op; omega)]
  exact zx_zx _ (Nat.le_refl _)
theorem sx_64 (a : Int) (h : U64 a) : sx a 64 = a := by
  unfold sx
  rw [zx_full a h.1 h.lt, if_neg (by decide)]
  split <;> simp
theorem sto_double (op a b : Int) (h : op = 72 ∨ op = 73 ∨ op = 74 ∨ op = 75) (ha : U64 a) (hb : U64 b) : stoV op a b = zx (amoV ((op - 58) % 9) a b a b) 64 := by
  have hs : (8 * siz op).toNat = 64 := by rcases h with rfl | rfl | rfl | rfl <;> decide
  rw [sto_amo (by have := srt_spec op; omega), hs, sx_64 a ha, sx_64 b hb, zx_full a ha.1 ha.lt, zx_full b hb.1 hb.lt]
theorem lowB_asym (a b : Int) (h : lowB a b = true) : lowB b a = false := by
  unfold lowB at h ⊢
  simp at h ⊢
  omega
theorem zx_64 {x : Int} (h : U64 x) : zx x 64 = x := zx_full x h.1 h.lt
/-- MIN and MAX of two are the two. -/
theorem min_max (a b : Int) (ha : U64 a) (hb : U64 b) : (stoV 72 a b = a ∧ stoV 73 a b = b) ∨ (stoV 72 a b = b ∧ stoV 73 a b = a) := by
  rw [sto_double 72 a b (by omega) ha hb, sto_double 73 a b (by omega) ha hb]
  have e5 : amoV ((72 - 58) % 9) a b a b = if lowB a b then a else b := rfl
  have e6 : amoV ((73 - 58) % 9) a b a b = if lowB b a then a else b := rfl
  rw [e5, e6]
  cases h : lowB a b
  · cases h' : lowB b a
    · have := lowB_not a b
      rw [h, h'] at this
      have e : sgn a = sgn b := by
        by_cases e : sgn a = sgn b
        · exact e
        · simp [e] at this
      have hab : a = b := by
        unfold sgn at e
        unfold U64 at ha hb
        split at e <;> split at e <;> omega
      subst hab
      exact .inl ⟨zx_64 ha, zx_64 ha⟩
    · exact .inr ⟨zx_64 hb, zx_64 ha⟩
  · rw [lowB_asym _ _ h]
    exact .inl ⟨zx_64 ha, zx_64 hb⟩
theorem minu_maxu (a b : Int) (ha : U64 a) (hb : U64 b) : (stoV 74 a b = a ∧ stoV 75 a b = b ∧ a ≤ b) ∨ (stoV 74 a b = b ∧ stoV 75 a b = a ∧ b ≤ a) := by
  rw [sto_double 74 a b (by omega) ha hb, sto_double 75 a b (by omega) ha hb]
  have e5 : amoV ((74 - 58) % 9) a b a b = if a < b then a else b := rfl
  have e6 : amoV ((75 - 58) % 9) a b a b = if b < a then a else b := rfl
  rw [e5, e6]
  by_cases h : a < b
  · rw [if_pos h, if_neg (by omega)]
    exact .inl ⟨zx_64 ha, zx_64 hb, by omega⟩
  · rw [if_neg h]
    by_cases h' : b < a
    · rw [if_pos h']
      exact .inr ⟨zx_64 hb, zx_64 ha, by omega⟩
    · rw [if_neg h']
      obtain rfl : a = b := by omega
      exact .inl ⟨zx_64 hb, zx_64 hb, Int.le_refl _⟩
end Go.Proofs.YtoifkdjalddhkaaDoor
