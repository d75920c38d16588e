/- Of stage 11. -/
import Derived.Test.YtmamblgpekafbaaGreatDoorBapa
import Derived.Laws.BitsAllLaws
import Derived.WalkLawsBesides
import Derived.Deep.QuietTactic
import Derived.BigQuiet
import Derived.WalkSmall
import Derived.WalkSpells
import Derived.Lib.Hide
set_option maxRecDepth 100000
namespace Go.Proofs.YtmamblgpekafbaaGreatDoor
open Go.RowKit
def plc (f : Int) (i : Nat) : Int :=
  if f = 1 then (if 20 ≤ i then (i : Int) - 20 else -1)
  else if f = 2 then (if 7 ≤ i ∧ i ≤ 11 then (i : Int) - 7 else if 25 ≤ i then (i : Int) - 20 else -1)
  else if f = 3 then (if 8 ≤ i ∧ i ≤ 11 then (i : Int) - 7 else if 25 ≤ i ∧ i ≤ 30 then (i : Int) - 20 else if i = 7 then 11 else if i = 31 then 12 else -1)
  else if f = 4 then (if 12 ≤ i then (i : Int) else -1)
  else if f = 5 then (if 21 ≤ i ∧ i ≤ 30 then (i : Int) - 20 else if i = 20 then 11 else if 12 ≤ i ∧ i ≤ 19 then (i : Int) else if i = 31 then 20 else -1)
  else -1
theorem Zb1 {f : Int} (h : ¬ (1 ≤ f ∧ f ≤ 5)) (i : Nat) : plc f i = -1 := by
  unfold plc
  rw [if_neg (by omega), if_neg (by omega), if_neg (by omega), if_neg (by omega), if_neg (by omega)]
theorem zw7 (f : Int) (i : Nat) (hi : i < 32) : -1 ≤ plc f i ∧ plc f i ≤ 31 := by
  unfold plc
  split <;> (try split) <;> (try split) <;> (try split) <;> (try split) <;> (try split) <;> (try split) <;> (try split) <;> omega
theorem zK4 {f : Int} (h : f = 1) (i : Nat) : (20 ≤ i ∧ plc f i = (i : Int) - 20) ∨ (i < 20 ∧ plc f i = -1) := by
  subst h; unfold plc; simp only [if_pos]; split <;> omega
theorem zr7 {f : Int} (h : f = 2) (i : Nat) : (7 ≤ i ∧ i ≤ 11 ∧ plc f i = (i : Int) - 7) ∨ (25 ≤ i ∧ plc f i = (i : Int) - 20) ∨ ((i < 7 ∨ 11 < i ∧ i < 25) ∧ plc f i = -1) := by
  subst h; unfold plc; rw [if_neg (by decide), if_pos rfl]; split <;> (try split) <;> omega
theorem zm6 {f : Int} (h : f = 3) (i : Nat) : (8 ≤ i ∧ i ≤ 11 ∧ plc f i = (i : Int) - 7) ∨ (25 ≤ i ∧ i ≤ 30 ∧ plc f i = (i : Int) - 20) ∨ (i = 7 ∧ plc f i = 11) ∨ (i = 31 ∧ plc f i = 12) ∨ ((i < 7 ∨ 11 < i ∧ i < 25 ∨ 31 < i) ∧ plc f i = -1) := by
  subst h; unfold plc; rw [if_neg (by decide), if_neg (by decide), if_pos rfl]; split <;> (try split) <;> (try split) <;> (try split) <;> omega
theorem zH0 {f : Int} (h : f = 4) (i : Nat) : (12 ≤ i ∧ plc f i = (i : Int)) ∨ (i < 12 ∧ plc f i = -1) := by
  subst h; unfold plc; rw [if_neg (by decide), if_neg (by decide), if_neg (by decide), if_pos rfl]; split <;> omega
theorem zp5 {f : Int} (h : f = 5) (i : Nat) : (21 ≤ i ∧ i ≤ 30 ∧ plc f i = (i : Int) - 20) ∨ (i = 20 ∧ plc f i = 11) ∨ (12 ≤ i ∧ i ≤ 19 ∧ plc f i = (i : Int)) ∨ (i = 31 ∧ plc f i = 20) ∨ ((i < 12 ∨ 31 < i) ∧ plc f i = -1) := by
  subst h; unfold plc; rw [if_neg (by decide), if_neg (by decide), if_neg (by decide), if_neg (by decide), if_pos rfl]; split <;> (try split) <;> (try split) <;> (try split) <;> omega
def cellI (f : Int) (i : Nat) : Value := .int .i64 (plc f i)
def plcs (f : Int) (k : Nat) : List Value := (List.range k).map (cellI f)
def zer (m : Nat) : List Value := List.replicate m (.int .i64 0)
theorem zF0 (f : Int) (k : Nat) : (plcs f k).length = k := by simp [plcs]
theorem plcs_set (f : Int) (k : Nat) (hk : k < 32) : (plcs f k ++ zer (32 - k)).set k (.int .i64 (plc f k)) = plcs f (k + 1) ++ zer (32 - (k + 1)) := by
  rw [List.set_append_right _ _ (by rw [zF0]; omega), zF0, Nat.sub_self]
  unfold zer plcs
  rw [show 32 - k = (32 - (k + 1)) + 1 by omega, List.replicate_succ, List.set_cons_zero, List.range_succ, List.map_append]
  simp [cellI]
def plcV (f : Int) : Array Value := (plcs f 32).toArray
theorem plcV_at (f : Int) {i : Nat} (h : i < 32) : (plcV f)[i]? = some (.int .i64 (plc f i)) := by
  unfold plcV plcs cellI
  simp [h]
theorem zK5 (f : Int) : (plcV f).size = 32 := by unfold plcV; simp [plcs]
theorem plcV_one (f : Int) : (plcV f).all (·.oneCell') = true := by
  rw [Array.all_eq_true_iff_forall_mem]
  intro v hv
  unfold plcV plcs at hv
  simp at hv
  obtain ⟨i, _, rfl⟩ := hv
  rfl
def putK (f u : Int) : Nat → Int
  | 0 => 0
  | k + 1 => putK f u k + (if 0 ≤ plc f k ∧ u / 2 ^ (plc f k).toNat % 2 = 1 then 2 ^ k else 0)
def getK (f w : Int) : Nat → Int
  | 0 => 0
  | k + 1 => getK f w k + (if 0 ≤ plc f k ∧ w / 2 ^ k % 2 = 1 then (if k = 31 then -(2 ^ (plc f k).toNat) else 2 ^ (plc f k).toNat) else 0)
theorem zr5 (f u : Int) (k : Nat) : putK f u (k + 1) = putK f u k + (if 0 ≤ plc f k ∧ u / 2 ^ (plc f k).toNat % 2 = 1 then 2 ^ k else 0) := rfl
theorem zn5 (f w : Int) (k : Nat) : getK f w (k + 1) = getK f w k + (if 0 ≤ plc f k ∧ w / 2 ^ k % 2 = 1 then (if k = 31 then -(2 ^ (plc f k).toNat) else 2 ^ (plc f k).toNat) else 0) := rfl
theorem zO3 (k : Nat) : (0 : Int) < 2 ^ k := Int.pow_pos (by decide)
theorem p2le {i j : Nat} (h : i ≤ j) : (2 : Int) ^ i ≤ 2 ^ j := by exact_mod_cast Nat.pow_le_pow_right (by decide : 0 < 2) h
theorem zi1 (f u : Int) (k : Nat) : 0 ≤ putK f u k ∧ putK f u k < 2 ^ k := by
  induction k with
  | zero => exact ⟨Int.le_refl _, Int.zero_lt_one⟩
  | succ k ih =>
    have h := zO3 k
    have e : (2 : Int) ^ (k + 1) = 2 * 2 ^ k := by rw [Int.pow_succ]; omega
    unfold putK
    rw [e]
    split <;> omega
theorem zX8 (f w : Int) (k : Nat) (hk : k ≤ 32) : -(2147483648 * (k : Int)) ≤ getK f w k ∧ getK f w k ≤ 2147483648 * k := by
  induction k with
  | zero => exact ⟨Int.le_refl _, Int.le_refl _⟩
  | succ k ih =>
    have ih := ih (by omega)
    have hp := zw7 f k (by omega)
    have h := zO3 (plc f k).toNat
    have h2 : (2 : Int) ^ (plc f k).toNat ≤ 2 ^ 31 := p2le (by omega)
    have e : (2 : Int) ^ 31 = 2147483648 := by decide
    rw [e] at h2
    unfold getK
    split
    · split <;> omega
    · omega
end Go.Proofs.YtmamblgpekafbaaGreatDoor
namespace Go.Proofs.YtmamblgpekafbaaGreatDoor
open Go.RowKit
theorem zS8 (x : Int) (hx : 0 ≤ x) (k : Nat) : x % 2 ^ (k + 1) = x % 2 ^ k + x / 2 ^ k % 2 * 2 ^ k := by
  obtain ⟨a, rfl⟩ := Int.eq_ofNat_of_zero_le hx
  have h := @Nat.mod_mul (2 ^ k) 2 a
  rw [← Nat.pow_succ] at h
  have h2 : ((a % 2 ^ (k + 1) : Nat) : Int) = ((a % 2 ^ k + 2 ^ k * (a / 2 ^ k % 2) : Nat) : Int) := congrArg _ h
  simp only [Int.natCast_add, Int.natCast_mul, Int.natCast_emod, Int.natCast_ediv, Int.natCast_pow, Int.cast_ofNat_Int] at h2
  rw [h2, Int.mul_comm]
theorem zI9 (x : Int) (_ : 0 ≤ x) (a n : Nat) : x / 2 ^ a / 2 ^ n = x / 2 ^ (a + n) := by
  rw [Int.pow_add, Int.ediv_ediv_of_nonneg (Int.le_of_lt (zO3 a))]
theorem bit_if (b c : Int) : (if b % 2 = 1 then c else 0) = b % 2 * c := by
  have : b % 2 = 0 ∨ b % 2 = 1 := by omega
  rcases this with h | h
  · rw [h, if_neg (by decide), Int.zero_mul]
  · rw [h, if_pos rfl, Int.one_mul]
section
variable {f : Int}
theorem zk4 {u : Int} (b n : Nat) (h : ∀ i, i < n → plc f (b + i) = -1) : putK f u (b + n) = putK f u b := by
  induction n with
  | zero => rfl
  | succ n ih =>
    rw [← Nat.add_assoc, zr5, h n (by omega), if_neg (fun g => absurd g.1 (by decide)), Int.add_zero]
    exact ih (fun i hi => h i (by omega))
theorem zk6 {w : Int} (b n : Nat) (h : ∀ i, i < n → plc f (b + i) = -1) : getK f w (b + n) = getK f w b := by
  induction n with
  | zero => rfl
  | succ n ih =>
    rw [← Nat.add_assoc, zn5, h n (by omega), if_neg (fun g => absurd g.1 (by decide)), Int.add_zero]
    exact ih (fun i hi => h i (by omega))
theorem zh9 {u : Int} (hu : 0 ≤ u) (b n a : Nat) (h : ∀ i, i < n → plc f (b + i) = ((a + i : Nat) : Int)) : putK f u (b + n) = putK f u b + u / 2 ^ a % 2 ^ n * 2 ^ b := by
  induction n with
  | zero => rw [Int.pow_zero, Int.emod_one, Int.zero_mul, Int.add_zero]; rfl
  | succ n ih =>
    have e : (if 0 ≤ ((a + n : Nat) : Int) ∧ u / 2 ^ (a + n) % 2 = 1 then (2 : Int) ^ (b + n) else 0) = u / 2 ^ (a + n) % 2 * 2 ^ (b + n) := by
      rw [← bit_if]
      by_cases g : u / 2 ^ (a + n) % 2 = 1
      · rw [if_pos ⟨by omega, g⟩, if_pos g]
      · rw [if_neg (fun k => g k.2), if_neg g]
    rw [← Nat.add_assoc, zr5, h n (by omega), Int.toNat_natCast, e, ih (fun i hi => h i (by omega)), zS8 _ (Int.ediv_nonneg hu (Int.le_of_lt (zO3 a))), zI9 u hu]
    generalize u / 2 ^ (a + n) % 2 = B
    rw [Int.add_mul, Int.pow_add, Int.mul_assoc B, Int.mul_comm (2 ^ n)]
    omega
theorem zi9 {w : Int} (hw : 0 ≤ w) (b n a : Nat) (hb : b + n ≤ 31) (h : ∀ i, i < n → plc f (b + i) = ((a + i : Nat) : Int)) : getK f w (b + n) = getK f w b + w / 2 ^ b % 2 ^ n * 2 ^ a := by
  induction n with
  | zero => rw [Int.pow_zero, Int.emod_one, Int.zero_mul, Int.add_zero]; rfl
  | succ n ih =>
    have e : (if 0 ≤ ((a + n : Nat) : Int) ∧ w / 2 ^ (b + n) % 2 = 1 then (if b + n = 31 then -((2 : Int) ^ (a + n)) else 2 ^ (a + n)) else 0) = w / 2 ^ (b + n) % 2 * 2 ^ (a + n) := by
      rw [← bit_if, if_neg (by omega : ¬ b + n = 31)]
      by_cases g : w / 2 ^ (b + n) % 2 = 1
      · rw [if_pos ⟨by omega, g⟩, if_pos g]
      · rw [if_neg (fun k => g k.2), if_neg g]
    rw [← Nat.add_assoc, zn5, h n (by omega), Int.toNat_natCast, e, ih (by omega) (fun i hi => h i (by omega)), zS8 _ (Int.ediv_nonneg hw (Int.le_of_lt (zO3 b))), zI9 w hw]
    generalize w / 2 ^ (b + n) % 2 = B
    rw [Int.add_mul, Int.pow_add, Int.mul_assoc B, Int.mul_comm (2 ^ n)]
    omega
theorem zr6 {w : Int} (a : Nat) (h : plc f 31 = (a : Int)) : getK f w 32 = getK f w 31 - w / 2 ^ 31 % 2 * 2 ^ a := by
  rw [show (32 : Nat) = 31 + 1 from rfl, zn5, h, Int.toNat_natCast, if_pos rfl]
  by_cases g : w / 2 ^ 31 % 2 = 1
  · rw [if_pos ⟨by omega, g⟩, g]; omega
  · rw [if_neg (fun k => g k.2), show w / 2 ^ 31 % 2 = 0 by omega]; omega
end
theorem put1 {u : Int} (hu : 0 ≤ u) : putK 1 u 32 = u % 4096 * 1048576 := by
  have h1 := zk4 (f := 1) (u := u) 0 20 (fun i hi => by have := zK4 rfl (0 + i); omega)
  have h2 := zh9 (f := 1) hu 20 12 0 (fun i hi => by have := zK4 rfl (20 + i); omega)
  rw [h2, h1, show putK 1 u 0 = 0 from rfl]; simp
theorem get1 {w : Int} (hw : 0 ≤ w) : getK 1 w 32 = w / 1048576 % 2048 - w / 2147483648 % 2 * 2048 := by
  have h1 := zk6 (f := 1) (w := w) 0 20 (fun i hi => by have := zK4 rfl (0 + i); omega)
  have h2 := zi9 (f := 1) hw 20 11 0 (by omega) (fun i hi => by have := zK4 rfl (20 + i); omega)
  have h3 := zr6 (f := 1) (w := w) 11 (by decide)
  rw [h3, h2, h1, show getK 1 w 0 = 0 from rfl]; simp
theorem put2 {u : Int} (hu : 0 ≤ u) : putK 2 u 32 = u % 32 * 128 + u / 32 % 128 * 33554432 := by
  have h0 := zk4 (f := 2) (u := u) 0 7 (fun i hi => by have := zr7 rfl (0 + i); omega)
  have h1 := zh9 (f := 2) hu 7 5 0 (fun i hi => by have := zr7 rfl (7 + i); omega)
  have h2 := zk4 (f := 2) (u := u) 12 13 (fun i hi => by have := zr7 rfl (12 + i); omega)
  have h3 := zh9 (f := 2) hu 25 7 5 (fun i hi => by have := zr7 rfl (25 + i); omega)
  rw [h3, h2, h1, h0, show putK 2 u 0 = 0 from rfl]; simp
theorem get2 {w : Int} (hw : 0 ≤ w) : getK 2 w 32 = w / 128 % 32 + w / 33554432 % 64 * 32 - w / 2147483648 % 2 * 2048 := by
  have h0 := zk6 (f := 2) (w := w) 0 7 (fun i hi => by have := zr7 rfl (0 + i); omega)
  have h1 := zi9 (f := 2) hw 7 5 0 (by omega) (fun i hi => by have := zr7 rfl (7 + i); omega)
  have h2 := zk6 (f := 2) (w := w) 12 13 (fun i hi => by have := zr7 rfl (12 + i); omega)
  have h3 := zi9 (f := 2) hw 25 6 5 (by omega) (fun i hi => by have := zr7 rfl (25 + i); omega)
  have ht := zr6 (f := 2) (w := w) 11 (by decide)
  rw [ht, h3, h2, h1, h0, show getK 2 w 0 = 0 from rfl]; simp
theorem put3 {u : Int} (hu : 0 ≤ u) : putK 3 u 32 = u / 2048 % 2 * 128 + u / 2 % 16 * 256 + u / 32 % 64 * 33554432 + u / 4096 % 2 * 2147483648 := by
  have h0 := zk4 (f := 3) (u := u) 0 7 (fun i hi => by have := zm6 rfl (0 + i); omega)
  have h1 := zh9 (f := 3) hu 7 1 11 (fun i hi => by have := zm6 rfl (7 + i); omega)
  have h2 := zh9 (f := 3) hu 8 4 1 (fun i hi => by have := zm6 rfl (8 + i); omega)
  have h3 := zk4 (f := 3) (u := u) 12 13 (fun i hi => by have := zm6 rfl (12 + i); omega)
  have h4 := zh9 (f := 3) hu 25 6 5 (fun i hi => by have := zm6 rfl (25 + i); omega)
  have h5 := zh9 (f := 3) hu 31 1 12 (fun i hi => by have := zm6 rfl (31 + i); omega)
  rw [h5, h4, h3, h2, h1, h0, show putK 3 u 0 = 0 from rfl]; simp
theorem get3 {w : Int} (hw : 0 ≤ w) : getK 3 w 32 = w / 128 % 2 * 2048 + w / 256 % 16 * 2 + w / 33554432 % 64 * 32 - w / 2147483648 % 2 * 4096 := by
  have h0 := zk6 (f := 3) (w := w) 0 7 (fun i hi => by have := zm6 rfl (0 + i); omega)
  have h1 := zi9 (f := 3) hw 7 1 11 (by omega) (fun i hi => by have := zm6 rfl (7 + i); omega)
  have h2 := zi9 (f := 3) hw 8 4 1 (by omega) (fun i hi => by have := zm6 rfl (8 + i); omega)
  have h3 := zk6 (f := 3) (w := w) 12 13 (fun i hi => by have := zm6 rfl (12 + i); omega)
  have h4 := zi9 (f := 3) hw 25 6 5 (by omega) (fun i hi => by have := zm6 rfl (25 + i); omega)
  have ht := zr6 (f := 3) (w := w) 12 (by decide)
  rw [ht, h4, h3, h2, h1, h0, show getK 3 w 0 = 0 from rfl]; simp
theorem put4 {u : Int} (hu : 0 ≤ u) : putK 4 u 32 = u / 4096 % 1048576 * 4096 := by
  have h0 := zk4 (f := 4) (u := u) 0 12 (fun i hi => by have := zH0 rfl (0 + i); omega)
  have h1 := zh9 (f := 4) hu 12 20 12 (fun i hi => by have := zH0 rfl (12 + i); omega)
  rw [h1, h0, show putK 4 u 0 = 0 from rfl]; simp
theorem get4 {w : Int} (hw : 0 ≤ w) : getK 4 w 32 = w / 4096 % 524288 * 4096 - w / 2147483648 % 2 * 2147483648 := by
  have h0 := zk6 (f := 4) (w := w) 0 12 (fun i hi => by have := zH0 rfl (0 + i); omega)
  have h1 := zi9 (f := 4) hw 12 19 12 (by omega) (fun i hi => by have := zH0 rfl (12 + i); omega)
  have ht := zr6 (f := 4) (w := w) 31 (by decide)
  rw [ht, h1, h0, show getK 4 w 0 = 0 from rfl]; simp
theorem put5 {u : Int} (hu : 0 ≤ u) : putK 5 u 32 = u / 4096 % 256 * 4096 + u / 2048 % 2 * 1048576 + u / 2 % 1024 * 2097152 + u / 1048576 % 2 * 2147483648 := by
  have h0 := zk4 (f := 5) (u := u) 0 12 (fun i hi => by have := zp5 rfl (0 + i); omega)
  have h1 := zh9 (f := 5) hu 12 8 12 (fun i hi => by have := zp5 rfl (12 + i); omega)
  have h2 := zh9 (f := 5) hu 20 1 11 (fun i hi => by have := zp5 rfl (20 + i); omega)
  have h3 := zh9 (f := 5) hu 21 10 1 (fun i hi => by have := zp5 rfl (21 + i); omega)
  have h4 := zh9 (f := 5) hu 31 1 20 (fun i hi => by have := zp5 rfl (31 + i); omega)
  rw [h4, h3, h2, h1, h0, show putK 5 u 0 = 0 from rfl]; simp
theorem get5 {w : Int} (hw : 0 ≤ w) : getK 5 w 32 = w / 4096 % 256 * 4096 + w / 1048576 % 2 * 2048 + w / 2097152 % 1024 * 2 - w / 2147483648 % 2 * 1048576 := by
  have h0 := zk6 (f := 5) (w := w) 0 12 (fun i hi => by have := zp5 rfl (0 + i); omega)
  have h1 := zi9 (f := 5) hw 12 8 12 (by omega) (fun i hi => by have := zp5 rfl (12 + i); omega)
  have h2 := zi9 (f := 5) hw 20 1 11 (by omega) (fun i hi => by have := zp5 rfl (20 + i); omega)
  have h3 := zi9 (f := 5) hw 21 10 1 (by omega) (fun i hi => by have := zp5 rfl (21 + i); omega)
  have ht := zr6 (f := 5) (w := w) 20 (by decide)
  rw [ht, h3, h2, h1, h0, show getK 5 w 0 = 0 from rfl]; simp
end Go.Proofs.YtmamblgpekafbaaGreatDoor
namespace Go.Proofs.YtmamblgpekafbaaGreatDoor
open Go.RowKit
def May (f x : Int) : Prop :=
  ((f = 1 ∨ f = 2) ∧ -2048 ≤ x ∧ x ≤ 2047) ∨ (f = 3 ∧ -4096 ≤ x ∧ x ≤ 4095 ∧ x % 2 = 0) ∨ (f = 4 ∧ -2147483648 ≤ x ∧ x ≤ 2147483647 ∧ x % 4096 = 0) ∨ (f = 5 ∧ -1048576 ≤ x ∧ x ≤ 1048575 ∧ x % 2 = 0)
instance (f x : Int) : Decidable (May f x) := by unfold May; infer_instance
def mayB (f x : Int) : Bool := decide (May f x)
theorem mayB_eq {f x : Int} {c : Bool} (h : c = true ↔ May f x) : c = mayB f x := by
  unfold mayB; rw [Bool.eq_iff_iff, h, decide_eq_true_eq]
end Go.Proofs.YtmamblgpekafbaaGreatDoor
namespace Go.Proofs.YtmamblgpekafbaaGreatDoor
open Go.RowKit
def zm2 (f : Nat) (w : Int) : Int := if f = 1 then w / 1048576 * 1048576 else if f = 2 ∨ f = 3 then w / 33554432 * 33554432 + w / 128 % 32 * 128 else w / 4096 * 4096
def zv1 (f : Nat) (o : Int) : Int := if f = 1 then o % 1048576 else if f = 2 ∨ f = 3 then o / 4096 % 8192 * 4096 + o % 128 else o % 4096
theorem fmt5 {f : Nat} (h1 : 1 ≤ f) (h2 : f ≤ 5) : f = 1 ∨ f = 2 ∨ f = 3 ∨ f = 4 ∨ f = 5 := by omega
theorem gp2 {x a b : Int} (ha : 0 ≤ a ∧ a < 32) (hb : 0 ≤ b ∧ b < 128) (hx : x = a + 32 * b - 4096 * (b / 64)) {P : Int} (hP : P = a * 128 + b * 33554432) :
    P / 128 % 32 + P / 33554432 % 64 * 32 - P / 2147483648 % 2 * 2048 = x ∧ P / 4096 % 8192 * 4096 + P % 128 = 0 := by
  have e1 : P / 128 % 32 = a := by omega
  have e2 : P / 33554432 % 64 = b % 64 := by omega
  have e3 : P / 2147483648 % 2 = b / 64 := by omega
  have e4 : P / 4096 % 8192 = 0 := by omega
  have e5 : P % 128 = 0 := by omega
  rw [e1, e2, e3, e4, e5]; constructor <;> omega
theorem gp3 {x a b c d : Int} (ha : 0 ≤ a ∧ a < 2) (hb : 0 ≤ b ∧ b < 16) (hc : 0 ≤ c ∧ c < 64) (hd : 0 ≤ d ∧ d < 2) (hx : x = a * 2048 + b * 2 + c * 32 - d * 4096) {P : Int} (hP : P = a * 128 + b * 256 + c * 33554432 + d * 2147483648) :
    P / 128 % 2 * 2048 + P / 256 % 16 * 2 + P / 33554432 % 64 * 32 - P / 2147483648 % 2 * 4096 = x ∧ P / 4096 % 8192 * 4096 + P % 128 = 0 := by
  have e1 : P / 128 % 2 = a := by omega
  have e2 : P / 256 % 16 = b := by omega
  have e3 : P / 33554432 % 64 = c := by omega
  have e6 : P / 2147483648 % 2 = d := by omega
  have e4 : P / 4096 % 8192 = 0 := by omega
  have e5 : P % 128 = 0 := by omega
  rw [e1, e2, e3, e4, e5, e6]; constructor <;> omega
theorem gp5 {x a b c d : Int} (ha : 0 ≤ a ∧ a < 256) (hb : 0 ≤ b ∧ b < 2) (hc : 0 ≤ c ∧ c < 1024) (hd : 0 ≤ d ∧ d < 2) (hx : x = a * 4096 + b * 2048 + c * 2 - d * 1048576) {P : Int} (hP : P = a * 4096 + b * 1048576 + c * 2097152 + d * 2147483648) :
    P / 4096 % 256 * 4096 + P / 1048576 % 2 * 2048 + P / 2097152 % 1024 * 2 - P / 2147483648 % 2 * 1048576 = x ∧ P % 4096 = 0 := by
  have e1 : P / 4096 % 256 = a := by omega
  have e2 : P / 1048576 % 2 = b := by omega
  have e3 : P / 2097152 % 1024 = c := by omega
  have e6 : P / 2147483648 % 2 = d := by omega
  have e5 : P % 4096 = 0 := by omega
  rw [e1, e2, e3, e5, e6]; constructor <;> omega
theorem zo0 {x : Int} (m : Int) (hm : 0 < m) (h0 : -m ≤ x) (h1 : x < m) (hM : m ≤ 2147483648) : ∃ q t : Int, (0 ≤ q ∧ q < 2) ∧ (0 ≤ t ∧ t < m) ∧ x = t - m * q ∧ x % 18446744073709551616 = t + (18446744073709551616 - m) * q := by
  by_cases hneg : x < 0
  · exact ⟨1, x + m, by omega, by omega, by omega, by omega⟩
  · exact ⟨0, x, by omega, by omega, by omega, by omega⟩
theorem gpx1 {x : Int} (h0 : -2048 ≤ x) (h1 : x < 2048) : getK 1 (putK 1 (x % 18446744073709551616) 32) 32 = x ∧ putK 1 (x % 18446744073709551616) 32 % 1048576 = 0 := by
  obtain ⟨q, t, hq, ht, hx, hu⟩ := zo0 2048 (by decide) h0 h1 (by decide)
  rw [hu]
  have hp := (zi1 1 (t + (18446744073709551616 - 2048) * q) 32).1
  have e := put1 (u := t + (18446744073709551616 - 2048) * q) (by omega)
  have u1 : (t + (18446744073709551616 - 2048) * q) % 4096 = t + 2048 * q := by omega
  rw [u1] at e
  have g := get1 hp
  generalize putK 1 (t + (18446744073709551616 - 2048) * q) 32 = P at *
  rw [g]
  clear g u1 hu h0 h1 hp
  have e1 : P / 1048576 % 2048 = t := by omega
  have e2 : P / 2147483648 % 2 = q := by omega
  rw [e1, e2]
  constructor <;> omega
theorem gpx2 {x : Int} (h0 : -2048 ≤ x) (h1 : x < 2048) : getK 2 (putK 2 (x % 18446744073709551616) 32) 32 = x ∧ putK 2 (x % 18446744073709551616) 32 / 4096 % 8192 * 4096 + putK 2 (x % 18446744073709551616) 32 % 128 = 0 := by
  obtain ⟨q, t, hq, ht, hx, hu⟩ := zo0 2048 (by decide) h0 h1 (by decide)
  rw [hu]
  have hp := (zi1 2 (t + (18446744073709551616 - 2048) * q) 32).1
  have e := put2 (u := t + (18446744073709551616 - 2048) * q) (by omega)
  have u1 : (t + (18446744073709551616 - 2048) * q) % 32 = t % 32 := by omega
  have u2 : (t + (18446744073709551616 - 2048) * q) / 32 % 128 = t / 32 + 64 * q := by omega
  rw [u1, u2] at e
  have g := get2 hp
  generalize putK 2 (t + (18446744073709551616 - 2048) * q) 32 = P at *
  rw [g]
  clear g u1 u2 hu h0 h1 hp
  exact gp2 (by omega) (by omega) (by omega) e
theorem gpx3 {x : Int} (h0 : -4096 ≤ x) (h1 : x < 4096) (h2 : x % 2 = 0) : getK 3 (putK 3 (x % 18446744073709551616) 32) 32 = x ∧ putK 3 (x % 18446744073709551616) 32 / 4096 % 8192 * 4096 + putK 3 (x % 18446744073709551616) 32 % 128 = 0 := by
  obtain ⟨q, t, hq, ht, hx, hu⟩ := zo0 4096 (by decide) h0 h1 (by decide)
  obtain ⟨s, rfl⟩ : ∃ s, t = 2 * s := ⟨t / 2, by omega⟩
  rw [hu]
  have hp := (zi1 3 (2 * s + (18446744073709551616 - 4096) * q) 32).1
  have e := put3 (u := 2 * s + (18446744073709551616 - 4096) * q) (by omega)
  have u1 : (2 * s + (18446744073709551616 - 4096) * q) / 2048 % 2 = s / 1024 := by omega
  have u2 : (2 * s + (18446744073709551616 - 4096) * q) / 2 % 16 = s % 16 := by omega
  have u3 : (2 * s + (18446744073709551616 - 4096) * q) / 32 % 64 = s / 16 % 64 := by omega
  have u4 : (2 * s + (18446744073709551616 - 4096) * q) / 4096 % 2 = q := by omega
  rw [u1, u2, u3, u4] at e
  have g := get3 hp
  generalize putK 3 (2 * s + (18446744073709551616 - 4096) * q) 32 = P at *
  rw [g]
  clear g u1 u2 u3 u4 hu h0 h1 h2 hp
  exact gp3 (by omega) (by omega) (by omega) hq (by omega) e
theorem gpx4 {x : Int} (h0 : -2147483648 ≤ x) (h1 : x < 2147483648) (h2 : x % 4096 = 0) : getK 4 (putK 4 (x % 18446744073709551616) 32) 32 = x ∧ putK 4 (x % 18446744073709551616) 32 % 4096 = 0 := by
  obtain ⟨q, t, hq, ht, hx, hu⟩ := zo0 2147483648 (by decide) h0 h1 (by decide)
  obtain ⟨s, rfl⟩ : ∃ s, t = 4096 * s := ⟨t / 4096, by omega⟩
  rw [hu]
  have hp := (zi1 4 (4096 * s + (18446744073709551616 - 2147483648) * q) 32).1
  have e := put4 (u := 4096 * s + (18446744073709551616 - 2147483648) * q) (by omega)
  have u1 : (4096 * s + (18446744073709551616 - 2147483648) * q) / 4096 % 1048576 = s + 524288 * q := by omega
  rw [u1] at e
  have g := get4 hp
  generalize putK 4 (4096 * s + (18446744073709551616 - 2147483648) * q) 32 = P at *
  rw [g]
  clear g u1 hu h0 h1 h2 hp
  have e1 : P / 4096 % 524288 = s := by omega
  have e2 : P / 2147483648 % 2 = q := by omega
  rw [e1, e2]
  constructor <;> omega
theorem gpx5 {x : Int} (h0 : -1048576 ≤ x) (h1 : x < 1048576) (h2 : x % 2 = 0) : getK 5 (putK 5 (x % 18446744073709551616) 32) 32 = x ∧ putK 5 (x % 18446744073709551616) 32 % 4096 = 0 := by
  obtain ⟨q, t, hq, ht, hx, hu⟩ := zo0 1048576 (by decide) h0 h1 (by decide)
  obtain ⟨s, rfl⟩ : ∃ s, t = 2 * s := ⟨t / 2, by omega⟩
  rw [hu]
  have hp := (zi1 5 (2 * s + (18446744073709551616 - 1048576) * q) 32).1
  have e := put5 (u := 2 * s + (18446744073709551616 - 1048576) * q) (by omega)
  have u1 : (2 * s + (18446744073709551616 - 1048576) * q) / 4096 % 256 = s / 2048 := by omega
  have u2 : (2 * s + (18446744073709551616 - 1048576) * q) / 2048 % 2 = s / 1024 % 2 := by omega
  have u3 : (2 * s + (18446744073709551616 - 1048576) * q) / 2 % 1024 = s % 1024 := by omega
  have u4 : (2 * s + (18446744073709551616 - 1048576) * q) / 1048576 % 2 = q := by omega
  rw [u1, u2, u3, u4] at e
  have g := get5 hp
  generalize putK 5 (2 * s + (18446744073709551616 - 1048576) * q) 32 = P at *
  rw [g]
  clear g u1 u2 u3 u4 hu h0 h1 h2 hp
  exact gp5 (by omega) (by omega) (by omega) hq (by omega) e
theorem zw8 {t q m : Int} (hq : 0 ≤ q ∧ q < 2) (ht : 0 ≤ t ∧ t < m) (hm : m ≤ 2147483648) {x : Int} (hx : x = t - m * q) : x % 18446744073709551616 = t + (18446744073709551616 - m) * q := by
  have h : q = 0 ∨ q = 1 := by omega
  rcases h with rfl | rfl <;> omega
theorem pgx1 {w : Int} (w0 : 0 ≤ w) (w1 : w < 4294967296) : (-2048 ≤ getK 1 w 32 ∧ getK 1 w 32 ≤ 2047) ∧ putK 1 (getK 1 w 32 % 18446744073709551616) 32 = w / 1048576 * 1048576 := by
  have g := get1 w0
  obtain ⟨v, hv⟩ : ∃ v, w / 1048576 = v := ⟨_, rfl⟩
  have hv0 : 0 ≤ v ∧ v < 4096 := by omega
  have e2 : w / 2147483648 % 2 = v / 2048 := by omega
  rw [hv] at g ⊢
  rw [e2] at g
  clear e2 hv w0 w1
  generalize getK 1 w 32 = x at *
  have hu := zw8 (t := v % 2048) (q := v / 2048) (m := 2048) (by omega) (by omega) (by decide) (x := x) (by omega)
  have e := put1 (u := x % 18446744073709551616) (by omega)
  have e3 : x % 18446744073709551616 % 4096 = v := by omega
  rw [e3] at e
  exact ⟨by omega, e⟩
theorem pgx2 {w : Int} (w0 : 0 ≤ w) (w1 : w < 4294967296) : (-2048 ≤ getK 2 w 32 ∧ getK 2 w 32 ≤ 2047) ∧ putK 2 (getK 2 w 32 % 18446744073709551616) 32 = w / 33554432 * 33554432 + w / 128 % 32 * 128 := by
  have g := get2 w0
  obtain ⟨b, hb⟩ : ∃ b, w / 33554432 = b := ⟨_, rfl⟩
  have hb0 : 0 ≤ b ∧ b < 128 := by omega
  have e2 : w / 2147483648 % 2 = b / 64 := by omega
  obtain ⟨a, ha⟩ : ∃ a, w / 128 % 32 = a := ⟨_, rfl⟩
  have ha0 : 0 ≤ a ∧ a < 32 := by omega
  rw [hb, ha] at g ⊢
  rw [e2] at g
  clear e2 hb ha w0 w1
  generalize getK 2 w 32 = x at *
  have hu := zw8 (t := a + b % 64 * 32) (q := b / 64) (m := 2048) (by omega) (by omega) (by decide) (x := x) (by omega)
  have e := put2 (u := x % 18446744073709551616) (by omega)
  rw [hu] at e ⊢
  clear hu
  have e3 : (a + b % 64 * 32 + (18446744073709551616 - 2048) * (b / 64)) % 32 = a := by omega
  have e4 : (a + b % 64 * 32 + (18446744073709551616 - 2048) * (b / 64)) / 32 % 128 = b := by omega
  rw [e3, e4] at e
  exact ⟨by omega, by omega⟩
theorem pgx3 {w : Int} (w0 : 0 ≤ w) (w1 : w < 4294967296) : (-4096 ≤ getK 3 w 32 ∧ getK 3 w 32 ≤ 4095 ∧ getK 3 w 32 % 2 = 0) ∧ putK 3 (getK 3 w 32 % 18446744073709551616) 32 = w / 33554432 * 33554432 + w / 128 % 32 * 128 := by
  have g := get3 w0
  have k1 : w / 33554432 = w / 33554432 % 64 + 64 * (w / 2147483648 % 2) := by omega
  have k2 : w / 128 % 32 = w / 128 % 2 + 2 * (w / 256 % 16) := by omega
  rw [k1, k2]
  clear k1 k2
  obtain ⟨a, ha⟩ : ∃ a, w / 128 % 2 = a := ⟨_, rfl⟩
  obtain ⟨b, hb⟩ : ∃ b, w / 256 % 16 = b := ⟨_, rfl⟩
  obtain ⟨c, hc⟩ : ∃ c, w / 33554432 % 64 = c := ⟨_, rfl⟩
  obtain ⟨q, hq⟩ : ∃ q, w / 2147483648 % 2 = q := ⟨_, rfl⟩
  have ha0 : 0 ≤ a ∧ a < 2 := by omega
  have hb0 : 0 ≤ b ∧ b < 16 := by omega
  have hc0 : 0 ≤ c ∧ c < 64 := by omega
  have hq0 : 0 ≤ q ∧ q < 2 := by omega
  rw [ha, hb, hc, hq] at g ⊢
  clear ha hb hc hq w0 w1
  generalize getK 3 w 32 = x at *
  have hu := zw8 (t := a * 2048 + b * 2 + c * 32) (q := q) (m := 4096) hq0 (by omega) (by decide) (x := x) (by omega)
  have e := put3 (u := x % 18446744073709551616) (by omega)
  rw [hu] at e ⊢
  clear hu
  have e3 : (a * 2048 + b * 2 + c * 32 + (18446744073709551616 - 4096) * q) / 2048 % 2 = a := by omega
  have e4 : (a * 2048 + b * 2 + c * 32 + (18446744073709551616 - 4096) * q) / 2 % 16 = b := by omega
  have e5 : (a * 2048 + b * 2 + c * 32 + (18446744073709551616 - 4096) * q) / 32 % 64 = c := by omega
  have e6 : (a * 2048 + b * 2 + c * 32 + (18446744073709551616 - 4096) * q) / 4096 % 2 = q := by omega
  rw [e3, e4, e5, e6] at e
  clear e3 e4 e5 e6
  exact ⟨by omega, by omega⟩
theorem pgx4 {w : Int} (w0 : 0 ≤ w) (w1 : w < 4294967296) : (-2147483648 ≤ getK 4 w 32 ∧ getK 4 w 32 ≤ 2147483647 ∧ getK 4 w 32 % 4096 = 0) ∧ putK 4 (getK 4 w 32 % 18446744073709551616) 32 = w / 4096 * 4096 := by
  have g := get4 w0
  obtain ⟨v, hv⟩ : ∃ v, w / 4096 = v := ⟨_, rfl⟩
  have hv0 : 0 ≤ v ∧ v < 1048576 := by omega
  have e2 : w / 2147483648 % 2 = v / 524288 := by omega
  rw [hv] at g ⊢
  rw [e2] at g
  clear e2 hv w0 w1
  generalize getK 4 w 32 = x at *
  have hu := zw8 (t := v % 524288 * 4096) (q := v / 524288) (m := 2147483648) (by omega) (by omega) (by decide) (x := x) (by omega)
  have e := put4 (u := x % 18446744073709551616) (by omega)
  rw [hu] at e ⊢
  clear hu
  have e3 : (v % 524288 * 4096 + (18446744073709551616 - 2147483648) * (v / 524288)) / 4096 % 1048576 = v := by omega
  rw [e3] at e
  exact ⟨by omega, e⟩
theorem pgx5 {w : Int} (w0 : 0 ≤ w) (w1 : w < 4294967296) : (-1048576 ≤ getK 5 w 32 ∧ getK 5 w 32 ≤ 1048575 ∧ getK 5 w 32 % 2 = 0) ∧ putK 5 (getK 5 w 32 % 18446744073709551616) 32 = w / 4096 * 4096 := by
  have g := get5 w0
  have k1 : w / 4096 * 4096 = w / 4096 % 256 * 4096 + w / 1048576 % 2 * 1048576 + w / 2097152 % 1024 * 2097152 + w / 2147483648 % 2 * 2147483648 := by omega
  rw [k1]
  clear k1
  obtain ⟨a, ha⟩ : ∃ a, w / 4096 % 256 = a := ⟨_, rfl⟩
  obtain ⟨b, hb⟩ : ∃ b, w / 1048576 % 2 = b := ⟨_, rfl⟩
  obtain ⟨c, hc⟩ : ∃ c, w / 2097152 % 1024 = c := ⟨_, rfl⟩
  obtain ⟨q, hq⟩ : ∃ q, w / 2147483648 % 2 = q := ⟨_, rfl⟩
  have ha0 : 0 ≤ a ∧ a < 256 := by omega
  have hb0 : 0 ≤ b ∧ b < 2 := by omega
  have hc0 : 0 ≤ c ∧ c < 1024 := by omega
  have hq0 : 0 ≤ q ∧ q < 2 := by omega
  rw [ha, hb, hc, hq] at g ⊢
  clear ha hb hc hq w0 w1
  generalize getK 5 w 32 = x at *
  have hu := zw8 (t := a * 4096 + b * 2048 + c * 2) (q := q) (m := 1048576) hq0 (by omega) (by decide) (x := x) (by omega)
  have e := put5 (u := x % 18446744073709551616) (by omega)
  rw [hu] at e ⊢
  clear hu
  have e3 : (a * 4096 + b * 2048 + c * 2 + (18446744073709551616 - 1048576) * q) / 4096 % 256 = a := by omega
  have e4 : (a * 4096 + b * 2048 + c * 2 + (18446744073709551616 - 1048576) * q) / 2048 % 2 = b := by omega
  have e5 : (a * 4096 + b * 2048 + c * 2 + (18446744073709551616 - 1048576) * q) / 2 % 1024 = c := by omega
  have e6 : (a * 4096 + b * 2048 + c * 2 + (18446744073709551616 - 1048576) * q) / 1048576 % 2 = q := by omega
  rw [e3, e4, e5, e6] at e
  clear e3 e4 e5 e6
  exact ⟨by omega, by omega⟩
theorem or_disj {x y : Nat} (hx : x < 4294967296) (hy : y < 4294967296) (h : x &&& y = 0) : x ||| y = x + y := by
  have hz : BitVec.ofNat 64 x &&& BitVec.ofNat 64 y = 0#64 := by
    apply BitVec.eq_of_toNat_eq
    rw [BitVec.toNat_and, BitVec.toNat_ofNat, BitVec.toNat_ofNat, Nat.mod_eq_of_lt (by omega), Nat.mod_eq_of_lt (by omega), h]; rfl
  have := congrArg BitVec.toNat (BitVec.add_eq_or_of_and_eq_zero _ _ hz)
  rw [BitVec.toNat_add, BitVec.toNat_or, BitVec.toNat_ofNat, BitVec.toNat_ofNat, Nat.mod_eq_of_lt (a := x) (by omega), Nat.mod_eq_of_lt (a := y) (by omega), Nat.mod_eq_of_lt (by omega)] at this
  exact this.symm
theorem Zd5 {f : Nat} (h1 : 1 ≤ f) (h2 : f ≤ 5) {w o : Int} (w0 : 0 ≤ w) (w1 : w < 4294967296) (_ : 0 ≤ o) :
    (0 ≤ zm2 f w + zv1 f o ∧ zm2 f w + zv1 f o < 4294967296) ∧ getK f (zm2 f w + zv1 f o) 32 = getK f w 32 := by
  unfold zm2 zv1
  rcases fmt5 h1 h2 with rfl | rfl | rfl | rfl | rfl
  · rw [if_pos rfl, if_pos rfl]
    obtain ⟨r, hr⟩ : ∃ r, w / 1048576 * 1048576 + o % 1048576 = r := ⟨_, rfl⟩
    have r0 : 0 ≤ r ∧ r < 4294967296 := by omega
    have e : r / 1048576 = w / 1048576 := by omega
    have e2 : r / 2147483648 = w / 2147483648 := by omega
    rw [hr]
    refine ⟨r0, ?_⟩
    have g1 : getK (1 : Nat) r 32 = _ := get1 r0.1
    have g2 : getK (1 : Nat) w 32 = _ := get1 w0
    rw [g1, g2, e, e2]
  · rw [if_neg (by decide), if_pos (by decide), if_neg (by decide), if_pos (by decide)]
    obtain ⟨B, hB⟩ : ∃ B, w / 33554432 = B := ⟨_, rfl⟩
    obtain ⟨A, hA⟩ : ∃ A, w / 128 % 32 = A := ⟨_, rfl⟩
    obtain ⟨C, hC⟩ : ∃ C, o / 4096 % 8192 = C := ⟨_, rfl⟩
    obtain ⟨D, hD⟩ : ∃ D, o % 128 = D := ⟨_, rfl⟩
    have b0 : 0 ≤ B ∧ B < 128 := by omega
    have a0 : 0 ≤ A ∧ A < 32 := by omega
    have c0 : 0 ≤ C ∧ C < 8192 := by omega
    have d0 : 0 ≤ D ∧ D < 128 := by omega
    have q : w / 2147483648 = B / 64 := by omega
    have g2 : getK (2 : Nat) w 32 = _ := get2 w0
    rw [g2, hB, hA, hC, hD, q]
    clear g2 hB hA hC hD q w0 w1
    obtain ⟨r, hr⟩ : ∃ r, B * 33554432 + A * 128 + (C * 4096 + D) = r := ⟨_, rfl⟩
    rw [hr]
    have r0 : 0 ≤ r ∧ r < 4294967296 := by omega
    refine ⟨r0, ?_⟩
    have e1 : r / 33554432 = B := by omega
    have e2 : r / 128 % 32 = A := by omega
    have e3 : r / 2147483648 = B / 64 := by omega
    have g1 : getK (2 : Nat) r 32 = _ := get2 r0.1
    rw [g1, e1, e2, e3]
  · rw [if_neg (by decide), if_pos (by decide), if_neg (by decide), if_pos (by decide)]
    obtain ⟨B, hB⟩ : ∃ B, w / 33554432 = B := ⟨_, rfl⟩
    obtain ⟨A, hA⟩ : ∃ A, w / 128 % 32 = A := ⟨_, rfl⟩
    obtain ⟨C, hC⟩ : ∃ C, o / 4096 % 8192 = C := ⟨_, rfl⟩
    obtain ⟨D, hD⟩ : ∃ D, o % 128 = D := ⟨_, rfl⟩
    have b0 : 0 ≤ B ∧ B < 128 := by omega
    have a0 : 0 ≤ A ∧ A < 32 := by omega
    have c0 : 0 ≤ C ∧ C < 8192 := by omega
    have d0 : 0 ≤ D ∧ D < 128 := by omega
    have q : w / 2147483648 = B / 64 := by omega
    have p1 : w / 128 % 2 = A % 2 := by omega
    have p2 : w / 256 % 16 = A / 2 := by omega
    have g2 : getK (3 : Nat) w 32 = _ := get3 w0
    rw [g2, hB, hA, hC, hD, q, p1, p2]
    clear g2 hB hA hC hD q p1 p2 w0 w1
    obtain ⟨r, hr⟩ : ∃ r, B * 33554432 + A * 128 + (C * 4096 + D) = r := ⟨_, rfl⟩
    rw [hr]
    have r0 : 0 ≤ r ∧ r < 4294967296 := by omega
    refine ⟨r0, ?_⟩
    have e1 : r / 33554432 = B := by omega
    have e2 : r / 128 % 2 = A % 2 := by omega
    have e4 : r / 256 % 16 = A / 2 := by omega
    have e3 : r / 2147483648 = B / 64 := by omega
    have g1 : getK (3 : Nat) r 32 = _ := get3 r0.1
    rw [g1, e1, e2, e3, e4]
  · rw [if_neg (by decide), if_neg (by decide), if_neg (by decide), if_neg (by decide)]
    obtain ⟨r, hr⟩ : ∃ r, w / 4096 * 4096 + o % 4096 = r := ⟨_, rfl⟩
    have r0 : 0 ≤ r ∧ r < 4294967296 := by omega
    have e : r / 4096 = w / 4096 := by omega
    have e2 : r / 2147483648 = w / 2147483648 := by omega
    rw [hr]
    refine ⟨r0, ?_⟩
    have g1 : getK (4 : Nat) r 32 = _ := get4 r0.1
    have g2 : getK (4 : Nat) w 32 = _ := get4 w0
    rw [g1, g2, e, e2]
  · rw [if_neg (by decide), if_neg (by decide), if_neg (by decide), if_neg (by decide)]
    obtain ⟨r, hr⟩ : ∃ r, w / 4096 * 4096 + o % 4096 = r := ⟨_, rfl⟩
    have r0 : 0 ≤ r ∧ r < 4294967296 := by omega
    have e : r / 4096 = w / 4096 := by omega
    have e2 : r / 2147483648 = w / 2147483648 := by omega
    have e3 : r / 1048576 = w / 1048576 := by omega
    have e4 : r / 2097152 = w / 2097152 := by omega
    rw [hr]
    refine ⟨r0, ?_⟩
    have g1 : getK (5 : Nat) r 32 = _ := get5 r0.1
    have g2 : getK (5 : Nat) w 32 = _ := get5 w0
    rw [g1, g2, e, e2, e3, e4]
theorem Zl2 {f : Nat} (h1 : 1 ≤ f) (h2 : f ≤ 5) {x : Int} (hm : May f x) : getK f (putK f (x % 18446744073709551616) 32) 32 = x ∧ zv1 f (putK f (x % 18446744073709551616) 32) = 0 := by
  unfold May at hm
  unfold zv1
  rcases fmt5 h1 h2 with rfl | rfl | rfl | rfl | rfl
  · rw [if_pos rfl]; exact gpx1 (by omega) (by omega)
  · rw [if_neg (by decide), if_pos (by decide)]; exact gpx2 (by omega) (by omega)
  · rw [if_neg (by decide), if_pos (by decide)]; exact gpx3 (by omega) (by omega) (by omega)
  · rw [if_neg (by decide), if_neg (by decide)]; exact gpx4 (by omega) (by omega) (by omega)
  · rw [if_neg (by decide), if_neg (by decide)]; exact gpx5 (by omega) (by omega) (by omega)
theorem zt1 {f : Nat} (h1 : 1 ≤ f) (h2 : f ≤ 5) {w : Int} (w0 : 0 ≤ w) (w1 : w < 4294967296) : May f (getK f w 32) ∧ putK f (getK f w 32 % 18446744073709551616) 32 = zm2 f w := by
  unfold May zm2
  rcases fmt5 h1 h2 with rfl | rfl | rfl | rfl | rfl
  · rw [if_pos rfl]; obtain ⟨g, e⟩ := pgx1 w0 w1; exact ⟨.inl ⟨.inl rfl, g.1, g.2⟩, e⟩
  · rw [if_neg (by decide), if_pos (by decide)]; obtain ⟨g, e⟩ := pgx2 w0 w1; exact ⟨.inl ⟨.inr rfl, g.1, g.2⟩, e⟩
  · rw [if_neg (by decide), if_pos (by decide)]; obtain ⟨g, e⟩ := pgx3 w0 w1; exact ⟨.inr (.inl ⟨rfl, g.1, g.2.1, g.2.2⟩), e⟩
  · rw [if_neg (by decide), if_neg (by decide)]; obtain ⟨g, e⟩ := pgx4 w0 w1; exact ⟨.inr (.inr (.inl ⟨rfl, g.1, g.2.1, g.2.2⟩)), e⟩
  · rw [if_neg (by decide), if_neg (by decide)]; obtain ⟨g, e⟩ := pgx5 w0 w1; exact ⟨.inr (.inr (.inr ⟨rfl, g.1, g.2.1, g.2.2⟩)), e⟩
end Go.Proofs.YtmamblgpekafbaaGreatDoor
namespace Go.Proofs.YtmamblgpekafbaaGreatDoor
open Go.RowKit
theorem ze9 (a b c : Int) (w : World) :
    Calls Tryz.prog 174 #[.agg #[.int .i64 a, .int .i64 b, .int .i64 c]] w fun e w' => e = .returned (.bool (a == 0)) ∧ Below w.heap.size w w' := by
  go_enter Tryz.func174, Tryz.ntmps174
  go_wp2
  go_ret
  exact ⟨rfl, (Below.refl _ _).alloc (Nat.le_refl _) _⟩
theorem zg8 (f : Int) (h : 1 ≤ f ∧ f ≤ 5) (w : World) :
    Calls Tryz.prog 166 #[.int .i64 f] w fun e w' => e = .returned (.bool true) ∧ w = w' := by
  obtain ⟨h1, h2⟩ := h
  go_enter Tryz.func166, Tryz.ntmps166
  go_wp2
  go_ret
  exact ⟨rfl, rfl⟩
theorem zF1 (f : Int) (h : ¬ (1 ≤ f ∧ f ≤ 5)) (w : World) :
    Calls Tryz.prog 166 #[.int .i64 f] w fun e w' => e = .returned (.bool false) ∧ w = w' := by
  by_cases h1 : 1 ≤ f
  · have h2 : ¬ f ≤ 5 := fun g => h ⟨h1, g⟩
    clear h
    go_enter Tryz.func166, Tryz.ntmps166
    go_wp2
    go_ret
    exact ⟨rfl, rfl⟩
  · clear h
    go_enter Tryz.func166, Tryz.ntmps166
    go_wp2
    go_ret
    exact ⟨rfl, rfl⟩
def tabL : List Int := [0,0,0,0,0,0,0,0,0,0,0,0, 31,20,0,0,0,0,0,0,0,0,0,0, 31,25,5,11,7,0,0,0,0,0,0,0, 31,31,12,7,7,11,30,25,5,11,8,1, 31,12,12,0,0,0,0,0,0,0,0,0, 31,31,20,19,12,12,20,20,11,30,21,1]
def Tab (w : World) : Prop := ∀ i, i < 72 → w.cell? ⟨3, i, none⟩ = some (.int .i64 (tabL.getD i 0))
theorem Tab.below {W w : World} (h : Tab W) (hb : Below W.heap.size W w) (hz : 3 < W.heap.size) : Tab w := fun i hi => by
  rw [hb.cell (p := ⟨3, i, none⟩) hz]; exact h i hi
theorem zQ8 {a p : Nat} (lo n : Nat) (h : a / 2 ^ lo % 2 ^ n = 0) (hp : p < 2 ^ n) : a &&& (p * 2 ^ lo) = 0 := by
  apply Nat.eq_of_testBit_eq
  intro i
  rw [Nat.testBit_and, Nat.testBit_mul_two_pow, Nat.zero_testBit]
  by_cases h1 : lo ≤ i
  · by_cases h2 : i - lo < n
    · have := congrArg (fun x => Nat.testBit x (i - lo)) h
      simp only [Nat.testBit_mod_two_pow, Nat.testBit_div_two_pow, Nat.zero_testBit] at this
      rw [Nat.sub_add_cancel h1] at this
      simp [h2] at this
      rw [this]; rfl
    · rw [Nat.testBit_lt_two_pow (Nat.lt_of_lt_of_le hp (Nat.pow_le_pow_right (by decide) (by omega)))]; simp
  · simp [h1]
end Go.Proofs.YtmamblgpekafbaaGreatDoor
