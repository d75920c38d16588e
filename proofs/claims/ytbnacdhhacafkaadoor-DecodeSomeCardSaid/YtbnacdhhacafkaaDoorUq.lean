/- A word is one operation's at most; a fence's ignored bits. Plain. -/
import Derived.Test.YtbnacdhhacafkaaDoorDi
import Derived.Laws.BitsAllLaws
import Derived.Laws.Closers25b
namespace Go.Proofs.YtbnacdhhacafkaaDoor
open Go.RowKit

/-- Two operations' words part. -/
def clash (j k : Int) : Bool :=
  decide (ocV j ≠ ocV k) || decide (1 ≤ kdV j ∧ kdV j ≤ 5 ∧ 1 ≤ kdV k ∧ kdV k ≤ 5 ∧ f3V j ≠ f3V k) || decide (kdV j = 2 ∧ kdV k = 2 ∧ agV j ≠ agV k) || decide (kdV j = 3 ∧ kdV k = 3 ∧ agV j ≠ agV k) ||
    decide (kdV j = 5 ∧ kdV k = 5 ∧ agV j ≠ agV k) || decide (kdV j = 4 ∧ kdV k = 5 ∧ agV k ≠ 2) || decide (kdV j = 5 ∧ kdV k = 4 ∧ agV j ≠ 2) || decide (kdV j = 6 ∧ kdV k = 7) || decide (kdV j = 7 ∧ kdV k = 6) || decide (kdV j = 8 ∧ kdV k = 9) || decide (kdV j = 9 ∧ kdV k = 8)
theorem clash_all : ∀ j k : Fin 75, j = k ∨ clash ((j.val : Int) + 1) ((k.val : Int) + 1) = true := by decide +kernel
structure Nrm (v oc kd f3 ag : Int) : Prop where
  n1 : v % 128 = oc
  n2 : 1 ≤ kd → kd ≤ 5 → v / 4096 % 8 = f3
  n3 : kd = 2 → v / 33554432 = ag
  n4 : kd = 3 → v / 33554432 / 2 = ag
  n5 : kd = 5 → v / 134217728 = ag
  n6 : kd = 4 → v / 134217728 = 2
  n7 : kd = 6 → v / 1048576 ≠ 2099
  n8 : kd = 7 → v / 1048576 = 2099
  n9 : kd = 8 → v = 115
  na : kd = 9 → v = 1048691
theorem Isw.nrm {v k : Int} (h : Isw v k) : Nrm v (ocV k) (kdV k) (f3V k) (agV k) := by
  unfold Isw at h
  obtain ⟨h1, h2⟩ := h
  generalize ocV k = a at *
  generalize kdV k = b at *
  generalize f3V k = c at *
  generalize agV k = d at *
  rcases h2 with h | ⟨h, h3⟩ | ⟨h, h3, h4⟩ | ⟨h, h3, h4⟩ | ⟨h, h3, h4, h5⟩ | ⟨h, h3, h4⟩ | ⟨h, h3, h4⟩ | ⟨h, h3, h4⟩ | ⟨h, h3⟩ | ⟨h, h3⟩
  all_goals
    subst h
    exact ⟨h1, fun _ _ => by first | omega | assumption, fun _ => by first | omega | assumption, fun _ => by first | omega | assumption, fun _ => by first | omega | assumption, fun _ => by first | omega | assumption, fun _ => by first | omega | assumption, fun _ => by first | omega | assumption, fun _ => by first | omega | assumption, fun _ => by first | omega | assumption⟩
theorem clash_no {v j k : Int} (hj : Isw v j) (hk : Isw v k) (h : clash j k = true) : False := by
  obtain ⟨a1, a2, a3, a4, a5, a6, a7, a8, a9, aa⟩ := hj.nrm
  obtain ⟨b1, b2, b3, b4, b5, b6, b7, b8, b9, ba⟩ := hk.nrm
  clear hj hk
  unfold clash at h
  simp only [Bool.or_eq_true, decide_eq_true_eq] at h
  generalize ocV j = oj at *
  generalize kdV j = kj at *
  generalize f3V j = fj at *
  generalize agV j = gj at *
  generalize ocV k = ok at *
  generalize kdV k = kk at *
  generalize f3V k = fk at *
  generalize agV k = gk at *
  rcases h with (((((((((h | ⟨h1, h2, h3, h4, h⟩) | ⟨rfl, rfl, h⟩) | ⟨rfl, rfl, h⟩) | ⟨rfl, rfl, h⟩) | ⟨rfl, rfl, h⟩) | ⟨rfl, rfl, h⟩) | ⟨rfl, rfl⟩) | ⟨rfl, rfl⟩) | ⟨rfl, rfl⟩) | ⟨rfl, rfl⟩
  · omega
  · have := a2 h1 h2; have := b2 h3 h4; omega
  · have := a3 rfl; have := b3 rfl; omega
  · have := a4 rfl; have := b4 rfl; omega
  · have := a5 rfl; have := b5 rfl; omega
  · have := a6 rfl; have := b5 rfl; omega
  · have := a5 rfl; have := b6 rfl; omega
  · exact a7 rfl (b8 rfl)
  · exact b7 rfl (a8 rfl)
  · have := a9 rfl; have := ba rfl; omega
  · have := aa rfl; have := b9 rfl; omega
/-- A word is one operation's at most. -/
theorem isw_uniq {v j k : Int} (j1 : 1 ≤ j ∧ j ≤ 75) (k1 : 1 ≤ k ∧ k ≤ 75) (hj : Isw v j) (hk : Isw v k) : j = k := by
  rcases clash_all ⟨j.toNat - 1, by omega⟩ ⟨k.toNat - 1, by omega⟩ with h | h
  · have : j.toNat - 1 = k.toNat - 1 := by injection h
    omega
  · simp only [show ((j.toNat - 1 : Nat) : Int) + 1 = j by omega, show ((k.toNat - 1 : Nat) : Int) + 1 = k by omega] at h
    exact (clash_no hj hk h).elim
theorem opK_zero {v : Int} : ∀ k : Nat, (∀ j : Nat, j < k → ¬ Isw v ((j : Int) + 1)) → opK v k = 0
  | 0, _ => rfl
  | k + 1, h => opK_no (opK_zero k fun j hj => h j (by omega)) (decide_eq_false (h k (by omega)))
theorem opW_is {v k : Int} (hk : 1 ≤ k ∧ k ≤ 75) (h : Isw v k) : opW v = k := by
  obtain ⟨n, rfl⟩ : ∃ n : Nat, k = (n : Int) + 1 := ⟨k.toNat - 1, by omega⟩
  refine opW_yes (by omega) (opK_zero n fun j hj hI => ?_) (decide_eq_true h)
  have := isw_uniq (v := v) (j := (j : Int) + 1) (by omega) hk hI h
  omega
theorem opW_none {v : Int} (h : ∀ k, 1 ≤ k ∧ k ≤ 75 → ¬ Isw v k) : opW v = 0 := opK_zero 75 fun j hj => h _ (by omega)
theorem opK_isw {v : Int} : ∀ k : Nat, k ≤ 75 → opK v k ≠ 0 → (1 ≤ opK v k ∧ opK v k ≤ 75) ∧ Isw v (opK v k)
  | 0, _, h => absurd rfl h
  | k + 1, hk, h => by
    have e : opK v (k + 1) = if opK v k = 0 then (if iswB v ((k : Int) + 1) then (k : Int) + 1 else 0) else opK v k := rfl
    by_cases h0 : opK v k = 0
    · rw [if_pos h0] at e
      cases hb : iswB v ((k : Int) + 1)
      · rw [hb] at e; exact absurd e h
      · rw [hb, if_pos rfl] at e
        rw [e]
        exact ⟨by omega, of_decide_eq_true hb⟩
    · rw [if_neg h0] at e
      rw [e]
      exact opK_isw k (by omega) h0
theorem opW_isw {v : Int} (h : opW v ≠ 0) : (1 ≤ opW v ∧ opW v ≤ 75) ∧ Isw v (opW v) := opK_isw 75 (Nat.le_refl _) h

/-- A fence's word out of any word's bits, and the same with ignored bits turned. -/
def fenV (v : Int) : Int := bits .or .u32 (bits .and .u32 v 267386880) 15
def ignV (v o : Int) : Int := bits .or .u32 (fenV v) (bits .and .u32 o 1019776)
theorem low_nat (a b : Nat) : ((a &&& 267386880) ||| 15) % 128 = 15 ∧ ((a &&& 267386880) ||| 15) / 4096 % 8 = 0 ∧ ((a &&& 267386880) ||| 15) / 1048576 ≤ 255 ∧
    (((a &&& 267386880) ||| 15) ||| (b &&& 1019776)) % 128 = 15 ∧ (((a &&& 267386880) ||| 15) ||| (b &&& 1019776)) / 4096 % 8 = 0 ∧ (((a &&& 267386880) ||| 15) ||| (b &&& 1019776)) / 1048576 = ((a &&& 267386880) ||| 15) / 1048576 := by
  have m (x y : Nat) : (x ||| y) % 2 ^ 7 = (x % 2 ^ 7) ||| (y % 2 ^ 7) := Nat.or_mod_two_pow
  have n (x y : Nat) : (x &&& y) % 2 ^ 7 = (x % 2 ^ 7) &&& (y % 2 ^ 7) := Nat.and_mod_two_pow
  have d (x y k : Nat) : (x ||| y) / 2 ^ k = (x / 2 ^ k) ||| (y / 2 ^ k) := Nat.or_div_two_pow
  have e (x y k : Nat) : (x &&& y) / 2 ^ k = (x / 2 ^ k) &&& (y / 2 ^ k) := Nat.and_div_two_pow
  have m3 (x y : Nat) : (x ||| y) % 2 ^ 3 = (x % 2 ^ 3) ||| (y % 2 ^ 3) := Nat.or_mod_two_pow
  have n3 (x y : Nat) : (x &&& y) % 2 ^ 3 = (x % 2 ^ 3) &&& (y % 2 ^ 3) := Nat.and_mod_two_pow
  have p1 : ((a &&& 267386880) ||| 15) % 2 ^ 7 = 15 := by rw [m, n]; simp
  have p2 : ((a &&& 267386880) ||| 15) / 2 ^ 12 % 2 ^ 3 = 0 := by rw [d, e, m3, n3]; simp
  have q1 : (b &&& 1019776) % 2 ^ 7 = 0 := by rw [n]; simp
  have q2 : (b &&& 1019776) / 2 ^ 12 % 2 ^ 3 = 0 := by rw [e, n3]; simp
  have q3 : (b &&& 1019776) / 2 ^ 20 = 0 := by rw [e]; simp
  refine ⟨p1, p2, ?_, ?_, ?_, ?_⟩
  · have h1 := d (a &&& 267386880) 15 20
    rw [e] at h1
    rw [show (1048576 : Nat) = 2 ^ 20 by decide, h1]
    simp
    exact Nat.and_le_right
  · have h1 := m ((a &&& 267386880) ||| 15) (b &&& 1019776)
    rw [p1, q1] at h1
    exact h1
  · have h1 := d ((a &&& 267386880) ||| 15) (b &&& 1019776) 12
    have h2 := m3 (((a &&& 267386880) ||| 15) / 2 ^ 12) ((b &&& 1019776) / 2 ^ 12)
    rw [p2, q2, ← h1] at h2
    exact h2
  · have h1 := d ((a &&& 267386880) ||| 15) (b &&& 1019776) 20
    rw [q3, Nat.or_zero] at h1
    exact h1
theorem fen_facts (v o : Int) (hv0 : 0 ≤ v) (hv1 : v < 4294967296) (ho0 : 0 ≤ o) (ho1 : o < 4294967296) :
    fenV v % 128 = 15 ∧ fenV v / 4096 % 8 = 0 ∧ fenV v / 1048576 ≤ 255 ∧ ignV v o % 128 = 15 ∧ ignV v o / 4096 % 8 = 0 ∧ ignV v o / 1048576 = fenV v / 1048576 := by
  obtain ⟨a, rfl⟩ := Int.eq_ofNat_of_zero_le hv0
  obtain ⟨b, rfl⟩ := Int.eq_ofNat_of_zero_le ho0
  have hA : a &&& 267386880 ≤ 267386880 := Nat.and_le_right
  have hB : b &&& 1019776 ≤ 1019776 := Nat.and_le_right
  have hF : (a &&& 267386880) ||| 15 < 2 ^ 28 := Nat.or_lt_two_pow (by omega) (by decide)
  have e1 : fenV (a : Int) = (((a &&& 267386880) ||| 15 : Nat) : Int) := by
    unfold fenV
    rw [u32_and _ _ (by omega) (by omega) (by decide) (by decide)]
    simp only [Int.toNat_natCast, Int.reduceToNat]
    exact u32_or_nat _ 15 (by omega) (by decide)
  have e2 : ignV (a : Int) (b : Int) = (((a &&& 267386880) ||| 15 ||| (b &&& 1019776) : Nat) : Int) := by
    unfold ignV
    rw [e1, u32_and _ _ (by omega) (by omega) (by decide) (by decide)]
    simp only [Int.toNat_natCast, Int.reduceToNat]
    exact u32_or_nat _ _ (by omega) (by omega)
  obtain ⟨h1, h2, h3, h4, h5, h6⟩ := low_nat a b
  rw [e1, e2]
  refine ⟨?_, ?_, ?_, ?_, ?_, ?_⟩ <;> omega
theorem isw_fence {x : Int} (h1 : x % 128 = 15) (h2 : x / 4096 % 8 = 0) (h3 : x / 1048576 ≤ 255) : Isw x 50 := by
  unfold Isw
  rw [show ocV 50 = 15 by decide, show kdV 50 = 6 by decide]
  omega
theorem ins_fence (x : Int) : insOf x 50 = ⟨50, 0, 0, 0, 0, false, false, x / 16777216 % 16, x / 1048576 % 16⟩ := rfl
end Go.Proofs.YtbnacdhhacafkaaDoor
