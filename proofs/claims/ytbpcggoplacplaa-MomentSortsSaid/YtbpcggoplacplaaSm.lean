/- The stable sort's steps on arrays, as relations: exchanging ranges, rotating, merging. Nothing here speaks of a program. -/
import Derived.Sort.Lot0
namespace Go.Proofs.Ytbpcggoplacplaa
open Go.Sort

theorem swp_get (d : Array Int) (i j k : Nat) (hi : i < d.size) (hj : j < d.size) : (swp d i j)[k]! = if k = j then d[i]! else if k = i then d[j]! else d[k]! := by
  by_cases h1 : k = j
  · rw [if_pos h1, h1]; exact swp_right d i j hj
  · rw [if_neg h1]
    by_cases h2 : k = i
    · rw [if_pos h2, h2]; exact swp_left d i j hi (by omega)
    · rw [if_neg h2]; exact swp_other d i j k h2 h1

/-- Places p up to p + n exchanged with those from q on. -/
def SwpR (p q n : Nat) (d d' : Array Int) : Prop := PermIn p (q + n) d d' ∧
  ∀ k, d'[k]! = if p ≤ k ∧ k < p + n then d[k + (q - p)]! else if q ≤ k ∧ k < q + n then d[k - (q - p)]! else d[k]!
theorem SwpR.zero (p q : Nat) (d : Array Int) : SwpR p q 0 d d := by
  refine ⟨permIn_refl _ _ _, fun k => ?_⟩
  rw [if_neg (by omega), if_neg (by omega)]
theorem SwpR.size {p q n : Nat} {d d' : Array Int} (h : SwpR p q n d d') : d'.size = d.size := h.1.1
theorem SwpR.step {p q n : Nat} {d d' : Array Int} (h : SwpR p q n d d') (hpq : p + n < q) (hq : q + n < d.size) : SwpR p q (n + 1) d (swp d' (p + n) (q + n)) := by
  have hs := h.size
  refine ⟨permIn_trans _ _ _ _ _ (permIn_mono _ _ _ _ _ _ (Nat.le_refl _) (by omega) (by omega) h.1) (swp_permIn _ _ _ _ _ (by omega) (by omega) (by omega) (by omega) (by omega)), fun k => ?_⟩
  rw [swp_get _ _ _ _ (by omega) (by omega)]
  by_cases h1 : k = q + n
  · rw [if_pos h1, h.2, if_neg (by omega), if_neg (by omega), if_neg (by omega), if_pos (by omega)]
    exact congrArg _ (by omega)
  · rw [if_neg h1]
    by_cases h2 : k = p + n
    · rw [if_pos h2, h.2, if_neg (by omega), if_neg (by omega), if_pos (by omega)]
      exact congrArg _ (by omega)
    · rw [if_neg h2, h.2]
      by_cases h3 : p ≤ k ∧ k < p + n
      · rw [if_pos h3, if_pos (by omega)]
      · rw [if_neg h3]
        by_cases h4 : q ≤ k ∧ k < q + n
        · rw [if_pos h4, if_neg (by omega), if_pos (by omega)]
        · rw [if_neg h4, if_neg (by omega), if_neg (by omega)]

/-- Places a up to m behind those from m up to b. -/
def RotR (a m b : Nat) (d d' : Array Int) : Prop := PermIn a b d d' ∧
  ∀ k, d'[k]! = if a ≤ k ∧ k < a + (b - m) then d[k + (m - a)]! else if a + (b - m) ≤ k ∧ k < b then d[k - (b - m)]! else d[k]!
theorem RotR.size {a m b : Nat} {d d' : Array Int} (h : RotR a m b d d') : d'.size = d.size := h.1.1
theorem RotR.one (a m : Nat) (_ : a ≤ m) (d : Array Int) : RotR a m m d d := by
  refine ⟨permIn_refl _ _ _, fun k => ?_⟩
  rw [if_neg (by omega)]
  by_cases h : a + (m - m) ≤ k ∧ k < m
  · rw [if_pos h]; exact congrArg _ (by omega)
  · rw [if_neg h]
theorem RotR.none (m b : Nat) (d : Array Int) : RotR m m b d d := by
  refine ⟨permIn_refl _ _ _, fun k => ?_⟩
  by_cases h : m ≤ k ∧ k < m + (b - m)
  · rw [if_pos h]; exact congrArg _ (by omega)
  · rw [if_neg h, if_neg (by omega)]
/-- One place goes on to the right: 'data[k], data[k+1] = data[k+1], data[k]'. -/
theorem RotR.right {a k : Nat} {d d' : Array Int} (h : RotR a (a + 1) (k + 1) d d') (hak : a ≤ k) (hk : k + 1 < d.size) : RotR a (a + 1) (k + 1 + 1) d (swp d' k (k + 1)) := by
  have hs := h.size
  refine ⟨permIn_trans _ _ _ _ _ (permIn_mono _ _ _ _ _ _ (Nat.le_refl _) (by omega) (by omega) h.1) (swp_permIn _ _ _ _ _ (by omega) (by omega) (by omega) (by omega) (by omega)), fun j => ?_⟩
  rw [swp_get _ _ _ _ (by omega) (by omega)]
  by_cases h1 : j = k + 1
  · rw [if_pos h1, h.2, if_neg (by omega), if_pos (by omega), if_neg (by omega), if_pos (by omega)]
    exact congrArg _ (by omega)
  · rw [if_neg h1]
    by_cases h2 : j = k
    · rw [if_pos h2, h.2, if_neg (by omega), if_neg (by omega), if_pos (by omega)]
      exact congrArg _ (by omega)
    · rw [if_neg h2, h.2]
      by_cases h3 : a ≤ j ∧ j < k
      · rw [if_pos (by omega), if_pos (by omega)]
      · rw [if_neg (by omega), if_neg (by omega), if_neg (by omega), if_neg (by omega)]
/-- One place goes on to the left: 'data[k], data[k-1] = data[k-1], data[k]'. -/
theorem RotR.left {k m : Nat} {d d' : Array Int} (h : RotR (k + 1) m (m + 1) d d') (hkm : k + 1 ≤ m) (hm : m < d.size) : RotR k m (m + 1) d (swp d' (k + 1) k) := by
  have hs := h.size
  refine ⟨permIn_trans _ _ _ _ _ (permIn_mono _ _ _ _ _ _ (by omega) (Nat.le_refl _) (by omega) h.1) (swp_permIn _ _ _ _ _ (by omega) (by omega) (by omega) (by omega) (by omega)), fun j => ?_⟩
  rw [swp_get _ _ _ _ (by omega) (by omega)]
  by_cases h1 : j = k
  · rw [if_pos h1, h.2, if_pos (by omega), if_pos (by omega)]
    exact congrArg _ (by omega)
  · rw [if_neg h1]
    by_cases h2 : j = k + 1
    · rw [if_pos h2, h.2, if_neg (by omega), if_neg (by omega), if_neg (by omega), if_pos (by omega)]
      exact congrArg _ (by omega)
    · rw [if_neg h2, h.2]
      rw [if_neg (by omega)]
      by_cases h3 : k + 1 + 1 ≤ j ∧ j < m + 1
      · rw [if_pos (by omega), if_neg (by omega), if_pos (by omega)]
      · rw [if_neg (by omega), if_neg (by omega), if_neg (by omega)]

/-- What is left to rotate, when two ranges of one length are exchanged: i to the left of m, j from m on. -/
theorem rot_gt {m i j : Nat} {d d1 d2 : Array Int} (hm : i ≤ m) (hij : j < i) (h1 : SwpR (m - i) m j d d1) (h2 : RotR (m - (i - j)) m (m + j) d1 d2) (hb : m + j ≤ d.size) : RotR (m - i) m (m + j) d d2 := by
  have hs := h1.size
  refine ⟨permIn_trans _ _ _ _ _ h1.1 (permIn_mono _ _ _ _ _ _ (by omega) (Nat.le_refl _) (by omega) h2.1), fun k => ?_⟩
  rw [h2.2]
  by_cases c1 : m - (i - j) ≤ k ∧ k < m - (i - j) + (m + j - m)
  · rw [if_pos c1, h1.2, if_neg (by omega), if_pos (by omega)]
    by_cases c : k < m - i + (m + j - m)
    · omega
    · rw [if_neg (by omega), if_pos (by omega)]; exact congrArg _ (by omega)
  · rw [if_neg c1]
    by_cases c2 : m - (i - j) + (m + j - m) ≤ k ∧ k < m + j
    · rw [if_pos c2, h1.2, if_neg (by omega), if_neg (by omega), if_neg (by omega), if_pos (by omega)]
    · rw [if_neg c2, h1.2]
      by_cases c3 : m - i ≤ k ∧ k < m - i + j
      · rw [if_pos c3, if_pos (by omega)]
      · rw [if_neg c3, if_neg (by omega), if_neg (by omega), if_neg (by omega)]
theorem rot_lt {m i j : Nat} {d d1 d2 : Array Int} (hm : i ≤ m) (hij : i < j) (h1 : SwpR (m - i) (m + j - i) i d d1) (h2 : RotR (m - i) m (m + (j - i)) d1 d2) (hb : m + j ≤ d.size) : RotR (m - i) m (m + j) d d2 := by
  have hs := h1.size
  have hp := h1.1
  rw [show m + j - i + i = m + j by omega] at hp
  refine ⟨permIn_trans _ _ _ _ _ hp (permIn_mono _ _ _ _ _ _ (Nat.le_refl _) (by omega) (by omega) h2.1), fun k => ?_⟩
  rw [h2.2]
  by_cases c1 : m - i ≤ k ∧ k < m - i + (m + (j - i) - m)
  · rw [if_pos c1, if_pos (by omega), h1.2, if_neg (by omega)]
    by_cases c : m + j - i ≤ k + (m - (m - i)) ∧ k + (m - (m - i)) < m + j - i + i
    · omega
    · rw [if_neg c]
  · rw [if_neg c1]
    by_cases c2 : m - i + (m + (j - i) - m) ≤ k ∧ k < m + (j - i)
    · rw [if_pos c2, h1.2, if_pos (by omega), if_pos (by omega)]; exact congrArg _ (by omega)
    · rw [if_neg c2, h1.2, if_neg (by omega)]
      by_cases c3 : m + j - i ≤ k ∧ k < m + j
      · rw [if_pos (by omega), if_neg (by omega), if_pos (by omega)]; exact congrArg _ (by omega)
      · rw [if_neg (by omega), if_neg (by omega), if_neg (by omega)]
theorem rot_eq {m i : Nat} {d d1 : Array Int} (hm : i ≤ m) (h1 : SwpR (m - i) m i d d1) : RotR (m - i) m (m + i) d d1 := by
  refine ⟨h1.1, fun k => ?_⟩
  rw [h1.2]
  by_cases c1 : m - i ≤ k ∧ k < m - i + i
  · rw [if_pos c1, if_pos (by omega)]
  · rw [if_neg c1]
    by_cases c2 : m ≤ k ∧ k < m + i
    · rw [if_pos c2, if_neg (by omega), if_pos (by omega)]; exact congrArg _ (by omega)
    · rw [if_neg c2, if_neg (by omega), if_neg (by omega)]

/-! ### Order -/
section
variable (rk : Int → Int)
/-- One stands ahead of another one: by its key, else by its number. -/
def bef (x y : Int) : Prop := rk x < rk y ∨ (rk x = rk y ∧ x < y)
def ltI (x y : Int) : Bool := decide (rk x < rk y)
def SrtIn (a b : Nat) (d : Array Int) : Prop := ∀ i j, a ≤ i → i < j → j < b → bef rk d[i]! d[j]!
def Apart (a m b : Nat) (d : Array Int) : Prop := ∀ i j, a ≤ i → i < m → m ≤ j → j < b → d[i]! < d[j]!
variable {rk}
theorem bef.trans {x y z : Int} (h : bef rk x y) (g : bef rk y z) : bef rk x z := by unfold bef at *; omega
theorem bef.le {x y : Int} (h : bef rk x y) : rk x ≤ rk y := by unfold bef at h; omega
theorem bef_of_lt {x y : Int} (h : rk x < rk y) : bef rk x y := .inl h
theorem bef_of_le {x y : Int} (h : rk x ≤ rk y) (g : x < y) : bef rk x y := by unfold bef; omega
theorem SrtIn.le {a b : Nat} {d : Array Int} (h : SrtIn rk a b d) {i j : Nat} (hi : a ≤ i) (hij : i ≤ j) (hj : j < b) : rk d[i]! ≤ rk d[j]! := by
  rcases Nat.lt_or_ge i j with g | g
  · exact (h i j hi g hj).le
  · rw [show i = j by omega]; exact Int.le_refl _
theorem SrtIn.small {a b : Nat} (h : b ≤ a + 1) (d : Array Int) : SrtIn rk a b d := fun i j hi hij hj => by omega
theorem SrtIn.part {a b a' b' : Nat} {d : Array Int} (h : SrtIn rk a b d) (ha : a ≤ a') (hb : b' ≤ b) : SrtIn rk a' b' d := fun i j hi hij hj => h i j (by omega) hij (by omega)
theorem SrtIn.keep {a b : Nat} {d d' : Array Int} (h : SrtIn rk a b d) (e : ∀ k, a ≤ k → k < b → d'[k]! = d[k]!) : SrtIn rk a b d' := fun i j hi hij hj => by
  rw [e i hi (by omega), e j (by omega) hj]; exact h i j hi hij hj
/-- Two ranges that are in order, each of the first ahead of each of the second. -/
theorem SrtIn.join {a m b : Nat} {d : Array Int} (h1 : SrtIn rk a m d) (h2 : SrtIn rk m b d) (hc : ∀ i j, a ≤ i → i < m → m ≤ j → j < b → bef rk d[i]! d[j]!) : SrtIn rk a b d := fun i j hi hij hj => by
  rcases Nat.lt_or_ge j m with g | g
  · exact h1 i j hi hij g
  · rcases Nat.lt_or_ge i m with g' | g'
    · exact hc i j hi g' g hj
    · exact h2 i j g' hij hj

/-- The first range has one: it goes ahead of all that aren't less. -/
theorem merge_first {a i b : Nat} {d d' : Array Int} (hai : a + 1 ≤ i) (hib : i ≤ b) (hs : SrtIn rk (a + 1) b d) (hx : Apart a (a + 1) b d)
    (h1 : ∀ h, a + 1 ≤ h → h < i → rk d[h]! < rk d[a]!) (h2 : ∀ h, i ≤ h → h < b → rk d[a]! ≤ rk d[h]!) (hr : RotR a (a + 1) i d d') : SrtIn rk a b d' := by
  intro p q hp hpq hq
  rw [hr.2 p, hr.2 q]
  by_cases c1 : p < i - 1
  · rw [if_pos (by omega)]
    by_cases c2 : q < i - 1
    · rw [if_pos (by omega)]; exact hs _ _ (by omega) (by omega) (by omega)
    · rw [if_neg (by omega)]
      by_cases c3 : q < i
      · rw [if_pos (by omega), show q - (i - (a + 1)) = a by omega]; exact bef_of_lt (h1 _ (by omega) (by omega))
      · rw [if_neg (by omega)]; exact hs _ _ (by omega) (by omega) (by omega)
  · rw [if_neg (by omega)]
    by_cases c3 : p < i
    · rw [if_pos (by omega), if_neg (by omega), if_neg (by omega), show p - (i - (a + 1)) = a by omega]
      exact bef_of_le (h2 _ (by omega) hq) (hx _ _ (by omega) (by omega) (by omega) hq)
    · rw [if_neg (by omega), if_neg (by omega), if_neg (by omega)]; exact hs _ _ (by omega) hpq hq
/-- The second range has one: it goes behind all that it isn't less than. -/
theorem merge_last {a i m : Nat} {d d' : Array Int} (hai : a ≤ i) (him : i ≤ m) (hs : SrtIn rk a m d) (hx : Apart a m (m + 1) d)
    (h1 : ∀ h, a ≤ h → h < i → rk d[h]! ≤ rk d[m]!) (h2 : ∀ h, i ≤ h → h < m → rk d[m]! < rk d[h]!) (hr : RotR i m (m + 1) d d') : SrtIn rk a (m + 1) d' := by
  intro p q hp hpq hq
  rw [hr.2 p, hr.2 q]
  by_cases c1 : p < i
  · rw [if_neg (by omega), if_neg (by omega)]
    by_cases c2 : q < i
    · rw [if_neg (by omega), if_neg (by omega)]; exact hs _ _ hp hpq (by omega)
    · by_cases c3 : q = i
      · rw [if_pos (by omega), show q + (m - i) = m by omega]
        exact bef_of_le (h1 _ hp c1) (hx _ _ hp (by omega) (by omega) (by omega))
      · rw [if_neg (by omega), if_pos (by omega)]; exact hs _ _ hp (by omega) (by omega)
  · by_cases c3 : p = i
    · rw [if_pos (by omega), if_neg (by omega), if_pos (by omega), show p + (m - i) = m by omega]
      exact bef_of_lt (h2 _ (by omega) (by omega))
    · rw [if_neg (by omega), if_pos (by omega), if_neg (by omega), if_pos (by omega)]; exact hs _ _ (by omega) (by omega) (by omega)

/-- Behind the rotation of a merge: both halves are to be merged again, and stand apart. -/
theorem merge_half {a s m e b : Nat} {d d' : Array Int} (has : a ≤ s) (hsm : s ≤ m) (hme : m ≤ e) (heb : e ≤ b) (h1 : SrtIn rk a m d) (h2 : SrtIn rk m b d) (hx : Apart a m b d)
    (c1 : ∀ i j, a ≤ i → i < s → e ≤ j → j < b → rk d[i]! ≤ rk d[j]!) (c2 : ∀ i j, m ≤ i → i < e → s ≤ j → j < m → rk d[i]! < rk d[j]!) (hr : RotR s m e d d') :
    SrtIn rk a s d' ∧ SrtIn rk s (s + (e - m)) d' ∧ Apart a s (s + (e - m)) d' ∧ SrtIn rk (s + (e - m)) e d' ∧ SrtIn rk e b d' ∧ Apart (s + (e - m)) e b d'
    ∧ ∀ i j, a ≤ i → i < s + (e - m) → s + (e - m) ≤ j → j < b → bef rk d'[i]! d'[j]! := by
  have g1 : ∀ k, k < s → d'[k]! = d[k]! := fun k hk => by rw [hr.2, if_neg (by omega), if_neg (by omega)]
  have g2 : ∀ k, s ≤ k → k < s + (e - m) → d'[k]! = d[k + (m - s)]! := fun k hk hk' => by rw [hr.2, if_pos (by omega)]
  have g3 : ∀ k, s + (e - m) ≤ k → k < e → d'[k]! = d[k - (e - m)]! := fun k hk hk' => by rw [hr.2, if_neg (by omega), if_pos (by omega)]
  have g4 : ∀ k, e ≤ k → d'[k]! = d[k]! := fun k hk => by rw [hr.2, if_neg (by omega), if_neg (by omega)]
  refine ⟨?_, ?_, ?_, ?_, ?_, ?_, ?_⟩
  · intro i j hi hij hj; rw [g1 i (by omega), g1 j (by omega)]; exact h1 _ _ hi hij (by omega)
  · intro i j hi hij hj; rw [g2 i (by omega) (by omega), g2 j (by omega) (by omega)]; exact h2 _ _ (by omega) (by omega) (by omega)
  · intro i j hi hi' hj hj'; rw [g1 i (by omega), g2 j (by omega) (by omega)]; exact hx _ _ hi (by omega) (by omega) (by omega)
  · intro i j hi hij hj; rw [g3 i (by omega) (by omega), g3 j (by omega) (by omega)]; exact h1 _ _ (by omega) (by omega) (by omega)
  · intro i j hi hij hj; rw [g4 i (by omega), g4 j (by omega)]; exact h2 _ _ (by omega) hij hj
  · intro i j hi hi' hj hj'; rw [g3 i (by omega) (by omega), g4 j (by omega)]; exact hx _ _ (by omega) (by omega) (by omega) (by omega)
  · intro i j hi hi' hj hj'
    rcases Nat.lt_or_ge i s with k1 | k1
    · rw [g1 i k1]
      rcases Nat.lt_or_ge j e with k2 | k2
      · rw [g3 j hj k2]; exact h1 _ _ hi (by omega) (by omega)
      · rw [g4 j k2]; exact bef_of_le (c1 _ _ hi k1 k2 hj') (hx _ _ hi (by omega) (by omega) hj')
    · rw [g2 i k1 hi']
      rcases Nat.lt_or_ge j e with k2 | k2
      · rw [g3 j hj k2]; exact bef_of_lt (c2 _ _ (by omega) (by omega) (by omega) (by omega))
      · rw [g4 j k2]; exact h2 _ _ (by omega) (by omega) hj'
/-- Both halves merged: all is in order. -/
theorem merge_whole {a c b : Nat} {d1 d2 d3 : Array Int} (_ : a ≤ c) (_ : c ≤ b) (hb : b ≤ d1.size) (hx : ∀ i j, a ≤ i → i < c → c ≤ j → j < b → bef rk d1[i]! d1[j]!)
    (p2 : PermIn a c d1 d2) (s2 : SrtIn rk a c d2) (p3 : PermIn c b d2 d3) (s3 : SrtIn rk c b d3) : SrtIn rk a b d3 := by
  have hs2 : d2.size = d1.size := p2.1
  refine (s2.keep fun k hk hk' => p3.2.1 k (by omega)).join s3 fun i j hi hi' hj hj' => ?_
  have q : ∀ i, a ≤ i → i < c → ∀ j, c ≤ j → j < b → bef rk d2[i]! d2[j]! := by
    refine permIn_all d1 d2 a c (fun x => ∀ j, c ≤ j → j < b → bef rk x d2[j]!) (by omega) p2 fun i hi hi' j hj hj' => ?_
    rw [p2.2.1 j (by omega)]; exact hx i j hi hi' hj hj'
  have r : ∀ j, c ≤ j → j < b → bef rk d2[i]! d3[j]! := permIn_all d2 d3 c b (fun x => bef rk d2[i]! x) (by omega) p3 fun j hj hj' => q i hi hi' j hj hj'
  rw [p3.2.1 i (by omega)]
  exact r j hj hj'
theorem Apart.perm {a m b : Nat} {d d' : Array Int} (h : Apart a m b d) (_ : m ≤ b) (hb : b ≤ d.size) (p : PermIn a m d d') : Apart a m b d' := fun i j hi hi' hj hj' => by
  rw [p.2.1 j (by omega)]
  exact permIn_all d d' a m (fun x => x < d[j]!) (by omega) p (fun i hi hi' => h i j hi hi' hj hj') i hi hi'
theorem Apart.perm2 {a m b : Nat} {d d' : Array Int} (h : Apart a m b d) (_ : a ≤ m) (hb : b ≤ d.size) (p : PermIn m b d d') : Apart a m b d' := fun i j hi hi' hj hj' => by
  rw [p.2.1 i (by omega)]
  exact permIn_all d d' m b (fun x => d[i]! < x) (by omega) p (fun j hj hj' => h i j hi hi' hj hj') j hj hj'

/-! ### Insertion -/
/-- In the middle of an insertion: the one at j is on its way down from i. -/
def InsR (rk : Int → Int) (a i j : Nat) (d dj : Array Int) : Prop := PermIn a (i + 1) d dj ∧ a ≤ j ∧ j ≤ i
  ∧ (∀ p q, a ≤ p → p < q → q ≤ i → p ≠ j → q ≠ j → bef rk dj[p]! dj[q]!) ∧ (∀ q, j < q → q ≤ i → bef rk dj[j]! dj[q]!) ∧ (∀ p, a ≤ p → p ≤ i → p ≠ j → dj[p]! < dj[j]!)
theorem InsR.start {a i : Nat} {d dk : Array Int} (hai : a ≤ i) (hi : i < d.size) (hp : PermIn a i d dk) (hs : SrtIn rk a i dk) (hx : ∀ p, a ≤ p → p < i → d[p]! < d[i]!) : InsR rk a i i d dk := by
  refine ⟨permIn_mono _ _ _ _ _ _ (Nat.le_refl _) (by omega) (by omega) hp, hai, Nat.le_refl _, fun p q hp' hpq hq h1 h2 => hs p q hp' hpq (by omega), fun q h1 h2 => by omega, fun p hp' hpi hne => ?_⟩
  rw [hp.2.1 i (by omega)]
  exact permIn_all d dk a i (fun x => x < d[i]!) (by omega) hp hx p hp' (by omega)
theorem InsR.stop {a i j : Nat} {d dj : Array Int} (h : InsR rk a i j d dj) (hs : j ≤ a ∨ ltI rk dj[j]! dj[j - 1]! = false) : PermIn a (i + 1) d dj ∧ SrtIn rk a (i + 1) dj := by
  obtain ⟨hp, haj, hji, h1, h2, h3⟩ := h
  refine ⟨hp, fun p q hpa hpq hq => ?_⟩
  by_cases c1 : q = j
  · subst c1
    have hj : a < q := by omega
    have hl : rk dj[q - 1]! ≤ rk dj[q]! := by
      rcases hs with h | h
      · omega
      · unfold ltI at h; simpa using h
    have hb : bef rk dj[q - 1]! dj[q]! := bef_of_le hl (h3 _ (by omega) (by omega) (by omega))
    by_cases c2 : p = q - 1
    · rw [c2]; exact hb
    · exact (h1 p (q - 1) hpa (by omega) (by omega) (by omega) (by omega)).trans hb
  · by_cases c2 : p = j
    · rw [c2]; exact h2 q (by omega) (by omega)
    · exact h1 p q hpa hpq (by omega) c2 c1
theorem InsR.step {a i j : Nat} {d dj : Array Int} (h : InsR rk a i j d dj) (hi : i < d.size) (hj : a < j) (hl : ltI rk dj[j]! dj[j - 1]! = true) : InsR rk a i (j - 1) d (swp dj j (j - 1)) := by
  obtain ⟨hp, haj, hji, h1, h2, h3⟩ := h
  have hs : dj.size = d.size := hp.1
  have hl' : rk dj[j]! < rk dj[j - 1]! := by unfold ltI at hl; simpa using hl
  have gj : (swp dj j (j - 1))[j]! = dj[j - 1]! := by rw [swp_get _ _ _ _ (by omega) (by omega), if_neg (by omega), if_pos rfl]
  have gp : (swp dj j (j - 1))[j - 1]! = dj[j]! := by rw [swp_get _ _ _ _ (by omega) (by omega), if_pos rfl]
  have go : ∀ k, k ≠ j → k ≠ j - 1 → (swp dj j (j - 1))[k]! = dj[k]! := fun k e1 e2 => swp_other _ _ _ _ e1 e2
  refine ⟨permIn_trans _ _ _ _ _ hp (swp_permIn _ _ _ _ _ (by omega) (by omega) (by omega) (by omega) (by omega)), by omega, by omega, ?_, ?_, ?_⟩
  · intro p q hpa hpq hqi n1 n2
    by_cases c1 : q = j
    · rw [c1, gj, go p (by omega) n1]; exact h1 p (j - 1) hpa (by omega) (by omega) (by omega) (by omega)
    · rw [go q c1 n2]
      by_cases c2 : p = j
      · rw [c2, gj]; exact h1 (j - 1) q (by omega) (by omega) hqi (by omega) (by omega)
      · rw [go p c2 n1]; exact h1 p q hpa hpq hqi c2 c1
  · intro q hq hqi
    rw [gp]
    by_cases c1 : q = j
    · rw [c1, gj]; exact bef_of_lt hl'
    · rw [go q c1 (by omega)]; exact h2 q (by omega) hqi
  · intro p hpa hpi n1
    rw [gp]
    by_cases c1 : p = j
    · rw [c1, gj]; exact h3 _ (by omega) (by omega) (by omega)
    · rw [go p c1 n1]; exact h3 p hpa hpi c1
end
end Go.Proofs.Ytbpcggoplacplaa
