/- What the program's package show does: parts by shapes, a text cut along a shape, what is read of it; plain. Nothing here speaks of a program. -/
import Derived.Test.YtolmecnjolfjgaaGreatDoorTx
import Derived.Test.YtolmecnjolfjgaaGreatDoorOp5
import Derived.Lib.ItoaNum
import Derived.Lib.Strings
import Derived.Lib.Bytealg
set_option maxRecDepth 100000
namespace Go.Proofs.YtolmecnjolfjgaaGreatDoor
open Go.RowKit

/-! ### Digits: the library's -/
theorem decD_k (k m : Nat) (h : m < 10 ^ k) (hk : 0 < k) : Lib.decDigits m = digF k m := by
  induction k generalizing m with
  | zero => omega
  | succ k ih =>
    rw [Lib.decDigits, digF]
    by_cases h10 : m < 10
    · rw [dif_pos h10, if_pos h10]; rfl
    · rw [dif_neg h10, if_neg h10]
      have hk' : 0 < k := by
        rcases Nat.eq_zero_or_pos k with rfl | h'
        · simp at h; omega
        · exact h'
      rw [ih (m / 10) (by rw [Nat.pow_succ] at h; omega) hk']
      rfl
theorem decD_eq {m : Nat} (h : m < 10 ^ 20) : Lib.decDigits m = digU m := decD_k 20 m h (by decide)
theorem itoa_digI {n : Int} (h : I64 n) : Lib.itoa n = digI n := by
  unfold I64 at h
  unfold Lib.itoa digI
  by_cases hn : n < 0
  · rw [if_pos hn, if_pos hn, decD_eq (by omega)]
  · rw [if_neg hn, if_neg hn, decD_eq (by omega), show n.toNat = n.natAbs by omega]
theorem reg_dec {r : Int} (h : 0 ≤ r ∧ r ≤ 31) : Lib.decDigits r.toNat = digI r := by
  rw [decD_eq (by omega)]
  unfold digI
  rw [if_neg (by omega), show r.toNat = r.natAbs by omega]

/-! ### Shapes and parts -/
def shpL : List (List UInt8) := [[], [32, 100, 44, 32, 110], [32, 100, 44, 32, 97, 44, 32, 110], [32, 97, 44, 32, 98, 44, 32, 110], [32, 100, 44, 32, 110, 40, 97, 41], [32, 98, 44, 32, 110, 40, 97, 41], [32, 100, 44, 32, 97, 44, 32, 110], [32, 100, 44, 32, 97, 44, 32, 98], [32, 112, 44, 32, 115], [], [32, 100, 44, 32, 40, 97, 41], [32, 100, 44, 32, 98, 44, 32, 40, 97, 41], [32, 100, 44, 32, 98, 44, 32, 40, 97, 41]]
def shpT (op : Int) : List UInt8 := if op = 3 then [32, 100, 44, 32, 110] else if op = 51 then [] else shpL.getD (srt op).toNat []
def partT (i : Ins) (c : UInt8) : List UInt8 :=
  if c = 100 then regT i.rd else if c = 97 then regT i.rs1 else if c = 98 then regT i.rs2 else if c = 110 then digI i.imm else if c = 112 then setT i.pred else if c = 115 then setT i.succ else [c]
theorem shp_at {op : Int} (h3 : op ≠ 3) (h51 : op ≠ 51) {k : Nat} (hs : srt op = (k : Int)) : shpT op = shpL.getD k [] := by
  unfold shpT
  rw [if_neg h3, if_neg h51, hs]
  rfl
theorem tail_parts {i : Ins} (h : 1 ≤ i.op ∧ i.op ≤ 75) : tailT i = (shpT i.op).flatMap (partT i) := by
  have hs := srt_spec i.op
  unfold tailT cmS
  by_cases h3 : i.op = 3
  · rw [if_pos (.inr h3)]
    unfold shpT
    rw [if_pos h3]
    simp [partT]
  by_cases h51 : i.op = 51
  · have : srt i.op = 8 := by omega
    rw [if_neg (by omega), if_neg (by omega), if_neg (by omega), if_neg (by omega), if_neg (by omega), if_neg (by omega), if_neg (by omega), if_neg (by omega), if_neg (by omega)]
    unfold shpT
    rw [if_neg h3, if_pos h51]
    rfl
  rcases hs with hs | hs | hs | hs | hs | hs | hs | hs | hs | hs | hs | hs | hs
  · omega
  · rw [if_pos (by omega), shp_at h3 h51 (k := 1) (by omega)]; simp [partT, shpL]
  · rw [if_neg (by omega), if_pos (by omega), shp_at h3 h51 (k := 2) (by omega)]; simp [partT, shpL]
  · rw [if_neg (by omega), if_neg (by omega), if_pos (by omega), shp_at h3 h51 (k := 3) (by omega)]; simp [partT, shpL]
  · rw [if_neg (by omega), if_neg (by omega), if_neg (by omega), if_pos (by omega), shp_at h3 h51 (k := 4) (by omega)]; simp [partT, shpL]
  · rw [if_neg (by omega), if_neg (by omega), if_neg (by omega), if_neg (by omega), if_pos (by omega), shp_at h3 h51 (k := 5) (by omega)]; simp [partT, shpL]
  · rw [if_neg (by omega), if_pos (by omega), shp_at h3 h51 (k := 6) (by omega)]; simp [partT, shpL]
  · rw [if_neg (by omega), if_neg (by omega), if_neg (by omega), if_neg (by omega), if_neg (by omega), if_pos (by omega), shp_at h3 h51 (k := 7) (by omega)]; simp [partT, shpL]
  · rw [if_neg (by omega), if_neg (by omega), if_neg (by omega), if_neg (by omega), if_neg (by omega), if_neg (by omega), if_pos (by omega), shp_at h3 h51 (k := 8) (by omega)]; simp [partT, shpL]
  · rw [if_neg (by omega), if_neg (by omega), if_neg (by omega), if_neg (by omega), if_neg (by omega), if_neg (by omega), if_neg (by omega), if_neg (by omega), if_neg (by omega), shp_at h3 h51 (k := 9) (by omega)]; rfl
  · rw [if_neg (by omega), if_neg (by omega), if_neg (by omega), if_neg (by omega), if_neg (by omega), if_neg (by omega), if_neg (by omega), if_pos (by omega), shp_at h3 h51 (k := 10) (by omega)]; simp [partT, shpL]
  · rw [if_neg (by omega), if_neg (by omega), if_neg (by omega), if_neg (by omega), if_neg (by omega), if_neg (by omega), if_neg (by omega), if_neg (by omega), if_pos (by omega), shp_at h3 h51 (k := 11) (by omega)]; simp [partT, shpL]
  · rw [if_neg (by omega), if_neg (by omega), if_neg (by omega), if_neg (by omega), if_neg (by omega), if_neg (by omega), if_neg (by omega), if_neg (by omega), if_pos (by omega), shp_at h3 h51 (k := 12) (by omega)]; simp [partT, shpL]
theorem text_parts {i : Ins} (h : 1 ≤ i.op ∧ i.op ≤ 75) : textT i = nmO i.op ++ annT i.aq i.rl ++ (shpT i.op).flatMap (partT i) := by unfold textT; rw [tail_parts h]

/-! ### A text cut along a shape -/
def isMk (c : UInt8) : Bool := c == 32 || c == 44 || c == 40 || c == 41
def noMk (c : UInt8) : Bool := !isMk c
/-- A text behind one byte that it begins with. -/
def eatT (c : UInt8) (s : List UInt8) : Option (List UInt8) := match s with | [] => none | d :: t => if d = c then some t else none
theorem eat_some {c : UInt8} {s t : List UInt8} (h : eatT c s = some t) : s = c :: t := by
  unfold eatT at h
  split at h
  · cases h
  · split at h
    · next e => rw [e, Option.some.inj h]
    · cases h
theorem eat_self (c : UInt8) (t : List UInt8) : eatT c (c :: t) = some t := if_pos rfl
def cutA : List UInt8 → List UInt8 → List (UInt8 × List UInt8) → Option (List (UInt8 × List UInt8) × List UInt8)
  | [], s, A => some (A, s)
  | c :: o, s, A => if isMk c then (eatT c s).bind (fun t => cutA o t A) else cutA o (s.dropWhile noMk) (A ++ [(c, s.takeWhile noMk)])
theorem cut_sound (o : List UInt8) : ∀ s A B r, cutA o s A = some (B, r) → ∃ D, B = A ++ D ∧ D.map Prod.fst = o.filter noMk ∧ ∀ g : UInt8 → List UInt8, (∀ c, isMk c = true → g c = [c]) → (∀ x ∈ D, g x.1 = x.2) → s = o.flatMap g ++ r := by
  induction o with
  | nil =>
    intro s A B r h
    obtain ⟨rfl, rfl⟩ := Prod.mk.inj (Option.some.inj h)
    exact ⟨[], by simp, rfl, fun g _ _ => by simp⟩
  | cons c o ih =>
    intro s A B r h
    rw [cutA] at h
    cases hc : isMk c with
    | true =>
      rw [if_pos hc] at h
      obtain ⟨t, ht, hx⟩ := Option.bind_eq_some_iff.1 h
      clear h
      obtain rfl := eat_some ht
      obtain ⟨D, h1, h2, h3⟩ := ih _ _ _ _ hx
      refine ⟨D, h1, ?_, fun g hg hD => ?_⟩
      · rw [List.filter_cons_of_neg (by unfold noMk; rw [hc]; decide)]; exact h2
      · rw [List.flatMap_cons, hg c hc, List.append_assoc, ← h3 g hg hD]; rfl
    | false =>
      rw [if_neg (by rw [hc]; decide)] at h
      obtain ⟨D, h1, h2, h3⟩ := ih _ _ _ _ h
      refine ⟨(c, s.takeWhile noMk) :: D, by rw [h1]; simp, ?_, fun g hg hD => ?_⟩
      · rw [List.filter_cons_of_pos (by unfold noMk; rw [hc]; rfl), List.map_cons, h2]
      · rw [List.flatMap_cons, hD (c, s.takeWhile noMk) List.mem_cons_self, List.append_assoc, ← h3 g hg (fun x hx => hD x (List.mem_cons_of_mem _ hx)), List.takeWhile_append_dropWhile]
/-- A letter has a mark behind it, or nothing. -/
def headMk (o : List UInt8) : Bool := match o with | [] => true | d :: _ => isMk d
def goodO : List UInt8 → Bool
  | [] => true
  | c :: o => (isMk c || headMk o) && goodO o
theorem take_p {p : UInt8 → Bool} {a b : List UInt8} (ha : ∀ c ∈ a, p c = true) (hb : b = [] ∨ ∃ d t, b = d :: t ∧ p d = false) : (a ++ b).takeWhile p = a ∧ (a ++ b).dropWhile p = b := by
  induction a with
  | nil =>
    rcases hb with rfl | ⟨d, t, rfl, hd⟩
    · exact ⟨rfl, rfl⟩
    · rw [List.nil_append, List.takeWhile_cons_of_neg (by rw [hd]; decide), List.dropWhile_cons_of_neg (by rw [hd]; decide)]
      exact ⟨rfl, rfl⟩
  | cons c a ih =>
    obtain ⟨h1, h2⟩ := ih (fun x hx => ha x (List.mem_cons_of_mem _ hx))
    have hc := ha c List.mem_cons_self
    rw [List.cons_append, List.takeWhile_cons_of_pos hc, List.dropWhile_cons_of_pos hc, h1, h2]
    exact ⟨rfl, rfl⟩
theorem take_all {a b : List UInt8} (ha : ∀ c ∈ a, noMk c = true) (hb : b = [] ∨ ∃ d t, b = d :: t ∧ isMk d = true) : (a ++ b).takeWhile noMk = a ∧ (a ++ b).dropWhile noMk = b :=
  take_p ha (hb.imp_right fun ⟨d, t, e, h⟩ => ⟨d, t, e, by unfold noMk; rw [h]; rfl⟩)
theorem cut_whole (g : UInt8 → List UInt8) (hm : ∀ c, isMk c = true → g c = [c]) (o : List UInt8) : goodO o = true → (∀ c ∈ o, noMk c = true → ∀ d ∈ g c, noMk d = true) → ∀ A, cutA o (o.flatMap g) A = some (A ++ (o.filter noMk).map (fun c => (c, g c)), []) := by
  induction o with
  | nil => intro _ _ A; simp [cutA]
  | cons c o ih =>
    intro hg ha A
    rw [goodO, Bool.and_eq_true] at hg
    have ih := ih hg.2 (fun x hx => ha x (List.mem_cons_of_mem _ hx))
    rw [cutA]
    cases hc : isMk c with
    | true =>
      rw [if_pos rfl, List.flatMap_cons, hm c hc, List.filter_cons_of_neg (by unfold noMk; rw [hc]; decide), List.cons_append, List.nil_append, eat_self, Option.bind_some]
      exact ih A
    | false =>
      have hn : noMk c = true := by unfold noMk; rw [hc]; rfl
      have hb : o.flatMap g = [] ∨ ∃ d t, o.flatMap g = d :: t ∧ isMk d = true := by
        have h1 := hg.1
        rw [hc, Bool.false_or] at h1
        cases o with
        | nil => exact .inl rfl
        | cons d t => exact .inr ⟨d, t.flatMap g, by rw [List.flatMap_cons, hm d h1]; rfl, h1⟩
      obtain ⟨t1, t2⟩ := take_all (ha c List.mem_cons_self hn) hb
      rw [if_neg (by decide), List.flatMap_cons, t1, t2, ih, List.filter_cons_of_pos hn, List.map_cons, List.append_assoc]
      rfl

/-! ### What is put in place of a letter -/
def setO (p : List UInt8) : Option Int := ((List.range 16).find? fun (n : Nat) => decide (setT (n : Int) = p)).map fun (n : Nat) => (n : Int)
def putT (i : Ins) (c : UInt8) (p : List UInt8) : Ins × Bool :=
  if c = 100 then ({ i with rd := (regS p).getD 0 }, (regS p).isSome)
  else if c = 97 then ({ i with rs1 := (regS p).getD 0 }, (regS p).isSome)
  else if c = 98 then ({ i with rs2 := (regS p).getD 0 }, (regS p).isSome)
  else if c = 110 then ({ i with imm := (numV p).getD 0 }, (numV p).isSome)
  else if c = 112 then ({ i with pred := (setO p).getD 0 }, (setO p).isSome)
  else if c = 115 then ({ i with succ := (setO p).getD 0 }, (setO p).isSome)
  else (i, false)
theorem sets_unlike : ∀ n m : Fin 16, setT (n.val : Int) = setT (m.val : Int) → n = m := by decide +kernel
theorem setO_iff (p : List UInt8) (n : Int) : setO p = some n ↔ (0 ≤ n ∧ n < 16) ∧ setT n = p := by
  unfold setO
  constructor
  · intro h
    obtain ⟨k, hk, rfl⟩ := Option.map_eq_some_iff.1 h
    have h1 := List.mem_range.1 (List.mem_of_find?_eq_some hk)
    have h2 : (fun (n : Nat) => decide (setT (n : Int) = p)) k = true := List.find?_some (p := fun (n : Nat) => decide (setT (n : Int) = p)) hk
    have h2 := of_decide_eq_true h2
    exact ⟨⟨by omega, by omega⟩, h2⟩
  · rintro ⟨hn, rfl⟩
    cases hf : (List.range 16).find? fun (m : Nat) => decide (setT (m : Int) = setT n) with
    | none =>
      have := List.find?_eq_none.1 hf n.toNat (List.mem_range.2 (by omega))
      rw [show ((n.toNat : Nat) : Int) = n by omega] at this
      simp at this
    | some k =>
      have h1 := List.mem_range.1 (List.mem_of_find?_eq_some hf)
      have h2 : (fun (m : Nat) => decide (setT (m : Int) = setT n)) k = true := List.find?_some (p := fun (m : Nat) => decide (setT (m : Int) = setT n)) hf
      have h2 := of_decide_eq_true h2
      have := sets_unlike ⟨k, h1⟩ ⟨n.toNat, by omega⟩
      simp only [show ((n.toNat : Nat) : Int) = n by omega] at this
      have := Fin.mk.inj (this h2)
      rw [Option.map_some]
      congr 1
      omega
end Go.Proofs.YtolmecnjolfjgaaGreatDoor
