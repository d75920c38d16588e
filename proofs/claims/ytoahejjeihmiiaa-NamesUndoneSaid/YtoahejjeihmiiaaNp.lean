/- Layer 15, plain: registers' cells, claims. -/
import Derived.Test.YtoahejjeihmiiaaRows
set_option maxRecDepth 100000
set_option linter.unusedVariables false
namespace Go.Proofs.Ytoahejjeihmiiaa

/-- What a file has: the cells' values and whether they are ready, each register's settled cell, the claims. -/
structure Nst where
  v : Nat → Int
  y : Nat → Bool
  s : Nat → Nat
  l : List (Nat × Nat)
def updN {X : Type} (f : Nat → X) (n : Nat) (v : X) : Nat → X := fun k => if k = n then v else f k
theorem updN_same {X : Type} (f : Nat → X) (n : Nat) (v : X) : updN f n v n = v := if_pos rfl
theorem updN_other {X : Type} (f : Nat → X) (n : Nat) (v : X) {k : Nat} (h : k ≠ n) : updN f n v k = f k := if_neg h
/-- A register's cell. -/
def lkN (s : Nst) (r : Nat) : Nat := s.l.foldl (fun c k => if k.1 = r then k.2 else c) (s.s r)
def lookN (s : Nst) (r : Int) : Int := if 0 ≤ r ∧ r < 32 then (lkN s r.toNat : Int) else 0
def valN (s : Nst) (c : Int) : Int × Bool := if 0 ≤ c ∧ c < 44 then (s.v c.toNat, s.y c.toNat) else (0, false)
/-- The cells that somebody has. -/
def ownN (s : Nst) : List Nat := (List.range 32).map s.s ++ s.l.map (·.2)
/-- The least free one. -/
def freN (s : Nst) : Option Nat := (List.range 44).find? fun c => decide (c ∉ ownN s)
def addN (s : Nst) (r c : Nat) : Nst := ⟨s.v, s.y, s.s, s.l ++ [(r, c)]⟩
def hasN (s : Nst) (c : Int) : Bool := s.l.any fun k => decide ((k.2 : Int) = c)
def putN (s : Nst) (c : Nat) (v : Int) : Nst := ⟨updN s.v c v, updN s.y c true, s.s, s.l⟩
def setN (s : Nst) (c v : Int) : Nst := if hasN s c = true then putN s c.toNat v else s
def retOk (s : Nst) : Bool := match s.l with | [] => false | k :: _ => s.y k.2
def retK (s : Nst) (k : Nat × Nat) (l : List (Nat × Nat)) : Nst := ⟨updN s.v (s.s k.1) 0, updN s.y (s.s k.1) false, updN s.s k.1 k.2, l⟩
def retN (s : Nst) : Nst := match s.l with | [] => s | k :: l => if s.y k.2 = true then retK s k l else s
def undK (s : Nst) (c : Nat) (l : List (Nat × Nat)) : Nst := ⟨updN s.v c 0, updN s.y c false, s.s, l⟩
def undN (s : Nst) : Nst := match s.l.getLast? with | none => s | some k => undK s k.2 s.l.dropLast
def newN (x : Nat → Int) : Nst := ⟨fun c => if c < 32 then x c else 0, fun c => decide (c < 32), fun r => r, []⟩
/-- What a claim comes to: the state, the cell, whether there is one. -/
def claN (s : Nst) (r : Int) : Nst × Int × Bool := if 0 < r ∧ r < 32 then (match freN s with | some c => (addN s r.toNat c, (c : Int), true) | none => (s, 0, false)) else (s, 0, false)

/-- As it may be. -/
structure NOk (s : Nst) : Prop where
  sl : ∀ r, r < 32 → s.s r < 44
  si : ∀ r q, r < 32 → q < 32 → s.s r = s.s q → r = q
  cl : ∀ k ∈ s.l, 0 < k.1 ∧ k.1 < 32 ∧ k.2 < 44
  cn : (s.l.map (·.2)).Nodup
  sc : ∀ r, r < 32 → ∀ k ∈ s.l, s.s r ≠ k.2
  ys : ∀ r, r < 32 → s.y (s.s r) = true
  yn : ∀ c, s.y c = false → s.v c = 0
  fr : ∀ c, s.y c = true → c ∈ ownN s

theorem mem_own (s : Nst) (c : Nat) : c ∈ ownN s ↔ (∃ r, r < 32 ∧ s.s r = c) ∨ ∃ k ∈ s.l, k.2 = c := by
  unfold ownN
  rw [List.mem_append, List.mem_map, List.mem_map]
  constructor
  · rintro (⟨r, hr, h⟩ | ⟨k, hk, h⟩)
    · exact .inl ⟨r, List.mem_range.1 hr, h⟩
    · exact .inr ⟨k, hk, h⟩
  · rintro (⟨r, hr, h⟩ | ⟨k, hk, h⟩)
    · exact .inl ⟨r, List.mem_range.2 hr, h⟩
    · exact .inr ⟨k, hk, h⟩
theorem NOk.own_lt {s : Nst} (h : NOk s) {c : Nat} (hc : c ∈ ownN s) : c < 44 := by
  rcases (mem_own s c).1 hc with ⟨r, hr, rfl⟩ | ⟨k, hk, rfl⟩
  · exact h.sl r hr
  · exact (h.cl k hk).2.2
theorem len_le_of_sub : ∀ (l m : List Nat), l.Nodup → (∀ x ∈ l, x ∈ m) → l.length ≤ m.length := by
  intro l
  induction l with
  | nil => intro m _ _; exact Nat.zero_le _
  | cons x l ih =>
    intro m hn hs
    obtain ⟨hx, hl⟩ := List.nodup_cons.1 hn
    have hxm := hs x (List.mem_cons_self)
    have := ih (m.erase x) hl (fun y hy => (List.mem_erase_of_ne (fun e => hx (by rw [← e]; exact hy))).2 (hs y (List.mem_cons_of_mem _ hy)))
    rw [List.length_erase_of_mem hxm] at this
    have hp := List.length_pos_of_mem hxm
    rw [List.length_cons]
    omega
theorem cover_le : ∀ (n : Nat) (m : List Nat), (∀ c, c < n → c ∈ m) → n ≤ m.length := by
  intro n
  induction n with
  | zero => intro m _; exact Nat.zero_le _
  | succ n ih =>
    intro m h
    have hm := h n (by omega)
    have := ih (m.erase n) (fun c hc => (List.mem_erase_of_ne (by omega)).2 (h c (by omega)))
    rw [List.length_erase_of_mem hm] at this
    have hp := List.length_pos_of_mem hm
    omega
theorem own_len (s : Nst) : (ownN s).length = 32 + s.l.length := by unfold ownN; simp
theorem NOk.own_nodup {s : Nst} (h : NOk s) : (ownN s).Nodup := by
  unfold ownN
  rw [List.nodup_append]
  refine ⟨?_, h.cn, ?_⟩
  · rw [List.Nodup, List.pairwise_map]
    refine List.Pairwise.imp_of_mem ?_ (List.nodup_range (n := 32))
    intro a b ha hb hne he
    exact hne (h.si a b (List.mem_range.1 ha) (List.mem_range.1 hb) he)
  · intro a ha b hb
    obtain ⟨r, hr, rfl⟩ := List.mem_map.1 ha
    obtain ⟨k, hk, rfl⟩ := List.mem_map.1 hb
    exact h.sc r (List.mem_range.1 hr) k hk
theorem NOk.len {s : Nst} (h : NOk s) : s.l.length ≤ 12 := by
  have := len_le_of_sub (ownN s) (List.range 44) h.own_nodup (fun x hx => List.mem_range.2 (h.own_lt hx))
  rw [own_len, List.length_range] at this
  omega
theorem fre_some {s : Nst} {c : Nat} (h : freN s = some c) : c < 44 ∧ c ∉ ownN s ∧ ∀ d, d < c → d ∈ ownN s := by
  unfold freN at h
  rw [List.find?_range_eq_some] at h
  obtain ⟨h1, h2, h3⟩ := h
  refine ⟨List.mem_range.1 h2, by simpa using h1, fun d hd => ?_⟩
  have := h3 d hd
  simpa using this
theorem fre_none {s : Nst} (h : freN s = none) : ∀ c, c < 44 → c ∈ ownN s := fun c hc => by
  unfold freN at h
  have := List.find?_eq_none.1 h c (List.mem_range.2 hc)
  simpa using this
theorem fre_is {s : Nst} {c : Nat} (h1 : c < 44) (h2 : c ∉ ownN s) (h3 : ∀ d, d < c → d ∈ ownN s) : freN s = some c := by
  cases h : freN s with
  | none => exact absurd (fre_none h c h1) h2
  | some d =>
    obtain ⟨a1, a2, a3⟩ := fre_some h
    rcases Nat.lt_trichotomy c d with hl | he | hl
    · exact absurd (a3 c hl) h2
    · rw [he]
    · exact absurd (h3 d hl) a2
theorem fre_no {s : Nst} (h : ∀ c, c < 44 → c ∈ ownN s) : freN s = none := by
  cases hf : freN s with
  | none => rfl
  | some d => exact absurd (h d (fre_some hf).1) (fre_some hf).2.1
/-- With fewer than 12 claims a cell is free. -/
theorem fre_ex {s : Nst} (h : s.l.length < 12) : ∃ c, freN s = some c := by
  cases hf : freN s with
  | some c => exact ⟨c, rfl⟩
  | none =>
    have := cover_le 44 (ownN s) (fre_none hf)
    rw [own_len] at this
    omega
theorem newN_ok (x : Nat → Int) : NOk (newN x) where
  sl := fun r hr => by show r < 44; omega
  si := fun r q _ _ h => h
  cl := fun k hk => by cases hk
  cn := List.nodup_nil
  sc := fun r _ k hk => by cases hk
  ys := fun r hr => decide_eq_true hr
  yn := fun c hc => by
    have : ¬ c < 32 := of_decide_eq_false hc
    show (if c < 32 then x c else 0) = 0
    rw [if_neg this]
  fr := fun c hc => (mem_own _ _).2 (.inl ⟨c, of_decide_eq_true hc, rfl⟩)
theorem mem_own_add (s : Nst) (r c d : Nat) : d ∈ ownN (addN s r c) ↔ d ∈ ownN s ∨ d = c := by
  rw [mem_own, mem_own]
  unfold addN
  constructor
  · rintro (h | ⟨k, hk, rfl⟩)
    · exact .inl (.inl h)
    · rcases List.mem_append.1 hk with hk | hk
      · exact .inl (.inr ⟨k, hk, rfl⟩)
      · rw [List.mem_singleton] at hk
        exact .inr (by rw [hk])
  · rintro ((h | ⟨k, hk, rfl⟩) | rfl)
    · exact .inl h
    · exact .inr ⟨k, List.mem_append_left _ hk, rfl⟩
    · exact .inr ⟨(r, d), by simp, rfl⟩
theorem NOk.add {s : Nst} (h : NOk s) {r c : Nat} (hr : 0 < r ∧ r < 32) (hc : c < 44) (hf : c ∉ ownN s) : NOk (addN s r c) where
  sl := h.sl
  si := h.si
  cl := fun k hk => by
    rcases List.mem_append.1 hk with hk | hk
    · exact h.cl k hk
    · rw [List.mem_singleton] at hk
      subst hk
      exact ⟨hr.1, hr.2, hc⟩
  cn := by
    show ((s.l ++ [(r, c)]).map (·.2)).Nodup
    rw [List.map_append, List.nodup_append]
    refine ⟨h.cn, by simp, ?_⟩
    intro a ha b hb
    obtain ⟨k, hk, rfl⟩ := List.mem_map.1 ha
    simp only [List.map_cons, List.map_nil, List.mem_singleton] at hb
    subst hb
    intro he
    exact hf ((mem_own _ _).2 (.inr ⟨k, hk, he⟩))
  sc := fun q hq k hk => by
    rcases List.mem_append.1 hk with hk | hk
    · exact h.sc q hq k hk
    · rw [List.mem_singleton] at hk
      subst hk
      intro he
      exact hf ((mem_own _ _).2 (.inl ⟨q, hq, he⟩))
  ys := h.ys
  yn := h.yn
  fr := fun d hd => (mem_own_add s r c d).2 (.inl (h.fr d hd))
theorem has_iff (s : Nst) (c : Int) : hasN s c = true ↔ ∃ k ∈ s.l, (k.2 : Int) = c := by
  unfold hasN
  simp
theorem NOk.put {s : Nst} (h : NOk s) {c : Nat} (hc : ∃ k ∈ s.l, k.2 = c) (v : Int) : NOk (putN s c v) where
  sl := h.sl
  si := h.si
  cl := h.cl
  cn := h.cn
  sc := h.sc
  ys := fun r hr => by
    show updN s.y c true (s.s r) = true
    unfold updN
    split
    · rfl
    · exact h.ys r hr
  yn := fun d hd => by
    have hd : updN s.y c true d = false := hd
    show updN s.v c v d = 0
    unfold updN at hd ⊢
    split
    · rename_i e; rw [if_pos e] at hd; cases hd
    · rename_i e; rw [if_neg e] at hd; exact h.yn d hd
  fr := fun d hd => by
    have hd : updN s.y c true d = true := hd
    show d ∈ ownN s
    unfold updN at hd
    split at hd
    · rename_i e; subst e; exact (mem_own _ _).2 (.inr hc)
    · exact h.fr d hd
theorem NOk.set {s : Nst} (h : NOk s) (c v : Int) : NOk (setN s c v) := by
  unfold setN
  split
  · rename_i hh
    obtain ⟨k, hk, e⟩ := (has_iff s c).1 hh
    exact h.put ⟨k, hk, by omega⟩ v
  · exact h
theorem NOk.retK {s : Nst} (h : NOk s) {k : Nat × Nat} {l : List (Nat × Nat)} (hl : s.l = k :: l) (hy : s.y k.2 = true) : NOk (retK s k l) := by
  have hk : k ∈ s.l := by rw [hl]; exact List.mem_cons_self
  obtain ⟨k0, k1, k2⟩ := h.cl k hk
  have hmem : ∀ x ∈ l, x ∈ s.l := fun x hx => by rw [hl]; exact List.mem_cons_of_mem _ hx
  have hcn := h.cn
  rw [hl, List.map_cons, List.nodup_cons] at hcn
  have hne : ∀ x ∈ l, x.2 ≠ k.2 := fun x hx he => hcn.1 (List.mem_map.2 ⟨x, hx, he⟩)
  refine ⟨fun r hr => ?_, fun r q hr hq he => ?_, fun x hx => h.cl x (hmem x hx), hcn.2, fun r hr x hx => ?_, fun r hr => ?_, fun c hc => ?_, fun c hc => ?_⟩
  · show updN s.s k.1 k.2 r < 44
    unfold updN
    split
    · exact k2
    · exact h.sl r hr
  · have he : updN s.s k.1 k.2 r = updN s.s k.1 k.2 q := he
    unfold updN at he
    split at he
    · rename_i e1
      split at he
      · rename_i e2; rw [e1, e2]
      · exact absurd he.symm (h.sc q hq k hk)
    · rename_i e1
      split at he
      · exact absurd he (h.sc r hr k hk)
      · exact h.si r q hr hq he
  · show updN s.s k.1 k.2 r ≠ x.2
    unfold updN
    split
    · exact fun e => hne x hx e.symm
    · exact h.sc r hr x (hmem x hx)
  · show updN s.y (s.s k.1) false (updN s.s k.1 k.2 r) = true
    have : updN s.s k.1 k.2 r ≠ s.s k.1 := by
      unfold updN
      split
      · exact fun e => h.sc k.1 k1 k hk e.symm
      · rename_i e1; exact fun e => e1 (h.si r k.1 hr k1 e)
    rw [updN_other _ _ _ this]
    unfold updN
    split
    · exact hy
    · exact h.ys r hr
  · have hc : updN s.y (s.s k.1) false c = false := hc
    show updN s.v (s.s k.1) 0 c = 0
    unfold updN at hc ⊢
    split
    · rfl
    · rename_i e; rw [if_neg e] at hc; exact h.yn c hc
  · have hc : updN s.y (s.s k.1) false c = true := hc
    unfold updN at hc
    split at hc
    · cases hc
    · rename_i e
      rcases (mem_own _ _).1 (h.fr c hc) with ⟨r, hr, rfl⟩ | ⟨x, hx, rfl⟩
      · exact (mem_own _ _).2 (.inl ⟨r, hr, updN_other _ _ _ (fun e2 => e (by rw [e2]))⟩)
      · rw [hl] at hx
        rcases List.mem_cons.1 hx with rfl | hx
        · exact (mem_own _ _).2 (.inl ⟨x.1, k1, updN_same _ _ _⟩)
        · exact (mem_own _ _).2 (.inr ⟨x, hx, rfl⟩)
theorem NOk.undK {s : Nst} (h : NOk s) {k : Nat × Nat} {l : List (Nat × Nat)} (hl : s.l = l ++ [k]) : NOk (undK s k.2 l) := by
  have hk : k ∈ s.l := by rw [hl]; simp
  have hmem : ∀ x ∈ l, x ∈ s.l := fun x hx => by rw [hl]; exact List.mem_append_left _ hx
  have hcn := h.cn
  rw [hl, List.map_append, List.nodup_append] at hcn
  refine ⟨h.sl, h.si, fun x hx => h.cl x (hmem x hx), hcn.1, fun r hr x hx => h.sc r hr x (hmem x hx), fun r hr => ?_, fun c hc => ?_, fun c hc => ?_⟩
  · show updN s.y k.2 false (s.s r) = true
    rw [updN_other _ _ _ (h.sc r hr k hk)]
    exact h.ys r hr
  · have hc : updN s.y k.2 false c = false := hc
    show updN s.v k.2 0 c = 0
    unfold updN at hc ⊢
    split
    · rfl
    · rename_i e; rw [if_neg e] at hc; exact h.yn c hc
  · have hc : updN s.y k.2 false c = true := hc
    unfold updN at hc
    split at hc
    · cases hc
    · rename_i e
      rcases (mem_own _ _).1 (h.fr c hc) with ⟨r, hr, rfl⟩ | ⟨x, hx, rfl⟩
      · exact (mem_own _ _).2 (.inl ⟨r, hr, rfl⟩)
      · rw [hl] at hx
        rcases List.mem_append.1 hx with hx | hx
        · exact (mem_own _ _).2 (.inr ⟨x, hx, rfl⟩)
        · rw [List.mem_singleton] at hx
          subst hx
          exact absurd rfl e
theorem last_split {l : List (Nat × Nat)} {k : Nat × Nat} (h : l.getLast? = some k) : l = l.dropLast ++ [k] := by
  cases l with
  | nil => cases h
  | cons a l =>
    have hne : a :: l ≠ [] := by simp
    rw [List.getLast?_eq_some_getLast hne] at h
    injection h with h
    rw [← h]
    exact (List.dropLast_concat_getLast hne).symm
theorem NOk.und {s : Nst} (h : NOk s) : NOk (undN s) := by
  unfold undN
  split
  · exact h
  · rename_i k hk
    exact h.undK (last_split hk)
theorem NOk.ret {s : Nst} (h : NOk s) : NOk (retN s) := by
  unfold retN
  split
  · exact h
  · rename_i k l hl
    split
    · rename_i hy; exact h.retK hl hy
    · exact h
theorem NOk.cla {s : Nst} (h : NOk s) (r : Int) : NOk (claN s r).1 := by
  unfold claN
  split
  · rename_i hr
    split
    · rename_i c hc
      obtain ⟨c1, c2, _⟩ := fre_some hc
      exact h.add (by omega) c1 c2
    · exact h
  · exact h

/-! ### A register's cell -/
theorem lk_add (s : Nst) (q c r : Nat) : lkN (addN s q c) r = if q = r then c else lkN s r := by
  unfold lkN addN
  rw [List.foldl_append]
  rfl
theorem foldl_none (l : List (Nat × Nat)) (r c : Nat) (h : ∀ x ∈ l, x.1 ≠ r) : l.foldl (fun c k => if k.1 = r then k.2 else c) c = c := by
  induction l generalizing c with
  | nil => rfl
  | cons a l ih =>
    rw [List.foldl_cons, if_neg (h a List.mem_cons_self)]
    exact ih c (fun x hx => h x (List.mem_cons_of_mem _ hx))
theorem lk_last (s : Nst) {r j : Nat} (hj : j < s.l.length) (hr : s.l[j].1 = r) (h : ∀ i (hi : i < s.l.length), j < i → s.l[i].1 ≠ r) : lkN s r = s.l[j].2 := by
  unfold lkN
  have e : s.l = s.l.take j ++ s.l[j] :: s.l.drop (j + 1) := by rw [List.getElem_cons_drop, List.take_append_drop]
  generalize s.s r = c0
  generalize hk : s.l[j] = k at *
  rw [e, List.foldl_append, List.foldl_cons, if_pos hr]
  refine foldl_none _ _ _ (fun x hx => ?_)
  obtain ⟨i, hi, rfl⟩ := List.getElem_of_mem hx
  rw [List.getElem_drop]
  exact h _ _ (by omega)
theorem lk_none (s : Nst) {r : Nat} (h : ∀ i (hi : i < s.l.length), s.l[i].1 ≠ r) : lkN s r = s.s r :=
  foldl_none _ _ _ (fun x hx => by obtain ⟨i, hi, rfl⟩ := List.getElem_of_mem hx; exact h i hi)
theorem foldl_mem (l : List (Nat × Nat)) (r c : Nat) : l.foldl (fun c k => if k.1 = r then k.2 else c) c = c ∨ ∃ k ∈ l, k.1 = r ∧ k.2 = l.foldl (fun c k => if k.1 = r then k.2 else c) c := by
  induction l generalizing c with
  | nil => exact .inl rfl
  | cons a l ih =>
    rw [List.foldl_cons]
    by_cases ha : a.1 = r
    · rw [if_pos ha]
      rcases ih a.2 with h | ⟨k, hk, h1, h2⟩
      · exact .inr ⟨a, List.mem_cons_self, ha, h.symm⟩
      · exact .inr ⟨k, List.mem_cons_of_mem _ hk, h1, h2⟩
    · rw [if_neg ha]
      rcases ih c with h | ⟨k, hk, h1, h2⟩
      · exact .inl h
      · exact .inr ⟨k, List.mem_cons_of_mem _ hk, h1, h2⟩
theorem lk_own (s : Nst) {r : Nat} (hr : r < 32) : lkN s r ∈ ownN s := by
  rcases foldl_mem s.l r (s.s r) with h | ⟨k, hk, _, h⟩
  · exact (mem_own _ _).2 (.inl ⟨r, hr, h.symm⟩)
  · exact (mem_own _ _).2 (.inr ⟨k, hk, h⟩)
end Go.Proofs.Ytoahejjeihmiiaa
