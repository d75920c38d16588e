/- The shared memory: a new one; what it has, copied. -/
import Derived.Test.YteoemjhhjnkkiaaMa
import Derived.Test.YteoemjhhjnkkiaaMe
set_option maxRecDepth 100000
set_option linter.unusedVariables false
namespace Go.Proofs.Yteoemjhhjnkkiaa
open Go.RowKit

theorem Rd.takeB {w : World} {B : Nat} {A : Option Addr} {l : List Int} (h : Rd w B A (cellsB l)) (m : Nat) : Rd w B A (cellsB (l.take m)) := by
  rcases h with h0 | ⟨b, off, rfl, hb, hc⟩
  · left
    have : l = [] := by simpa [cellsB] using h0
    rw [this, List.take_nil]
    rfl
  · refine .inr ⟨b, off, rfl, hb, fun i v hv => hc i v ?_⟩
    unfold cellsB at hv ⊢
    rw [List.map_take, List.getElem?_take] at hv
    split at hv
    · exact hv
    · cases hv
theorem own_parts {w : World} {base n : Nat} {e : TypeId} {z : Nat} {v : Value} {xs : List Value} (h : w.ownsRow base e z v n xs) : ∃ A c, v = .slice A n c ∧ n ≤ c ∧ c ≤ maxLen ∧ (n = 0 ∨ ∃ g, A = some ⟨g, 0, none⟩ ∧ base ≤ g) ∧ (A = none → c = 0) := by
  rcases h.2 with ⟨rfl, rfl⟩ | ⟨g, c, _, rfl, hb, _, h1, h2, _⟩
  · exact ⟨none, 0, rfl, Nat.le_refl _, Nat.zero_le _, .inl rfl, fun _ => rfl⟩
  · exact ⟨_, c, rfl, h1, h2, .inr ⟨g, rfl, hb⟩, fun h => by cases h⟩
/-- A new memory. -/
def newM (l : List Int) : Mst := ⟨l.take 1024, [], fun _ => 0⟩
theorem newM_ok {l : List Int} (h : Byts l) : MsOk (newM l) := ⟨by show (l.take 1024).length ≤ 1024; simp; omega, h.take 1024, fun x hx => by cases hx⟩
def RetNew (w : World) (l : List Int) (e : Ending) (w' : World) : Prop := ∃ p : Pla, e = .returned (.pointer (some ⟨p.g, 0, none⟩)) ∧ RamAt (newM l) p w' ∧ (∀ k ∈ p.foot, w.heap.size ≤ k) ∧ BW w w'
/-- The parts, made one behind the other, are a memory. -/
theorem new_parts {w w1 w3 : World} {l : List Int} {m : Nat} {v : Value} {gt : Nat} (hm : m = (l.take 1024).length) (ho : w1.ownsRow w.heap.size 5 1 v m (cellsB (l.take 1024))) (b1 : BW w w1)
    (hgt : w1.heap.size ≤ gt) (ht : Blk (cellsI (List.replicate m (-1))).toArray 3 gt w3) (b3 : BW w1 w3) :
    RetNew w l (.returned (.pointer (some ⟨w3.heap.size, 0, none⟩))) (w3.alloc (.cells (ramCells v (.slice (some ⟨gt, 0, none⟩) m m) (.slice none 0 0) (fun _ => 0)) 60)) := by
  obtain ⟨A, c, rfl, h1, h2, h3, hnil⟩ := own_parts ho
  have hz1 := Below.size b1
  have hz3 := Below.size b3
  have hlt := ht.lt
  have b4 : BW w (w3.alloc (.cells (ramCells (.slice A m c) (.slice (some ⟨gt, 0, none⟩) m m) (.slice none 0 0) (fun _ => 0)) 60)) := (b1.on b3).new _
  have hm2 : m ≤ maxLen := by
    have := List.length_take_le 1024 l
    unfold maxLen
    omega
  by_cases h0 : m = 0
  · refine ⟨⟨w3.heap.size, w3.heap.size, w3.heap.size, A, c, some ⟨gt, 0, none⟩, m, .slice none 0 0⟩, rfl, ⟨?_, ?_, ⟨hnil, fun h => by cases h⟩, ?_, World.ownsRow_nil _ _ _ _, fun k hk => by cases hk⟩, ?_, b4⟩
    · show Blk (ramCells (.slice A (l.take 1024).length c) (.slice (some ⟨gt, 0, none⟩) (l.take 1024).length m) (.slice none 0 0) (fun _ => 0)) _ _ _
      rw [← hm]
      exact Blk.new _ _ _
    · show (l.take 1024).length ≤ c ∧ c ≤ maxLen ∧ (l.take 1024).length ≤ m ∧ m ≤ maxLen
      rw [← hm]
      exact ⟨h1, h2, Nat.le_refl _, hm2⟩
    · left
      exact ⟨by show (l.take 1024).length = 0; omega, rfl, rfl⟩
    · intro k hk
      simp [Pla.foot, Value.ownBlock] at hk
      omega
  · obtain ⟨gb, rfl, hgb⟩ : ∃ g, A = some ⟨g, 0, none⟩ ∧ w.heap.size ≤ g := by
      rcases h3 with h3 | h3
      · exact absurd h3 h0
      · exact h3
    have hgbl : gb < w1.heap.size := (ho.lt gb rfl).2
    have hrb := RowB.of_own ho
    refine ⟨⟨w3.heap.size, gb, gt, some ⟨gb, 0, none⟩, c, some ⟨gt, 0, none⟩, m, .slice none 0 0⟩, rfl, ⟨?_, ?_, ⟨hnil, fun h => by cases h⟩, ?_, World.ownsRow_nil _ _ _ _, fun k hk => by cases hk⟩, ?_, b4⟩
    · show Blk (ramCells (.slice (some ⟨gb, 0, none⟩) (l.take 1024).length c) (.slice (some ⟨gt, 0, none⟩) (l.take 1024).length m) (.slice none 0 0) (fun _ => 0)) _ _ _
      rw [← hm]
      exact Blk.new _ _ _
    · show (l.take 1024).length ≤ c ∧ c ≤ maxLen ∧ (l.take 1024).length ≤ m ∧ m ≤ maxLen
      rw [← hm]
      exact ⟨h1, h2, Nat.le_refl _, hm2⟩
    · right
      refine ⟨rfl, rfl, ?_, ?_, by show gb ≠ w3.heap.size; omega, by show gt ≠ w3.heap.size; omega, by show gb ≠ gt; omega⟩
      · show RowB _ (cellsB (bytesM (l.take 1024) [])) _ _
        rw [bytesM_nil]
        exact (hrb.fr (Fr.of [] b3) (by simp)).fr ((Fr.refl [] _).alloc _) (by simp)
      · show RowB _ (cellsI (tagsM (l.take 1024) [])) _ _
        rw [tagsM_nil, ← hm]
        exact ⟨[], by rw [List.append_nil]; exact ht.alloc _⟩
    · intro k hk
      simp [Pla.foot, Value.ownBlock] at hk
      omega
set_option maxHeartbeats 4000000 in
theorem new_some (ad : Addr) (cap : Nat) (l : List Int) (w : World) (hl : l.length ≤ cap) (hcap : cap ≤ 9223372036854775807) (hr : Rd w w.heap.size (some ad) (cellsB l)) :
    Calls Try.prog 8 #[.slice (some ad) l.length cap] w (RetNew w l) := by
  obtain ⟨m, hm⟩ : ∃ m, m = (l.take 1024).length := ⟨_, rfl⟩
  have hm1 : m ≤ 1024 := by rw [hm, List.length_take]; omega
  have hm2 : m ≤ l.length := by rw [hm, List.length_take]; omega
  have hcl := clone8_c ad cap (l.take 1024) w (by omega) (hr.takeB 1024)
  rw [← hm] at hcl
  have HCL := Lib.hid hcl; clear hcl hr
  have hrp := fun g0 w hc hg => repeat_c g0 (-1) m w (by omega) hc hg
  have HRP := Lib.hid hrp; clear hrp
  have HP := Lib.hid (fun w1 w3 v gt => new_parts (w := w) (w1 := w1) (w3 := w3) (l := l) (m := m) (v := v) (gt := gt) hm)
  have hq : ∀ q : Int, q = (m : Int) → ∀ g0 (w : World), w.cell? ⟨g0, 0, none⟩ = some (.int .i64 (-1)) → g0 < w.heap.size → Calls Try.prog 28 #[.slice (some ⟨g0, 0, none⟩) 1 1, .int .i64 q] w (RetRep w (-1) m) := fun q e g0 w hc hg => by
    subst e
    exact HRP.out g0 w hc hg
  have HQ := Lib.hid hq; clear hq HRP
  have hcase : ((1024 : Int) < (l.length : Int) ∧ m = 1024) ∨ (¬ (1024 : Int) < (l.length : Int) ∧ m = l.length) := by
    rw [hm, List.length_take]
    omega
  clear hm
  rcases hcase with ⟨hlt, rfl⟩ | ⟨hlt, rfl⟩
  all_goals
    go_enter Try.func8, Try.ntmps8
    go_wp2_with (first
      | (go_at_call 27; refine HCL.out.mono ?_; rintro e w1 ⟨v, rfl, ho, hb1⟩; obtain ⟨A1, c1, rfl, -⟩ := own_parts ho; have HO := Lib.hid ho; have HB1 := Lib.hid hb1; have hz1 := Below.size hb1; clear ho hb1)
      | (go_at_call 28; refine (HQ.out _ (by rfl) _ _ ?_ ?_).mono ?_))
    · exact (Blk.new _ _ _).cell 0
    · simp
    rintro e w3 ⟨g, rfl, hg, hb, hb3⟩
    have hg' : w1.heap.size ≤ g := by simp at hg; omega
    have HF := Lib.hid (HP.out _ _ _ _ HO.out HB1.out hg' hb ((BW.new (Below.refl _ _) _).on hb3))
    clear HO HB1 hg hb hb3 hg' hz1
    go_wp2
    go_ret
    exact HF.out
set_option maxHeartbeats 4000000 in
theorem new_none (w : World) : Calls Try.prog 8 #[.slice none 0 0] w (RetNew w []) := by
  have HCL := Lib.hid (clone8_nil w)
  have hq : ∀ q : Int, q = ((0 : Nat) : Int) → ∀ g0 (w : World), w.cell? ⟨g0, 0, none⟩ = some (.int .i64 (-1)) → g0 < w.heap.size → Calls Try.prog 28 #[.slice (some ⟨g0, 0, none⟩) 1 1, .int .i64 q] w (RetRep w (-1) 0) := fun q e g0 w hc hg => by
    subst e
    exact repeat_c g0 (-1) 0 w (by omega) hc hg
  have HQ := Lib.hid hq; clear hq
  have HP := Lib.hid (fun w1 w3 v gt => new_parts (w := w) (w1 := w1) (w3 := w3) (l := []) (m := 0) (v := v) (gt := gt) rfl)
  go_enter Try.func8, Try.ntmps8
  go_wp2_with (first
    | (go_at_call 27; refine HCL.out.mono ?_; rintro e w1 ⟨v, rfl, ho, hb1⟩; obtain ⟨A1, c1, rfl, -⟩ := own_parts ho; have HO := Lib.hid ho; have HB1 := Lib.hid hb1; have hz1 := Below.size hb1; clear ho hb1)
    | (go_at_call 28; refine (HQ.out _ (by rfl) _ _ ?_ ?_).mono ?_))
  · exact (Blk.new _ _ _).cell 0
  · simp
  rintro e w3 ⟨g, rfl, hg, hb, hb3⟩
  have hg' : w1.heap.size ≤ g := by simp at hg; omega
  have HF := Lib.hid (HP.out _ _ _ _ HO.out HB1.out hg' hb ((BW.new (Below.refl _ _) _).on hb3))
  clear HO HB1 hg hb hb3 hg' hz1
  go_wp2
  go_ret
  exact HF.out
/-! ### What it has, copied -/
theorem Rd.of_row {w : World} {base z : Nat} {e : TypeId} {A : Option Addr} {n c : Nat} {xs : List Value} (h : w.ownsRow base e z (.slice A n c) n xs) : Rd w w.heap.size A xs := by
  rcases h with ⟨hl, ⟨_, h0⟩ | ⟨g, cap, cur, hv, _, hh, _, _, _, ht⟩⟩
  · left
    subst h0
    exact List.eq_nil_of_length_eq_zero (by omega)
  · cases hv
    refine .inr ⟨g, 0, rfl, (Array.getElem?_eq_some_iff.1 hh).1, fun i v hv => ?_⟩
    rw [cell_of_row w g (0 + i) cur e (0, 0) hh, ← ht] at *
    rw [List.getElem?_take] at hv
    split at hv
    · simpa using hv
    · cases hv
theorem RamAt.rdB {s : Mst} {p : Pla} {w : World} (h : RamAt s p w) : Rd w w.heap.size p.Ab (cellsB (bytesM s.b0 s.l)) := by
  rcases h.bytes with ⟨h0, _⟩ | ⟨hA, _, hb, _⟩
  · left
    have : bytesM s.b0 s.l = [] := List.eq_nil_of_length_eq_zero (by rw [bytesM_len]; exact h0)
    rw [this]; rfl
  · rw [hA]; exact hb.rd
theorem RamAt.rdT {s : Mst} {p : Pla} {w : World} (h : RamAt s p w) : Rd w w.heap.size p.At (cellsI (tagsM s.b0 s.l)) := by
  rcases h.bytes with ⟨h0, _⟩ | ⟨_, hA, _, hb, _⟩
  · left
    have : tagsM s.b0 s.l = [] := List.eq_nil_of_length_eq_zero (by rw [tagsM_len]; exact h0)
    rw [this]; rfl
  · rw [hA]; exact hb.rd
theorem bytes_nil (w : World) : Calls Try.prog 23 #[.pointer none] w fun e w' => e = .returned (.slice none 0 0) ∧ w = w' := by
  go_enter Try.func23, Try.ntmps23
  go_wp2
  go_ret
  exact ⟨rfl, rfl⟩
theorem bytes_c {s : Mst} {p : Pla} {w : World} (h : RamAt s p w) (hn : s.b0.length ≤ 1024) : Calls Try.prog 23 #[.pointer (some ⟨p.g, 0, none⟩)] w (RetOwn w 5 1 s.b0.length (cellsB (bytesM s.b0 s.l))) := by
  have hc : w.cell? ⟨p.g, 0, none⟩ = some (.slice p.Ab s.b0.length p.cb) := h.head.cell 0
  have hrd := h.rdB
  have hl : (bytesM s.b0 s.l).length = s.b0.length := bytesM_len _ _
  generalize bytesM s.b0 s.l = L at *
  cases hA : p.Ab with
  | none =>
    have h1 := h.nil.1 hA
    have h0 : s.b0.length = 0 := by have := h.cap; omega
    have hL : L = [] := List.eq_nil_of_length_eq_zero (by omega)
    have HCL := Lib.hid (clone8_nil w)
    rw [hA, h1, h0] at hc
    rw [h0]
    subst hL
    clear hrd hl h hA h1 h0 hn
    go_enter Try.func23, Try.ntmps23
    go_wp2_with (first
      | (go_at_call 27; refine HCL.out.mono ?_; rintro e w1 ⟨v, rfl, ho, hb1⟩; have HO := Lib.hid ho; have HB1 := Lib.hid hb1; clear ho hb1))
    go_ret
    exact ⟨v, rfl, HO.out, HB1.out⟩
  | some ad =>
    rw [hA] at hrd hc
    have hcl := clone8_c ad p.cb L w (by omega) hrd
    rw [hl] at hcl
    have HCL := Lib.hid hcl; clear hcl hrd hl h hA hn
    go_enter Try.func23, Try.ntmps23
    go_wp2_with (first
      | (go_at_call 27; refine HCL.out.mono ?_; rintro e w1 ⟨v, rfl, ho, hb1⟩; have HO := Lib.hid ho; have HB1 := Lib.hid hb1; clear ho hb1))
    go_ret
    exact ⟨v, rfl, HO.out, HB1.out⟩
theorem tags_nil (w : World) : Calls Try.prog 24 #[.pointer none] w fun e w' => e = .returned (.slice none 0 0) ∧ w = w' := by
  go_enter Try.func24, Try.ntmps24
  go_wp2
  go_ret
  exact ⟨rfl, rfl⟩
theorem tags_c {s : Mst} {p : Pla} {w : World} (h : RamAt s p w) (hn : s.b0.length ≤ 1024) : Calls Try.prog 24 #[.pointer (some ⟨p.g, 0, none⟩)] w (RetOwn w 3 1 s.b0.length (cellsI (tagsM s.b0 s.l))) := by
  have hc : w.cell? ⟨p.g, 1, none⟩ = some (.slice p.At s.b0.length p.ct) := h.head.cell 1
  have hrd := h.rdT
  have hl : (tagsM s.b0 s.l).length = s.b0.length := tagsM_len _ _
  generalize tagsM s.b0 s.l = L at *
  cases hA : p.At with
  | none =>
    have h1 := h.nil.2 hA
    have h0 : s.b0.length = 0 := by have := h.cap; omega
    have hL : L = [] := List.eq_nil_of_length_eq_zero (by omega)
    have HCL := Lib.hid (cloneI_nil w)
    rw [hA, h1, h0] at hc
    rw [h0]
    subst hL
    clear hrd hl h hA h1 h0 hn
    go_enter Try.func24, Try.ntmps24
    go_wp2_with (first
      | (go_at_call 36; refine HCL.out.mono ?_; rintro e w1 ⟨v, rfl, ho, hb1⟩; have HO := Lib.hid ho; have HB1 := Lib.hid hb1; clear ho hb1))
    go_ret
    exact ⟨v, rfl, HO.out, HB1.out⟩
  | some ad =>
    rw [hA] at hrd hc
    have hcl := cloneI_c ad p.ct L w (by omega) hrd
    rw [hl] at hcl
    have HCL := Lib.hid hcl; clear hcl hrd hl h hA hn
    go_enter Try.func24, Try.ntmps24
    go_wp2_with (first
      | (go_at_call 36; refine HCL.out.mono ?_; rintro e w1 ⟨v, rfl, ho, hb1⟩; have HO := Lib.hid ho; have HB1 := Lib.hid hb1; clear ho hb1))
    go_ret
    exact ⟨v, rfl, HO.out, HB1.out⟩
theorem log_nil (w : World) : Calls Try.prog 25 #[.pointer none] w fun e w' => e = .returned (.slice none 0 0) ∧ w = w' := by
  go_enter Try.func25, Try.ntmps25
  go_wp2
  go_ret
  exact ⟨rfl, rfl⟩
theorem log_c {s : Mst} {p : Pla} {w : World} (h : RamAt s p w) (hn : s.l.length ≤ 1000) : Calls Try.prog 25 #[.pointer (some ⟨p.g, 0, none⟩)] w (RetOwn w 31 4 s.l.length (cellsW s.l)) := by
  have hc : w.cell? ⟨p.g, 2, none⟩ = some p.vl := h.head.cell 2
  have ho := h.log
  obtain ⟨A, c, e, -, -, -, hnil⟩ := own_parts ho
  rw [e] at hc ho
  have hrd := Rd.of_row ho
  cases A with
  | none =>
    rw [hnil rfl] at hc ho
    have h0 : s.l.length = 0 := by
      rcases ho.2 with ⟨_, h0⟩ | ⟨_, _, _, hv, _⟩
      · exact h0
      · cases hv
    have hL : s.l = [] := List.eq_nil_of_length_eq_zero h0
    have HCL := Lib.hid (cloneW_nil w)
    rw [h0] at hc ⊢
    rw [hL]
    clear hrd ho h hL h0 hn hnil e
    go_enter Try.func25, Try.ntmps25
    go_wp2_with (first
      | (go_at_call 44; refine HCL.out.mono ?_; rintro e w1 ⟨v, rfl, ho, hb1⟩; have HO := Lib.hid ho; have HB1 := Lib.hid hb1; clear ho hb1))
    go_ret
    exact ⟨v, rfl, HO.out, HB1.out⟩
  | some ad =>
    have hcl := cloneW_c ad c s.l w (by omega) hrd
    have HCL := Lib.hid hcl; clear hcl hrd h hn ho e hnil
    go_enter Try.func25, Try.ntmps25
    go_wp2_with (first
      | (go_at_call 44; refine HCL.out.mono ?_; rintro e w1 ⟨v, rfl, ho, hb1⟩; have HO := Lib.hid ho; have HB1 := Lib.hid hb1; clear ho hb1))
    go_ret
    exact ⟨v, rfl, HO.out, HB1.out⟩
/-! ### Load -/
theorem own_mono {w : World} {base base' n : Nat} {e : TypeId} {z : Nat} {v : Value} {xs : List Value} (h : w.ownsRow base e z v n xs) (hb : base' ≤ base) : w.ownsRow base' e z v n xs := by
  refine ⟨h.1, ?_⟩
  rcases h.2 with h0 | ⟨g, c, cur, e, h1, h2⟩
  · exact .inl h0
  · exact .inr ⟨g, c, cur, e, by omega, h2⟩
theorem sub_rd {e : TypeId} {xs : List Value} {g : Nat} {w : World} (h : RowB e xs g w) (a z : Nat) : Rd w w.heap.size (some ⟨g, a, none⟩) ((xs.drop a).take z) := by
  refine .inr ⟨g, a, rfl, h.lt, fun i v hv => ?_⟩
  rw [List.getElem?_take] at hv
  split at hv
  · rw [List.getElem?_drop] at hv
    obtain ⟨hi, rfl⟩ := List.getElem?_eq_some_iff.1 hv
    exact h.cell hi
  · cases hv
/-- The bytes and the tags of a place. -/
def bytesP (s : Mst) (a z : Nat) : List Int := ((bytesM s.b0 s.l).drop a).take z
def tagsP (s : Mst) (a z : Nat) : List Int := ((tagsM s.b0 s.l).drop a).take z
theorem bytesP_len (s : Mst) (a z : Nat) (h : a + z ≤ s.b0.length) : (bytesP s a z).length = z := by unfold bytesP; rw [List.length_take, List.length_drop, bytesM_len]; omega
theorem tagsP_len (s : Mst) (a z : Nat) (h : a + z ≤ s.b0.length) : (tagsP s a z).length = z := by unfold tagsP; rw [List.length_take, List.length_drop, tagsM_len]; omega
theorem cellsB_sub (l : List Int) (a z : Nat) : cellsB ((l.drop a).take z) = ((cellsB l).drop a).take z := by unfold cellsB; rw [List.map_take, List.map_drop]
theorem cellsI_sub (l : List Int) (a z : Nat) : cellsI ((l.drop a).take z) = ((cellsI l).drop a).take z := by unfold cellsI; rw [List.map_take, List.map_drop]
/-- A byte of the memory is a byte. -/
theorem foldB_byt (q : Nat) : ∀ (l : List Wr) (p : Int × Int), 0 ≤ p.1 ∧ p.1 < 256 → 0 ≤ (l.foldl (stepB q) p).1 ∧ (l.foldl (stepB q) p).1 < 256
  | [], _, h => h
  | x :: l, p, h => by
    refine foldB_byt q l _ ?_
    unfold stepB
    split
    · show 0 ≤ byteAt _ _ ∧ byteAt _ _ < 256
      unfold byteAt
      omega
    · exact h
theorem lastB_byt {b0 : List Int} (hb : Byts b0) (l : List Wr) (q : Nat) : 0 ≤ (lastB b0 l q).1 ∧ (lastB b0 l q).1 < 256 := by
  refine foldB_byt q l _ ?_
  show 0 ≤ b0.getD q 0 ∧ b0.getD q 0 < 256
  rw [List.getD_eq_getElem?_getD]
  cases hq : b0[q]? with
  | none => simp
  | some x =>
    obtain ⟨hi, rfl⟩ := List.getElem?_eq_some_iff.1 hq
    exact hb.get hi
theorem bytesM_byts {b0 : List Int} (hb : Byts b0) (l : List Wr) : Byts (bytesM b0 l) := by
  intro x hx
  unfold bytesM at hx
  obtain ⟨q, _, rfl⟩ := List.mem_map.1 hx
  exact lastB_byt hb l q
def RetLoad (w : World) (x : Int) (l : List Int) (e : Ending) (w' : World) : Prop := ∃ v, e = .returned (.tuple #[.int .u64 x, v, .bool true]) ∧ w'.ownsRow w.heap.size 3 1 v l.length (cellsI l) ∧ BW w w'
theorem load_nil (a z : Int) (w : World) : Calls Try.prog 16 #[.pointer none, .int .i64 a, .int .i64 z] w fun e w' => e = .returned (.tuple #[.int .u64 0, .slice none 0 0, .bool false]) ∧ BW w w' := by
  have HK := Lib.hid (has_nil a z)
  go_enter Try.func16, Try.ntmps16
  go_wp2_with (first
    | (go_at_call 29; refine (HK.out _).mono ?_; rintro e w1 ⟨rfl, hb⟩))
  go_ret3
  exact ⟨rfl, hb⟩
theorem load_no {s : Mst} {p : Pla} {w : World} (h : RamAt s p w) (hn : s.b0.length ≤ 1024) (a z : Int) (ha : a ≤ 9223372036854775807) (hm : mayP s.n a z = false) :
    Calls Try.prog 16 #[.pointer (some ⟨p.g, 0, none⟩), .int .i64 a, .int .i64 z] w fun e w' => e = .returned (.tuple #[.int .u64 0, .slice none 0 0, .bool false]) ∧ BW w w' := by
  have hk := has_c h hn a z ha
  rw [hm] at hk
  have HK := Lib.hid hk; clear hk h hm
  go_enter Try.func16, Try.ntmps16
  go_wp2_with (first
    | (go_at_call 29; refine HK.out.mono ?_; rintro e w1 ⟨rfl, hb⟩))
  go_ret3
  exact ⟨rfl, hb⟩
/-- The memory, in a world behind w. -/
def SR (s : Mst) (p : Pla) (w x : World) : Prop := BW w x ∧ RamAt s p x
theorem SR.on {s : Mst} {p : Pla} {w x y : World} (h : SR s p w x) (k : BW x y) : SR s p w y := ⟨h.1.on k, h.2.on k⟩
set_option maxHeartbeats 4000000 in
theorem load_yes {s : Mst} {p : Pla} {w : World} (h : RamAt s p w) (hn : s.b0.length ≤ 1024) (hby : Byts s.b0) (a z : Nat) (hm : mayP s.n a z = true) :
    Calls Try.prog 16 #[.pointer (some ⟨p.g, 0, none⟩), .int .i64 (a : Int), .int .i64 (z : Int)] w (RetLoad w (ofB (bytesP s a z)) (tagsP s a z)) := by
  have hmo := mayP_out hm
  have hz : 1 ≤ z ∧ z ≤ 8 := by omega
  have haz : a + z ≤ s.b0.length := by have := hmo.2.2.2; unfold Mst.n at this; omega
  have hk := has_c h hn a z (by omega)
  rw [hm] at hk
  have HK := Lib.hid hk; clear hk hm hmo
  obtain ⟨hA, hT, -, -, -⟩ : p.Ab = some ⟨p.gb, 0, none⟩ ∧ p.At = some ⟨p.gt, 0, none⟩ ∧ RowB 5 (cellsB (bytesM s.b0 s.l)) p.gb w ∧ RowB 3 (cellsI (tagsM s.b0 s.l)) p.gt w ∧ p.gb ≠ p.g ∧ p.gt ≠ p.g ∧ p.gb ≠ p.gt := by
    rcases h.bytes with h0 | h0
    · omega
    · exact h0
  have rows : ∀ x, RamAt s p x → RowB 5 (cellsB (bytesM s.b0 s.l)) p.gb x ∧ RowB 3 (cellsI (tagsM s.b0 s.l)) p.gt x := fun x hx => by
    rcases hx.bytes with h0 | h0
    · omega
    · exact ⟨h0.2.2.1, h0.2.2.2.1⟩
  have hcap := h.cap
  have HS : SR s p w w := ⟨Below.refl _ _, h⟩
  have hof : ∀ x, RamAt s p x → Calls Try.prog 35 #[.slice (some ⟨p.gb, a, none⟩) z (p.cb - a)] x fun e w' => e = .returned (.int .u64 (ofB (bytesP s a z))) ∧ x = w' := fun x hx => by
    have h1 := of_any (some ⟨p.gb, a, none⟩) (p.cb - a) (bytesP s a z) x (by rw [bytesP_len s a z haz]; omega) (by
      intro v hv
      exact bytesM_byts hby s.l v (List.mem_of_mem_drop (List.mem_of_mem_take hv))) (by
      unfold bytesP
      rw [cellsB_sub]
      exact sub_rd (rows x hx).1 a z)
    rw [bytesP_len s a z haz] at h1
    exact h1
  have hcl : ∀ x, RamAt s p x → Calls Try.prog 36 #[.slice (some ⟨p.gt, a, none⟩) z (p.ct - a)] x (RetOwn x 3 1 z (cellsI (tagsP s a z))) := fun x hx => by
    have h1 := cloneI_c ⟨p.gt, a, none⟩ (p.ct - a) (tagsP s a z) x (by rw [tagsP_len s a z haz]; omega) (by
      unfold tagsP
      rw [cellsI_sub]
      exact sub_rd (rows x hx).2 a z)
    rw [tagsP_len s a z haz] at h1
    exact h1
  have HOF := Lib.hid hof
  have HCL := Lib.hid hcl
  have hA8 : a < p.cb ∧ a < p.ct := by omega
  have hrow : ∀ x, SR s p w x → x.cell? ⟨p.g, 0, none⟩ = some (.slice (some ⟨p.gb, 0, none⟩) s.b0.length p.cb) ∧ x.cell? ⟨p.g, 1, none⟩ = some (.slice (some ⟨p.gt, 0, none⟩) s.b0.length p.ct) := fun x hx => by
    have h0 := hx.2.head.cell 0
    have h1 := hx.2.head.cell 1
    rw [hA] at h0
    rw [hT] at h1
    exact ⟨h0, h1⟩
  have HRW := Lib.hid hrow
  have HAZ := Lib.hid haz
  have HTL := Lib.hid (tagsP_len s a z haz)
  clear hof hcl hrow rows h hA hT haz
  go_enter Try.func16, Try.ntmps16
  go_upto_region 3 with (first
    | (go_at_call 29; refine HK.out.mono ?_; rintro e w1 ⟨rfl, hb⟩; have HS1 := HS.on hb; clear hb HS))
  have HS := HS1.on (Below.drew (Below.refl _ _))
  clear HS1
  refine wp_region_held (S := SR s p w) (by kernel_rfl) ?_
  change wpAnyH _ _ _ _ _ _ _ _ (World.drew _)
  generalize World.drew _ = w4 at *
  refine hk_val (i := 0) (oi := ⟨some 15, .move _, _, _, _, _⟩) (.pointer (some ⟨p.g, 0, none⟩)) rfl (by kernel_rfl) (by kernel_rfl) (by kernel_rfl) (fun _ _ _ h => h) (by kernel_rfl) (fun _ _ => rfl) HS ?_
  simp only [Act.put, List.setIfInBounds_toArray, List.set_cons_zero, List.set_cons_succ]
  refine hk_val (i := 1) (oi := ⟨some 16, .nilCheck _, _, _, _, _⟩) (.pointer (some ⟨p.g, 0, none⟩)) rfl (by kernel_rfl) (by kernel_rfl) (by kernel_rfl) (fun _ _ _ h => h) (by kernel_rfl) (fun _ _ => rfl) HS ?_
  simp only [Act.put, List.setIfInBounds_toArray, List.set_cons_zero, List.set_cons_succ]
  refine hk_val (i := 2) (oi := ⟨some 17, .fieldAddr _ _ _, _, _, _, _⟩) (.pointer (some ⟨p.g, 0, none⟩)) rfl (by kernel_rfl) (by kernel_rfl) (by kernel_rfl) (fun _ _ _ h => h) (by kernel_rfl) (fun _ _ => by kernel_rfl) HS ?_
  simp only [Act.put, List.setIfInBounds_toArray, List.set_cons_zero, List.set_cons_succ]
  refine hk_val (i := 3) (oi := ⟨some 18, .load _ _, _, _, _, _⟩) (.slice (some ⟨p.gb, 0, none⟩) s.b0.length p.cb) rfl (by kernel_rfl) (by kernel_rfl) (by kernel_rfl) (fun _ _ _ h => h) (by kernel_rfl) (fun x hx => ex_load rfl rfl (HRW.out x hx).1 (by kernel_rfl)) HS ?_
  simp only [Act.put, List.setIfInBounds_toArray, List.set_cons_zero, List.set_cons_succ]
  refine hk_val (i := 4) (oi := ⟨some 19, .move _, _, _, _, _⟩) (.int .i64 (a : Int)) rfl (by kernel_rfl) (by kernel_rfl) (by kernel_rfl) (fun _ _ _ h => h) (by kernel_rfl) (fun _ _ => rfl) HS ?_
  simp only [Act.put, List.setIfInBounds_toArray, List.set_cons_zero, List.set_cons_succ]
  refine hk_val (i := 5) (oi := ⟨some 20, .slice _ _ _ _ _, _, _, _, _⟩) (.slice (some ⟨p.gb, a, none⟩) (s.b0.length - a) (p.cb - a)) rfl (by kernel_rfl) (by kernel_rfl) (by kernel_rfl) (fun _ _ _ h => h) (by kernel_rfl) (fun _ _ => ex_from0 rfl rfl rfl (by have := HAZ.out; omega) hcap.1 hA8.1 Try.underlying22 (by kernel_rfl)) HS ?_
  simp only [Act.put, List.setIfInBounds_toArray, List.set_cons_zero, List.set_cons_succ]
  refine hk_val (i := 6) (oi := ⟨some 21, .move _, _, _, _, _⟩) (.int .i64 (z : Int)) rfl (by kernel_rfl) (by kernel_rfl) (by kernel_rfl) (fun _ _ _ h => h) (by kernel_rfl) (fun _ _ => rfl) HS ?_
  simp only [Act.put, List.setIfInBounds_toArray, List.set_cons_zero, List.set_cons_succ]
  refine hk_val (i := 7) (oi := ⟨some 22, .slice _ _ _ _ _, _, _, _, _⟩) (.slice (some ⟨p.gb, a, none⟩) z (p.cb - a)) rfl (by kernel_rfl) (by kernel_rfl) (by kernel_rfl) (fun _ _ _ h => h) (by kernel_rfl) (fun _ _ => ex_to rfl rfl rfl (by have := HAZ.out; omega) Try.underlying22 (by kernel_rfl)) HS ?_
  simp only [Act.put, List.setIfInBounds_toArray, List.set_cons_zero, List.set_cons_succ]
  refine hk_val (i := 9) (oi := ⟨some 24, .move _, _, _, _, _⟩) (.pointer (some ⟨p.g, 0, none⟩)) rfl (by kernel_rfl) (by kernel_rfl) (by kernel_rfl) (fun _ _ _ h => h) (by kernel_rfl) (fun _ _ => rfl) HS ?_
  simp only [Act.put, List.setIfInBounds_toArray, List.set_cons_zero, List.set_cons_succ]
  refine hk_val (i := 10) (oi := ⟨some 25, .nilCheck _, _, _, _, _⟩) (.pointer (some ⟨p.g, 0, none⟩)) rfl (by kernel_rfl) (by kernel_rfl) (by kernel_rfl) (fun _ _ _ h => h) (by kernel_rfl) (fun _ _ => rfl) HS ?_
  simp only [Act.put, List.setIfInBounds_toArray, List.set_cons_zero, List.set_cons_succ]
  refine hk_val (i := 11) (oi := ⟨some 26, .fieldAddr _ _ _, _, _, _, _⟩) (.pointer (some ⟨p.g, 1, none⟩)) rfl (by kernel_rfl) (by kernel_rfl) (by kernel_rfl) (fun _ _ _ h => h) (by kernel_rfl) (fun _ _ => by kernel_rfl) HS ?_
  simp only [Act.put, List.setIfInBounds_toArray, List.set_cons_zero, List.set_cons_succ]
  refine hk_val (i := 12) (oi := ⟨some 27, .load _ _, _, _, _, _⟩) (.slice (some ⟨p.gt, 0, none⟩) s.b0.length p.ct) rfl (by kernel_rfl) (by kernel_rfl) (by kernel_rfl) (fun _ _ _ h => h) (by kernel_rfl) (fun x hx => ex_load rfl rfl (HRW.out x hx).2 (by kernel_rfl)) HS ?_
  simp only [Act.put, List.setIfInBounds_toArray, List.set_cons_zero, List.set_cons_succ]
  refine hk_val (i := 13) (oi := ⟨some 28, .move _, _, _, _, _⟩) (.int .i64 (a : Int)) rfl (by kernel_rfl) (by kernel_rfl) (by kernel_rfl) (fun _ _ _ h => h) (by kernel_rfl) (fun _ _ => rfl) HS ?_
  simp only [Act.put, List.setIfInBounds_toArray, List.set_cons_zero, List.set_cons_succ]
  refine hk_val (i := 14) (oi := ⟨some 29, .slice _ _ _ _ _, _, _, _, _⟩) (.slice (some ⟨p.gt, a, none⟩) (s.b0.length - a) (p.ct - a)) rfl (by kernel_rfl) (by kernel_rfl) (by kernel_rfl) (fun _ _ _ h => h) (by kernel_rfl) (fun _ _ => ex_from0 rfl rfl rfl (by have := HAZ.out; omega) hcap.2.2.1 hA8.2 Try.underlying37 (by kernel_rfl)) HS ?_
  simp only [Act.put, List.setIfInBounds_toArray, List.set_cons_zero, List.set_cons_succ]
  refine hk_val (i := 15) (oi := ⟨some 30, .move _, _, _, _, _⟩) (.int .i64 (z : Int)) rfl (by kernel_rfl) (by kernel_rfl) (by kernel_rfl) (fun _ _ _ h => h) (by kernel_rfl) (fun _ _ => rfl) HS ?_
  simp only [Act.put, List.setIfInBounds_toArray, List.set_cons_zero, List.set_cons_succ]
  refine hk_val (i := 16) (oi := ⟨some 31, .slice _ _ _ _ _, _, _, _, _⟩) (.slice (some ⟨p.gt, a, none⟩) z (p.ct - a)) rfl (by kernel_rfl) (by kernel_rfl) (by kernel_rfl) (fun _ _ _ h => h) (by kernel_rfl) (fun _ _ => ex_to rfl rfl rfl (by have := HAZ.out; omega) Try.underlying37 (by kernel_rfl)) HS ?_
  simp only [Act.put, List.setIfInBounds_toArray, List.set_cons_zero, List.set_cons_succ]
  refine hk_call (i := 8) (oi := ⟨some 23, .call _, _, _, _, _⟩) (by kernel_rfl) rfl (by kernel_rfl) (by first | rfl | kernel_rfl) (HOF.out _ HS.2) ?_
  rintro e w2 ⟨rfl, rfl⟩
  refine ⟨_, rfl, HS, ?_⟩
  simp only [Act.put, List.setIfInBounds_toArray, List.set_cons_zero, List.set_cons_succ]
  refine hk_call (i := 17) (oi := ⟨some 32, .call _, _, _, _, _⟩) (by kernel_rfl) rfl (by kernel_rfl) (by first | rfl | kernel_rfl) (HCL.out _ HS.2) ?_
  rintro e w3 ⟨v, rfl, ho, hb⟩
  have HO := Lib.hid ho
  have HS5 := HS.on hb
  refine ⟨_, rfl, HS5, ?_⟩
  clear ho
  simp only [Act.put, List.setIfInBounds_toArray, List.set_cons_zero, List.set_cons_succ]
  refine hk_val (i := 18) (oi := ⟨some 6, .assign _, _, _, _, _⟩) (.int .u64 (ofB (bytesP s a z))) rfl (by kernel_rfl) (by kernel_rfl) (by kernel_rfl) (fun _ _ _ h => h) (by kernel_rfl) (fun _ _ => rfl) HS5 ?_
  simp only [Act.put, List.setIfInBounds_toArray, List.set_cons_zero, List.set_cons_succ]
  refine hk_val (i := 19) (oi := ⟨some 7, .assign _, _, _, _, _⟩) (v) rfl (by kernel_rfl) (by kernel_rfl) (by kernel_rfl) (fun _ _ _ h => h) (by kernel_rfl) (fun _ _ => rfl) HS5 ?_
  simp only [Act.put, List.setIfInBounds_toArray, List.set_cons_zero, List.set_cons_succ]
  refine hk_val (i := 20) (oi := ⟨some 8, .assign _, _, _, _, _⟩) (.bool true) rfl (by kernel_rfl) (by kernel_rfl) (by kernel_rfl) (fun _ _ _ h => h) (by kernel_rfl) (fun _ _ => rfl) HS5 ?_
  simp only [Act.put, List.setIfInBounds_toArray, List.set_cons_zero, List.set_cons_succ]
  refine wpAnyH_done (by kernel_rfl) ?_ _
  have HZ5 := Lib.hid (Below.size HS.1)
  go_wp2
  go_ret3
  refine ⟨v, rfl, ?_, HS5.1⟩
  rw [HTL.out]
  exact own_mono HO.out HZ5.out
end Go.Proofs.Yteoemjhhjnkkiaa
