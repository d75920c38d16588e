/- SbufSame, plain: the bytes that stores leave hang on each block's stores in their order alone. -/
import Derived.Test.YthifeaolodmhhaaVx
set_option maxRecDepth 100000
set_option linter.unusedVariables false
namespace Go.Proofs.Ythifeaolodmhhaa
open Go.RowKit

def setB (B : List Int) (a : Nat) (d : Int) : Nat → List Int
  | 0 => B
  | k + 1 => (setB B a d k).set (a + k) (byteAt d k)
theorem setB_len (B : List Int) (a : Nat) (d : Int) : ∀ k, (setB B a d k).length = B.length
  | 0 => rfl
  | k + 1 => by rw [setB, List.length_set, setB_len B a d k]
theorem setB_get (B : List Int) (a : Nat) (d : Int) (q : Nat) : ∀ k, a + k ≤ B.length → (setB B a d k)[q]? = if a ≤ q ∧ q < a + k then some (byteAt d (q - a)) else B[q]?
  | 0, _ => by rw [if_neg (by omega)]; rfl
  | k + 1, h => by
    have ih := setB_get B a d q k (by omega)
    simp only [setB]
    rw [List.getElem?_set, setB_len]
    by_cases c1 : a + k = q
    · rw [if_pos c1, if_pos (by omega), if_pos (by omega)]
      congr 2
      omega
    · rw [if_neg c1, ih]
      by_cases c2 : a ≤ q ∧ q < a + k
      · rw [if_pos c2, if_pos (by omega)]
      · rw [if_neg c2, if_neg (by omega)]
theorem bytesM_get (b0 : List Int) (l : List Wr) (q : Nat) : (bytesM b0 l)[q]? = if q < b0.length then some (lastB b0 l q).1 else none := by
  unfold bytesM
  rw [List.getElem?_map]
  by_cases h : q < b0.length
  · rw [List.getElem?_range h, if_pos h]; rfl
  · rw [if_neg h, List.getElem?_eq_none (by simp; omega)]; rfl
theorem hasB_iff' {x : Wr} {a z q : Nat} (h1 : x.addr = a) (h2 : x.size = z) : hasB x q = decide (a ≤ q ∧ q < a + z) := by
  unfold hasB
  rw [h1, h2, ← Bool.decide_and]
  exact decide_eq_decide.2 (by omega)
theorem setB_all (b0 : List Int) (l : List Wr) (x : Wr) {a z : Nat} (h1 : x.addr = a) (h2 : x.size = z) (h : a + z ≤ b0.length) : setB (bytesM b0 l) a x.data z = bytesM b0 (l ++ [x]) := by
  refine List.ext_getElem? fun q => ?_
  rw [setB_get _ _ _ _ _ (by rw [bytesM_len]; exact h), bytesM_get, bytesM_get, lastB_snoc]
  by_cases c : a ≤ q ∧ q < a + z
  · rw [if_pos c, if_pos (by omega), stepB_yes (by rw [hasB_iff' h1 h2]; exact decide_eq_true c), h1]
    show some (byteAt x.data _) = some (byteAt x.data _)
    congr 2
    omega
  · rw [if_neg c, stepB_no (by rw [hasB_iff' h1 h2]; exact decide_eq_false c)]
theorem byteAt_low (x : Wr) {j : Nat} (hj : (j : Int) < x.size) : byteAt (low x).data j = byteAt x.data j := by
  show byteAt (zx x.data (8 * x.size.toNat)) j = byteAt x.data j
  unfold byteAt zx
  obtain ⟨z, hz⟩ : ∃ z : Nat, x.size = (z : Int) := ⟨x.size.toNat, by omega⟩
  rw [hz, Int.toNat_natCast, p256]
  obtain ⟨m, hm⟩ : ∃ m, z = j + (m + 1) := ⟨z - j - 1, by omega⟩
  have e : (256 : Int) ^ z = 256 ^ j * (256 ^ m * 256) := by rw [hm, Int.pow_add, Int.pow_succ]
  rw [e]
  have hj0 : (0 : Int) < 256 ^ j := p256_pos j
  have h1 : x.data % (256 ^ j * (256 ^ m * 256)) / 256 ^ j = x.data / 256 ^ j % (256 ^ m * 256) := by
    rw [Int.mul_comm (256 ^ j) (256 ^ m * 256), Int.mul_comm (256 ^ m * 256) (256 ^ j)]
    have := Int.emod_emod_of_dvd x.data (Int.dvd_refl (256 ^ j * (256 ^ m * 256)))
    have hd : x.data = 256 ^ j * (256 ^ m * 256) * (x.data / (256 ^ j * (256 ^ m * 256))) + x.data % (256 ^ j * (256 ^ m * 256)) := (Int.mul_ediv_add_emod _ _).symm
    have h2 : x.data / 256 ^ j = (256 ^ m * 256) * (x.data / (256 ^ j * (256 ^ m * 256))) + x.data % (256 ^ j * (256 ^ m * 256)) / 256 ^ j := by
      have h3 : x.data = x.data % (256 ^ j * (256 ^ m * 256)) + (256 ^ m * 256) * (x.data / (256 ^ j * (256 ^ m * 256))) * 256 ^ j := by
        have h4 : (256 ^ m * 256) * (x.data / (256 ^ j * (256 ^ m * 256))) * 256 ^ j = 256 ^ j * (256 ^ m * 256) * (x.data / (256 ^ j * (256 ^ m * 256))) := by
          rw [Int.mul_comm _ (256 ^ j : Int), ← Int.mul_assoc]
        omega
      conv => lhs; rw [h3]
      rw [Int.add_mul_ediv_right _ _ (by omega)]
      omega
    rw [h2, Int.add_comm, Int.add_mul_emod_self_left]
    symm
    refine Int.emod_eq_of_lt (Int.ediv_nonneg (Int.emod_nonneg _ ?_) (Int.le_of_lt hj0)) ?_
    · have : (0 : Int) < 256 ^ j * (256 ^ m * 256) := Int.mul_pos hj0 (Int.mul_pos (p256_pos m) (by decide))
      omega
    · refine Int.ediv_lt_of_lt_mul hj0 ?_
      have hA : (256 : Int) ^ j * (256 ^ m * 256) = 256 ^ m * 256 * 256 ^ j := Int.mul_comm _ _
      rw [← hA]
      exact Int.emod_lt_of_pos _ (Int.mul_pos hj0 (Int.mul_pos (p256_pos m) (by decide)))
  rw [h1]
  exact Int.emod_emod_of_dvd _ ⟨256 ^ m, by rw [Int.mul_comm]⟩
theorem stepB_low {x : Wr} (q : Nat) (p : Int × Int) : stepB q p (low x) = stepB q p x := by
  unfold stepB
  have e : hasB (low x) q = hasB x q := rfl
  rw [e]
  by_cases h : hasB x q = true
  · rw [if_pos h, if_pos h]
    unfold hasB at h
    simp only [Bool.and_eq_true, decide_eq_true_eq] at h
    show (byteAt (low x).data ((q : Int) - x.addr).toNat, x.id) = _
    rw [byteAt_low x (by omega)]
  · rw [if_neg h, if_neg h]
theorem bytesM_low (b0 : List Int) (l : List Wr) : bytesM b0 (l.map low) = bytesM b0 l := by
  refine List.ext_getElem? fun q => ?_
  rw [bytesM_get, bytesM_get]
  congr 2
  unfold lastB
  rw [List.foldl_map]
  simp only [stepB_low]
theorem lastB_filter (b0 : List Int) (l : List Wr) (q : Nat) : lastB b0 (l.filter fun x => hasB x q) q = lastB b0 l q := by
  unfold lastB
  rw [List.foldl_filter]
  congr 1
  funext p x
  unfold stepB
  by_cases h : hasB x q = true
  · rw [if_pos h]
  · rw [if_neg h]; simp at h; rw [if_neg (by rw [h]; decide)]
theorem has_block {x : Wr} (hm : mayW x = true) {q : Int} (h1 : x.addr ≤ q) (h2 : q < x.addr + x.size) : bkN x = q / 8 := by
  obtain ⟨_, hz, h0, hr, _⟩ := mayW_out hm
  unfold bkN
  rcases hz with hz | hz | hz | hz <;> rw [hz] at hr h2 <;> omega
theorem fb_has {l : List Wr} (hm : ∀ x ∈ l, mayW x = true) (q : Nat) : (fb ((q : Int) / 8) l).filter (fun x => hasB x q) = l.filter fun x => hasB x q := by
  unfold fb
  rw [List.filter_filter]
  refine List.filter_congr fun x hx => ?_
  cases hh : hasB x q with
  | false => rfl
  | true =>
    unfold hasB at hh
    simp only [Bool.and_eq_true, decide_eq_true_eq] at hh
    rw [has_block (hm x hx) hh.1 hh.2]
    simp
theorem bytesM_fb (b0 : List Int) {l m : List Wr} (hl : ∀ x ∈ l, mayW x = true) (hm : ∀ x ∈ m, mayW x = true) (h : ∀ β, fb β l = fb β m) : bytesM b0 l = bytesM b0 m := by
  refine List.ext_getElem? fun q => ?_
  rw [bytesM_get, bytesM_get]
  congr 2
  rw [← lastB_filter b0 l, ← lastB_filter b0 m, ← fb_has hl, ← fb_has hm, h]

/-! ### Acts, and what is drained -/
def at0 : At := ⟨0, ⟨0, 0, 0, 0⟩⟩
/-- The stores that were taken. -/
def accS (l : List At) : Nat → List Wr
  | 0 => []
  | k + 1 => if (l.getD k at0).kind ≠ 1 ∧ (placeN (runA l k) (l.getD k at0).w).2 = true then accS l k ++ [(l.getD k at0).w] else accS l k
theorem getD_at {l : List At} {k : Nat} (h : k < l.length) : l.getD k at0 = l[k] := by rw [List.getD_eq_getElem?_getD, List.getElem?_eq_getElem h]; rfl
theorem acc_facts (l : List At) (hl : Wats l) : ∀ k, k ≤ l.length → BsOk (runA l k) ∧ (∀ x ∈ accS l k, mayW x = true) ∧ ∀ β, fb β ((accS l k).map low) = fb β (flatE (runA l k).es)
  | 0, _ => by rw [runA_zero]; exact ⟨BsOk.zero, by simp [accS], fun β => by simp [accS, flatE]⟩
  | k + 1, h => by
    obtain ⟨h1, h2, h3⟩ := acc_facts l hl k (by omega)
    have hw := hl l[k] (List.getElem_mem _)
    rw [runA_succ l k (by omega)]
    unfold accS actB
    rw [getD_at (show k < l.length by omega)]
    by_cases hk : l[k].kind = 1
    · rw [if_pos hk, if_neg (fun c => c.1 hk)]
      exact ⟨h1.bar, h2, fun β => by rw [h3, (barB_ep (runA l k)).2]⟩
    · rw [if_neg hk]
      refine ⟨h1.put _ hw.w.data.1 hw.w.data.2, ?_, fun β => ?_⟩
      · split
        · rename_i c
          intro x hx
          rcases List.mem_append.1 hx with hx | hx
          · exact h2 x hx
          · simp at hx; rw [hx]; exact (placeN_yes c.2).1
        · exact h2
      · split
        · rename_i c
          rw [List.map_append, fb_append, h3, put_fb h1 c.2]
          rfl
        · rename_i c
          have hf : (placeN (runA l k) l[k].w).2 = false := by
            cases hp : (placeN (runA l k) l[k].w).2 with
            | false => rfl
            | true => exact absurd ⟨hk, hp⟩ c
          rw [h3]
          unfold putB
          rw [if_neg (by rw [hf]; decide)]
/-- What has been drained, and what is left. -/
structure Dn (s0 s : Bst) (D : List Wr) (n : Nat) : Prop where
  ok : BsOk s
  len : s.es.length + n = s0.es.length
  same : ∀ β, fb β (D ++ flatE s.es) = fb β (flatE s0.es)
  may : ∀ x ∈ D, StOk x
theorem Dn.start {s : Bst} (h : BsOk s) : Dn s s [] 0 := ⟨h, rfl, fun β => by simp, by simp⟩
theorem out_ok {s : Bst} (h : BsOk s) {q : Int} : ∀ x ∈ outB s q, StOk x := by
  unfold outB
  split
  · rename_i hg
    intro x hx
    unfold mayGo at hg
    simp only [Bool.and_eq_true, decide_eq_true_eq] at hg
    have hk : q.toNat < s.es.length := by omega
    rw [getD_ent hk] at hx
    exact h.st _ (List.getElem_mem _) x hx
  · intro x hx; cases hx
theorem Dn.step {s0 s : Bst} {D : List Wr} {n : Nat} (h : Dn s0 s D n) {q : Int} (hg : mayGo s q = true) : Dn s0 (draB s q) (D ++ outB s q) (n + 1) := by
  refine ⟨h.ok.dra q, ?_, fun β => ?_, fun x hx => ?_⟩
  · have hl := h.len
    unfold draB
    rw [if_pos hg]
    unfold mayGo at hg
    simp only [Bool.and_eq_true, decide_eq_true_eq] at hg
    show (s.es.eraseIdx q.toNat).length + (n + 1) = _
    rw [List.length_eraseIdx, if_pos (by omega)]
    omega
  · rw [List.append_assoc, fb_append, fb_append, ← dra_fb h.ok hg, ← fb_append]
    exact h.same β
  · rcases List.mem_append.1 hx with hx | hx
    · exact h.may x hx
    · exact out_ok h.ok x hx
theorem flat_nil {s : Bst} (h : s.es.length = 0) : flatE s.es = [] := by rw [List.eq_nil_of_length_eq_zero h]; rfl
theorem rdy_some {s : Bst} (h : 0 < s.es.length) : 0 < (rdyI s s.es.length).length := by
  have : (0 : Int) ∈ rdyI s s.es.length := (mayGo_iff s 0).2 (by unfold mayGo; simp; exact h)
  exact List.length_pos_of_mem this
end Go.Proofs.Ythifeaolodmhhaa
