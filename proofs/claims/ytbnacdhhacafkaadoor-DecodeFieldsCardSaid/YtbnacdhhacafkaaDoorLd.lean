/- A package-level variable that a row lists, flat data: its cells, one by one. Of no program. -/
import Derived.Test.YtbnacdhhacafkaaDoorRows
import Derived.LaidLaws
import Derived.ChangeArms
import Derived.OpenShut
import Derived.FnData
import Derived.MakeChecks
namespace Go.Proofs.YtbnacdhhacafkaaDoor

/-- The cells of a datum that has neither pointers nor slices (to a depth). -/
def flatD : Nat → DataW Unit → List Value
  | _, .lit (.int k n) => [.int k n]
  | _, .lit (.bool b) => [.bool b]
  | _, .lit (.string s) => [.string ⟨s.toArray⟩]
  | k + 1, .agg ds => ds.flatMap (flatD k)
  | _, _ => []
def contigF (P : Program) : List Field → Nat → Nat → Bool
  | [], o, n => o == n
  | f :: r, o, n => f.offset == o && contigF P r (o + P.cellsOf f.type) n
/-- A type of integers, bools and strings, in arrays and structs. -/
def flatT (P : Program) : Nat → TypeId → Bool
  | 0, _ => false
  | k + 1, t => match P.underlying t with
    | some .bool => true
    | some (.int _) => true
    | some .string => true
    | some (.array n e) => P.cellsOf t == n * P.cellsOf e && flatT P k e
    | some (.struct fs) => contigF P fs.toList 0 (P.cellsOf t) && fs.toList.all fun f => flatT P k f.type
    | _ => false

section
variable {enc : TypeId × Value → Unit} {P : Program} {w : World} {base : Nat} {sp : Nat → Bool} {held : Bool}
theorem trod_bool' {fuel : Nat} {t : TypeId} {cs : List Value} {x : DataW Unit × List MemPlace} (ht : P.underlying t = some .bool) (h : DataW.trod enc P w base sp held fuel t cs = some x) : ∃ b, cs = [.bool b] ∧ x = (.lit (.bool b), []) := by
  cases fuel with
  | zero => simp [DataW.trod] at h
  | succ n =>
    unfold DataW.trod at h
    rw [ht] at h
    split at h <;> simp_all
theorem flat_fields {m k : Nat} {cs : List Value} (ih : ∀ t xs d p, DataW.trod enc P w base sp held m t xs = some (d, p) → flatT P k t = true → xs = flatD k d) :
    ∀ (fl : List Field) (o : Nat) (xs : List (DataW Unit × List MemPlace)), fl.mapM (fun f => DataW.trod enc P w base sp held m f.type ((cs.drop f.offset).take (P.cellsOf f.type))) = some xs →
      contigF P fl o cs.length = true → (∀ f ∈ fl, flatT P k f.type = true) → cs.drop o = (xs.map (·.1)).flatMap (flatD k)
  | [], o, xs, h, hc, _ => by
    simp only [List.mapM_nil, Option.pure_def, Option.some.injEq] at h
    subst h
    simp only [contigF, beq_iff_eq] at hc
    rw [hc]; simp
  | f :: r, o, xs, h, hc, hf => by
    simp only [List.mapM_cons, Option.bind_eq_bind, Option.bind_eq_some_iff, Option.pure_def, Option.some.injEq] at h
    obtain ⟨x, hx, r', hr', rfl⟩ := h
    simp only [contigF, Bool.and_eq_true, beq_iff_eq] at hc
    have h1 := ih _ _ x.1 x.2 hx (hf f (List.mem_cons_self ..))
    have h2 := flat_fields ih r _ r' hr' hc.2 (fun g hg => hf g (List.mem_cons_of_mem _ hg))
    rw [hc.1] at h1
    rw [List.map_cons, List.flatMap_cons, ← h1, ← h2, ← List.drop_drop, List.take_append_drop]
theorem flat_elems {m c k : Nat} {e : TypeId} {cs : List Value} (ih : ∀ xs d p, DataW.trod enc P w base sp held m e xs = some (d, p) → xs = flatD k d) :
    ∀ (n s : Nat) (xs : List (DataW Unit × List MemPlace)), (List.range' s n).mapM (fun i => DataW.trod enc P w base sp held m e ((cs.drop (i * c)).take c)) = some xs →
      (s + n) * c = cs.length → cs.drop (s * c) = (xs.map (·.1)).flatMap (flatD k)
  | 0, s, xs, h, hc => by
    simp only [List.range'_zero, List.mapM_nil, Option.pure_def, Option.some.injEq] at h
    subst h
    rw [Nat.add_zero] at hc
    rw [hc]; simp
  | n + 1, s, xs, h, hc => by
    simp only [List.range'_succ, List.mapM_cons, Option.bind_eq_bind, Option.bind_eq_some_iff, Option.pure_def, Option.some.injEq] at h
    obtain ⟨x, hx, r', hr', rfl⟩ := h
    have h1 := ih _ x.1 x.2 hx
    have h2 := flat_elems ih n (s + 1) r' hr' (by rw [← hc]; congr 1; omega)
    rw [List.map_cons, List.flatMap_cons, ← h1, ← h2, Nat.succ_mul, ← List.drop_drop, List.take_append_drop]
theorem flat_trod : ∀ (k fuel : Nat) (t : TypeId) (cs : List Value) (d : DataW Unit) (p : List MemPlace), DataW.trod enc P w base sp held fuel t cs = some (d, p) → flatT P k t = true → cs = flatD k d := by
  intro k
  induction k with
  | zero => intro fuel t cs d p _ hk; simp [flatT] at hk
  | succ k ih =>
    intro fuel t cs d p h hk
    unfold flatT at hk
    split at hk
    · rename_i ht
      obtain ⟨b, rfl, hx⟩ := trod_bool' ht h
      cases hx; rfl
    · rename_i kd ht
      obtain ⟨b, rfl, hx, _⟩ := DataW.trod_int ht h
      cases hx; rfl
    · rename_i ht
      obtain ⟨s, rfl, hx, _⟩ := DataW.trod_string ht h
      cases hx; simp [flatD]
    · rename_i n e ht
      simp only [Bool.and_eq_true, beq_iff_eq] at hk
      cases fuel with
      | zero => simp [DataW.trod] at h
      | succ m =>
        simp only [DataW.trod, ht] at h
        split at h
        · rename_i hl
          obtain ⟨xs, hm, hx⟩ := Option.map_eq_some_iff.1 h
          cases hx
          rw [List.range_eq_range'] at hm
          have := flat_elems (cs := cs) (fun ys d p hy => ih m e ys d p hy hk.2) n 0 xs hm (by rw [hl, hk.1, Nat.zero_add])
          rw [Nat.zero_mul, List.drop_zero] at this
          exact this
        · cases h
    · rename_i fs ht
      simp only [Bool.and_eq_true] at hk
      cases fuel with
      | zero => simp [DataW.trod] at h
      | succ m =>
        simp only [DataW.trod, ht] at h
        split at h
        · rename_i hl
          obtain ⟨xs, hm, hx⟩ := Option.map_eq_some_iff.1 h
          cases hx
          have := flat_fields (cs := cs) (ih m) fs.toList 0 xs hm (by rw [hl]; exact hk.1) (fun f hf => List.all_eq_true.1 hk.2 f hf)
          rw [List.drop_zero] at this
          exact this
        · cases h
    · cases hk
end

/-- FROM A ROW'S CONDITION TO THE CELLS of a listed variable of flat data. -/
theorem flat_laid {P : Program} {W : World} {name : String} {d : DataW Unit} {g : Nat} {t : TypeId} (k : Nat) (hg : P.globalNamed name = some g) (hty : (P.globals[g]?).map (·.type) = some t) (hf : flatT P k t = true) :
    ∀ {laid : List (String × DataW Unit)} {ps : List MemPlace}, DataW.LaidVars P W laid ps → (name, d) ∈ laid → ∀ i v, (flatD k d)[i]? = some v → W.cell? ⟨g, i, none⟩ = some v
  | [], _, _, hm => by cases hm
  | (n', d') :: r, ps, h, hm => by
    obtain ⟨g', t', cs, fuel, p, q, hg', ht', hvar, hd, hr, _⟩ := h
    intro i v hv
    rcases List.mem_cons.1 hm with e | hm
    · cases e
      obtain rfl := Option.some.inj (hg.symm.trans hg')
      obtain rfl := Option.some.inj (hty.symm.trans ht')
      have hc := flat_trod _ _ _ _ _ _ hd hf
      rw [World.var?_cell hg hvar i, ← Array.getElem?_toList, hc, hv]
    · exact flat_laid k hg hty hf hr hm i v hv
theorem flat_met {P : Program} {W : World} {laid : List (String × DataW Unit)} {name : String} {d : DataW Unit} {g : Nat} {t : TypeId} (k : Nat) (h : laidMetH P laid W) (hm : (name, d) ∈ laid) (hp : (laid.all fun x => x.2.handleName?.isNone) = true)
    (hg : P.globalNamed name = some g) (hty : (P.globals[g]?).map (·.type) = some t) (hf : flatT P k t = true) : ∀ i v, (flatD k d)[i]? = some v → W.cell? ⟨g, i, none⟩ = some v := by
  rw [MakeChecks.laidMetH_plain _ _ _ hp] at h
  obtain ⟨ps, hv, _⟩ := h
  exact flat_laid k hg hty hf hv hm

/-- The whole block of a listed variable of flat data. -/
theorem flat_laid_blk {P : Program} {W : World} {name : String} {d : DataW Unit} {g : Nat} {t : TypeId} (k : Nat) (hg : P.globalNamed name = some g) (hty : (P.globals[g]?).map (·.type) = some t) (hf : flatT P k t = true) :
    ∀ {laid : List (String × DataW Unit)} {ps : List MemPlace}, DataW.LaidVars P W laid ps → (name, d) ∈ laid → ∃ t' fr, W.heap[g]? = some (.cells (flatD k d).toArray t' fr)
  | [], _, _, hm => by cases hm
  | (n', d') :: r, ps, h, hm => by
    obtain ⟨g', t', cs, fuel, p, q, hg', ht', hvar, hd, hr, _⟩ := h
    rcases List.mem_cons.1 hm with e | hm
    · cases e
      obtain rfl := Option.some.inj (hg.symm.trans hg')
      obtain rfl := Option.some.inj (hty.symm.trans ht')
      have hc := flat_trod _ _ _ _ _ _ hd hf
      simp only [World.var?, hg, Option.bind_some] at hvar
      split at hvar
      · rename_i cs' t1 f1 hb
        cases hvar
        exact ⟨t1, f1, by rw [hb, ← hc]⟩
      · cases hvar
    · exact flat_laid_blk k hg hty hf hr hm
theorem flat_blk {P : Program} {W : World} {laid : List (String × DataW Unit)} {name : String} {d : DataW Unit} {g : Nat} {t : TypeId} (k : Nat) (h : laidMetH P laid W) (hm : (name, d) ∈ laid) (hp : (laid.all fun x => x.2.handleName?.isNone) = true)
    (hg : P.globalNamed name = some g) (hty : (P.globals[g]?).map (·.type) = some t) (hf : flatT P k t = true) : ∃ t' fr, W.heap[g]? = some (.cells (flatD k d).toArray t' fr) := by
  rw [MakeChecks.laidMetH_plain _ _ _ hp] at h
  obtain ⟨ps, hv, _⟩ := h
  exact flat_laid_blk k hg hty hf hv hm
end Go.Proofs.YtbnacdhhacafkaaDoor
