/- '==' on two structs whose fields are integers, bools and strings. Of no program. -/
import Derived.Test.YtbnacdhhacafkaaDoorRows
import Derived.WalkKit
import Derived.Laws.StructEq
import Derived.Laws.Rows
namespace Go.Proofs.YtbnacdhhacafkaaDoor
open Go.RowKit

def cellEq : Option Value → Option Value → Bool
  | some (.int _ a), some (.int _ b) => a == b
  | some (.bool a), some (.bool b) => a == b
  | some (.string a), some (.string b) => a.toList == b.toList
  | _, _ => false
/-- Both hold a value of the field's sort. -/
def pairOk (P : Program) (xs ys : Array Value) (f : Field) : Bool :=
  match P.underlying f.type, xs[f.offset]?, ys[f.offset]? with
  | some (.int _), some (.int k _), some (.int k' _) => k == k'
  | some .bool, some (.bool _), some (.bool _) => true
  | some .string, some (.string _), some (.string _) => true
  | _, _, _ => false
theorem cellEq_int (a c : IntKind) (b e : Int) : cellEq (some (.int a b)) (some (.int c e)) = (b == e) := rfl
theorem cellEq_bool (a b : Bool) : cellEq (some (.bool a)) (some (.bool b)) = (a == b) := rfl
theorem cellEq_str (a b : ByteArray) : cellEq (some (.string a)) (some (.string b)) = (a.toList == b.toList) := rfl
section
variable {P : Program} (w : World) {xs ys : Array Value}
theorem run_part_flat {t : TypeId} {d : TypeDesc} {cs : Array Value} {o : Nat} {v : Value} (hu : P.underlying t = some d) (hd : (match d with | .int _ | .bool | .string => true | _ => false) = true) (hv : cs[o]? = some v) : (part t cs o).run P w = .ok v w := by
  have hagg : (isAgg t).run P w = .ok false w := by
    unfold isAgg
    rw [Sem.run_bind, run_underlying hu w]
    cases d <;> simp_all
  simp [part, Sem.run_bind, hagg, hv]
theorem run_eqFields_flat (d : Nat) : ∀ fs : List Field, fs.all (pairOk P xs ys) = true →
    (Op.eqFields (d + 1) xs ys fs).run P w = .ok (fs.all fun f => f.name == "_" || cellEq xs[f.offset]? ys[f.offset]?) w
  | [], _ => by simp [Op.eqFields]
  | f :: fs, h => by
    simp only [List.all_cons, Bool.and_eq_true] at h
    obtain ⟨h1, h2⟩ := h
    have ih := run_eqFields_flat d fs h2
    unfold Op.eqFields
    by_cases hn : f.name = "_"
    · simp [hn, ih]
    · have hnb : (f.name == "_") = false := by simpa using hn
      unfold pairOk at h1
      split at h1
      · rename_i k a b c e hu hx hy
        obtain rfl : a = c := by simpa using h1
        simp only [hn, ne_eq, not_false_eq_true, if_true, Sem.run_bind, run_part_flat w hu rfl hx, run_part_flat w hu rfl hy, Result.andThen_ok, run_equalIn_int w d f.type _ _ _ _ hu]
        rw [List.all_cons, hnb, hx, hy]
        rw [cellEq_int, Bool.false_or]
        cases hb : (b == e)
        · simp
        · simp [ih]
      · rename_i a b hu hx hy
        simp only [hn, ne_eq, not_false_eq_true, if_true, Sem.run_bind, run_part_flat w hu rfl hx, run_part_flat w hu rfl hy, Result.andThen_ok, run_equalIn_bool' w d f.type _ _ hu]
        rw [List.all_cons, hnb, hx, hy]
        rw [cellEq_bool, Bool.false_or]
        cases hb : (a == b)
        · simp
        · simp [ih]
      · rename_i a b hu hx hy
        simp only [hn, ne_eq, not_false_eq_true, if_true, Sem.run_bind, run_part_flat w hu rfl hx, run_part_flat w hu rfl hy, Result.andThen_ok, run_equalIn_string w d f.type _ _ hu]
        rw [List.all_cons, hnb, hx, hy]
        rw [cellEq_str, Bool.false_or]
        cases hb : (a.toList == b.toList)
        · simp
        · simp [ih]
      · cases h1
theorem run_eql_flat (t : TypeId) (ht : P.underlying t = some (.struct (P.fieldsOf t))) (hp : P.stoodInHeld t = false) (h : (P.fieldsOf t).toList.all (pairOk P xs ys) = true) :
    (binOp .eql t (.agg xs) (.agg ys)).run P w = .ok (.bool ((P.fieldsOf t).toList.all fun f => f.name == "_" || cellEq xs[f.offset]? ys[f.offset]?)) w := by
  rw [run_eql_struct, run_equalIn_struct w 9999 t xs ys ht hp, run_eqFields_flat w 9998 _ h]
  rfl
theorem cellEq_same {P : Program} {f : Field} (h : pairOk P xs xs f = true) : cellEq xs[f.offset]? xs[f.offset]? = true := by
  unfold pairOk at h
  split at h
  · rename_i hx _; rw [hx]; simp [cellEq]
  · rename_i hx _; rw [hx]; simp [cellEq]
  · rename_i hx _; rw [hx]; simp [cellEq]
  · cases h
/-- A value is the same as itself. -/
theorem run_eql_same (t : TypeId) (ht : P.underlying t = some (.struct (P.fieldsOf t))) (hp : P.stoodInHeld t = false) (h : (P.fieldsOf t).toList.all (pairOk P xs xs) = true) :
    (binOp .eql t (.agg xs) (.agg xs)).run P w = .ok (.bool true) w := by
  rw [run_eql_flat w t ht hp h]
  have e : ((P.fieldsOf t).toList.all fun f => f.name == "_" || cellEq xs[f.offset]? xs[f.offset]?) = true := by
    rw [List.all_eq_true] at h ⊢
    intro f hf
    rw [cellEq_same (h f hf), Bool.or_true]
  rw [e]
theorem run_neq_same (t : TypeId) (ht : P.underlying t = some (.struct (P.fieldsOf t))) (hp : P.stoodInHeld t = false) (h : (P.fieldsOf t).toList.all (pairOk P xs xs) = true) :
    (binOp .neq t (.agg xs) (.agg xs)).run P w = .ok (.bool false) w := by
  have e : ((P.fieldsOf t).toList.all fun f => f.name == "_" || cellEq xs[f.offset]? xs[f.offset]?) = true := by
    rw [List.all_eq_true] at h ⊢
    intro f hf
    rw [cellEq_same (h f hf), Bool.or_true]
  rw [run_neq_struct, run_equalIn_struct w 9999 t xs xs ht hp, run_eqFields_flat w 9998 _ h, e]
  rfl
end
end Go.Proofs.YtbnacdhhacafkaaDoor
