/- Numbers: low bits of words, single bits, and sums of powers of two. Nothing here speaks of a program. Memory in words: a slice that reads as a list of cells. Nothing here speaks of a program. An instruction: its nine cells, as data. '==' on two structs whose fields are integers, bools and strings. Of no program. Lists of instructions in memory: a slice that reads as one; appended to a row of the call's own; '==' on instructions. An instruction and a string that came in, by value; integers' bounds. A slice of instructions that came in, read as a list. Slices that came in, read as lists, with their capacity's bounds: integers. Nothing here speaks of a program of its own. A package-level variable that a row lists, flat data: its cells, one by one. Of no program. An index into an array that was read whole. Of no program. A slice literal: the cells that it lays, said by the caller. Of no program. A block known whole (a struct, or an array of one-cell values, in memory): read, written cell by cell, stored whole. Of no program. -/
import Derived.WalkKit
import Derived.Laws.OwnMore
import Derived.Test.YtoaonoflekcccaaDoorRows
import Derived.Below
import Derived.Laws.Rows
import Derived.Deep.WholeRow
import Derived.Laws.StructEq
import Derived.OwnWalk
import Derived.WideShapes
import Derived.Laws.AppendOwn
import Derived.Laws.AppendOwnNone
import Derived.ProofKit
import Derived.OpenShut
import Derived.Deep.Fields
import Derived.ChangeSame
import Derived.Laws.Cover2
import Derived.LaidLaws
import Derived.ChangeArms
import Derived.FnData
import Derived.MakeChecks
import Derived.Great.BuildSlice
import Derived.Laws.CopyRow
set_option maxRecDepth 100000
namespace Go.Proofs.YtoaonoflekcccaaDoor
open Go.RowKit

theorem ret_int {k : IntKind} {a b : Int} (h : a = b) : Ending.returned (.int k a) = .returned (.int k b) := by rw [h]
theorem int_eq {k : IntKind} {a b : Int} (h : a = b) : Value.int k a = Value.int k b := by rw [h]
theorem ret_bool {a b : Bool} (h : a = b) : Ending.returned (.bool a) = .returned (.bool b) := by rw [h]
theorem bool_eq {a b : Bool} (h : a = b) : Value.bool a = Value.bool b := by rw [h]
theorem wrap64_eq (x : Int) : wrap64 x = IntKind.i64.wrap x := (IntWalk.i64_left x).symm
/-- How many low bits a number asks for: none below 1, all above 64. -/
def cap64 (n : Int) : Nat := min n.toNat 64

theorem two_pow_pos (k : Nat) : (0 : Int) < 2 ^ k := Int.pow_pos (by decide)
theorem two_pow_le {i j : Nat} (h : i ≤ j) : (2 : Int) ^ i ≤ 2 ^ j := by exact_mod_cast Nat.pow_le_pow_right (by decide) h
theorem two_pow_succ (k : Nat) : (2 : Int) ^ (k + 1) = 2 * 2 ^ k := by rw [Int.pow_succ]; omega

/-- The low k bits. -/
def zx (x : Int) (k : Nat) : Int := x % 2 ^ k
/-- The low k bits, with copies of the highest one above them, as a word. -/
def sx (x : Int) (k : Nat) : Int := if k = 0 then 0 else if x / 2 ^ (k - 1) % 2 = 1 then zx x k + (2 ^ 64 - 2 ^ k) else zx x k

theorem zx_nonneg (x : Int) (k : Nat) : 0 ≤ zx x k := Int.emod_nonneg _ (by have := two_pow_pos k; omega)
theorem zx_lt (x : Int) (k : Nat) : zx x k < 2 ^ k := Int.emod_lt_of_pos _ (two_pow_pos k)
theorem zx_zero (x : Int) : zx x 0 = 0 := by unfold zx; simp
theorem zx_full (x : Int) (h0 : 0 ≤ x) (h : x < 2 ^ 64) : zx x 64 = x := Int.emod_eq_of_lt h0 h
theorem zx_succ (x : Int) (hx : 0 ≤ x) (k : Nat) : zx x (k + 1) = zx x k + x / 2 ^ k % 2 * 2 ^ k := by
  obtain ⟨a, rfl⟩ := Int.eq_ofNat_of_zero_le hx
  unfold zx
  have h := @Nat.mod_mul (2 ^ k) 2 a
  rw [← Nat.pow_succ] at h
  have h2 : ((a % 2 ^ (k + 1) : Nat) : Int) = ((a % 2 ^ k + 2 ^ k * (a / 2 ^ k % 2) : Nat) : Int) := congrArg _ h
  simp only [Int.natCast_add, Int.natCast_mul, Int.natCast_emod, Int.natCast_ediv, Int.natCast_pow, Int.cast_ofNat_Int] at h2
  rw [h2, Int.mul_comm]
theorem zx_zx (x : Int) {i j : Nat} (h : i ≤ j) : zx (zx x j) i = zx x i := by
  unfold zx
  exact Int.emod_emod_of_dvd _ ⟨2 ^ (j - i), by rw [← Int.pow_add]; congr 1; omega⟩

theorem and1_u64 (a : Int) (h0 : 0 ≤ a) (h : a < 2 ^ 64) : bits .and .u64 a 1 = a % 2 :=
  bits_mask .u64 64 (by decide) (fun n h₀ h₁ => by rw [IntKind.wrap_u64]; omega) 1 (by decide) a h0 h
theorem and1_u32 (a : Int) (h0 : 0 ≤ a) (h : a < 2 ^ 32) : bits .and .u32 a 1 = a % 2 :=
  bits_mask .u32 32 (by decide) (fun n h₀ h₁ => by rw [IntKind.wrap_u32]; omega) 1 (by decide) a h0 h
theorem div_nonneg (x : Int) (k : Nat) (h : 0 ≤ x) : 0 ≤ x / 2 ^ k := Int.ediv_nonneg h (by have := two_pow_pos k; omega)
theorem div_lt (x : Int) (k : Nat) (h : 0 ≤ x) {m : Int} (hm : x < m) : x / 2 ^ k < m := by
  have := Int.ediv_le_self (a := x) (2 ^ k) h; omega
/-- 2^64 as 2^n times 2^a. -/
theorem two_pow_64 (n : Nat) (hn : n ≤ 64) : (18446744073709551616 : Int) = 2 ^ n * 2 ^ (64 - n) := by
  rw [← Int.pow_add, show n + (64 - n) = 64 by omega]; decide
theorem zx_shift (x : Int) (n : Nat) (hn : n ≤ 64) : IntKind.u64.wrap (x * 2 ^ (64 - n)) = zx x n * 2 ^ (64 - n) := by
  have hp := two_pow_pos (64 - n)
  rw [IntKind.wrap_u64, two_pow_64 n hn, Int.mul_comm x, Int.mul_comm (2 ^ n), Int.mul_emod_mul_of_pos _ _ hp, Int.mul_comm]; rfl
theorem zx_wrap (x : Int) (n : Nat) (hn : n ≤ 64) : IntKind.u64.wrap (x * 2 ^ (64 - n)) / 2 ^ (64 - n) = zx x n := by
  have hp := two_pow_pos (64 - n)
  rw [zx_shift x n hn, Int.mul_ediv_cancel _ (by omega)]
theorem bit_top (x : Int) (hx : 0 ≤ x) (n : Nat) (h : 1 ≤ n) : x / 2 ^ (n - 1) % 2 = 1 ↔ 2 ^ (n - 1) ≤ zx x n := by
  have h1 := zx_succ x hx (n - 1)
  rw [show n - 1 + 1 = n by omega] at h1
  have h2 := zx_lt x (n - 1)
  have h3 := zx_nonneg x (n - 1)
  have hp := two_pow_pos (n - 1)
  rcases Int.emod_two_eq (x / 2 ^ (n - 1)) with e | e <;> rw [e] at h1 ⊢ <;> omega
theorem sx_wrap (x : Int) (hx : 0 ≤ x) (n : Nat) (h : 1 ≤ n) (hn : n ≤ 64) :
    IntKind.u64.wrap (IntKind.i64.wrap (IntKind.u64.wrap (x * 2 ^ (64 - n))) / 2 ^ (64 - n)) = sx x n := by
  have hp := two_pow_pos (64 - n)
  have hq := two_pow_64 n hn
  have hq1 := two_pow_64 (n - 1) (by omega)
  have hs : (2 : Int) ^ (64 - (n - 1)) = 2 * 2 ^ (64 - n) := by rw [← two_pow_succ]; congr 1; omega
  have hb := bit_top x hx n h
  have z0 := zx_nonneg x n
  have z1 := zx_lt x n
  have hle : (2 : Int) ^ n ≤ 2 ^ 64 := two_pow_le hn
  have hn1 : (2 : Int) ^ n = 2 * 2 ^ (n - 1) := by rw [← two_pow_succ]; congr 1; omega
  have e63 : (9223372036854775808 : Int) = 2 ^ (n - 1) * 2 ^ (64 - n) := by
    rw [hs, ← Int.mul_assoc, Int.mul_comm _ 2, Int.mul_assoc] at hq1; omega
  rw [zx_shift x n hn]
  unfold sx
  rw [if_neg (by omega)]
  have hlt : zx x n * 2 ^ (64 - n) < 2 ^ n * 2 ^ (64 - n) := Int.mul_lt_mul_of_pos_right z1 hp
  have hge : 0 ≤ zx x n * 2 ^ (64 - n) := Int.mul_nonneg z0 (by omega)
  by_cases hbt : x / 2 ^ (n - 1) % 2 = 1
  · rw [if_pos hbt]
    have h2 : 2 ^ (n - 1) * 2 ^ (64 - n) ≤ zx x n * 2 ^ (64 - n) := Int.mul_le_mul_of_nonneg_right (hb.1 hbt) (by omega)
    have e : IntKind.i64.wrap (zx x n * 2 ^ (64 - n)) = (zx x n - 2 ^ n) * 2 ^ (64 - n) := by
      rw [Int.sub_mul, IntKind.wrap_i64, ← hq]; omega
    rw [e, Int.mul_ediv_cancel _ (by omega), IntKind.wrap_u64]
    omega
  · rw [if_neg hbt]
    have h2 : zx x n * 2 ^ (64 - n) < 2 ^ (n - 1) * 2 ^ (64 - n) := by
      refine Int.mul_lt_mul_of_pos_right ?_ hp
      have := fun h => hbt (hb.2 h); omega
    have e : IntKind.i64.wrap (zx x n * 2 ^ (64 - n)) = zx x n * 2 ^ (64 - n) := by
      rw [IntKind.wrap_i64]; omega
    rw [e, Int.mul_ediv_cancel _ (by omega), IntKind.wrap_u64]
    omega

/-- The bits from hi down to lo. -/
def fld (w : Int) (hi lo : Nat) : Int := w / 2 ^ lo % 2 ^ (hi + 1 - lo)
theorem fld_step (w : Int) (hw : 0 ≤ w) (hi i : Nat) (h : i ≤ hi) : 2 * fld w hi (i + 1) + w / 2 ^ i % 2 = fld w hi i := by
  obtain ⟨a, rfl⟩ := Int.eq_ofNat_of_zero_le hw
  unfold fld
  have h1 := @Nat.mod_mul 2 (2 ^ (hi - i)) (a / 2 ^ i)
  rw [Nat.div_div_eq_div_mul, ← Nat.pow_succ, Nat.mul_comm 2 (2 ^ _), ← Nat.pow_succ] at h1
  have h2 : ((a / 2 ^ i % 2 ^ (hi - i).succ : Nat) : Int) = ((a / 2 ^ i % 2 + 2 * (a / 2 ^ (i + 1) % 2 ^ (hi - i)) : Nat) : Int) := congrArg _ h1
  simp only [Int.natCast_add, Int.natCast_mul, Int.natCast_emod, Int.natCast_ediv, Int.natCast_pow, Int.cast_ofNat_Int] at h2
  rw [show hi + 1 - (i + 1) = hi - i by omega, show hi + 1 - i = (hi - i).succ by omega, h2]
  omega
theorem fld_top (w : Int) (hi : Nat) : fld w hi (hi + 1) = 0 := by unfold fld; simp
theorem fld_zx (w : Int) (hi lo : Nat) : fld w hi lo = zx (w / 2 ^ lo) (hi + 1 - lo) := rfl

theorem zx_sub (x y : Int) (k : Nat) (h : ∃ c, x = y + c * 2 ^ k) : zx x k = zx y k := by
  obtain ⟨c, rfl⟩ := h
  unfold zx
  rw [Int.add_mul_emod_self_right]
theorem zx_sx (x : Int) (k : Nat) (hk : k ≤ 64) : zx (sx x k) k = zx x k := by
  unfold sx
  by_cases h0 : k = 0
  · subst h0; rw [if_pos rfl, zx_zero, zx_zero]
  rw [if_neg h0]
  split
  · refine (zx_sub _ (zx x k) k ⟨2 ^ (64 - k) - 1, ?_⟩).trans (zx_zx x (Nat.le_refl k))
    rw [Int.sub_mul, ← Int.pow_add, show 64 - k + k = 64 by omega]
    omega
  · exact zx_zx x (Nat.le_refl k)
theorem zx_bit (x y : Int) (hx : 0 ≤ x) (hy : 0 ≤ y) (k : Nat) (h : 1 ≤ k) (e : zx x k = zx y k) : x / 2 ^ (k - 1) % 2 = y / 2 ^ (k - 1) % 2 := by
  have h1 := bit_top x hx k h
  have h2 := bit_top y hy k h
  rw [e] at h1
  have h3 := h1.trans h2.symm
  rcases Int.emod_two_eq (x / 2 ^ (k - 1)) with a | a <;> rcases Int.emod_two_eq (y / 2 ^ (k - 1)) with b | b <;> simp_all
theorem sx_range (x : Int) (k : Nat) (hk : k ≤ 64) : 0 ≤ sx x k ∧ sx x k < 2 ^ 64 := by
  have a := zx_nonneg x k
  have b := zx_lt x k
  have c : (2 : Int) ^ k ≤ 2 ^ 64 := two_pow_le hk
  unfold sx
  split
  · omega
  split <;> omega
theorem sx_sx (x : Int) (hx : 0 ≤ x) (k : Nat) (hk : k ≤ 64) : sx (sx x k) k = sx x k := by
  have hz := zx_sx x k hk
  have hr := sx_range x k hk
  by_cases h0 : k = 0
  · subst h0; rfl
  have hb := zx_bit (sx x k) x hr.1 hx k (by omega) hz
  have e : ∀ y, sx y k = if y / 2 ^ (k - 1) % 2 = 1 then zx y k + (2 ^ 64 - 2 ^ k) else zx y k := fun y => by unfold sx; rw [if_neg h0]
  rw [e (sx x k), hb, hz, ← e x]
end Go.Proofs.YtoaonoflekcccaaDoor
namespace Go.Proofs.YtoaonoflekcccaaDoor
open Go.RowKit

/-- The slice at A holds the cells xs, below block B; the empty one may be anywhere. -/
def Rd (w : World) (B : Nat) (A : Option Addr) (xs : List Value) : Prop :=
  xs = [] ∨ ∃ b off, A = some ⟨b, off, none⟩ ∧ b < B ∧ ∀ i v, xs[i]? = some v → w.cell? ⟨b, off + i, none⟩ = some v

section
variable {w w' : World} {B B' : Nat} {A : Option Addr} {xs : List Value}
theorem Rd.at (h : Rd w B A xs) {i : Nat} (hi : i < xs.length) :
    ∃ b off, A = some ⟨b, off, none⟩ ∧ b < B ∧ w.cell? ⟨b, off + i, none⟩ = some xs[i] := by
  rcases h with rfl | ⟨b, off, rfl, hb, hc⟩
  · cases hi
  · exact ⟨b, off, rfl, hb, hc i _ (List.getElem?_eq_getElem hi)⟩
theorem Rd.nil : Rd w B A [] := .inl rfl
theorem Rd.keep (h : Rd w B A xs) (hk : ∀ b off, b < B → w'.cell? ⟨b, off, none⟩ = w.cell? ⟨b, off, none⟩) : Rd w' B A xs := by
  rcases h with rfl | ⟨b, off, rfl, hb, hc⟩
  · exact .inl rfl
  · exact .inr ⟨b, off, rfl, hb, fun i v hv => (hk b _ hb).trans (hc i v hv)⟩
theorem Rd.mono (h : Rd w B A xs) (hB : B ≤ B') : Rd w B' A xs := by
  rcases h with rfl | ⟨b, off, rfl, hb, hc⟩
  · exact .inl rfl
  · exact .inr ⟨b, off, rfl, by omega, hc⟩
theorem Rd.below (h : Rd w B A xs) (hb : Below B w w') : Rd w' B A xs := h.keep fun b off hlt => hb.cell (p := ⟨b, off, none⟩) hlt
theorem Rd.of_own {base : Nat} {e : TypeId} {n c : Nat} (h : w.ownsRow base e 1 (.slice A n c) n xs) : Rd w w.heap.size A xs := by
  rcases h with ⟨hl, ⟨_, h0⟩ | ⟨g, cap, cur, hv, _, hh, _, _, _, ht⟩⟩
  · exact .inl (List.eq_nil_of_length_eq_zero (by omega))
  · cases hv
    have hlt : g < w.heap.size := by
      rcases Nat.lt_or_ge g w.heap.size with h | h
      · exact h
      · rw [Array.getElem?_eq_none h] at hh; cases hh
    refine .inr ⟨g, 0, rfl, hlt, fun i v hv => ?_⟩
    rw [cell_of_row w g (0 + i) cur e (0, 0) hh, ← ht] at *
    rw [List.getElem?_take] at hv
    split at hv
    · simpa using hv
    · cases hv
/-- A row of the call's own is a slice that reads as its cells. -/
theorem own_form {base : Nat} {e : TypeId} {n : Nat} {v : Value} (h : w.ownsRow base e 1 v n xs) : ∃ A c, v = .slice A n c ∧ Rd w w.heap.size A xs := by
  have h' := h
  rcases h' with ⟨_, ⟨rfl, rfl⟩ | ⟨g, cap, _, rfl, _⟩⟩
  · exact ⟨none, 0, rfl, Rd.of_own h⟩
  · exact ⟨_, cap, rfl, Rd.of_own h⟩
end
end Go.Proofs.YtoaonoflekcccaaDoor
namespace Go.Proofs.YtoaonoflekcccaaDoor
open Go.RowKit

def I64 (x : Int) : Prop := -9223372036854775808 ≤ x ∧ x ≤ 9223372036854775807
structure Ins where
  op : Int
  rd : Int
  rs1 : Int
  rs2 : Int
  imm : Int
  aq : Bool
  rl : Bool
  pred : Int
  succ : Int
def insCells (i : Ins) : Array Value := #[.int .i64 i.op, .int .i64 i.rd, .int .i64 i.rs1, .int .i64 i.rs2, .int .i64 i.imm, .bool i.aq, .bool i.rl, .int .i64 i.pred, .int .i64 i.succ]
def insV (i : Ins) : Value := .agg #[.int .i64 i.op, .int .i64 i.rd, .int .i64 i.rs1, .int .i64 i.rs2, .int .i64 i.imm, .bool i.aq, .bool i.rl, .int .i64 i.pred, .int .i64 i.succ]
/-- The instruction lies at block g. -/
def InsAt (i : Ins) (g : Nat) (w : World) : Prop := g < w.heap.size ∧ ∀ k v, (insCells i)[k]? = some v → w.cell? ⟨g, k, none⟩ = some v
theorem InsAt.new (i : Ins) (w : World) (t : TypeId) : InsAt i w.heap.size (w.alloc (.cells (insCells i) t)) := by
  refine ⟨by simp, fun k v h => ?_⟩
  rw [cell_of_row (w.alloc (.cells (insCells i) t)) w.heap.size k (insCells i) t (0, 0) (heap_alloc_last w _)]
  exact h
theorem InsAt.on {i : Ins} {g : Nat} {w w' : World} (h : InsAt i g w) (hb : Below w.heap.size w w') : InsAt i g w' :=
  ⟨Nat.lt_of_lt_of_le h.1 hb.size, fun k v hv => (hb.cell (p := ⟨g, k, none⟩) h.1).trans (h.2 k v hv)⟩
theorem InsAt.cells {i : Ins} {g : Nat} {w : World} (h : InsAt i g w) :
    w.cell? ⟨g, 0, none⟩ = some (.int .i64 i.op) ∧ w.cell? ⟨g, 1, none⟩ = some (.int .i64 i.rd) ∧ w.cell? ⟨g, 2, none⟩ = some (.int .i64 i.rs1) ∧ w.cell? ⟨g, 3, none⟩ = some (.int .i64 i.rs2) :=
  ⟨h.2 0 _ rfl, h.2 1 _ rfl, h.2 2 _ rfl, h.2 3 _ rfl⟩

end Go.Proofs.YtoaonoflekcccaaDoor
namespace Go.Proofs.YtoaonoflekcccaaDoor
open Go.RowKit

def cellEq : Option Value → Option Value → Bool
  | some (.int _ a), some (.int _ b) => a == b
  | some (.bool a), some (.bool b) => a == b
  | some (.string a), some (.string b) => a.toList == b.toList
  | _, _ => false
/-- Both hold a value of the field's sort. -/
def pairOk (P : Program) (xs ys : Array Value) (f : Field) : Bool :=
  match P.underlying f.type, xs[f.offset]?, ys[f.offset]? with
  | some (.int _), some (.int k _), some (.int k' _) => k == k'
  | some .bool, some (.bool _), some (.bool _) => true
  | some .string, some (.string _), some (.string _) => true
  | _, _, _ => false
theorem cellEq_int (a c : IntKind) (b e : Int) : cellEq (some (.int a b)) (some (.int c e)) = (b == e) := rfl
theorem cellEq_bool (a b : Bool) : cellEq (some (.bool a)) (some (.bool b)) = (a == b) := rfl
theorem cellEq_str (a b : ByteArray) : cellEq (some (.string a)) (some (.string b)) = (a.toList == b.toList) := rfl
section
variable {P : Program} (w : World) {xs ys : Array Value}
theorem run_part_flat {t : TypeId} {d : TypeDesc} {cs : Array Value} {o : Nat} {v : Value} (hu : P.underlying t = some d) (hd : (match d with | .int _ | .bool | .string => true | _ => false) = true) (hv : cs[o]? = some v) : (part t cs o).run P w = .ok v w := by
  have hagg : (isAgg t).run P w = .ok false w := by
    unfold isAgg
    rw [Sem.run_bind, run_underlying hu w]
    cases d <;> simp_all
  simp [part, Sem.run_bind, hagg, hv]
theorem run_eqFields_flat (d : Nat) : ∀ fs : List Field, fs.all (pairOk P xs ys) = true →
    (Op.eqFields (d + 1) xs ys fs).run P w = .ok (fs.all fun f => f.name == "_" || cellEq xs[f.offset]? ys[f.offset]?) w
  | [], _ => by simp [Op.eqFields]
  | f :: fs, h => by
    simp only [List.all_cons, Bool.and_eq_true] at h
    obtain ⟨h1, h2⟩ := h
    have ih := run_eqFields_flat d fs h2
    unfold Op.eqFields
    by_cases hn : f.name = "_"
    · simp [hn, ih]
    · have hnb : (f.name == "_") = false := by simpa using hn
      unfold pairOk at h1
      split at h1
      · rename_i k a b c e hu hx hy
        obtain rfl : a = c := by simpa using h1
        simp only [hn, ne_eq, not_false_eq_true, if_true, Sem.run_bind, run_part_flat w hu rfl hx, run_part_flat w hu rfl hy, Result.andThen_ok, run_equalIn_int w d f.type _ _ _ _ hu]
        rw [List.all_cons, hnb, hx, hy]
        rw [cellEq_int, Bool.false_or]
        cases hb : (b == e)
        · simp
        · simp [ih]
      · rename_i a b hu hx hy
        simp only [hn, ne_eq, not_false_eq_true, if_true, Sem.run_bind, run_part_flat w hu rfl hx, run_part_flat w hu rfl hy, Result.andThen_ok, run_equalIn_bool' w d f.type _ _ hu]
        rw [List.all_cons, hnb, hx, hy]
        rw [cellEq_bool, Bool.false_or]
        cases hb : (a == b)
        · simp
        · simp [ih]
      · rename_i a b hu hx hy
        simp only [hn, ne_eq, not_false_eq_true, if_true, Sem.run_bind, run_part_flat w hu rfl hx, run_part_flat w hu rfl hy, Result.andThen_ok, run_equalIn_string w d f.type _ _ hu]
        rw [List.all_cons, hnb, hx, hy]
        rw [cellEq_str, Bool.false_or]
        cases hb : (a.toList == b.toList)
        · simp
        · simp [ih]
      · cases h1
theorem run_eql_flat (t : TypeId) (ht : P.underlying t = some (.struct (P.fieldsOf t))) (hp : P.stoodInHeld t = false) (h : (P.fieldsOf t).toList.all (pairOk P xs ys) = true) :
    (binOp .eql t (.agg xs) (.agg ys)).run P w = .ok (.bool ((P.fieldsOf t).toList.all fun f => f.name == "_" || cellEq xs[f.offset]? ys[f.offset]?)) w := by
  rw [run_eql_struct, run_equalIn_struct w 9999 t xs ys ht hp, run_eqFields_flat w 9998 _ h]
  rfl
theorem cellEq_same {P : Program} {f : Field} (h : pairOk P xs xs f = true) : cellEq xs[f.offset]? xs[f.offset]? = true := by
  unfold pairOk at h
  split at h
  · rename_i hx _; rw [hx]; simp [cellEq]
  · rename_i hx _; rw [hx]; simp [cellEq]
  · rename_i hx _; rw [hx]; simp [cellEq]
  · cases h
/-- A value is the same as itself. -/
theorem run_eql_same (t : TypeId) (ht : P.underlying t = some (.struct (P.fieldsOf t))) (hp : P.stoodInHeld t = false) (h : (P.fieldsOf t).toList.all (pairOk P xs xs) = true) :
    (binOp .eql t (.agg xs) (.agg xs)).run P w = .ok (.bool true) w := by
  rw [run_eql_flat w t ht hp h]
  have e : ((P.fieldsOf t).toList.all fun f => f.name == "_" || cellEq xs[f.offset]? xs[f.offset]?) = true := by
    rw [List.all_eq_true] at h ⊢
    intro f hf
    rw [cellEq_same (h f hf), Bool.or_true]
  rw [e]
theorem run_neq_same (t : TypeId) (ht : P.underlying t = some (.struct (P.fieldsOf t))) (hp : P.stoodInHeld t = false) (h : (P.fieldsOf t).toList.all (pairOk P xs xs) = true) :
    (binOp .neq t (.agg xs) (.agg xs)).run P w = .ok (.bool false) w := by
  have e : ((P.fieldsOf t).toList.all fun f => f.name == "_" || cellEq xs[f.offset]? xs[f.offset]?) = true := by
    rw [List.all_eq_true] at h ⊢
    intro f hf
    rw [cellEq_same (h f hf), Bool.or_true]
  rw [run_neq_struct, run_equalIn_struct w 9999 t xs xs ht hp, run_eqFields_flat w 9998 _ h, e]
  rfl
end
end Go.Proofs.YtoaonoflekcccaaDoor
namespace Go.Proofs.YtoaonoflekcccaaDoor
open Go.RowKit

/-- A list of instructions as cells. -/
def cellsN (l : List Ins) : List Value := l.flatMap fun i => (insCells i).toList
theorem cellsN_len (l : List Ins) : (cellsN l).length = l.length * 9 := by
  induction l with
  | nil => rfl
  | cons p l ih => unfold cellsN at *; rw [List.flatMap_cons, List.length_append, ih, List.length_cons]; show 9 + _ = _; omega
theorem cellsN_append (l m : List Ins) : cellsN (l ++ m) = cellsN l ++ cellsN m := by unfold cellsN; simp
theorem cellsN_at {l : List Ins} {i : Nat} (h : i < l.length) {k : Nat} (hk : k < 9) : (cellsN l)[i * 9 + k]? = (insCells l[i])[k]? := by
  induction l generalizing i with
  | nil => cases h
  | cons p l ih =>
    have e : cellsN (p :: l) = (insCells p).toList ++ cellsN l := rfl
    have h9 : (insCells p).toList.length = 9 := rfl
    rw [e]
    cases i with
    | zero =>
      rw [Nat.zero_mul, Nat.zero_add, List.getElem?_append_left (by rw [h9]; exact hk)]
      simp
    | succ i =>
      rw [List.getElem?_append_right (by rw [h9]; omega), h9, show (i + 1) * 9 + k - 9 = i * 9 + k by omega, ih (i := i) (by simpa using h)]
      simp
section
variable {w w' : World} {B B' : Nat} {A : Option Addr} {xs : List Value}
/-- The cells of instruction i. -/
theorem Rd.ins {l : List Ins} (h : Rd w B A (cellsN l)) {i : Nat} (hi : i < l.length) :
    ∃ b off, A = some ⟨b, off, none⟩ ∧ b < B ∧ w.cell? ⟨b, off + i * 9, none⟩ = some (.int .i64 l[i].op) ∧ w.cell? ⟨b, off + i * 9 + 1, none⟩ = some (.int .i64 l[i].rd) ∧ w.cell? ⟨b, off + i * 9 + 2, none⟩ = some (.int .i64 l[i].rs1) ∧
      w.cell? ⟨b, off + i * 9 + 3, none⟩ = some (.int .i64 l[i].rs2) ∧ w.cell? ⟨b, off + i * 9 + 4, none⟩ = some (.int .i64 l[i].imm) ∧ w.cell? ⟨b, off + i * 9 + 5, none⟩ = some (.bool l[i].aq) ∧ w.cell? ⟨b, off + i * 9 + 6, none⟩ = some (.bool l[i].rl) ∧
      w.cell? ⟨b, off + i * 9 + 7, none⟩ = some (.int .i64 l[i].pred) ∧ w.cell? ⟨b, off + i * 9 + 8, none⟩ = some (.int .i64 l[i].succ) := by
  have e := fun k (hk : k < 9) => cellsN_at hi hk
  rcases h with h | ⟨b, off, rfl, hb, hc⟩
  · have := cellsN_len l; rw [h] at this; simp at this; omega
  · exact ⟨b, off, rfl, hb, hc _ _ (e 0 (by decide)), hc _ _ (e 1 (by decide)), hc _ _ (e 2 (by decide)), hc _ _ (e 3 (by decide)), hc _ _ (e 4 (by decide)), hc _ _ (e 5 (by decide)), hc _ _ (e 6 (by decide)), hc _ _ (e 7 (by decide)), hc _ _ (e 8 (by decide))⟩
theorem Rd.of_row9 {base : Nat} {e : TypeId} {n c : Nat} (h : w.ownsRow base e 9 (.slice A n c) n xs) : Rd w w.heap.size A xs ∧ n ≤ c ∧ c ≤ 9223372036854775807 := by
  rcases h with ⟨hl, ⟨h1, h0⟩ | ⟨g, cap, cur, hv, _, hh, h1, h2, _, ht⟩⟩
  · cases h1
    exact ⟨.inl (List.eq_nil_of_length_eq_zero (by omega)), by omega, by omega⟩
  · cases hv
    refine ⟨?_, h1, by unfold maxLen at h2; omega⟩
    have hlt : g < w.heap.size := by
      rcases Nat.lt_or_ge g w.heap.size with h | h
      · exact h
      · rw [Array.getElem?_eq_none h] at hh; cases hh
    refine .inr ⟨g, 0, rfl, hlt, fun i v hv => ?_⟩
    rw [cell_of_row w g (0 + i) cur e (0, 0) hh]
    rw [← ht, List.getElem?_take] at hv
    split at hv
    · simpa using hv
    · cases hv
theorem row_form9 {base : Nat} {e : TypeId} {n : Nat} {v : Value} (h : w.ownsRow base e 9 v n xs) : ∃ A c, v = .slice A n c ∧ Rd w w.heap.size A xs ∧ n ≤ c ∧ c ≤ 9223372036854775807 := by
  have h' := h
  rcases h' with ⟨_, ⟨rfl, rfl⟩ | ⟨g, cap, _, rfl, _⟩⟩
  · exact ⟨none, 0, rfl, Rd.of_row9 h⟩
  · exact ⟨_, cap, rfl, Rd.of_row9 h⟩
end
theorem ins_one' (i : Ins) : ∀ v ∈ (insCells i).toList, v.oneCell' = true := by
  intro v hv
  simp [insCells] at hv
  rcases hv with rfl | rfl | rfl | rfl | rfl | rfl | rfl | rfl | rfl <;> rfl

/-- Are two instructions the same? -/
def eqB (i k : Ins) : Bool := (i.op == k.op) && ((i.rd == k.rd) && ((i.rs1 == k.rs1) && ((i.rs2 == k.rs2) && ((i.imm == k.imm) && ((i.aq == k.aq) && ((i.rl == k.rl) && ((i.pred == k.pred) && ((i.succ == k.succ) && true))))))))
theorem eqB_iff (i k : Ins) : eqB i k = true ↔ i = k := by
  obtain ⟨a0, a1, a2, a3, a4, a5, a6, a7, a8⟩ := i
  obtain ⟨b0, b1, b2, b3, b4, b5, b6, b7, b8⟩ := k
  unfold eqB
  simp [Ins.mk.injEq]
end Go.Proofs.YtoaonoflekcccaaDoor
namespace Go.Proofs.YtoaonoflekcccaaDoor
open Go.ChangeShapes Go.WideShapes Go.ChangeAt Go.RowKit Go.Deep

theorem wf_u32_out {a : Int} (h : (Lit.int .u32 a).wf = true) : 0 ≤ a ∧ a < 4294967296 := by
  simp [Lit.wf, IntKind.min, IntKind.max, IntKind.signed, IntKind.bits] at h; omega
theorem wf_i64_out {a : Int} (h : (Lit.int .i64 a).wf = true) : -9223372036854775808 ≤ a ∧ a ≤ 9223372036854775807 := by
  simp [Lit.wf, IntKind.min, IntKind.max, IntKind.signed, IntKind.bits] at h; omega
section
variable {H : Type} {enc : TypeId × Value → H} {w : World} {spare : Nat → Bool} {held : Bool}
/-- A string that came in. -/
theorem open_str {r : Reach} {b0 base : Nat} {v : Value} {d : DataW H} {p : List MemPlace} (_ : Value.okWide Tryd.prog w r b0 9 v) (h : DataW.Trod enc Tryd.prog w base spare held 9 v d p) : ∃ s : ByteArray, v = .string s := by
  obtain ⟨fuel, hf⟩ := h
  obtain ⟨s, hs, _⟩ := DataW.trod_string Tryd.underlying9 hf
  refine ⟨s, ?_⟩
  obtain ⟨s', rfl⟩ := okWide_string Tryd.underlying9 ‹_›
  simpa [Value.cells] using hs
end
end Go.Proofs.YtoaonoflekcccaaDoor
namespace Go.Proofs.YtoaonoflekcccaaDoor
open Go.ChangeShapes Go.WideShapes Go.ChangeAt Go.RowKit Go.Deep

def Wi (l : List Ins) : Prop := ∀ i ∈ l, I64 i.op
section
variable {H : Type} {enc : TypeId × Value → H} {w : World} {spare : Nat → Bool} {held : Bool}
theorem add_plain9 (b o n : Nat) : (Addr.mk b o none).add n = ⟨b, o + n, none⟩ := by unfold Addr.add; split <;> simp_all
end
end Go.Proofs.YtoaonoflekcccaaDoor
namespace Go.Proofs.YtoaonoflekcccaaDoor
open Go.ChangeShapes Go.WideShapes Go.ChangeAt Go.RowKit

theorem wf_u8_out {a : Int} (h : (Lit.int .u8 a).wf = true) : 0 ≤ a ∧ a < 256 := by
  simp [Lit.wf, IntKind.min, IntKind.max, IntKind.signed, IntKind.bits] at h; omega
/-- A slice of integers that came in: its list, and that the cells hold it. -/
theorem slice_intc {H : Type} {enc : TypeId × Value → H} {P : Program} {w : World} {spare : Nat → Bool} {held : Bool} {t e : TypeId} {k : IntKind} {A : Option Addr} {len cap : Nat} {x : DataW H × List MemPlace}
    (ht : P.underlying t = some (.slice e)) (he : P.underlying e = some (.int k)) (hc : P.cellsOf e = 1)
    (h : ∃ fuel, DataW.trod enc P w 0 spare held fuel t (Value.slice A len cap).cells.toList = some x) :
    ∃ l : List Int, len = l.length ∧ l.length ≤ cap ∧ cap ≤ 9223372036854775807 ∧ (∀ z ∈ l, (Lit.int k z).wf = true) ∧ Rd w w.heap.size A (l.map (Value.int k)) := by
  obtain ⟨fuel, hf⟩ := h
  rcases open_ints ht he hc hf with ⟨hcs, _⟩ | ⟨a, l, c, zs, hcs, _, hl, hm, hz, _, hcell, hwz⟩
  · simp [Value.cells] at hcs
    obtain ⟨rfl, rfl, rfl⟩ := hcs
    exact ⟨[], rfl, by simp, by omega, by simp, Rd.nil⟩
  · simp [Value.cells] at hcs
    obtain ⟨rfl, rfl, rfl⟩ := hcs
    have hlz : len ≤ zs.length := by rw [hz]; split <;> omega
    have htl : (zs.take len).length = len := by rw [List.length_take]; omega
    refine ⟨zs.take len, htl.symm, by rw [htl]; exact hl, by unfold maxLen at hm; omega, fun z hz => hwz z (List.mem_of_mem_take hz), ?_⟩
    rcases Nat.eq_zero_or_pos len with h0 | h0
    · subst h0; exact .inl (by simp)
    · obtain ⟨b, off, rfl, hcell'⟩ := ints_at hcell (by omega)
      refine .inr ⟨b, off, rfl, World.block_lt_of_cell? w ⟨b, off + 0, none⟩ (hcell' 0 (by omega)), fun i v hv => ?_⟩
      rw [List.getElem?_map, Option.map_eq_some_iff] at hv
      obtain ⟨z, hz', rfl⟩ := hv
      rw [List.getElem?_take] at hz'
      split at hz'
      · rw [hcell' i (by omega), List.getD_eq_getElem?_getD, hz']; rfl
      · cases hz'
end Go.Proofs.YtoaonoflekcccaaDoor
namespace Go.Proofs.YtoaonoflekcccaaDoor

/-- The cells of a datum that has neither pointers nor slices (to a depth). -/
def flatD : Nat → DataW Unit → List Value
  | _, .lit (.int k n) => [.int k n]
  | _, .lit (.bool b) => [.bool b]
  | _, .lit (.string s) => [.string ⟨s.toArray⟩]
  | k + 1, .agg ds => ds.flatMap (flatD k)
  | _, _ => []
def contigF (P : Program) : List Field → Nat → Nat → Bool
  | [], o, n => o == n
  | f :: r, o, n => f.offset == o && contigF P r (o + P.cellsOf f.type) n
/-- A type of integers, bools and strings, in arrays and structs. -/
def flatT (P : Program) : Nat → TypeId → Bool
  | 0, _ => false
  | k + 1, t => match P.underlying t with
    | some .bool => true
    | some (.int _) => true
    | some .string => true
    | some (.array n e) => P.cellsOf t == n * P.cellsOf e && flatT P k e
    | some (.struct fs) => contigF P fs.toList 0 (P.cellsOf t) && fs.toList.all fun f => flatT P k f.type
    | _ => false

section
variable {enc : TypeId × Value → Unit} {P : Program} {w : World} {base : Nat} {sp : Nat → Bool} {held : Bool}
theorem trod_bool' {fuel : Nat} {t : TypeId} {cs : List Value} {x : DataW Unit × List MemPlace} (ht : P.underlying t = some .bool) (h : DataW.trod enc P w base sp held fuel t cs = some x) : ∃ b, cs = [.bool b] ∧ x = (.lit (.bool b), []) := by
  cases fuel with
  | zero => simp [DataW.trod] at h
  | succ n =>
    unfold DataW.trod at h
    rw [ht] at h
    split at h <;> simp_all
theorem flat_fields {m k : Nat} {cs : List Value} (ih : ∀ t xs d p, DataW.trod enc P w base sp held m t xs = some (d, p) → flatT P k t = true → xs = flatD k d) :
    ∀ (fl : List Field) (o : Nat) (xs : List (DataW Unit × List MemPlace)), fl.mapM (fun f => DataW.trod enc P w base sp held m f.type ((cs.drop f.offset).take (P.cellsOf f.type))) = some xs →
      contigF P fl o cs.length = true → (∀ f ∈ fl, flatT P k f.type = true) → cs.drop o = (xs.map (·.1)).flatMap (flatD k)
  | [], o, xs, h, hc, _ => by
    simp only [List.mapM_nil, Option.pure_def, Option.some.injEq] at h
    subst h
    simp only [contigF, beq_iff_eq] at hc
    rw [hc]; simp
  | f :: r, o, xs, h, hc, hf => by
    simp only [List.mapM_cons, Option.bind_eq_bind, Option.bind_eq_some_iff, Option.pure_def, Option.some.injEq] at h
    obtain ⟨x, hx, r', hr', rfl⟩ := h
    simp only [contigF, Bool.and_eq_true, beq_iff_eq] at hc
    have h1 := ih _ _ x.1 x.2 hx (hf f (List.mem_cons_self ..))
    have h2 := flat_fields ih r _ r' hr' hc.2 (fun g hg => hf g (List.mem_cons_of_mem _ hg))
    rw [hc.1] at h1
    rw [List.map_cons, List.flatMap_cons, ← h1, ← h2, ← List.drop_drop, List.take_append_drop]
theorem flat_elems {m c k : Nat} {e : TypeId} {cs : List Value} (ih : ∀ xs d p, DataW.trod enc P w base sp held m e xs = some (d, p) → xs = flatD k d) :
    ∀ (n s : Nat) (xs : List (DataW Unit × List MemPlace)), (List.range' s n).mapM (fun i => DataW.trod enc P w base sp held m e ((cs.drop (i * c)).take c)) = some xs →
      (s + n) * c = cs.length → cs.drop (s * c) = (xs.map (·.1)).flatMap (flatD k)
  | 0, s, xs, h, hc => by
    simp only [List.range'_zero, List.mapM_nil, Option.pure_def, Option.some.injEq] at h
    subst h
    rw [Nat.add_zero] at hc
    rw [hc]; simp
  | n + 1, s, xs, h, hc => by
    simp only [List.range'_succ, List.mapM_cons, Option.bind_eq_bind, Option.bind_eq_some_iff, Option.pure_def, Option.some.injEq] at h
    obtain ⟨x, hx, r', hr', rfl⟩ := h
    have h1 := ih _ x.1 x.2 hx
    have h2 := flat_elems ih n (s + 1) r' hr' (by rw [← hc]; congr 1; omega)
    rw [List.map_cons, List.flatMap_cons, ← h1, ← h2, Nat.succ_mul, ← List.drop_drop, List.take_append_drop]
theorem flat_trod : ∀ (k fuel : Nat) (t : TypeId) (cs : List Value) (d : DataW Unit) (p : List MemPlace), DataW.trod enc P w base sp held fuel t cs = some (d, p) → flatT P k t = true → cs = flatD k d := by
  intro k
  induction k with
  | zero => intro fuel t cs d p _ hk; simp [flatT] at hk
  | succ k ih =>
    intro fuel t cs d p h hk
    unfold flatT at hk
    split at hk
    · rename_i ht
      obtain ⟨b, rfl, hx⟩ := trod_bool' ht h
      cases hx; rfl
    · rename_i kd ht
      obtain ⟨b, rfl, hx, _⟩ := DataW.trod_int ht h
      cases hx; rfl
    · rename_i ht
      obtain ⟨s, rfl, hx, _⟩ := DataW.trod_string ht h
      cases hx; simp [flatD]
    · rename_i n e ht
      simp only [Bool.and_eq_true, beq_iff_eq] at hk
      cases fuel with
      | zero => simp [DataW.trod] at h
      | succ m =>
        simp only [DataW.trod, ht] at h
        split at h
        · rename_i hl
          obtain ⟨xs, hm, hx⟩ := Option.map_eq_some_iff.1 h
          cases hx
          rw [List.range_eq_range'] at hm
          have := flat_elems (cs := cs) (fun ys d p hy => ih m e ys d p hy hk.2) n 0 xs hm (by rw [hl, hk.1, Nat.zero_add])
          rw [Nat.zero_mul, List.drop_zero] at this
          exact this
        · cases h
    · rename_i fs ht
      simp only [Bool.and_eq_true] at hk
      cases fuel with
      | zero => simp [DataW.trod] at h
      | succ m =>
        simp only [DataW.trod, ht] at h
        split at h
        · rename_i hl
          obtain ⟨xs, hm, hx⟩ := Option.map_eq_some_iff.1 h
          cases hx
          have := flat_fields (cs := cs) (ih m) fs.toList 0 xs hm (by rw [hl]; exact hk.1) (fun f hf => List.all_eq_true.1 hk.2 f hf)
          rw [List.drop_zero] at this
          exact this
        · cases h
    · cases hk
end

/-- FROM A ROW'S CONDITION TO THE CELLS of a listed variable of flat data. -/
theorem flat_laid {P : Program} {W : World} {name : String} {d : DataW Unit} {g : Nat} {t : TypeId} (k : Nat) (hg : P.globalNamed name = some g) (hty : (P.globals[g]?).map (·.type) = some t) (hf : flatT P k t = true) :
    ∀ {laid : List (String × DataW Unit)} {ps : List MemPlace}, DataW.LaidVars P W laid ps → (name, d) ∈ laid → ∀ i v, (flatD k d)[i]? = some v → W.cell? ⟨g, i, none⟩ = some v
  | [], _, _, hm => by cases hm
  | (n', d') :: r, ps, h, hm => by
    obtain ⟨g', t', cs, fuel, p, q, hg', ht', hvar, hd, hr, _⟩ := h
    intro i v hv
    rcases List.mem_cons.1 hm with e | hm
    · cases e
      obtain rfl := Option.some.inj (hg.symm.trans hg')
      obtain rfl := Option.some.inj (hty.symm.trans ht')
      have hc := flat_trod _ _ _ _ _ _ hd hf
      rw [World.var?_cell hg hvar i, ← Array.getElem?_toList, hc, hv]
    · exact flat_laid k hg hty hf hr hm i v hv
theorem flat_met {P : Program} {W : World} {laid : List (String × DataW Unit)} {name : String} {d : DataW Unit} {g : Nat} {t : TypeId} (k : Nat) (h : laidMetH P laid W) (hm : (name, d) ∈ laid) (hp : (laid.all fun x => x.2.handleName?.isNone) = true)
    (hg : P.globalNamed name = some g) (hty : (P.globals[g]?).map (·.type) = some t) (hf : flatT P k t = true) : ∀ i v, (flatD k d)[i]? = some v → W.cell? ⟨g, i, none⟩ = some v := by
  rw [MakeChecks.laidMetH_plain _ _ _ hp] at h
  obtain ⟨ps, hv, _⟩ := h
  exact flat_laid k hg hty hf hv hm

/-- The whole block of a listed variable of flat data. -/
theorem flat_laid_blk {P : Program} {W : World} {name : String} {d : DataW Unit} {g : Nat} {t : TypeId} (k : Nat) (hg : P.globalNamed name = some g) (hty : (P.globals[g]?).map (·.type) = some t) (hf : flatT P k t = true) :
    ∀ {laid : List (String × DataW Unit)} {ps : List MemPlace}, DataW.LaidVars P W laid ps → (name, d) ∈ laid → ∃ t' fr, W.heap[g]? = some (.cells (flatD k d).toArray t' fr)
  | [], _, _, hm => by cases hm
  | (n', d') :: r, ps, h, hm => by
    obtain ⟨g', t', cs, fuel, p, q, hg', ht', hvar, hd, hr, _⟩ := h
    rcases List.mem_cons.1 hm with e | hm
    · cases e
      obtain rfl := Option.some.inj (hg.symm.trans hg')
      obtain rfl := Option.some.inj (hty.symm.trans ht')
      have hc := flat_trod _ _ _ _ _ _ hd hf
      simp only [World.var?, hg, Option.bind_some] at hvar
      split at hvar
      · rename_i cs' t1 f1 hb
        cases hvar
        exact ⟨t1, f1, by rw [hb, ← hc]⟩
      · cases hvar
    · exact flat_laid_blk k hg hty hf hr hm
theorem flat_blk {P : Program} {W : World} {laid : List (String × DataW Unit)} {name : String} {d : DataW Unit} {g : Nat} {t : TypeId} (k : Nat) (h : laidMetH P laid W) (hm : (name, d) ∈ laid) (hp : (laid.all fun x => x.2.handleName?.isNone) = true)
    (hg : P.globalNamed name = some g) (hty : (P.globals[g]?).map (·.type) = some t) (hf : flatT P k t = true) : ∃ t' fr, W.heap[g]? = some (.cells (flatD k d).toArray t' fr) := by
  rw [MakeChecks.laidMetH_plain _ _ _ hp] at h
  obtain ⟨ps, hv, _⟩ := h
  exact flat_laid_blk k hg hty hf hv hm
end Go.Proofs.YtoaonoflekcccaaDoor
namespace Go.Proofs.YtoaonoflekcccaaDoor
open Go.RowKit

/-- A type whose values lie in one cell each. -/
def flatK : TypeDesc → Bool
  | .struct _ => false
  | .array _ _ => false
  | _ => true
theorem index_row {P : Program} {t e : TypeId} {n k : Nat} {cs : Array Value} {v : Value} {d : TypeDesc} (h : P.underlying t = some (.array n e)) (hu : P.underlying e = some d) (hd : flatK d = true)
    (hi : (P.info? e).map (·.size) = some 1) (hk : k < n) (hv : cs[k]? = some v) (w : World) : (Instr.index t (.agg cs) (.int .i64 k)).run P w = .ok v w := by
  cases hq : P.info? e with
  | none => simp [hq] at hi
  | some i =>
    have hs : i.size = 1 := by simpa [hq] using hi
    have hagg : (isAgg e).run P w = .ok false w := by
      unfold isAgg
      rw [Sem.run_bind, run_underlying hu w]
      cases d <;> simp_all [flatK]
    have hc : (0 : Int) ≤ (k : Int) ∧ (k : Int) < (n : Int) := by omega
    simp [Instr.index, asIntOf, run_underlying h, hc, part, Sem.run_bind, hagg, sizeOf, typeInfo, hq, hs, hv]
    intro hn; omega
end Go.Proofs.YtoaonoflekcccaaDoor
namespace Go.Proofs.YtoaonoflekcccaaDoor
open Go.RowKit

theorem build_lit {P : Program} {ops : Array Oper} {rest : List Oper} {o : Oper} {a : Act} {w : World} {Q : Exit → Act → World → Prop} (hg : o.guard = none) (t e : TypeId) (len : Nat) (parts : Array (Nat × Operand)) (ho : o.op = .buildSlice t len parts)
    (z : Value) (n : Nat) (hu : P.underlying t = some (.slice e)) (hi : (P.info? e).map (fun i => (i.zero, i.size)) = some (some z, n)) (hs : len * n ≤ 2 ^ 24) (hp : len * n ≠ 0) (cells : Array Value)
    (hf : Instr.fill (fun i => some (i * n, n)) ((Array.range (len * n)).map (z.cells[· % z.cells.size]!)) (parts.map fun (i, x) => (i, a.eval x)).toList = some cells)
    {g : Nat} (hG : w.heap.size = g) (dst : Option Tmp) (hd : o.dst = dst) (h : wpList P ops Q rest (a.put dst (.slice (some ⟨g, 0, none⟩) len len)) (w.alloc (.cells cells e))) : wpList P ops Q (o :: rest) a w := by
  subst hG hd
  cases hie : P.info? e with
  | none => rw [hie] at hi; cases hi
  | some ie =>
    rw [hie] at hi
    simp only [Option.map_some, Option.some.injEq, Prod.mk.injEq] at hi
    obtain ⟨h1, h2⟩ := hi
    subst h2
    exact wpList_buildSlice hg t e len parts ho cells ie z hu hie h1 (by omega) hp hf h
end Go.Proofs.YtoaonoflekcccaaDoor
namespace Go.Proofs.YtoaonoflekcccaaDoor
open Go.RowKit

/-- Block g holds just these cells, none of them frozen. -/
def Blk (cs : Array Value) (t : TypeId) (g : Nat) (w : World) : Prop := w.heap[g]? = some (.cells cs t (0, 0))
section
variable {cs : Array Value} {t : TypeId} {g : Nat} {w w' : World}
theorem Blk.new (cs : Array Value) (t : TypeId) (w : World) : Blk cs t w.heap.size (w.alloc (.cells cs t)) := heap_alloc_last w _
theorem Blk.lt (h : Blk cs t g w) : g < w.heap.size := (Array.getElem?_eq_some_iff.1 h).1
theorem Blk.on (h : Blk cs t g w) (hb : Below w.heap.size w w') : Blk cs t g w' := (hb.block g h.lt).trans h
theorem Blk.within {B : Nat} (h : Blk cs t g w) (hb : Below B w w') (hg : g < B) : Blk cs t g w' := (hb.block g hg).trans h
theorem Blk.cell (h : Blk cs t g w) (k : Nat) : w.cell? ⟨g, k, none⟩ = cs[k]? := cell_of_row w g k cs t (0, 0) h
theorem Blk.free (h : Blk cs t g w) (k : Nat) : w.frozen? ⟨g, k, none⟩ = false := by
  unfold Blk at h
  simp [World.frozen?, h]
theorem Blk.set (h : Blk cs t g w) (k : Nat) (v : Value) : Blk (cs.setIfInBounds k v) t g (w.setCell ⟨g, k, none⟩ v) := by
  unfold Blk at h ⊢
  obtain ⟨hlt, he⟩ := Array.getElem?_eq_some_iff.1 h
  simp [World.setCell, Array.getElem?_modify, h]
theorem Blk.other (h : Blk cs t g w) {a : Addr} (hne : g ≠ a.block) (v : Value) : Blk cs t g (w.setCell a v) := (Below.heap_setCell w a v g hne).trans h
theorem Blk.alloc (h : Blk cs t g w) (o : Obj) : Blk cs t g (w.alloc o) := (Below.heap_alloc w o g h.lt).trans h
theorem Blk.drew (h : Blk cs t g w) : Blk cs t g w.drew := h
/-- The whole value, read. -/
theorem Blk.var {P : Program} {d : TypeDesc} {ty : TypeId} (h : Blk cs t g w) (hu : P.underlying ty = some d) (hd : (match d with | .struct _ | .array _ _ => true | _ => false) = true) (hi : (P.info? ty).map (·.size) = some cs.size) :
    (loadVar ty ⟨g, 0, none⟩).run P w = .ok (.agg cs) w := run_loadVar_row w g t ty cs (0, 0) d h hu hd hi
/-- The whole value, stored. -/
theorem Blk.store {P : Program} (h : Blk cs t g w) (ys : List Value) (hy : ys.length = cs.size) (h1 : ∀ v ∈ ys, v.oneCell' = true) :
    ∃ w', (storeCells ⟨g, 0, none⟩ ys 0).run P w = .ok () w' ∧ Blk ys.toArray t g w' ∧ w.grownBy w' (some g) := by
  have hr := run_storeCells_at (P := P) g 0 t ys 0 cs w h (by omega) h1
  have he : (cs.toList.take (0 + 0) ++ ys ++ cs.toList.drop (0 + 0 + ys.length)) = ys := by
    rw [List.take_zero, List.nil_append, List.drop_of_length_le (by rw [Array.length_toList]; omega), List.append_nil]
  rw [he] at hr
  exact ⟨_, hr, setRow_heap w g cs ys.toArray _ _ h, ⟨rfl, rfl, rfl, by simp, fun k _ hk => setRow_other w g k _ (fun e => hk (by rw [e]))⟩⟩
theorem Below.stored {B : Nat} {a : World} (h : Below B a w) (hg : w.grownBy w' (some g)) (hB : B ≤ g) (hz : B ≤ w.heap.size) : Below B a w' :=
  h.grown hg hz (fun k hk => by cases hk; exact hB)
/-- The results of a function whose first one lies in memory, whole. -/
theorem results_blk {P : Program} {fn : Func} {p q : Tmp} {ty : TypeId} {d : TypeDesc} {tmps : Array Value} (h : fn.results = #[.cell p ty, .tmp q]) (hp : tmps.getD p undef = .pointer (some ⟨g, 0, none⟩)) (hb : Blk cs t g w)
    (hu : P.underlying ty = some d) (hd : (match d with | .struct _ | .array _ _ => true | _ => false) = true) (hi : (P.info? ty).map (·.size) = some cs.size) :
    (results fn tmps).run P w = .ok (.tuple #[.agg cs, tmps.getD q undef]) w := by
  have hp' : tmps[p]?.getD undef = .pointer (some ⟨g, 0, none⟩) := by simpa using hp
  simp [results, h, hp', asAddr, hb.var hu hd hi]
theorem results_blk1 {P : Program} {fn : Func} {p : Tmp} {ty : TypeId} {d : TypeDesc} {tmps : Array Value} (h : fn.results = #[.cell p ty]) (hp : tmps.getD p undef = .pointer (some ⟨g, 0, none⟩)) (hb : Blk cs t g w)
    (hu : P.underlying ty = some d) (hd : (match d with | .struct _ | .array _ _ => true | _ => false) = true) (hi : (P.info? ty).map (·.size) = some cs.size) :
    (results fn tmps).run P w = .ok (.agg cs) w := by
  have hp' : tmps[p]?.getD undef = .pointer (some ⟨g, 0, none⟩) := by simpa using hp
  simp [results, h, hp', asAddr, hb.var hu hd hi]
/-- An arm of the walk: the whole value is loaded. -/
theorem load_blk {P : Program} {ops : Array Oper} {rest : List Oper} {o : Oper} {a : Act} {Q : Exit → Act → World → Prop} (hgd : o.guard = none) (ty : TypeId) (x : Operand) (ho : o.op = .load ty x) (hb : Blk cs t g w)
    (hx : a.eval x = .pointer (some ⟨g, 0, none⟩)) {d : TypeDesc} (hu : P.underlying ty = some d) (hd : (match d with | .struct _ | .array _ _ => true | _ => false) = true) (hi : (P.info? ty).map (·.size) = some cs.size)
    (h : wpList P ops Q rest (a.put o.dst (.agg cs)) w) : wpList P ops Q (o :: rest) a w :=
  wpList_load_row hgd ty x ho g hx t cs (0, 0) d hb hu hd hi h
end
end Go.Proofs.YtoaonoflekcccaaDoor
