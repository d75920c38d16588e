/- The contracts of Zext, Sext and Field, the program's and the document's: each is one function of numbers. The contracts of Of, Bytes and SameBytes, the program's and the document's, over lists of bytes. -/
import Derived.Test.YtoaonoflekcccaaDoorRows
import Derived.Test.YtoaonoflekcccaaDoorBa
import Derived.WalkKit
import Derived.WalkLawsBesides
import Derived.Lib.Hide
import Derived.Deep.LoopGhost
import Derived.Deep.QuietTactic
import Derived.BigQuiet
import Derived.WalkSmall
import Derived.WalkSpells
set_option maxRecDepth 100000
namespace Go.Proofs.YtoaonoflekcccaaDoor
open Go.RowKit




/-! ### Zext -/
/-! ### Sext -/
/-! ### Field -/
/-- The document's field: 0 where the places aren't right. -/
def fieldOf (w hi lo : Int) : Int := if 0 ≤ lo ∧ lo ≤ hi ∧ hi ≤ 31 then fld w hi.toNat lo.toNat else 0
theorem fieldOf_no {w hi lo : Int} (h : ¬ (0 ≤ lo ∧ lo ≤ hi ∧ hi ≤ 31)) : fieldOf w hi lo = 0 := if_neg h
theorem fieldOf_yes {w hi lo : Int} (h : 0 ≤ lo ∧ lo ≤ hi ∧ hi ≤ 31) : fieldOf w hi lo = fld w hi.toNat lo.toNat := if_pos h

end Go.Proofs.YtoaonoflekcccaaDoor

namespace Go.Proofs.YtoaonoflekcccaaDoor
open Go.RowKit

/-- All are bytes. -/
def Byts (l : List Int) : Prop := ∀ z ∈ l, 0 ≤ z ∧ z < 256
/-- The number of bytes, the least one first. -/
def numB : List Int → Int
  | [] => 0
  | b :: r => b + 256 * numB r
/-- What Of answers: the number of the first 8. -/
def ofB (l : List Int) : Int := numB (l.take 8)
def cellsB (l : List Int) : List Value := l.map (Value.int .u8)

theorem Byts.take {l : List Int} (h : Byts l) (k : Nat) : Byts (l.take k) := fun z hz => h z (List.mem_of_mem_take hz)
theorem Byts.get {l : List Int} (h : Byts l) {k : Nat} (hk : k < l.length) : 0 ≤ l[k] ∧ l[k] < 256 := h _ (List.getElem_mem hk)
theorem p256 (k : Nat) : (2 : Int) ^ (8 * k) = 256 ^ k := by rw [Int.pow_mul]; rfl
theorem p256_le {i j : Nat} (h : i ≤ j) : (256 : Int) ^ i ≤ 256 ^ j := by
  have := Nat.pow_le_pow_right (n := 256) (by decide) h
  have := Int.ofNat_le.2 this
  rwa [Int.natCast_pow, Int.natCast_pow] at this
theorem numB_nonneg {l : List Int} (h : Byts l) : 0 ≤ numB l := by
  induction l with
  | nil => decide
  | cons b r ih =>
    have h1 := h b (List.mem_cons_self ..)
    have h2 := ih fun z hz => h z (List.mem_cons_of_mem _ hz)
    show 0 ≤ b + 256 * numB r
    omega
theorem numB_lt {l : List Int} (h : Byts l) : numB l < 256 ^ l.length := by
  induction l with
  | nil => decide
  | cons b r ih =>
    have h1 := h b (List.mem_cons_self ..)
    have h2 := ih fun z hz => h z (List.mem_cons_of_mem _ hz)
    show b + 256 * numB r < 256 ^ (r.length + 1)
    rw [Int.pow_succ]
    omega
theorem numB_snoc (l : List Int) (b : Int) : numB (l ++ [b]) = numB l + b * 256 ^ l.length := by
  induction l with
  | nil =>
    rw [List.nil_append, List.length_nil, Int.pow_zero]
    show b + 256 * 0 = 0 + b * 1
    omega
  | cons a r ih =>
    show a + 256 * numB (r ++ [b]) = (a + 256 * numB r) + b * 256 ^ (r.length + 1)
    rw [ih, Int.pow_succ, Int.mul_add, ← Int.mul_assoc b, Int.mul_comm _ 256]
    omega
theorem numB_take_succ (l : List Int) (k : Nat) (hk : k < l.length) : numB (l.take (k + 1)) = numB (l.take k) + l[k] * 256 ^ k := by
  rw [List.take_succ_eq_append_getElem hk, numB_snoc, List.length_take, Nat.min_eq_left (by omega)]
theorem p256_pos (k : Nat) : (0 : Int) < 256 ^ k := Int.pow_pos (by decide)

theorem or_low (x b : Int) (k : Nat) (hk : k < 8) (hx0 : 0 ≤ x) (hx : x < 256 ^ k) (hb0 : 0 ≤ b) (hb : b < 256) :
    bits .or .u64 x (IntKind.u64.wrap (b * 2 ^ (8 * k))) = x + b * 256 ^ k := by
  rw [p256]
  have hle : (256 : Int) ^ (k + 1) ≤ 256 ^ 8 := p256_le (by omega)
  have e8 : (256 : Int) ^ 8 = 18446744073709551616 := by decide
  have hp := p256_pos k
  rw [Int.pow_succ] at hle
  have hle0 : (256 : Int) ^ k ≤ 256 ^ 8 := p256_le (by omega)
  have hbm : b * 256 ^ k ≤ 255 * 256 ^ k := Int.mul_le_mul_of_nonneg_right (by omega) (by omega)
  have hb0m : 0 ≤ b * 256 ^ k := Int.mul_nonneg hb0 (by omega)
  have hw : IntKind.u64.wrap (b * 256 ^ k) = b * 256 ^ k := by rw [IntKind.wrap_u64]; omega
  have hcomm : ∀ x y : Int, bits .or .u64 x y = bits .or .u64 y x := fun x y => by
    show IntKind.u64.wrap ((BitVec.ofInt 64 x ||| BitVec.ofInt 64 y).toNat : Int) = IntKind.u64.wrap ((BitVec.ofInt 64 y ||| BitVec.ofInt 64 x).toNat : Int)
    rw [BitVec.or_comm]
  rw [hw, hcomm]
  have := bits_join .u64 64 (by decide) (fun n h₀ h₁ => by rw [IntKind.wrap_u64]; omega) (8 * k) (b * 256 ^ k) x hb0m (by rw [p256]; exact Int.mul_emod_left _ _) (by omega) hx0 (by rw [p256]; exact hx) (by omega)
  rw [this, Int.add_comm]

/-- The document's place value: 256 to the k, as a word. -/
def plv (k : Nat) : Int := IntKind.u64.wrap (256 ^ k)
theorem plv_lt {k : Nat} (hk : k < 8) : plv k = 256 ^ k := by
  have hle : (256 : Int) ^ (k + 1) ≤ 256 ^ 8 := p256_le (by omega)
  have e8 : (256 : Int) ^ 8 = 18446744073709551616 := by decide
  have hp := p256_pos k
  rw [Int.pow_succ] at hle
  unfold plv
  rw [IntKind.wrap_u64]
  omega
theorem plv_succ {k : Nat} (hk : k < 8) : IntKind.u64.wrap (plv k * 256) = plv (k + 1) := by
  rw [plv_lt hk]
  unfold plv
  rw [Int.pow_succ]
theorem add_low (x b : Int) (k : Nat) (hk : k < 8) (hx0 : 0 ≤ x) (hx : x < 256 ^ k) (hb0 : 0 ≤ b) (hb : b < 256) :
    IntKind.u64.wrap (x + IntKind.u64.wrap (plv k * b)) = x + b * 256 ^ k := by
  rw [plv_lt hk]
  have hle : (256 : Int) ^ (k + 1) ≤ 256 ^ 8 := p256_le (by omega)
  have e8 : (256 : Int) ^ 8 = 18446744073709551616 := by decide
  have hp := p256_pos k
  rw [Int.pow_succ] at hle
  have hbm : b * 256 ^ k ≤ 255 * 256 ^ k := Int.mul_le_mul_of_nonneg_right (by omega) (by omega)
  have hb0m : 0 ≤ b * 256 ^ k := Int.mul_nonneg hb0 (by omega)
  rw [Int.mul_comm (256 ^ k) b, IntKind.wrap_u64, IntKind.wrap_u64]
  omega

/-- The byte at a place of a word. -/
def byteAt (x : Int) (k : Nat) : Int := x / 256 ^ k % 256
/-- The first m bytes of a word. -/
def bytesL (x : Int) (m : Nat) : List Int := (List.range m).map (byteAt x)
def cap8 (n : Int) : Nat := min n.toNat 8
theorem bytesL_length (x : Int) (m : Nat) : (bytesL x m).length = m := by simp [bytesL]
theorem bytesL_succ (x : Int) (m : Nat) : bytesL x (m + 1) = bytesL x m ++ [byteAt x m] := by simp [bytesL, List.range_succ]
theorem byts_bytesL (x : Int) (m : Nat) : Byts (bytesL x m) := by
  intro z hz
  simp only [bytesL, List.mem_map] at hz
  obtain ⟨k, _, rfl⟩ := hz
  unfold byteAt
  omega

theorem of_bytes (x : Int) (hx : 0 ≤ x) (m : Nat) (hm : m ≤ 8) : ofB (bytesL x m) = zx x (8 * m) := by
  unfold ofB
  rw [List.take_of_length_le (by rw [bytesL_length]; exact hm)]
  clear hm
  induction m with
  | zero => rw [Nat.mul_zero, zx_zero]; rfl
  | succ m ih =>
    rw [bytesL_succ, numB_snoc, bytesL_length, ih]
    unfold byteAt zx
    rw [p256, p256, Int.pow_succ]
    obtain ⟨a, rfl⟩ := Int.eq_ofNat_of_zero_le hx
    have h := @Nat.mod_mul (256 ^ m) 256 a
    have h2 : ((a % (256 ^ m * 256) : Nat) : Int) = ((a % 256 ^ m + 256 ^ m * (a / 256 ^ m % 256) : Nat) : Int) := congrArg _ h
    simp only [Int.natCast_add, Int.natCast_mul, Int.natCast_emod, Int.natCast_ediv, Int.natCast_pow, Int.cast_ofNat_Int] at h2
    rw [h2, Int.mul_comm (256 ^ m)]

/-- The call returns a list of bytes, in new memory or none. -/
def RetB (w : World) (l : List Int) (e : Ending) (w' : World) : Prop := ∃ A cap, e = .returned (.slice A l.length cap) ∧ Rd w' w'.heap.size A (cellsB l) ∧ Below w.heap.size w w'
theorem RetB.of_own {w w' : World} {l : List Int} {base : Nat} {e : TypeId} {n : Nat} {v : Value} (h : w'.ownsRow base e 1 v n (cellsB l)) (hb : Below w.heap.size w w') : RetB w l (.returned v) w' := by
  obtain ⟨A, c, rfl, hr⟩ := own_form h
  have hn : n = l.length := by have := h.1; unfold cellsB at this; rw [List.length_map] at this; omega
  subst hn
  exact ⟨A, c, rfl, hr, hb⟩

theorem Tryd.info5 : (Tryd.prog.info? 5).map (fun i => (i.zero, i.size, i.bytes)) = some (some (.int .u8 0), 1, 1) := by kernel_rfl

def zerosB (m : Nat) : List Value := List.replicate m (.int .u8 0)
theorem madeCells_zeros (m : Nat) : (madeCells #[Value.int .u8 0] m).toList = zerosB m := by
  apply List.ext_getElem
  · simp [madeCells, zerosB]
  · intro i h1 h2
    simp [madeCells, zerosB, Nat.mod_one]
theorem byte_shift (x : Int) (k : Nat) : x / 2 ^ (8 * k) % 256 = byteAt x k := by
  rw [p256]; rfl
theorem zeros_set (x : Int) (k m : Nat) (hk : k < m) : (cellsB (bytesL x k) ++ zerosB (m - k)).set k (.int .u8 (byteAt x k)) = cellsB (bytesL x (k + 1)) ++ zerosB (m - (k + 1)) := by
  have hl : (cellsB (bytesL x k)).length = k := by simp [cellsB, bytesL]
  rw [List.set_append_right _ _ (by omega), hl, Nat.sub_self, bytesL_succ]
  unfold zerosB
  rw [show m - k = (m - (k + 1)) + 1 by omega, List.replicate_succ, List.set_cons_zero]
  simp [cellsB]

theorem div256 (x : Int) (h0 : 0 ≤ x) (hx : x < 2 ^ 64) (k : Nat) : IntKind.u64.wrap ((x / 256 ^ k).tdiv 256) = x / 256 ^ (k + 1) := by
  have hd0 : 0 ≤ x / 256 ^ k := Int.ediv_nonneg h0 (by have := p256_pos k; omega)
  have := Int.ediv_le_self (a := x) (256 ^ k) h0
  rw [Int.pow_succ, ← Int.ediv_ediv_of_nonneg (by have := p256_pos k; omega), IntKind.wrap_u64, Int.tdiv_eq_ediv_of_nonneg hd0]
  omega

end Go.Proofs.YtoaonoflekcccaaDoor
