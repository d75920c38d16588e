/- Of stage 11. -/
import Derived.Test.YtmamblgpekafbaaGreatDoorBapa
import Derived.WalkLawsBesides
import Derived.Lib.Hide
import Derived.Deep.LoopGhost
import Derived.Deep.QuietTactic
import Derived.BigQuiet
import Derived.WalkSmall
import Derived.WalkSpells
set_option maxRecDepth 100000
namespace Go.Proofs.YtmamblgpekafbaaGreatDoor
open Go.RowKit
theorem zo7 (x n : Int) (h0 : 0 ≤ x) (h : x < 2 ^ 64) (w : World) :
    Calls Tryz.prog 33 #[.int .u64 x, .int .i64 n] w fun e w' => e = .returned (.int .u64 (zx x (zc6 n))) ∧ w = w' := by
  by_cases h1 : n < 1
  · go_enter Tryz.func33, Tryz.ntmps33
    go_wp2
    go_ret
    exact ⟨za1 (by rw [show zc6 n = 0 by unfold zc6; omega, zu1]), rfl⟩
  · by_cases h2 : 64 < n
    · go_enter Tryz.func33, Tryz.ntmps33
      go_wp2
      go_ret
      exact ⟨za1 (by rw [show zc6 n = 64 by unfold zc6; omega, zN0 x h0 h]), rfl⟩
    · have H := Lib.hid h; clear h
      go_enter Tryz.func33, Tryz.ntmps33
      go_wp2
      go_ret
      refine ⟨za1 ?_, rfl⟩
      rw [show (64 - n).toNat = 64 - n.toNat by omega, show zc6 n = n.toNat by unfold zc6; omega]
      exact zx_wrap x n.toNat (by omega)
theorem zh6 (x n : Int) (h0 : 0 ≤ x) (h : x < 2 ^ 64) (w : World) :
    Calls Tryz.prog 42 #[.int .u64 x, .int .i64 n] w fun e w' => e = .returned (.int .u64 (zx x (zc6 n))) ∧ w = w' := by
  have H := Lib.hid h; clear h
  go_enter Tryz.func42, Tryz.ntmps42
  go_wp2
  go_loop [5, 6] (fun o i => ∃ k : Nat, k ≤ 64 ∧ (k : Int) ≤ max n 0 ∧ i = .int .i64 k ∧ o = .int .u64 (zx x k)) (fun _ i => 64 - (intOf i).toNat)
  case atStart => exact ⟨0, by omega, by omega, rfl, zk0 (zu1 x).symm⟩
  case round =>
    obtain ⟨k, hk, hkn, rfl, rfl⟩ := hrel
    have z0 := zi3 x k
    have z1 := zD9 x k
    have hb : k < 64 → bits .and .u64 (x / 2 ^ k) 1 = x / 2 ^ k % 2 := fun _ => zD0 _ (zo5 x k h0) (zU8 x k h0 H.out)
    have HB := Lib.hid hb
    have Z0 := Lib.hid z0
    have Z1 := Lib.hid z1
    clear hb z0 z1
    go_wp2
    · go_round
      case rel =>
        refine ⟨k + 1, by omega, by omega, by go_num, zk0 ?_⟩
        have ht : (bits .and .u64 (x / 2 ^ k) 1 == 1) = true := by assumption
        have hk64 : (k : Int) < 64 := by assumption
        rw [HB.out (by omega), beq_iff_eq] at ht
        have := Z0.out
        have := Z1.out
        have hle : (2 : Int) ^ (k + 1) ≤ 2 ^ 64 := ze7 (by omega)
        rw [zD8 x h0, ht, IntKind.wrap_u64, IntKind.wrap_u64]
        rw [zg7] at hle
        have hp := zc0 k
        omega
      case measure => simp [intOf]; omega
    · go_round
      case rel =>
        refine ⟨k + 1, by omega, by omega, by go_num, zk0 ?_⟩
        have ht : (bits .and .u64 (x / 2 ^ k) 1 == 1) = false := by assumption
        have hk64 : (k : Int) < 64 := by assumption
        rw [HB.out (by omega), beq_eq_false_iff_ne] at ht
        rw [zD8 x h0]
        have : x / 2 ^ k % 2 = 0 := by omega
        rw [this]; omega
      case measure => simp [intOf]; omega
    · have hn : n ≤ (k : Int) := by assumption
      go_ret
      exact ⟨za1 (by rw [show zc6 n = k by unfold zc6; omega]), rfl⟩
    · have hn : 64 ≤ (k : Int) := by assumption
      go_ret
      exact ⟨za1 (by rw [show zc6 n = k by unfold zc6; omega]), rfl⟩
theorem zi8 (x n : Int) (h0 : 0 ≤ x) (h : x < 2 ^ 64) (w : World) :
    Calls Tryz.prog 58 #[.int .u64 x, .int .i64 n] w fun e w' => e = .returned (.int .u64 (sx x (zc6 n))) ∧ w = w' := by
  by_cases h1 : n < 1
  · go_enter Tryz.func58, Tryz.ntmps58
    go_wp2
    go_ret
    exact ⟨za1 (by rw [show zc6 n = 0 by unfold zc6; omega]; rfl), rfl⟩
  · by_cases h2 : 64 < n
    · go_enter Tryz.func58, Tryz.ntmps58
      go_wp2
      go_ret
      refine ⟨za1 ?_, rfl⟩
      rw [show zc6 n = 64 by unfold zc6; omega]
      unfold sx
      rw [zN0 x h0 h]
      split <;> omega
    · have H := Lib.hid h; clear h
      go_enter Tryz.func58, Tryz.ntmps58
      go_wp2
      go_ret
      refine ⟨za1 ?_, rfl⟩
      rw [show (64 - n).toNat = 64 - n.toNat by omega, show zc6 n = n.toNat by unfold zc6; omega]
      rw [ze2]
      exact sx_wrap x h0 n.toNat (by omega) (by omega)
theorem zi6 (x n : Int) (h0 : 0 ≤ x) (h : x < 2 ^ 64) (w : World) :
    Calls Tryz.prog 72 #[.int .u64 x, .int .i64 n] w fun e w' => e = .returned (.int .u64 (sx x (zc6 n))) ∧ w = w' := by
  have H := Lib.hid h
  have hz := zh6 x n h0 h
  have HZ := Lib.hid hz; clear hz h
  by_cases h1 : n < 1
  · go_enter Tryz.func72, Tryz.ntmps72
    go_wp2_with (go_at_call 42; refine (HZ.out _).mono ?_; rintro e w' ⟨rfl, rfl⟩)
    go_ret
    exact ⟨za1 (by rw [show zc6 n = 0 by unfold zc6; omega, zu1]; rfl), rfl⟩
  · by_cases h2 : 64 < n
    · go_enter Tryz.func72, Tryz.ntmps72
      go_wp2_with (go_at_call 42; refine (HZ.out _).mono ?_; rintro e w' ⟨rfl, rfl⟩)
      go_ret
      refine ⟨za1 ?_, rfl⟩
      rw [show zc6 n = 64 by unfold zc6; omega]
      unfold sx
      rw [zN0 x h0 H.out]
      split <;> omega
    · obtain ⟨m, hm⟩ : ∃ m : Nat, n = (m : Int) := ⟨n.toNat, by omega⟩
      subst hm
      have hc : zc6 (m : Int) = m := by unfold zc6; omega
      have HC := Lib.hid hc; clear hc
      have hb : bits .and .u64 (x / 2 ^ (m - 1)) 1 = x / 2 ^ (m - 1) % 2 := zD0 _ (zo5 x _ h0) (zU8 x _ h0 H.out)
      have hbit := Int.emod_two_eq (x / 2 ^ (m - 1))
      by_cases hb1 : x / 2 ^ (m - 1) % 2 = 1
      · have ht : (bits .and .u64 (x / 2 ^ (m - 1)) 1 == 0) = false := by rw [hb, hb1]; rfl
        have HB := Lib.hid hb1
        clear hb hbit hb1
        have e1 : ((m : Int) - 1).toNat = m - 1 := by omega
        go_enter Tryz.func72, Tryz.ntmps72
        go_wp2_with (go_at_call 42; refine (HZ.out _).mono ?_; rintro e w' ⟨rfl, rfl⟩)
        go_loop [5, 6] (fun o i => ∃ k : Nat, m ≤ k ∧ k ≤ 64 ∧ i = .int .i64 k ∧ o = .int .u64 (zx x m + (2 ^ k - 2 ^ m))) (fun _ i => 64 - (intOf i).toNat)
        case atStart => exact ⟨m, by omega, by omega, rfl, zk0 (by rw [HC.out]; omega)⟩
        case round =>
          obtain ⟨k, hmk, hk, rfl, rfl⟩ := hrel
          go_wp2
          · go_round
            case rel =>
              refine ⟨k + 1, by omega, by omega, by go_num, zk0 ?_⟩
              have hk64 : (k : Int) < 64 := by assumption
              have hle : (2 : Int) ^ (k + 1) ≤ 2 ^ 64 := ze7 (by omega)
              have hle2 : (2 : Int) ^ m ≤ 2 ^ k := ze7 (by omega)
              have := zi3 x m
              have := zD9 x m
              rw [IntKind.wrap_u64, IntKind.wrap_u64]
              rw [zg7] at hle ⊢
              have hp := zc0 k
              omega
            case measure => simp [intOf]; omega
          · have hn : 64 ≤ (k : Int) := by assumption
            go_ret
            refine ⟨za1 ?_, rfl⟩
            rw [HC.out, show k = 64 by omega]
            unfold sx
            rw [if_neg (by omega), if_pos HB.out]
      · have ht : (bits .and .u64 (x / 2 ^ (m - 1)) 1 == 0) = true := by rw [hb, show x / 2 ^ (m - 1) % 2 = 0 by omega]; rfl
        have HB := Lib.hid hb1
        clear hb hbit hb1
        have e1 : ((m : Int) - 1).toNat = m - 1 := by omega
        go_enter Tryz.func72, Tryz.ntmps72
        go_wp2_with (go_at_call 42; refine (HZ.out _).mono ?_; rintro e w' ⟨rfl, rfl⟩)
        go_ret
        refine ⟨za1 ?_, rfl⟩
        rw [HC.out]
        unfold sx
        rw [if_neg (by omega), if_neg HB.out]
def ze1 (w hi lo : Int) : Int := if 0 ≤ lo ∧ lo ≤ hi ∧ hi ≤ 31 then fld w hi.toNat lo.toNat else 0
theorem zs7 {w hi lo : Int} (h : ¬ (0 ≤ lo ∧ lo ≤ hi ∧ hi ≤ 31)) : ze1 w hi lo = 0 := if_neg h
theorem za6 {w hi lo : Int} (h : 0 ≤ lo ∧ lo ≤ hi ∧ hi ≤ 31) : ze1 w hi lo = fld w hi.toNat lo.toNat := if_pos h
theorem zb9 (x hi lo : Int) (h0 : 0 ≤ x) (h : x < 2 ^ 32) (w : World) :
    Calls Tryz.prog 143 #[.int .u32 x, .int .i64 hi, .int .i64 lo] w fun e w' => e = .returned (.int .u32 (ze1 x hi lo)) ∧ w = w' := by
  by_cases h1 : 31 < hi
  · have hf := zs7 (w := x) (hi := hi) (lo := lo) (by omega)
    have HF := Lib.hid hf; clear hf
    go_enter Tryz.func143, Tryz.ntmps143
    go_wp2
    go_ret
    exact ⟨za1 HF.out.symm, rfl⟩
  · by_cases h2 : lo < 0
    · have hf := zs7 (w := x) (hi := hi) (lo := lo) (by omega)
      have HF := Lib.hid hf; clear hf
      go_enter Tryz.func143, Tryz.ntmps143
      go_wp2
      go_ret
      exact ⟨za1 HF.out.symm, rfl⟩
    · by_cases h3 : hi < lo
      · have hf := zs7 (w := x) (hi := hi) (lo := lo) (by omega)
        have HF := Lib.hid hf; clear hf
        go_enter Tryz.func143, Tryz.ntmps143
        go_wp2
        go_ret
        exact ⟨za1 HF.out.symm, rfl⟩
      · obtain ⟨l, hl⟩ : ∃ l : Nat, lo = (l : Int) := ⟨lo.toNat, by omega⟩
        obtain ⟨k, hk⟩ : ∃ k : Nat, hi = (k : Int) := ⟨hi.toNat, by omega⟩
        subst hl hk
        have hf := za6 (w := x) (hi := k) (lo := l) (by omega)
        have HF := Lib.hid hf; clear hf
        have H := Lib.hid h
        have hd := zU8 x l h0 h
        have HD := Lib.hid hd
        have hd0 := zo5 x l h0
        clear h hd
        have hw : IntKind.u64.wrap (x / 2 ^ l) = x / 2 ^ l := by rw [IntKind.wrap_u64]; have := HD.out; omega
        go_enter Tryz.func143, Tryz.ntmps143
        go_wp2_with (go_at_call 33; refine (zo7 _ _ hd0 (by have := HD.out; omega) _).mono ?_; rintro e w' ⟨rfl, rfl⟩)
        go_ret
        refine ⟨za1 ?_, rfl⟩
        rw [HF.out, fld_zx, show zc6 ((k : Int) - l + 1) = k + 1 - l by unfold zc6; omega]
        have a := zi3 (x / 2 ^ l) (k + 1 - l)
        have b := zD9 (x / 2 ^ l) (k + 1 - l)
        have c : (2 : Int) ^ (k + 1 - l) ≤ 2 ^ 32 := ze7 (by omega)
        simp only [Int.toNat_natCast]
        omega
end Go.Proofs.YtmamblgpekafbaaGreatDoor
namespace Go.Proofs.YtmamblgpekafbaaGreatDoor
open Go.RowKit
def Byts (l : List Int) : Prop := ∀ z ∈ l, 0 ≤ z ∧ z < 256
def numB : List Int → Int
  | [] => 0
  | b :: r => b + 256 * numB r
def ofB (l : List Int) : Int := numB (l.take 8)
def za4 (l : List Int) : List Value := l.map (Value.int .u8)
theorem Byts.take {l : List Int} (h : Byts l) (k : Nat) : Byts (l.take k) := fun z hz => h z (List.mem_of_mem_take hz)
theorem Byts.get {l : List Int} (h : Byts l) {k : Nat} (hk : k < l.length) : 0 ≤ l[k] ∧ l[k] < 256 := h _ (List.getElem_mem hk)
theorem p256 (k : Nat) : (2 : Int) ^ (8 * k) = 256 ^ k := by rw [Int.pow_mul]; rfl
theorem zE1 {i j : Nat} (h : i ≤ j) : (256 : Int) ^ i ≤ 256 ^ j := by
  have := Nat.pow_le_pow_right (n := 256) (by decide) h
  have := Int.ofNat_le.2 this
  rwa [Int.natCast_pow, Int.natCast_pow] at this
theorem zp8 {l : List Int} (h : Byts l) : 0 ≤ numB l := by
  induction l with
  | nil => decide
  | cons b r ih =>
    have h1 := h b (List.mem_cons_self ..)
    have h2 := ih fun z hz => h z (List.mem_cons_of_mem _ hz)
    show 0 ≤ b + 256 * numB r
    omega
theorem zO7 {l : List Int} (h : Byts l) : numB l < 256 ^ l.length := by
  induction l with
  | nil => decide
  | cons b r ih =>
    have h1 := h b (List.mem_cons_self ..)
    have h2 := ih fun z hz => h z (List.mem_cons_of_mem _ hz)
    show b + 256 * numB r < 256 ^ (r.length + 1)
    rw [Int.pow_succ]
    omega
theorem Zp2 (l : List Int) (b : Int) : numB (l ++ [b]) = numB l + b * 256 ^ l.length := by
  induction l with
  | nil =>
    rw [List.nil_append, List.length_nil, Int.pow_zero]
    show b + 256 * 0 = 0 + b * 1
    omega
  | cons a r ih =>
    show a + 256 * numB (r ++ [b]) = (a + 256 * numB r) + b * 256 ^ (r.length + 1)
    rw [ih, Int.pow_succ, Int.mul_add, ← Int.mul_assoc b, Int.mul_comm _ 256]
    omega
theorem zp2 (l : List Int) (k : Nat) (hk : k < l.length) : numB (l.take (k + 1)) = numB (l.take k) + l[k] * 256 ^ k := by
  rw [List.take_succ_eq_append_getElem hk, Zp2, List.length_take, Nat.min_eq_left (by omega)]
theorem zG0 (k : Nat) : (0 : Int) < 256 ^ k := Int.pow_pos (by decide)
theorem or_low (x b : Int) (k : Nat) (hk : k < 8) (hx0 : 0 ≤ x) (hx : x < 256 ^ k) (hb0 : 0 ≤ b) (hb : b < 256) :
    bits .or .u64 x (IntKind.u64.wrap (b * 2 ^ (8 * k))) = x + b * 256 ^ k := by
  rw [p256]
  have hle : (256 : Int) ^ (k + 1) ≤ 256 ^ 8 := zE1 (by omega)
  have e8 : (256 : Int) ^ 8 = 18446744073709551616 := by decide
  have hp := zG0 k
  rw [Int.pow_succ] at hle
  have hle0 : (256 : Int) ^ k ≤ 256 ^ 8 := zE1 (by omega)
  have hbm : b * 256 ^ k ≤ 255 * 256 ^ k := Int.mul_le_mul_of_nonneg_right (by omega) (by omega)
  have hb0m : 0 ≤ b * 256 ^ k := Int.mul_nonneg hb0 (by omega)
  have hw : IntKind.u64.wrap (b * 256 ^ k) = b * 256 ^ k := by rw [IntKind.wrap_u64]; omega
  have hcomm : ∀ x y : Int, bits .or .u64 x y = bits .or .u64 y x := fun x y => by
    show IntKind.u64.wrap ((BitVec.ofInt 64 x ||| BitVec.ofInt 64 y).toNat : Int) = IntKind.u64.wrap ((BitVec.ofInt 64 y ||| BitVec.ofInt 64 x).toNat : Int)
    rw [BitVec.or_comm]
  rw [hw, hcomm]
  have := bits_join .u64 64 (by decide) (fun n h₀ h₁ => by rw [IntKind.wrap_u64]; omega) (8 * k) (b * 256 ^ k) x hb0m (by rw [p256]; exact Int.mul_emod_left _ _) (by omega) hx0 (by rw [p256]; exact hx) (by omega)
  rw [this, Int.add_comm]
theorem Zb0 (A : Option Addr) (cap : Nat) (l : List Int) (w : World) (hl : l.length ≤ 9223372036854775807) (hb : Byts l) (hr : Rd w w.heap.size A (za4 l)) :
    Calls Tryz.prog 39 #[.slice A l.length cap] w fun e w' => e = .returned (.int .u64 (ofB l)) ∧ w = w' := by
  go_enter Tryz.func39, Tryz.ntmps39
  go_wp2
  all_goals
    go_loop [3, 4, 8] (fun x t i => ∃ k : Nat, k ≤ 8 ∧ k ≤ l.length ∧ i = .int .i64 k ∧ x = .int .u64 (numB (l.take k))) (fun _ _ i => 8 - (intOf i).toNat)
    case atStart => exact ⟨0, by omega, by omega, rfl, zk0 (by simp [numB])⟩
    case round =>
      obtain ⟨k, hk8, hkl, rfl, rfl⟩ := hrel
      by_cases hlt : k < 8 ∧ k < l.length
      · obtain ⟨hlt, hll⟩ := hlt
        obtain ⟨b, off, rfl, _, hc⟩ := hr.at (i := k) (by unfold za4; rw [List.length_map]; exact hll)
        simp only [za4, List.getElem_map] at hc
        have hbk := hb.get hll
        obtain ⟨z, hz⟩ : ∃ z, z = l[k] := ⟨_, rfl⟩
        rw [← hz] at hc hbk
        have HZ := Lib.hid hz; clear hz
        have H0 := zp8 (hb.take k)
        have H1 := zO7 (hb.take k)
        rw [List.length_take, Nat.min_eq_left (by omega)] at H1
        have HO := Lib.hid (or_low (numB (l.take k)) z k hlt H0 H1 hbk.1 hbk.2)
        clear H0 H1
        obtain ⟨hz0, hz1⟩ := hbk
        go_wp2
        go_round
        case rel =>
          refine ⟨k + 1, by omega, by omega, by go_num, zk0 ?_⟩
          rw [zp2 l k hll, ← HZ.out, ← HO.out]
        case measure => simp [intOf]; omega
      · have hge : 8 ≤ k ∨ l.length ≤ k := by omega
        clear hlt
        go_wp2
        all_goals
          go_ret
          refine ⟨za1 ?_, rfl⟩
          unfold ofB
          rcases hge with h | h
          · rw [show k = 8 by omega]
          · rw [List.take_of_length_le h, List.take_of_length_le (by omega)]
def plv (k : Nat) : Int := IntKind.u64.wrap (256 ^ k)
theorem plv_lt {k : Nat} (hk : k < 8) : plv k = 256 ^ k := by
  have hle : (256 : Int) ^ (k + 1) ≤ 256 ^ 8 := zE1 (by omega)
  have e8 : (256 : Int) ^ 8 = 18446744073709551616 := by decide
  have hp := zG0 k
  rw [Int.pow_succ] at hle
  unfold plv
  rw [IntKind.wrap_u64]
  omega
theorem plv_succ {k : Nat} (hk : k < 8) : IntKind.u64.wrap (plv k * 256) = plv (k + 1) := by
  rw [plv_lt hk]
  unfold plv
  rw [Int.pow_succ]
theorem add_low (x b : Int) (k : Nat) (hk : k < 8) (hx0 : 0 ≤ x) (hx : x < 256 ^ k) (hb0 : 0 ≤ b) (hb : b < 256) :
    IntKind.u64.wrap (x + IntKind.u64.wrap (plv k * b)) = x + b * 256 ^ k := by
  rw [plv_lt hk]
  have hle : (256 : Int) ^ (k + 1) ≤ 256 ^ 8 := zE1 (by omega)
  have e8 : (256 : Int) ^ 8 = 18446744073709551616 := by decide
  have hp := zG0 k
  rw [Int.pow_succ] at hle
  have hbm : b * 256 ^ k ≤ 255 * 256 ^ k := Int.mul_le_mul_of_nonneg_right (by omega) (by omega)
  have hb0m : 0 ≤ b * 256 ^ k := Int.mul_nonneg hb0 (by omega)
  rw [Int.mul_comm (256 ^ k) b, IntKind.wrap_u64, IntKind.wrap_u64]
  omega
theorem Zo8 (A : Option Addr) (cap : Nat) (l : List Int) (w : World) (hl : l.length ≤ 9223372036854775807) (hb : Byts l) (hr : Rd w w.heap.size A (za4 l)) :
    Calls Tryz.prog 21 #[.slice A l.length cap] w fun e w' => e = .returned (.int .u64 (ofB l)) ∧ w = w' := by
  go_enter Tryz.func21, Tryz.ntmps21
  go_wp2
  go_loop [3, 4, 5] (fun x p i => ∃ k : Nat, k ≤ 8 ∧ k ≤ l.length ∧ i = .int .i64 k ∧ x = .int .u64 (numB (l.take k)) ∧ p = .int .u64 (plv k)) (fun _ _ i => 8 - (intOf i).toNat)
  case atStart => exact ⟨0, by omega, by omega, rfl, zk0 (by simp [numB]), zk0 (by decide)⟩
  case round =>
    obtain ⟨k, hk8, hkl, rfl, rfl, rfl⟩ := hrel
    by_cases hlt : k < 8 ∧ k < l.length
    · obtain ⟨hlt, hll⟩ := hlt
      obtain ⟨b, off, rfl, _, hc⟩ := hr.at (i := k) (by unfold za4; rw [List.length_map]; exact hll)
      simp only [za4, List.getElem_map] at hc
      have hbk := hb.get hll
      obtain ⟨z, hz⟩ : ∃ z, z = l[k] := ⟨_, rfl⟩
      rw [← hz] at hc hbk
      have HZ := Lib.hid hz; clear hz
      have H0 := zp8 (hb.take k)
      have H1 := zO7 (hb.take k)
      rw [List.length_take, Nat.min_eq_left (by omega)] at H1
      have HO := Lib.hid (add_low (numB (l.take k)) z k hlt H0 H1 hbk.1 hbk.2)
      have HP := Lib.hid (plv_succ hlt)
      clear H0 H1
      obtain ⟨hz0, hz1⟩ := hbk
      go_wp2
      go_round
      case rel =>
        refine ⟨k + 1, by omega, by omega, by go_num, zk0 ?_, zk0 HP.out⟩
        rw [zp2 l k hll, ← HZ.out, ← HO.out]
      case measure => simp [intOf]; omega
    · by_cases hge : k < l.length
      · have h8 : k = 8 := by omega
        clear hlt
        go_wp2
        go_ret
        refine ⟨za1 ?_, rfl⟩
        unfold ofB
        first | rfl | rw [h8]
      · clear hlt
        go_wp2
        go_ret
        refine ⟨za1 ?_, rfl⟩
        unfold ofB
        rw [List.take_of_length_le (by omega), List.take_of_length_le (by omega)]
theorem same_any (A A' : Option Addr) (cap cap' : Nat) (l l' : List Int) (w : World) (hl : l.length ≤ 9223372036854775807)
    (hr : Rd w w.heap.size A (za4 l)) (hr' : Rd w w.heap.size A' (za4 l')) :
    Calls Tryz.prog 7 #[.slice A l.length cap, .slice A' l'.length cap'] w fun e w' => e = .returned (.bool (decide (l = l'))) ∧ Below w.heap.size w w' := by
  by_cases hne : l.length = l'.length
  · have hb : ((l.length : Int) != l'.length) = false := by simp [hne]
    have HN := Lib.hid hne; clear hne
    go_enter Tryz.func7, Tryz.ntmps7
    go_wp2
    go_loopw [5] (fun i wx => Below w.heap.size w wx ∧ ∃ k : Nat, k ≤ l.length ∧ i = .int .i64 k ∧ l.take k = l'.take k) (fun i _ => l.length - (intOf i).toNat)
    case atStart => exact ⟨Below.refl _ _, 0, by omega, rfl, by simp⟩
    case round =>
      obtain ⟨hbl, k, hk, rfl, htk⟩ := hrel
      have HT := Lib.hid htk; clear htk
      by_cases hlt : k < l.length
      · obtain ⟨b, off, rfl, _, hc⟩ := (hr.below hbl).at (i := k) (by unfold za4; rw [List.length_map]; exact hlt)
        obtain ⟨b', off', rfl, _, hc'⟩ := (hr'.below hbl).at (i := k) (by unfold za4; rw [List.length_map, ← HN.out]; exact hlt)
        simp only [za4, List.getElem_map] at hc hc'
        have hltI : (k : Int) < l.length := by omega
        have hltJ : (k : Int) < l'.length := by have := HN.out; omega
        by_cases he : l[k] = l'[k]'(by have := HN.out; omega)
        · have ht : (l[k] != l'[k]'(by have := HN.out; omega)) = false := by simp [he]
          have HE := Lib.hid he; clear he
          go_wp2
          go_quiet (fail)
          go_wp2
          go_roundw
          case rel =>
            refine ⟨below_drewN hbl _, k + 1, by omega, by go_num, ?_⟩
            rw [List.take_succ_eq_append_getElem hlt, List.take_succ_eq_append_getElem (by have := HN.out; omega), HT.out, HE.out]
          case measure => simp [intOf]; omega
        · have ht : (l[k] != l'[k]'(by have := HN.out; omega)) = true := by simp [he]
          have HE := Lib.hid he; clear he
          go_wp2
          go_quiet (fail)
          go_wp2
          go_ret
          refine ⟨zb0 (Eq.symm (decide_eq_false fun e => HE.out ?_)), below_drewN hbl _⟩
          simp only [e]
      · go_wp2
        go_ret
        refine ⟨zb0 (Eq.symm (decide_eq_true ?_)), hbl⟩
        have ht := HT.out
        rwa [List.take_of_length_le (by omega), List.take_of_length_le (by have := HN.out; omega)] at ht
  · have hb : ((l.length : Int) != l'.length) = true := by simp; omega
    have HN := Lib.hid hne; clear hne
    go_enter Tryz.func7, Tryz.ntmps7
    go_wp2
    go_ret
    exact ⟨zb0 (Eq.symm (decide_eq_false fun e => HN.out (by rw [e]))), Below.refl _ _⟩
def zs1 (x : Int) (k : Nat) : Int := x / 256 ^ k % 256
def zc5 (x : Int) (m : Nat) : List Int := (List.range m).map (zs1 x)
def cap8 (n : Int) : Nat := min n.toNat 8
theorem zc7 (x : Int) (m : Nat) : (zc5 x m).length = m := by simp [zc5]
theorem zO1 (x : Int) (m : Nat) : zc5 x (m + 1) = zc5 x m ++ [zs1 x m] := by simp [zc5, List.range_succ]
theorem zM2 (x : Int) (m : Nat) : Byts (zc5 x m) := by
  intro z hz
  simp only [zc5, List.mem_map] at hz
  obtain ⟨k, _, rfl⟩ := hz
  unfold zs1
  omega
def RetB (w : World) (l : List Int) (e : Ending) (w' : World) : Prop := ∃ A cap, e = .returned (.slice A l.length cap) ∧ Rd w' w'.heap.size A (za4 l) ∧ Below w.heap.size w w'
theorem RetB.of_own {w w' : World} {l : List Int} {base : Nat} {e : TypeId} {n : Nat} {v : Value} (h : w'.ownsRow base e 1 v n (za4 l)) (hb : Below w.heap.size w w') : RetB w l (.returned v) w' := by
  obtain ⟨A, c, rfl, hr⟩ := zB7 h
  have hn : n = l.length := by have := h.1; unfold za4 at this; rw [List.length_map] at this; omega
  subst hn
  exact ⟨A, c, rfl, hr, hb⟩
theorem Tryz.info5 : (Tryz.prog.info? 5).map (fun i => (i.zero, i.size, i.bytes)) = some (some (.int .u8 0), 1, 1) := by kernel_rfl
def zf7 (m : Nat) : List Value := List.replicate m (.int .u8 0)
theorem zi5 (m : Nat) : (madeCells #[Value.int .u8 0] m).toList = zf7 m := by
  apply List.ext_getElem
  · simp [madeCells, zf7]
  · intro i h1 h2
    simp [madeCells, zf7, Nat.mod_one]
theorem zZ6 (x : Int) (k : Nat) : x / 2 ^ (8 * k) % 256 = zs1 x k := by
  rw [p256]; rfl
theorem Zc2 (x : Int) (k m : Nat) (hk : k < m) : (za4 (zc5 x k) ++ zf7 (m - k)).set k (.int .u8 (zs1 x k)) = za4 (zc5 x (k + 1)) ++ zf7 (m - (k + 1)) := by
  have hl : (za4 (zc5 x k)).length = k := by simp [za4, zc5]
  rw [List.set_append_right _ _ (by omega), hl, Nat.sub_self, zO1]
  unfold zf7
  rw [show m - k = (m - (k + 1)) + 1 by omega, List.replicate_succ, List.set_cons_zero]
  simp [za4]
set_option maxHeartbeats 800000 in
theorem zs6 (x n : Int) (_h0 : 0 ≤ x) (w : World) :
    Calls Tryz.prog 16 #[.int .u64 x, .int .i64 n] w (RetB w (zc5 x (cap8 n))) := by
  obtain ⟨i0, hi, hz0, hz1, hz2⟩ := info_parts Tryz.info5
  by_cases h1 : n < 1
  · go_enter Tryz.func16, Tryz.ntmps16
    go_wp2
    go_ret
    have e : cap8 n = 0 := by unfold cap8; omega
    rw [e]
    exact ⟨none, 0, rfl, Rd.nil, Below.refl _ _⟩
  · have hm8 : cap8 n ≤ 8 := by unfold cap8; omega
    have hmi : (n ≤ 8 → n = (cap8 n : Int)) ∧ (8 < n → (8 : Int) = (cap8 n : Int)) := by unfold cap8; omega
    obtain ⟨m, hm⟩ : ∃ m, m = cap8 n := ⟨_, rfl⟩
    rw [← hm] at hm8 hmi ⊢
    clear hm
    have HM := Lib.hid hmi; clear hmi
    by_cases h8 : n ≤ 8
    all_goals
      go_enter Tryz.func16, Tryz.ntmps16
      go_wp2_with (at_make; refine wpList_make_full _ rfl _ _ 26 rfl w.heap.size 5 i0 (.int .u8 0) 1 Tryz.underlying26 hi hz0 hz1 .i64 .i64 _ _ m rfl rfl ?_ ?_ ?_ ?_ (Nat.le_refl _) ?_)
      · first | exact HM.out.1 (by omega) | exact HM.out.2 (by omega)
      · first | exact HM.out.1 (by omega) | exact HM.out.2 (by omega)
      · omega
      · unfold maxLen; omega
      intro w1 hown hgrow
      have hbl : Below w.heap.size w w1 := (Below.refl _ _).grown hgrow (Nat.le_refl _) (fun _ h => by cases h)
      have hown1 : w1.ownsRow w.heap.size 5 1 (.slice (some ⟨w.heap.size, 0, none⟩) m m) m (za4 (zc5 x 0) ++ zf7 (m - 0)) := by
        show w1.ownsRow _ _ _ _ _ (zf7 m)
        rw [← zi5 m]; exact hown
      clear hown hgrow
      go_wp2
      go_loopw [14] (fun i wx => Below w.heap.size w wx ∧ ∃ k : Nat, k ≤ m ∧ i = .int .i64 k ∧ wx.ownsRow w.heap.size 5 1 (.slice (some ⟨w.heap.size, 0, none⟩) m m) m (za4 (zc5 x k) ++ zf7 (m - k))) (fun i _ => m - (intOf i).toNat)
      case atStart => exact ⟨hbl, 0, by omega, rfl, hown1⟩
      case round =>
        obtain ⟨hblr, k, hk, rfl, howr⟩ := hrel
        clear hbl hown1
        by_cases hlt : k < m
        · have hcell := howr.cellAt k (by omega)
          have hfz := howr.frozenAt k
          obtain ⟨u, hu⟩ : ∃ u, (za4 (zc5 x k) ++ zf7 (m - k))[k]? = some u := ⟨_, List.getElem?_eq_getElem (by simp [za4, zc5, zf7]; omega)⟩
          rw [hu] at hcell
          clear hu
          have HB := Lib.hid (zZ6 x k)
          go_wp2
          go_roundw
          case rel =>
            rw [HB.out]
            have hst := (howr.stored k (.int .u8 (zs1 x k))).1
            rw [Zc2 x k m hlt] at hst
            exact ⟨hblr.setCell (Nat.le_refl _) _, k + 1, by omega, by go_num, hst⟩
          case measure => simp [intOf]; omega
        · go_wp2
          go_ret
          rw [show k = m by omega, Nat.sub_self] at howr
          simp only [zf7, List.replicate_zero, List.append_nil] at howr
          exact RetB.of_own howr hblr
end Go.Proofs.YtmamblgpekafbaaGreatDoor
