/- Of stage 11. -/
import Derived.Deep.RegionHeld
import Derived.Deep.MidRow
import Derived.Test.YtmamblgpekafbaaGreatDoorRlpa
set_option maxRecDepth 100000
namespace Go.Proofs.YtmamblgpekafbaaGreatDoor
open Go.RowKit
section
variable {P : Program} {ops : Array Oper} {Q : Exit → Act → World → Prop} {md : Region.Mode} {S : World → Prop} {fuel : Nat} {listed : Array Bool} {a : Act} {w : World}
theorem zf3 {o : Oper} {l : Nat → Option Bool} (h : o.guard = none) : Region.wanted o l = true := by simp [Region.wanted, h]
theorem zd5 {i : Nat} {oi : Oper} (v : Value) (hi : ops[i]? = some oi) (hs : Region.noSelect ops = true) (hf : Region.free md ops listed i = true) (hr : (Region.ready md ops listed).contains i = true)
    (hQ : ∀ c a w, Q (.panic c) (a.put oi.dst v) w → Q (.panic c) a w) (hg : oi.guard = none) (hv : ∀ w, S w → (execOp a.eval oi).run P w = .ok (.value v) w) (hS : S w)
    (h : wpAnyH P md ops Q S fuel (listed.setIfInBounds i true) (a.put oi.dst v) w) : wpAnyH P md ops Q S (fuel + 1) listed a w :=
  wpAnyH_take hi hs hf hr hQ (.inl ⟨zf3 hg, hv⟩) hS h
theorem zc8 {i : Nat} {oi : Oper} {cs : Array Value} {t : TypeId} {g : Nat} (hi : ops[i]? = some oi) (hs : Region.noSelect ops = true) (hf : Region.free md ops listed i = true) (hr : (Region.ready md ops listed).contains i = true)
    (hQ : ∀ c a w, Q (.panic c) (a.put oi.dst (.agg cs)) w → Q (.panic c) a w) (hg : oi.guard = none) (ty : TypeId) (x : Operand) (ho : oi.op = .load ty x) (hx : a.eval x = .pointer (some ⟨g, 0, none⟩))
    (hb : ∀ w, S w → Blk cs t g w) {d : TypeDesc} (hu : P.underlying ty = some d) (hd : (match d with | .struct _ | .array _ _ => true | _ => false) = true) (hz : (P.info? ty).map (·.size) = some cs.size) (hS : S w)
    (h : wpAnyH P md ops Q S fuel (listed.setIfInBounds i true) (a.put oi.dst (.agg cs)) w) : wpAnyH P md ops Q S (fuel + 1) listed a w :=
  wpAnyH_take hi hs hf hr hQ (.inl ⟨zf3 hg, fun w hw => by
    unfold execOp
    simp only [ho, hx, Instr.loadAt, Instr.sureAddr, Sem.run_bind, Sem.run_pure, Result.andThen_ok, (hb w hw).var hu hd hz]⟩) hS h
def Has (n : Nat) (t : TypeId) (g : Nat) (w : World) : Prop := ∃ cs : Array Value, cs.size = n ∧ Blk cs t g w
theorem Has.of {cs : Array Value} {t : TypeId} {g n : Nat} (h : Blk cs t g w) (hn : cs.size = n) : Has n t g w := ⟨cs, hn, h⟩
theorem Has.on {n : Nat} {t : TypeId} {g : Nat} {w' : World} (h : Has n t g w) (hb : Below w.heap.size w w') : Has n t g w' := by
  obtain ⟨cs, hn, h⟩ := h
  exact ⟨cs, hn, h.on hb⟩
theorem Has.lt {n : Nat} {t : TypeId} {g : Nat} (h : Has n t g w) : g < w.heap.size := by obtain ⟨_, _, h⟩ := h; exact h.lt
theorem Blk.far {cs : Array Value} {t : TypeId} {g k : Nat} {w' : World} (h : Blk cs t g w) (hg : w.grownBy w' (some k)) (hne : g ≠ k) : Blk cs t g w' := (hg.block g h.lt (by simpa using hne)).trans h
theorem Has.far {n : Nat} {t : TypeId} {g k : Nat} {w' : World} (h : Has n t g w) (hg : w.grownBy w' (some k)) (hne : g ≠ k) : Has n t g w' := by
  obtain ⟨cs, hn, h⟩ := h
  exact ⟨cs, hn, h.far hg hne⟩
theorem Has.drew {n : Nat} {t : TypeId} {g : Nat} (h : Has n t g w) : Has n t g w.drew := h
theorem Has.put {n : Nat} {t : TypeId} {g : Nat} (h : Has n t g w) (ys : Array Value) (hy : ys.size = n) (h1 : ∀ v ∈ ys.toList, v.oneCell' = true) {ty : TypeId} (hz : (P.info? ty).map (·.size) = some ys.size) :
    ∃ w', (storeVar ty ⟨g, 0, none⟩ (.agg ys)).run P w = .ok () w' ∧ Blk ys t g w' ∧ w.grownBy w' (some g) := by
  obtain ⟨cs, hn, h⟩ := h
  obtain ⟨w', e1, e2, e3⟩ := h.store (P := P) ys.toList (by rw [Array.length_toList]; omega) h1
  refine ⟨w', ?_, e2, e3⟩
  rw [← e1]
  cases hq : P.info? ty with
  | none => simp [hq] at hz
  | some i =>
    have hs : i.size = ys.size := by simpa [hq] using hz
    simp [storeVar, sizeOf, typeInfo, hq, hs, Sem.run_bind, show (Value.agg ys).cells = ys from rfl]
theorem zl6 {o : Oper} {ty : TypeId} {x y : Operand} {g : Nat} {ys : Array Value} {w' : World} (ho : o.op = .store ty x y) (hx : a.eval x = .pointer (some ⟨g, 0, none⟩)) (hy : a.eval y = .agg ys)
    (h : (storeVar ty ⟨g, 0, none⟩ (.agg ys)).run P w = .ok () w') {K : Act → World → Prop} (hk : K (a.put o.dst undef) w') : o.wp P a w K Q := by
  unfold Oper.wp execOp
  simp only [ho, hx, hy, Instr.storeAt, Instr.sureAddr, Sem.run_bind, Sem.run_pure, Result.andThen_ok, h]
  exact hk
theorem zd6 {fn : Func} {p q : Tmp} {ty uy : TypeId} {cs ds : Array Value} {t u : TypeId} {g k : Nat} {d e : TypeDesc} {tmps : Array Value} (h : fn.results = #[.cell p ty, .cell q uy])
    (hp : tmps.getD p undef = .pointer (some ⟨g, 0, none⟩)) (hq : tmps.getD q undef = .pointer (some ⟨k, 0, none⟩)) (hb : Blk cs t g w) (hc : Blk ds u k w)
    (hu : P.underlying ty = some d) (hd : (match d with | .struct _ | .array _ _ => true | _ => false) = true) (hi : (P.info? ty).map (·.size) = some cs.size)
    (hu' : P.underlying uy = some e) (hd' : (match e with | .struct _ | .array _ _ => true | _ => false) = true) (hi' : (P.info? uy).map (·.size) = some ds.size) :
    (results fn tmps).run P w = .ok (.tuple #[.agg cs, .agg ds]) w := by
  have hp' : tmps[p]?.getD undef = .pointer (some ⟨g, 0, none⟩) := by simpa using hp
  have hq' : tmps[q]?.getD undef = .pointer (some ⟨k, 0, none⟩) := by simpa using hq
  simp [results, h, hp', hq', asAddr, hb.var hu hd hi, hc.var hu' hd' hi']
theorem zc4 {rest : List Oper} {o : Oper} {ys : Array Value} {w' : World} {g : Nat} (hgd : o.guard = none) (ty : TypeId) (x y : Operand) (ho : o.op = .store ty x y) (hy : a.eval y = .agg ys) (hx : a.eval x = .pointer (some ⟨g, 0, none⟩))
    (h : (storeVar ty ⟨g, 0, none⟩ (.agg ys)).run P w = .ok () w') (hk : wpList P ops Q rest (a.put o.dst undef) w') : wpList P ops Q (o :: rest) a w :=
  wpList_plain hgd fun _ hK => zl6 ho hx hy h (hK _ _ hk)
theorem zo1 {i : Nat} {oi : Oper} {g n : Nat} {t : TypeId} {ys : Array Value} (hr : Region.ready md ops listed = [i]) (hi : ops[i]? = some oi) (gi : oi.guard = none) (di : oi.dst = none)
    (ty : TypeId) (x y : Operand) (ho : oi.op = .store ty x y) (hx : a.eval x = .pointer (some ⟨g, 0, none⟩)) (hy : a.eval y = .agg ys) (hz : (P.info? ty).map (·.size) = some ys.size) (hn : ys.size = n) (o1 : ∀ v ∈ ys.toList, v.oneCell' = true)
    (hS : S w) (hh : ∀ w, S w → Has n t g w) (hk : ∀ u u', S u → u.grownBy u' (some g) → Has n t g u' → S u')
    (h : ∀ w', S w' → Blk ys t g w' → w.grownBy w' (some g) → wpAnyH P md ops Q S fuel (listed.setIfInBounds i true) a w') : wpAnyH P md ops Q S (fuel + 1) listed a w := by
  have put : ∀ (b : Act) (v : Value), b.put none v = b := fun _ _ => rfl
  refine wpAnyH_all hr (by simp) (fun k hk' => ?_)
  obtain rfl : k = i := by simpa using hk'
  unfold wpOp
  simp only [hi, zf3 gi, if_true]
  refine .inl ?_
  obtain ⟨w1, e1, b1, k1⟩ := (hh w hS).put (P := P) ys hn o1 hz
  refine zl6 ho hx hy e1 ?_
  have S1 := hk _ _ hS k1 (Has.of b1 hn)
  refine ⟨S1, ?_⟩
  rw [di, put]
  exact h _ S1 b1 k1
end
end Go.Proofs.YtmamblgpekafbaaGreatDoor
namespace Go.Proofs.YtmamblgpekafbaaGreatDoor
open Go.RowKit
theorem w_sgn {a : Int} (h : U64 a) : wrap64 a = sgn a := by
  rw [ze2, IntKind.wrap_i64]
  unfold sgn
  unfold U64 at h
  split <;> omega
theorem and63 {b : Int} (h : U64 b) : bits .and .u64 b 63 = b % 64 := bits_mask .u64 64 (by decide) (fun n h₀ h₁ => by rw [IntKind.wrap_u64]; omega) 6 (by decide) b h.1 h.lt
theorem and31 {b : Int} (h : U64 b) : bits .and .u64 b 31 = b % 32 := bits_mask .u64 64 (by decide) (fun n h₀ h₁ => by rw [IntKind.wrap_u64]; omega) 5 (by decide) b h.1 h.lt
theorem nat_even (x : Nat) (h : x < 2 ^ 64) : x &&& 18446744073709551614 = x - x % 2 := by
  have h1 : (x &&& 18446744073709551614) / 2 = x / 2 &&& 18446744073709551614 / 2 := by have := Nat.and_div_two_pow (a := x) (b := 18446744073709551614) (n := 1); simpa using this
  have h2 : (x &&& 18446744073709551614) % 2 = (x % 2) &&& (18446744073709551614 % 2) := by have := Nat.and_mod_two_pow (a := x) (b := 18446744073709551614) (n := 1); simpa using this
  have e : (18446744073709551614 : Nat) / 2 = 2 ^ 63 - 1 := by decide
  rw [e, Nat.and_two_pow_sub_one_eq_mod, Nat.mod_eq_of_lt (by omega)] at h1
  rw [show (18446744073709551614 : Nat) % 2 = 0 by decide, Nat.and_zero] at h2
  generalize x &&& 18446744073709551614 = y at *
  omega
theorem Zl3 {x : Int} (h : U64 x) : bits .andNot .u64 x 1 = x - x % 2 := by
  unfold U64 at h
  rw [u64_andNot x 1 h.1 h.2 (by decide) (by decide)]
  have := nat_even x.toNat (by omega)
  rw [show (18446744073709551615 - (1 : Int).toNat : Nat) = 18446744073709551614 by decide, this]
  omega
theorem zQ6 (a : Int) (n k : Nat) : rigV a n k 0 = a / 2 ^ k := by unfold rigV; omega
theorem sgn_div {a : Int} (h : U64 a) {k : Nat} (hk : k ≤ 64) : IntKind.u64.wrap (sgn a / 2 ^ k) = rigV a 64 k (a / 9223372036854775808) := by
  have hU := zJ5 (a := a) (fill := a / 9223372036854775808) (n := 64) (k := k) (by decide) hk h.1 h.lt (zy8 a h)
  rw [IntKind.wrap_u64]
  unfold rigV sgn at *
  unfold U64 at h hU
  rcases zy8 a h with e | e
  · rw [e] at hU ⊢
    rw [if_pos (by omega)]
    omega
  · rw [e] at hU ⊢
    rw [if_neg (by omega)]
    have hp : (18446744073709551616 : Int) = 2 ^ (64 - k) * 2 ^ k := by rw [← Int.pow_add, Nat.sub_add_cancel hk]; decide
    have hd : (a - 18446744073709551616) / 2 ^ k = a / 2 ^ k - 2 ^ (64 - k) := by
      rw [hp, Int.sub_eq_add_neg, ← Int.neg_mul, Int.add_mul_ediv_right _ _ (by have := zc0 k; omega)]
      omega
    rw [hd]
    have e64 : (2 : Int) ^ 64 = 18446744073709551616 := by decide
    rw [e64] at hU ⊢
    generalize (2 : Int) ^ (64 - k) = p at *
    generalize a / 2 ^ k = q at *
    omega
theorem sx_of_zx {x y : Int} (hx : 0 ≤ x) (hy : 0 ≤ y) {k : Nat} (h : 1 ≤ k) (e : zx x k = zx y k) : sx x k = sx y k := by
  unfold sx
  rw [zx_bit x y hx hy k h e, e]
theorem Zr6 (x : Int) {n : Nat} (h : n = 32 ∨ n = 64) : (sx x n = zx x n ∧ zx x n < 2 ^ (n - 1)) ∨ (sx x n = zx x n + (2 ^ 64 - 2 ^ n) ∧ 2 ^ (n - 1) ≤ zx x n) := by
  unfold sx zx
  rcases h with rfl | rfl
  · rw [show (2 : Int) ^ (32 - 1) = 2147483648 by decide, show (2 : Int) ^ 32 = 4294967296 by decide, show (2 : Int) ^ 64 = 18446744073709551616 by decide, if_neg (by decide)]
    split <;> omega
  · rw [show (2 : Int) ^ (64 - 1) = 9223372036854775808 by decide, show (2 : Int) ^ 64 = 18446744073709551616 by decide, if_neg (by decide)]
    split <;> omega
theorem Zq1 (a : Int) {k : Nat} (hk : k ≤ 31) : sxw (IntKind.u64.wrap (sgn (sx a 32) / 2 ^ k)) = sxw (rigV (zxw a) 32 k (zxw a / 2147483648)) := by
  unfold sxw
  have hz := zy9 a
  have ht : zxw a / 2147483648 = 0 ∨ zxw a / 2147483648 = 1 := by omega
  have hr := zJ5 (a := zxw a) (fill := zxw a / 2147483648) (n := 32) (k := k) (by decide) (by omega) hz.1 (by omega) ht
  have hs := zm4 a 32 (by decide)
  refine sx_of_zx (w_U _).1 hr.1 (by decide) ?_
  rw [IntKind.wrap_u64]
  have hsx : sgn (sx a 32) = if zxw a / 2147483648 = 1 then zxw a - 4294967296 else zxw a := by
    have h2 := Zr6 a (n := 32) (.inl rfl)
    rw [show zx a 32 = zxw a from rfl, show (2 : Int) ^ (32 - 1) = 2147483648 by decide, show (2 : Int) ^ 64 - 2 ^ 32 = 18446744069414584320 by decide] at h2
    unfold sgn
    rcases h2 with ⟨e2, l2⟩ | ⟨e2, l2⟩
    · rw [e2, if_pos (by omega), if_neg (by omega)]
    · rw [e2, if_neg (by omega), if_pos (by omega)]
      omega
  rw [hsx]
  have hp : (4294967296 : Int) = 2 ^ (32 - k) * 2 ^ k := by rw [← Int.pow_add, Nat.sub_add_cancel (by omega)]; decide
  unfold rigV zx
  rcases ht with e | e
  · rw [e, if_neg (by decide)]
    have : 0 ≤ zxw a / 2 ^ k := Int.ediv_nonneg hz.1 (Int.le_of_lt (zc0 k))
    rw [show (2 : Int) ^ 32 = 4294967296 by decide]
    omega
  · rw [e, if_pos rfl]
    have hd : (zxw a - 4294967296) / 2 ^ k = zxw a / 2 ^ k - 2 ^ (32 - k) := by
      conv => lhs; rw [hp]
      rw [Int.sub_eq_add_neg, ← Int.neg_mul, Int.add_mul_ediv_right _ _ (by have := zc0 k; omega)]
      omega
    rw [hd]
    generalize (2 : Int) ^ (32 - k) = p at *
    generalize zxw a / 2 ^ k = q at *
    rw [show (2 : Int) ^ 32 = 4294967296 by decide]
    omega
theorem sx_lt (x y : Int) {n : Nat} (h : n = 32 ∨ n = 64) : sx x n < sx y n ↔ zx x n < zx y n := by
  have hp : (2 : Int) ^ n ≤ 2 ^ 64 := ze7 (by omega)
  rcases Zr6 x h with ⟨e1, l1⟩ | ⟨e1, l1⟩ <;> rcases Zr6 y h with ⟨e2, l2⟩ | ⟨e2, l2⟩ <;> rw [e1, e2] <;> omega
theorem min_code (old b : Int) {n : Nat} (h : n = 32 ∨ n = 64) : zx (if sx b n < sx old n then sx b n else sx old n) n = zx (if zx old n < zx b n then zx old n else sx b n) n := by
  have h1 := sx_lt b old h
  have hn : n ≤ 64 := by omega
  split <;> split
  · rw [zI8 _ _ hn, zJ4 _ (Nat.le_refl _)]; omega
  · rfl
  · rw [zI8 _ _ hn, zJ4 _ (Nat.le_refl _)]
  · rw [zI8 _ _ hn, zI8 _ _ hn]; omega
theorem max_code (old b : Int) {n : Nat} (h : n = 32 ∨ n = 64) : zx (if sx old n < sx b n then sx b n else sx old n) n = zx (if zx b n < zx old n then zx old n else sx b n) n := by
  have h1 := sx_lt old b h
  have hn : n ≤ 64 := by omega
  split <;> split
  · rw [zI8 _ _ hn, zJ4 _ (Nat.le_refl _)]; omega
  · rfl
  · rw [zI8 _ _ hn, zJ4 _ (Nat.le_refl _)]
  · rw [zI8 _ _ hn, zI8 _ _ hn]; omega
theorem zS2 (a b : Int) (ha : U64 a) (hb : U64 b) (w : World) : Calls Tryz.prog 107 #[.int .u64 a, .int .u64 b] w fun e w' => e = .returned (.bool (lowB a b)) ∧ w = w' := by
  have h1 := Lib.hid (w_sgn ha)
  have h2 := Lib.hid (w_sgn hb)
  clear ha hb
  go_enter Tryz.func107, Tryz.ntmps107
  go_wp2
  go_ret
  exact ⟨zb0 (by unfold lowB; rw [h1.out, h2.out]), rfl⟩
theorem Zk0 (b : Bool) (w : World) : Calls Tryz.prog 148 #[.bool b] w fun e w' => e = .returned (.int .u64 (zC6 b)) ∧ w = w' := by
  cases b
  all_goals
    go_enter Tryz.func148, Tryz.ntmps148
    go_wp2
    go_ret
    exact ⟨rfl, rfl⟩
theorem chosen_c (c : Bool) (a b : Int) (w : World) : Calls Tryz.prog 106 #[.bool c, .int .u64 a, .int .u64 b] w fun e w' => e = .returned (.int .u64 (if c then a else b)) ∧ w = w' := by
  cases c
  all_goals
    go_enter Tryz.func106, Tryz.ntmps106
    go_wp2
    go_ret
    exact ⟨rfl, rfl⟩
end Go.Proofs.YtmamblgpekafbaaGreatDoor
namespace Go.Proofs.YtmamblgpekafbaaGreatDoor
open Go.RowKit
theorem div_U {z x : Int} (hz : 0 ≤ z ∧ z < 4294967296) (_ : 0 ≤ x) : U64 (z / 2 ^ x.toNat) := by
  have h0 : 0 ≤ z / 2 ^ x.toNat := Int.ediv_nonneg hz.1 (Int.le_of_lt (zc0 _))
  have h1 : z / 2 ^ x.toNat ≤ z := Int.ediv_le_self _ hz.1
  unfold U64
  omega
def RetH (p a b : Int) (w : World) (e : Ending) (w' : World) : Prop := ∃ h : Int, U64 h ∧ sxw h = zd4 p a b ∧ e = .returned (.int .u64 h) ∧ w = w'
theorem halves_c (p a b : Int) (hp : 45 ≤ p ∧ p ≤ 49) (ha : U64 a) (hb : U64 b) (w : World) : Calls Tryz.prog 149 #[.int .i64 p, .int .u64 a, .int .u64 b] w (RetH p a b w) := by
  have hy := and31 hb
  have y0 : 0 ≤ b % 32 ∧ b % 32 ≤ 31 := by omega
  have KZ := fun x => zo7 a 32 ha.1 ha.lt x
  have KS := fun x => zi8 a 32 ha.1 ha.lt x
  rw [show zc6 32 = 32 from rfl] at KZ KS
  have hs := Lib.hid (w_sgn (a := sx a 32) (by have := zm4 a 32 (by decide); unfold U64; omega))
  have hq : Hid (∀ x : Int, 0 ≤ x → x ≤ 31 → sxw (IntKind.u64.wrap (sgn (sx a 32) / 2 ^ x.toNat)) = sxw (rigV (zxw a) 32 x.toNat (zxw a / 2147483648))) := fun x h0 h1 => Zq1 a (by omega)
  have h45 : Hid (zd4 45 a b = addwV a b) := p_45 a b
  have h46 : Hid (zd4 46 a b = subwV a b) := p_46 a b
  have h47 : Hid (zd4 47 a b = sxw (lefV a (b % 32).toNat)) := p_47 a b
  have h48 : Hid (zd4 48 a b = sxw (rigV (zxw a) 32 (b % 32).toNat 0)) := p_48 a b
  have h49 : Hid (zd4 49 a b = sxw (rigV (zxw a) 32 (b % 32).toNat (zxw a / 2147483648))) := p_49 a b
  have HA := Lib.hid ha
  have HZ := Lib.hid (zy9 a)
  generalize b % 32 = y at *
  obtain ⟨y0, y1⟩ := y0
  clear ha hb
  have hc : p = 45 ∨ p = 46 ∨ p = 47 ∨ p = 48 ∨ p = 49 := by omega
  clear hp
  rcases hc with rfl | rfl | rfl | rfl | rfl
  · go_enter Tryz.func149, Tryz.ntmps149
    go_wp2
    go_ret
    exact ⟨_, w_U _, by rw [h45.out, IntKind.wrap_u64]; rfl, rfl, rfl⟩
  · go_enter Tryz.func149, Tryz.ntmps149
    go_wp2
    go_ret
    exact ⟨_, w_U _, by rw [h46.out, IntKind.wrap_u64]; rfl, rfl, rfl⟩
  · go_enter Tryz.func149, Tryz.ntmps149
    go_wp2
    go_ret
    exact ⟨_, w_U _, by rw [h47.out, IntKind.wrap_u64]; rfl, rfl, rfl⟩
  · go_enter Tryz.func149, Tryz.ntmps149
    go_wp2_with (first | (go_at_call 33; refine (KZ _).mono ?_; rintro e w' ⟨rfl, rfl⟩))
    go_ret
    refine ⟨_, ?_, by rw [h48.out, zQ6]; rfl, rfl, rfl⟩
    exact div_U HZ.out y0
  · go_enter Tryz.func149, Tryz.ntmps149
    go_wp2_with (first | (go_at_call 58; refine (KS _).mono ?_; rintro e w' ⟨rfl, rfl⟩))
    go_ret
    exact ⟨_, w_U _, by rw [h49.out, ← hq.out _ y0 y1, ← hs.out], rfl, rfl⟩
theorem fifteen {p : Int} (h : 35 ≤ p ∧ p ≤ 49) : p = 35 ∨ p = 36 ∨ p = 37 ∨ p = 38 ∨ p = 39 ∨ p = 40 ∨ p = 41 ∨ p = 42 ∨ p = 43 ∨ p = 44 ∨ (45 ≤ p ∧ p ≤ 49) := by omega
theorem zS0 (p a b : Int) (hp : 35 ≤ p ∧ p ≤ 49) (ha : U64 a) (hb : U64 b) (w : World) : Calls Tryz.prog 108 #[.int .i64 p, .int .u64 a, .int .u64 b] w fun e w' => e = .returned (.int .u64 (zd4 p a b)) ∧ w = w' := by
  have hy := and63 hb
  have y0 : 0 ≤ b % 64 ∧ b % 64 ≤ 63 := by omega
  have KL := fun x => zS2 a b ha hb x
  have KH := fun (h : 45 ≤ p ∧ p ≤ 49) x => halves_c p a b h ha hb x
  have hs := Lib.hid (w_sgn ha)
  have hq : Hid (∀ x : Int, 0 ≤ x → x ≤ 63 → IntKind.u64.wrap (sgn a / 2 ^ x.toNat) = rigV a 64 x.toNat (a / 9223372036854775808)) := fun x h0 h1 => sgn_div ha (by omega)
  have h35 : Hid (zd4 35 a b = u64 (a + b)) := p_35 a b
  have h36 : Hid (zd4 36 a b = u64 (a - b)) := p_36 a b
  have h37 : Hid (zd4 37 a b = u64 (a * 2 ^ (b % 64).toNat)) := p_37 a b
  have h38 : Hid (zd4 38 a b = zC6 (lowB a b)) := p_38 a b
  have h39 : Hid (zd4 39 a b = zC6 (decide (a < b))) := p_39 a b
  have h40 : Hid (zd4 40 a b = bits .xor .u64 a b) := p_40 a b
  have h41 : Hid (zd4 41 a b = rigV a 64 (b % 64).toNat 0) := p_41 a b
  have h42 : Hid (zd4 42 a b = rigV a 64 (b % 64).toNat (a / 9223372036854775808)) := p_42 a b
  have h43 : Hid (zd4 43 a b = bits .or .u64 a b) := p_43 a b
  have h44 : Hid (zd4 44 a b = bits .and .u64 a b) := p_44 a b
  generalize b % 64 = y at *
  obtain ⟨y0, y1⟩ := y0
  clear ha hb
  rcases fifteen hp with rfl | rfl | rfl | rfl | rfl | rfl | rfl | rfl | rfl | rfl | hp5
  · go_enter Tryz.func108, Tryz.ntmps108
    go_wp2
    go_ret
    exact ⟨za1 (by rw [h35.out, IntKind.wrap_u64]; rfl), rfl⟩
  · go_enter Tryz.func108, Tryz.ntmps108
    go_wp2
    go_ret
    exact ⟨za1 (by rw [h36.out, IntKind.wrap_u64]; rfl), rfl⟩
  · go_enter Tryz.func108, Tryz.ntmps108
    go_wp2
    go_ret
    exact ⟨za1 (by rw [h37.out, IntKind.wrap_u64]; rfl), rfl⟩
  · generalize lowB a b = c at *
    go_enter Tryz.func108, Tryz.ntmps108
    go_wp2_with (first | (go_at_call 107; refine (KL _).mono ?_; rintro e w' ⟨rfl, rfl⟩) | (go_at_call 148; refine (Zk0 _ _).mono ?_; rintro e w' ⟨rfl, rfl⟩))
    go_ret
    exact ⟨za1 h38.out.symm, rfl⟩
  · go_enter Tryz.func108, Tryz.ntmps108
    go_wp2_with (first | (go_at_call 148; refine (Zk0 _ _).mono ?_; rintro e w' ⟨rfl, rfl⟩))
    go_ret
    exact ⟨za1 h39.out.symm, rfl⟩
  · go_enter Tryz.func108, Tryz.ntmps108
    go_wp2
    go_ret
    exact ⟨za1 h40.out.symm, rfl⟩
  · go_enter Tryz.func108, Tryz.ntmps108
    go_wp2
    go_ret
    exact ⟨za1 (by rw [h41.out, zQ6]), rfl⟩
  · go_enter Tryz.func108, Tryz.ntmps108
    go_wp2
    go_ret
    exact ⟨za1 (by rw [h42.out, ← hq.out _ y0 y1, ← hs.out]), rfl⟩
  · go_enter Tryz.func108, Tryz.ntmps108
    go_wp2
    go_ret
    exact ⟨za1 h43.out.symm, rfl⟩
  · go_enter Tryz.func108, Tryz.ntmps108
    go_wp2
    go_ret
    exact ⟨za1 h44.out.symm, rfl⟩
  · have HH := KH hp5
    have HP := Lib.hid hp5
    have b35 : (p == 35) = false := by simp; omega
    have b36 : (p == 36) = false := by simp; omega
    have b37 : (p == 37) = false := by simp; omega
    have b38 : (p == 38) = false := by simp; omega
    have b39 : (p == 39) = false := by simp; omega
    have b40 : (p == 40) = false := by simp; omega
    have b41 : (p == 41) = false := by simp; omega
    have b42 : (p == 42) = false := by simp; omega
    have b43 : (p == 43) = false := by simp; omega
    have b44 : (p == 44) = false := by simp; omega
    clear hp hp5 KH
    unfold RetH at HH
    generalize zd4 p a b = r at *
    go_enter Tryz.func108, Tryz.ntmps108
    go_wp2_with (first | (go_at_call 149; refine (HH _).mono ?_; rintro e w' ⟨h, hU, hv, rfl, rfl⟩; have HV := Lib.hid hv; clear hv) | (go_at_call 58; refine (zi8 h 32 hU.1 hU.lt _).mono ?_; rintro e w' ⟨rfl, rfl⟩))
    go_ret
    exact ⟨za1 (HV.out ▸ rfl), rfl⟩
def chgV (j x y : Int) : Int :=
  if j = 0 then y else if j = 1 then IntKind.u64.wrap (x + y) else if j = 2 then bits .xor .u64 x y else if j = 3 then bits .and .u64 x y else if j = 4 then bits .or .u64 x y
  else if j = 5 then (if lowB x y then x else y) else if j = 6 then (if lowB y x then x else y) else if j = 7 then (if y < x then y else x) else (if x < y then y else x)
theorem chg_amo (j old b : Int) (hj : 0 ≤ j ∧ j ≤ 8) {n : Nat} (h : n = 32 ∨ n = 64) : zx (chgV j (sx old n) (sx b n)) n = zx (amoV j (sx old n) (sx b n) (zx old n) (zx b n)) n := by
  have hc : j = 0 ∨ j = 1 ∨ j = 2 ∨ j = 3 ∨ j = 4 ∨ j = 5 ∨ j = 6 ∨ j = 7 ∨ j = 8 := by omega
  rcases hc with rfl | rfl | rfl | rfl | rfl | rfl | rfl | rfl | rfl <;> simp only [chgV, amoV, reduceIte, Int.reduceEq]
  · exact min_code old b h
  · exact max_code old b h
theorem chg_U {j x y : Int} (hx : U64 x) (hy : U64 y) : U64 (chgV j x y) := by
  obtain ⟨_, _, h3, h4, h5⟩ := zB4 x y hx hy
  unfold chgV
  split
  · exact hy
  split
  · exact w_U _
  split
  · exact h5
  split
  · exact h4
  split
  · exact h3
  split
  · split <;> assumption
  split
  · split <;> assumption
  split
  · split <;> assumption
  · split <;> assumption
theorem amo18 {op : Int} (h : 58 ≤ op ∧ op ≤ 75) : (op = 58 ∨ op = 59 ∨ op = 60 ∨ op = 61 ∨ op = 62 ∨ op = 63 ∨ op = 64 ∨ op = 65 ∨ op = 66) ∨ (op = 67 ∨ op = 68 ∨ op = 69 ∨ op = 70 ∨ op = 71 ∨ op = 72 ∨ op = 73 ∨ op = 74 ∨ op = 75) := by omega
theorem Zi2 (op x y : Int) (hp : 58 ≤ op ∧ op ≤ 75) (hx : U64 x) (hy : U64 y) (w : World) : Calls Tryz.prog 57 #[.int .i64 op, .int .u64 x, .int .u64 y] w fun e w' => e = .returned (.int .u64 (chgV ((op - 58) % 9) x y)) ∧ w = w' := by
  have K1 := fun w => zS2 x y hx hy w
  have K2 := fun w => zS2 y x hy hx w
  have H0 : Hid (chgV 0 x y = y) := rfl
  have H1 : Hid (chgV 1 x y = IntKind.u64.wrap (x + y)) := rfl
  have H2 : Hid (chgV 2 x y = bits .xor .u64 x y) := rfl
  have H3 : Hid (chgV 3 x y = bits .and .u64 x y) := rfl
  have H4 : Hid (chgV 4 x y = bits .or .u64 x y) := rfl
  have H5 : Hid (chgV 5 x y = if lowB x y then x else y) := rfl
  have H6 : Hid (chgV 6 x y = if lowB y x then x else y) := rfl
  have H7 : Hid (chgV 7 x y = if y < x then y else x) := rfl
  have H8 : Hid (chgV 8 x y = if x < y then y else x) := rfl
  generalize lowB x y = c1 at *
  generalize lowB y x = c2 at *
  clear hx hy
  rcases amo18 hp with h | h <;> rcases h with rfl | rfl | rfl | rfl | rfl | rfl | rfl | rfl | rfl
  all_goals
    go_enter Tryz.func57, Tryz.ntmps57
    go_wp2_with (first | (go_at_call 107; ((with_reducible refine (K1 _).mono ?_); rintro e w' ⟨rfl, rfl⟩)) | (go_at_call 107; ((with_reducible refine (K2 _).mono ?_); rintro e w' ⟨rfl, rfl⟩)) | (go_at_call 106; refine (chosen_c _ _ _ _).mono ?_; rintro e w' ⟨rfl, rfl⟩))
    all_goals
      go_ret
      refine ⟨za1 ?_, rfl⟩
      first
        | exact H0.out.symm
        | exact H1.out.symm
        | exact H2.out.symm
        | exact H3.out.symm
        | exact H4.out.symm
        | (rw [H5.out, if_pos (by assumption)])
        | (rw [H5.out, if_neg (by assumption)])
        | (rw [H6.out, if_pos (by assumption)])
        | (rw [H6.out, if_neg (by assumption)])
        | (rw [H7.out, if_pos (by omega)])
        | (rw [H7.out, if_neg (by omega)])
        | (rw [H8.out, if_pos (by omega)])
        | (rw [H8.out, if_neg (by omega)])
end Go.Proofs.YtmamblgpekafbaaGreatDoor
