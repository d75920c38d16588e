/- Lists of one number (slices.Repeat); laws on slices and copies in regions that draw their order. -/
import Derived.Test.YteoemjhhjnkkiaaMd
import Derived.Test.YteoemjhhjnkkiaaSf
import Derived.IntWalk
import Derived.Laws.OwnMore
set_option maxRecDepth 100000
set_option linter.unusedVariables false
namespace Go.Proofs.Yteoemjhhjnkkiaa
open Go.RowKit

section
variable {P : Program} {o : Oper} {a : Act} {w : World} {K : Act → World → Prop} {Q : Exit → Act → World → Prop}
theorem ex_from {t : TypeId} {x lo : Operand} {e : TypeId} {g off n c : Nat} {p : Nat} (ho : o.op = .slice t x (some lo) none none) (hx : a.eval x = .slice (some ⟨g, off, none⟩) n c) (hl : a.eval lo = .int .i64 (p : Int))
    (hn : p ≤ n) (hc : n ≤ c) (h1 : p < c) (he : P.underlying t = some (.slice e)) (hs : (sizeOf e).run P w = .ok 1 w) :
    (execOp a.eval o).run P w = .ok (.value (.slice (some ⟨g, off + p, none⟩) (n - p) (c - p))) w := by
  have hu : P.underlying t = some (.slice (P.elem t)) := by rw [he]; simp [Program.elem, he]
  have hp : (p : Int) ≤ (n : Int) := by omega
  have hp0 : (0 : Int) ≤ (p : Int) := by omega
  unfold execOp
  simp only [ho, hx, Option.map_some, Option.map_none, hl, Sem.run_bind, run_sliceAt_slice _ _ _ _ _ _ hu, run_slice_any _ _ _ _ _ hu]
  simp [Instr.sliceBounds, go_sem, hp, hp0, he, hs, sliced]
  omega
theorem ex_from0 {t : TypeId} {x lo : Operand} {e : TypeId} {g n c : Nat} {p : Nat} (ho : o.op = .slice t x (some lo) none none) (hx : a.eval x = .slice (some ⟨g, 0, none⟩) n c) (hl : a.eval lo = .int .i64 (p : Int))
    (hn : p ≤ n) (hc : n ≤ c) (h1 : p < c) (he : P.underlying t = some (.slice e)) (hs : (sizeOf e).run P w = .ok 1 w) :
    (execOp a.eval o).run P w = .ok (.value (.slice (some ⟨g, p, none⟩) (n - p) (c - p))) w := by
  have h := ex_from ho hx hl hn hc h1 he hs
  rw [Nat.zero_add] at h
  exact h
theorem ex_to {t : TypeId} {x hi : Operand} {e : TypeId} {A : Option Addr} {n c : Nat} {p : Nat} (ho : o.op = .slice t x none (some hi) none) (hx : a.eval x = .slice A n c) (hl : a.eval hi = .int .i64 (p : Int))
    (hc : p ≤ c) (he : P.underlying t = some (.slice e)) (hs : (sizeOf e).run P w = .ok 1 w) :
    (execOp a.eval o).run P w = .ok (.value (.slice A p c)) w := by
  have hu : P.underlying t = some (.slice (P.elem t)) := by rw [he]; simp [Program.elem, he]
  have hp : (p : Int) ≤ (c : Int) := by omega
  have hp0 : (0 : Int) ≤ (p : Int) := by omega
  unfold execOp
  simp only [ho, hx, Option.map_some, Option.map_none, hl, Sem.run_bind, run_sliceAt_slice _ _ _ _ _ _ hu, run_slice_any _ _ _ _ _ hu]
  simp [Instr.sliceBounds, go_sem, hp, hp0, he, hs, sliced]
theorem ex_addI {t u : TypeId} {x y : Operand} {m n : Int} (ho : o.op = .binOp .add t x y u) (hx : a.eval x = .int .i64 m) (hy : a.eval y = .int .i64 n) (h : -9223372036854775808 ≤ m + n ∧ m + n ≤ 9223372036854775807) :
    (execOp a.eval o).run P w = .ok (.value (.int .i64 (m + n))) w := by
  have e : IntKind.i64.wrap (m + n) = m + n := by rw [IntKind.wrap_i64]; omega
  unfold execOp
  simp only [ho, hx, hy, eqGuard_at_int]
  simp [go_sem, e]
/-- A copy into a block that is known whole. -/
theorem wp_copy (d s : Operand) (dT sT : TypeId)
    (ho : o.op = .call { callee := .builtin .copy, args := #[d, s], argTypes := #[dT, sT] }) (elem : TypeId) (hu : P.underlying dT = some (.slice elem)) (hsz : (P.info? elem).map (·.size) = some 1)
    (sp : Option Addr) (g off dLen dCap sLen sCap : Nat) (hd : a.eval d = .slice (some ⟨g, off, none⟩) dLen dCap) (hs : a.eval s = .slice sp sLen sCap)
    (cur : List Value) (t : TypeId) (hg : Blk cur.toArray t g w) (cs : List Value) (hn : cs.length = Nat.min sLen dLen)
    (hpos : 0 < cs.length → ∃ ad, sp = some ad ∧ ∀ j v, cs[j]? = some v → w.cell? (ad.add j) = some v) (hfit : off + cs.length ≤ cur.length) (h1 : ∀ v ∈ cs, v.oneCell' = true)
    (h : ∀ w', Blk (splice cur off cs).toArray t g w' → w.grownBy w' (some g) → K (a.put o.dst (goInt cs.length)) w') : o.wp P a w K Q := by
  by_cases h0 : cs.length = 0
  · obtain rfl : cs = [] := List.eq_nil_of_length_eq_zero h0
    have hrun := run_copy_none (P := P) w dT sT o.type elem (some ⟨g, off, none⟩) sp dLen dCap sLen sCap hu hsz (by simpa using hn.symm)
    unfold Oper.wp
    simp [execOp, ho, resolve, invoke, builtin, hd, hs, hrun, Result.andThen]
    refine h w ?_ ⟨rfl, rfl, rfl, Nat.le_refl _, fun _ _ _ => rfl⟩
    have e : splice cur off [] = cur := by simp [splice]
    rw [e]
    exact hg
  · obtain ⟨ad, rfl, hsrc⟩ := hpos (by omega)
    have hrun := run_copy_row (P := P) w dT sT o.type elem g off dLen dCap ad sLen sCap cur.toArray t cs hu hsz hg hn hsrc (by simpa using hfit) h1
    unfold Oper.wp
    simp [execOp, ho, resolve, invoke, builtin, hd, hs, hrun, Result.andThen]
    refine h _ ?_ ⟨rfl, rfl, rfl, by simp, fun j _ hj => setRow_other w g j _ (fun e => hj (by rw [e]))⟩
    show _ = _
    simpa [splice] using setRow_heap w g _ _ t _ hg
end
/-- The first c places are filled with x. -/
def fillV (x : Int) (c n : Nat) : List Value := List.replicate c (.int .i64 x) ++ List.replicate (n - c) (.int .i64 0)
theorem fillV_len (x : Int) {c n : Nat} (h : c ≤ n) : (fillV x c n).length = n := by simp [fillV]; omega
theorem fillV_splice (x : Int) {c m n : Nat} (h : c + m ≤ n) : splice (fillV x c n) c (List.replicate m (.int .i64 x)) = fillV x (c + m) n := by
  unfold splice fillV
  rw [List.take_append_of_le_length (by simp), List.take_of_length_le (by simp), List.drop_append, List.drop_of_length_le (by simp)]
  simp only [List.length_replicate, List.nil_append, List.drop_replicate, ← List.append_assoc, List.replicate_append_replicate]
  congr 2
  omega
theorem fillV_all (x : Int) (n : Nat) : fillV x n n = cellsI (List.replicate n x) := by simp [fillV, cellsI]
theorem fillV_zero (x : Int) (n : Nat) : fillV x 0 n = List.replicate n (.int .i64 0) := by simp [fillV]
theorem fillV_cell {x : Int} {c n g : Nat} {t : TypeId} {w : World} (hb : Blk (fillV x c n).toArray t g w) {m : Nat} (hm : m ≤ c) : ∀ j v, (List.replicate m (Value.int .i64 x))[j]? = some v → w.cell? ((⟨g, 0, none⟩ : Addr).add j) = some v := by
  intro j v hv
  have hj : j < m := by
    have := (List.getElem?_eq_some_iff.1 hv).1
    simpa using this
  have hadd : (⟨g, 0, none⟩ : Addr).add j = ⟨g, j, none⟩ := by unfold Addr.add; split <;> simp_all
  rw [hadd, hb.cell j]
  unfold fillV
  rw [List.getElem?_toArray, List.getElem?_append_left (by simp; omega)]
  rw [List.getElem?_replicate] at hv ⊢
  rw [if_pos hj] at hv
  rw [if_pos (by omega)]
  exact hv
theorem rep_one (x : Int) (m : Nat) : ∀ v ∈ List.replicate m (Value.int .i64 x), v.oneCell' = true := by
  intro v hv
  obtain ⟨_, rfl⟩ := List.mem_replicate.1 hv
  rfl
/-- The made block. -/
def RP (W : World) (x : Int) (n c g : Nat) (w : World) : Prop := BW W w ∧ Blk (fillV x c n).toArray 3 g w ∧ W.heap.size ≤ g
theorem RP.drew {W w : World} {x : Int} {n c g : Nat} (h : RP W x n c g w) : RP W x n c g w.drew := ⟨Below.drew h.1, h.2.1.drew, h.2.2⟩
theorem RP.up {W w w' : World} {x : Int} {n c m g : Nat} (h : RP W x n c g w) (hm : c + m ≤ n) (hb : Blk (splice (fillV x c n) c (List.replicate m (.int .i64 x))).toArray 3 g w') (hk : w.grownBy w' (some g)) : RP W x n (c + m) g w' := by
  rw [fillV_splice x hm] at hb
  exact ⟨Below.stored h.1 hk h.2.2 (Below.size h.1), hb, h.2.2⟩
theorem own_full {w : World} {base g m c : Nat} {e : TypeId} {xs : List Value} (h : w.ownsRow base e 1 (.slice (some ⟨g, 0, none⟩) m c) m xs) (hc : c = m) : Blk xs.toArray e g w := by
  obtain ⟨hl, h | ⟨g', c', cur, hv, _, hg, _, _, hs, ht⟩⟩ := h
  · exact absurd h.1 (by simp)
  · cases hv
    show w.heap[g]? = _
    rw [hg]
    have : cur = xs.toArray := by
      rw [← ht, List.take_of_length_le (by rw [Array.length_toList]; omega)]
    rw [this]
/-- An arm of the walk: a copy into a block that is known whole. -/
theorem copy_arm {P : Program} {ops : Array Oper} {Q : Exit → Act → World → Prop} {rest : List Oper} {o : Oper} {a : Act} {w : World} (hgd : o.guard = none) (d s : Operand) (dT sT : TypeId)
    (ho : o.op = .call { callee := .builtin .copy, args := #[d, s], argTypes := #[dT, sT] }) (elem : TypeId) (hu : P.underlying dT = some (.slice elem)) (hsz : (P.info? elem).map (·.size) = some 1)
    (sp : Option Addr) (g off dLen dCap sLen sCap : Nat) (hd : a.eval d = .slice (some ⟨g, off, none⟩) dLen dCap) (hs : a.eval s = .slice sp sLen sCap)
    (cur : List Value) (t : TypeId) (hg : Blk cur.toArray t g w) (cs : List Value) (hn : cs.length = Nat.min sLen dLen)
    (hpos : 0 < cs.length → ∃ ad, sp = some ad ∧ ∀ j v, cs[j]? = some v → w.cell? (ad.add j) = some v) (hfit : off + cs.length ≤ cur.length) (h1 : ∀ v ∈ cs, v.oneCell' = true)
    (h : ∀ w', Blk (splice cur off cs).toArray t g w' → w.grownBy w' (some g) → wpList P ops Q rest (a.put o.dst (goInt cs.length)) w') : wpList P ops Q (o :: rest) a w :=
  wpList_plain hgd fun _ hK => wp_copy d s dT sT ho elem hu hsz sp g off dLen dCap sLen sCap hd hs cur t hg cs hn hpos hfit h1 fun w' h1 h2 => hK _ _ (h w' h1 h2)
def RetRep (w : World) (x : Int) (n : Nat) (e : Ending) (w' : World) : Prop := ∃ g, e = .returned (.slice (some ⟨g, 0, none⟩) n n) ∧ w.heap.size ≤ g ∧ Blk (cellsI (List.replicate n x)).toArray 3 g w' ∧ BW w w'
set_option maxHeartbeats 4000000 in
theorem repeat_c (g0 : Nat) (x : Int) (n : Nat) (w : World) (hn : n ≤ 100000) (hc : w.cell? ⟨g0, 0, none⟩ = some (.int .i64 x)) (hg0 : g0 < w.heap.size) :
    Calls Try.prog 28 #[.slice (some ⟨g0, 0, none⟩) 1 1, .int .i64 (n : Int)] w (RetRep w x n) := by
  obtain ⟨i0, hi, hz0, hz1, hz2⟩ := inf_parts (P := Try.prog) (e := 3) (z := .int .i64 0) (n := 1) (b := 8) (by kernel_rfl)
  have HIS : (Try.prog.info? 3).map (·.size) = some 1 := by kernel_rfl
  have hm := Try.bits_Mul 1 n (by omega) (by omega)
  rw [show (1 * n / 18446744073709551616 : Nat) = 0 by omega, show 1 * n % 18446744073709551616 = n by omega] at hm
  have HM := Lib.hid hm; clear hm
  have hn1 : (n : Int) ≤ 9223372036854775807 := by omega
  have hn0 : ¬ ((n : Int) < 0) := by omega
  have hsrc : 0 < (List.replicate (min 1 n) (Value.int .i64 x)).length → ∃ ad, some (⟨g0, 0, none⟩ : Addr) = some ad ∧ ∀ j v, (List.replicate (min 1 n) (Value.int .i64 x))[j]? = some v → w.cell? (ad.add j) = some v := by
    intro _
    refine ⟨_, rfl, fun j v hv => ?_⟩
    have hj : j < min 1 n := by
      have := (List.getElem?_eq_some_iff.1 hv).1
      simpa using this
    obtain rfl : j = 0 := by omega
    rw [List.getElem?_replicate, if_pos hj] at hv
    rw [show (⟨g0, 0, none⟩ : Addr).add 0 = ⟨g0, 0, none⟩ by unfold Addr.add; split <;> simp_all]
    rw [hc, ← hv]
  have HSRC := Lib.hid hsrc; clear hsrc hc
  go_enter Try.func28, Try.ntmps28
  go_wp2_with (first
    | (go_at_call 45; refine (HM.out _).mono ?_; rintro e w1 ⟨rfl, rfl⟩)
    | (at_make; refine wpList_make_full _ rfl _ _ 37 rfl w1.heap.size 3 i0 (.int .i64 0) 1 Try.underlying37 hi hz0 hz1 .i64 .i64 _ _ n rfl rfl rfl rfl ?_ ?_ (Nat.le_refl _) ?_))
  · rw [hz2]; omega
  · unfold maxLen; omega
  intro w2 ho2 hk2
  have HB := Lib.hid (own_full ho2 rfl)
  have HLE : Below w1.heap.size w1 w2 := (Below.refl _ _).grown hk2 (Nat.le_refl _) (fun k hk => by cases hk)
  have HG : w1.heap.size < w2.heap.size := (own_full ho2 rfl).lt
  clear ho2 hk2
  have HSRC2 := Lib.hid (fun h => by
    obtain ⟨ad, e, hh⟩ := HSRC.out h
    refine ⟨ad, e, fun j v hv => ?_⟩
    cases e
    exact (Below.cell HLE (by show ((⟨g0, 0, none⟩ : Addr).add j).block < _; rw [show (⟨g0, 0, none⟩ : Addr).add j = ⟨g0, j, none⟩ by unfold Addr.add; split <;> simp_all]; exact hg0)).trans (hh j v hv) : 0 < (List.replicate (min 1 n) (Value.int .i64 x)).length → ∃ ad, some (⟨g0, 0, none⟩ : Addr) = some ad ∧ ∀ j v, (List.replicate (min 1 n) (Value.int .i64 x))[j]? = some v → w2.cell? (ad.add j) = some v)
  clear HSRC
  have HZ : Hid ((madeCells #[Value.int IntKind.i64 0] n).toList = fillV x 0 n) := by
    show _ = _
    rw [fillV_zero]
    exact toList_madeCells_one _ _
  rw [HZ.out] at HB
  go_wp2_with (first
    | (refine copy_arm (o := ⟨some 33, .call _, _, _, _, _⟩) rfl (.tmp 31) (.tmp 32) _ _ rfl 3 Try.underlying37 HIS (some ⟨g0, 0, none⟩) w1.heap.size 0 n n 1 1 rfl rfl (fillV x 0 n) 3 HB.out (List.replicate (min 1 n) (.int .i64 x)) (by rw [List.length_replicate]) HSRC2.out (by rw [List.length_replicate, fillV_len x (Nat.zero_le n)]; omega) (rep_one _ _) ?_; intro w3 hb3 hk3))
  have hr0 : RP w1 x n 0 w1.heap.size w2 := ⟨HLE, HB.out, Nat.le_refl _⟩
  have HR1 := Lib.hid (hr0.up (by omega) hb3 hk3)
  rw [Nat.zero_add] at HR1

  go_wp2

  clear hr0 hb3 hk3 HB HLE HG HSRC2 HZ
  obtain ⟨g, hg⟩ : ∃ g, w1.heap.size = g := ⟨_, rfl⟩
  rw [hg] at HR1 ⊢
  clear hg
  go_loopw [8] (fun i wx => ∃ c : Nat, c ≤ n ∧ min 1 n ≤ c ∧ i = .int .i64 (c : Int) ∧ RP w1 x n c g wx) (fun i _ => n - (intOf i).toNat)
  case atStart => exact ⟨min 1 n, by omega, by omega, rfl, HR1.out⟩
  case round =>
    obtain ⟨c, hcn, hc1, rfl, hrp⟩ := hrel
    clear HR1
    have HRP := Lib.hid hrp; clear hrp
    by_cases hlt : c < n
    · have hltI : decide ((c : Int) < (n : Int)) = true := by simpa using hlt
      go_upto_region 9 with (fail)
      have HS := HRP.out.drew
      refine wp_region_P (S := RP w1 x n c g) (c := 7) (by kernel_rfl) ?_
      change wpAnyP _ _ _ _ _ _ _ _ _ (World.drew _)
      generalize World.drew _ = w4 at *
      clear HRP
      refine hp_any (i := 0) (oi := ⟨some 38, .move _, _, _, _, _⟩) (.int .i64 (c : Int)) rfl (by kernel_rfl) (by kernel_rfl) (by kernel_rfl) (by decide) (fun _ _ _ h => h) (by kernel_rfl) (fun _ => rfl) HS ?_
      simp only [Act.put, List.setIfInBounds_toArray, List.set_cons_zero, List.set_cons_succ]
      refine hp_val (i := 1) (oi := ⟨some 39, .move _, _, _, _, _⟩) [3, 7] (.slice (some ⟨g, 0, none⟩) n n) rfl (by kernel_rfl) (by kernel_rfl) (by kernel_rfl) (by kernel_rfl) (by kernel_rfl) rfl (fun _ _ _ h => h) (by kernel_rfl) (fun _ _ => rfl) HS ?_
      simp only [Act.put, List.setIfInBounds_toArray, List.set_cons_zero, List.set_cons_succ]
      refine hp_val (i := 2) (oi := ⟨some 40, .move _, _, _, _, _⟩) [3, 7] (.int .i64 (c : Int)) rfl (by kernel_rfl) (by kernel_rfl) (by kernel_rfl) (by kernel_rfl) (by kernel_rfl) rfl (fun _ _ _ h => h) (by kernel_rfl) (fun _ _ => rfl) HS ?_
      simp only [Act.put, List.setIfInBounds_toArray, List.set_cons_zero, List.set_cons_succ]
      refine hp_val (i := 3) (oi := ⟨some 41, .slice _ _ _ _ _, _, _, _, _⟩) [7] (.slice (some ⟨g, c, none⟩) (n - c) (n - c)) rfl (by kernel_rfl) (by kernel_rfl) (by kernel_rfl) (by kernel_rfl) (by kernel_rfl) rfl (fun _ _ _ h => h) (by kernel_rfl) (fun _ _ => ex_from0 rfl rfl rfl (Nat.le_of_lt hlt) (Nat.le_refl n) hlt Try.underlying37 (by kernel_rfl)) HS ?_
      simp only [Act.put, List.setIfInBounds_toArray, List.set_cons_zero, List.set_cons_succ]
      refine hp_val (i := 4) (oi := ⟨some 42, .move _, _, _, _, _⟩) [6, 7] (.slice (some ⟨g, 0, none⟩) n n) rfl (by kernel_rfl) (by kernel_rfl) (by kernel_rfl) (by kernel_rfl) (by kernel_rfl) rfl (fun _ _ _ h => h) (by kernel_rfl) (fun _ _ => rfl) HS ?_
      simp only [Act.put, List.setIfInBounds_toArray, List.set_cons_zero, List.set_cons_succ]
      refine hp_val (i := 5) (oi := ⟨some 43, .move _, _, _, _, _⟩) [6, 7] (.int .i64 (c : Int)) rfl (by kernel_rfl) (by kernel_rfl) (by kernel_rfl) (by kernel_rfl) (by kernel_rfl) rfl (fun _ _ _ h => h) (by kernel_rfl) (fun _ _ => rfl) HS ?_
      simp only [Act.put, List.setIfInBounds_toArray, List.set_cons_zero, List.set_cons_succ]
      refine hp_val (i := 6) (oi := ⟨some 44, .slice _ _ _ _ _, _, _, _, _⟩) [7] (.slice (some ⟨g, 0, none⟩) c n) rfl (by kernel_rfl) (by kernel_rfl) (by kernel_rfl) (by kernel_rfl) (by kernel_rfl) rfl (fun _ _ _ h => h) (by kernel_rfl) (fun _ _ => ex_to rfl rfl rfl (Nat.le_of_lt hlt) Try.underlying37 (by kernel_rfl)) HS ?_
      simp only [Act.put, List.setIfInBounds_toArray, List.set_cons_zero, List.set_cons_succ]
      refine hp_last (i := 7) (oi := ⟨some 45, .call _, _, _, _, _⟩) (by kernel_rfl) rfl (by kernel_rfl) (by kernel_rfl) ?_
      refine wp_copy (.tmp 41) (.tmp 44) _ _ rfl 3 Try.underlying37 HIS (some ⟨g, 0, none⟩) g c (n - c) (n - c) c n rfl rfl (fillV x c n) 3 HS.2.1 (List.replicate (min c (n - c)) (.int .i64 x)) (by rw [List.length_replicate]) (fun _ => ⟨_, rfl, fillV_cell HS.2.1 (Nat.min_le_left _ _)⟩) (by rw [List.length_replicate, fillV_len x hcn]; omega) (rep_one _ _) ?_
      intro w5 hb5 hk5
      have HN := Lib.hid (HS.up (by omega) hb5 hk5)
      rw [show (goInt (List.replicate (min c (n - c)) (Value.int .i64 x)).length) = .int .i64 ((min c (n - c) : Nat) : Int) by rw [List.length_replicate]; rfl]
      clear HS hb5 hk5
      simp only [Act.put, List.setIfInBounds_toArray, List.set_cons_zero, List.set_cons_succ]
      refine hk_val (i := 8) (oi := ⟨some 46, .binOp _ _ _ _ _, _, _, _, _⟩) (.int .i64 ((c : Int) + ((min c (n - c) : Nat) : Int))) rfl (by kernel_rfl) (by kernel_rfl) (by kernel_rfl) (fun _ _ _ h => h) (by kernel_rfl) (fun _ _ => ex_addI rfl rfl rfl (by omega)) trivial ?_
      simp only [Act.put, List.setIfInBounds_toArray, List.set_cons_zero, List.set_cons_succ]
      refine hk_val (i := 9) (oi := ⟨some 8, .assign _, _, _, _, _⟩) (.int .i64 ((c : Int) + ((min c (n - c) : Nat) : Int))) rfl (by kernel_rfl) (by kernel_rfl) (by kernel_rfl) (fun _ _ _ h => h) (by kernel_rfl) (fun _ _ => rfl) trivial ?_
      simp only [Act.put, List.setIfInBounds_toArray, List.set_cons_zero, List.set_cons_succ]
      refine wpAnyH_done (by kernel_rfl) ?_ _
      go_wp2
      go_roundw
      case rel => exact ⟨c + min c (n - c), by omega, by omega, by rw [Int.natCast_add], HN.out⟩
      case measure => simp [intOf]; omega
    · obtain rfl : c = n := by omega
      have hltI : decide ((c : Int) < (c : Int)) = false := by simp
      go_wp2
      go_ret
      have h := HRP.out
      refine ⟨g, rfl, h.2.2, ?_, h.1⟩
      have hb := h.2.1
      rw [fillV_all] at hb
      exact hb
end Go.Proofs.Yteoemjhhjnkkiaa
