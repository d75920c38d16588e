/- The shared memory: Store. -/
import Derived.Test.YteoemjhhjnkkiaaMg
import Derived.Test.YteoemjhhjnkkiaaMc
set_option maxRecDepth 100000
set_option linter.unusedVariables false
namespace Go.Proofs.Yteoemjhhjnkkiaa
open Go.RowKit

section
variable {P : Program} {o : Oper} {a : Act} {w : World} {K : Act → World → Prop} {Q : Exit → Act → World → Prop}
/-- One value into one cell. -/
theorem wp_store_one {ty : TypeId} {x y : Operand} {ad : Addr} {v old : Value} (ho : o.op = .store ty x y) (hd : o.dst = none) (hx : a.eval x = .pointer (some ad)) (hy : a.eval y = v) (hc : w.cell? ad = some old) (hf : w.frozen? ad = false) (hz : (sizeOf ty).run P w = .ok 1 w) (hv : v.cells = #[v]) (h1 : v.oneCell' = true)
    (hk : K a (w.setCell ad v)) : o.wp P a w K Q := by
  have hr : (Instr.storeAt ty (.pointer (some ad)) v).run P w = .ok () (w.setCell ad v) := by
    have hst : (store ad v .plain).run P w = .ok () (w.setCell ad v) := by rw [run_store P w ad v _ h1, hc, hf]; rfl
    have ha : ad.add 0 = ad := by cases ad; unfold Addr.add; split <;> simp_all
    simp [Instr.storeAt, Instr.sureAddr, storeVar, storeCells, hz, hv, ha, hst]
  exact wp_store_cell ho hd hx hy hr hk
theorem ex_index {t : TypeId} {x ix : Operand} {e : TypeId} {g n c j : Nat} {q : Int} (ho : o.op = .indexAddr t x ix) (hx : a.eval x = .slice (some ⟨g, 0, none⟩) n c) (hi : a.eval ix = .int .i64 q) (hq : q = (j : Int)) (hj : j < n) (he : P.underlying t = some (.slice e)) (hs : (sizeOf e).run P w = .ok 1 w) :
    (execOp a.eval o).run P w = .ok (.value (.pointer (some ⟨g, j, none⟩))) w := by
  subst hq
  have h0 : (0 : Int) ≤ (j : Int) ∧ (j : Int) < (n : Int) := by omega
  have ha : (⟨g, 0, none⟩ : Addr).add j = ⟨g, j, none⟩ := by unfold Addr.add; split <;> simp_all
  unfold execOp
  simp [ho, hx, hi, Instr.indexAt, asIntOf, run_underlying he, hs, h0, ha, hj]
end
theorem src_rd {w : World} {A : Option Addr} {B : Nat} {xs : List Value} (h : Rd w B A xs) (hp : 0 < xs.length) : ∃ ad, A = some ad ∧ ∀ j v, xs[j]? = some v → w.cell? (ad.add j) = some v := by
  rcases h with h0 | ⟨b, off, rfl, _, hc⟩
  · rw [h0] at hp; exact absurd hp (by simp)
  · refine ⟨_, rfl, fun j v hv => ?_⟩
    have e : (⟨b, off, none⟩ : Addr).add j = ⟨b, off + j, none⟩ := by unfold Addr.add; split <;> simp_all
    rw [e]; exact hc j v hv
def wrV (i a z d : Int) : Value := .agg #[.int .i64 i, .int .i64 a, .int .i64 z, .int .u64 d]
/-- What Store leaves. -/
def RetSto (w : World) (s : Mst) (p : Pla) (t : Int) (x : Wr) (e : Ending) (w' : World) : Prop :=
  e = .returned (.bool (stoOk s.n t x)) ∧ ∃ p', RamAt (stoM s t x) p' w' ∧ p'.g = p.g ∧ (∀ k ∈ p'.foot, k ∈ p.foot ∨ w.heap.size ≤ k) ∧ Fr p.foot w w'
theorem sto_no {s : Mst} {p : Pla} {t : Int} {x : Wr} {w w' : World} (h : stoOk s.n t x = false) (hr : RamAt s p w') (k : BW w w') : RetSto w s p t x (.returned (.bool false)) w' := by
  refine ⟨by rw [h], p, ?_, rfl, fun i hi => .inl hi, Fr.of _ k⟩
  unfold stoM
  rw [if_neg (by rw [h]; decide)]
  exact hr
/-- The bytes of what is stored. -/
theorem by_any (d : Int) (h0 : 0 ≤ d) (Z : Nat) (hZ : Z ≤ 8) (w : World) : Calls Try.prog 32 #[.int .u64 d, .int .i64 (Z : Int)] w fun e w' => ∃ A cb, e = .returned (.slice A Z cb) ∧ Rd w' w'.heap.size A (cellsB (bytesL d Z)) ∧ Below w.heap.size w w' := by
  have h := bytes_any d (Z : Int) h0 w
  have e : cap8 (Z : Int) = Z := by unfold cap8; omega
  rw [e] at h
  refine h.mono fun en w' hh => ?_
  obtain ⟨A, cap, rfl, h1, h2⟩ := hh
  rw [bytesL_length]
  exact ⟨A, cap, rfl, h1, h2⟩
/-- It has been done. -/
theorem sto_yes {W w' : World} {s : Mst} {p : Pla} {t i d : Int} {A Z : Nat} {v' : Value} (hp : 0 < s.b0.length) (haz : A + Z ≤ s.b0.length) (hok : stoOk s.n t ⟨i, A, Z, d⟩ = true) (h0 : RamAt s p W)
    (hd : Blk (ramCells (.slice (some ⟨p.gb, 0, none⟩) s.b0.length p.cb) (.slice (some ⟨p.gt, 0, none⟩) s.b0.length p.ct) v' (endR t A Z s.r)) 60 p.g w')
    (hb : RowB 5 (cellsB (putL (bytesM s.b0 s.l) A (bytesL (zx d (8 * Z)) Z))) p.gb w') (ht : RowB 3 (cellsI (setK (tagsM s.b0 s.l) A i Z)) p.gt w')
    (hl : w'.ownsRow 0 31 4 v' (s.l.length + 1) (cellsW s.l ++ (wrCells ⟨i, A, Z, zx d (8 * Z)⟩).toList))
    (hA : p.Ab = some ⟨p.gb, 0, none⟩ ∧ p.At = some ⟨p.gt, 0, none⟩ ∧ p.gb ≠ p.g ∧ p.gt ≠ p.g ∧ p.gb ≠ p.gt) (hv : ∀ k, v'.ownBlock = some k → (k ∈ p.foot ∨ W.heap.size ≤ k) ∧ k ≠ p.g ∧ k ≠ p.gb ∧ k ≠ p.gt) (hf : Fr p.foot W w') :
    RetSto W s p t ⟨i, A, Z, d⟩ (.returned (.bool true)) w' := by
  refine ⟨by rw [hok], ⟨p.g, p.gb, p.gt, p.Ab, p.cb, p.At, p.ct, v'⟩, ?_, rfl, ?_, hf⟩
  · unfold stoM
    rw [if_pos hok]
    refine ⟨?_, h0.cap, h0.nil, .inr ⟨hA.1, hA.2.1, ?_, ?_, hA.2.2⟩, ?_, fun k hk => (hv k hk).2⟩
    · show Blk (ramCells (.slice p.Ab s.b0.length p.cb) (.slice p.At s.b0.length p.ct) v' (endR t A Z s.r)) _ _ _
      rw [hA.1, hA.2.1]
      exact hd
    · show RowB _ (cellsB (bytesM s.b0 (s.l ++ [low ⟨i, A, Z, d⟩]))) _ _
      rw [bytes_put s.b0 s.l (low ⟨i, A, Z, d⟩) A Z rfl rfl haz]
      exact hb
    · show RowB _ (cellsI (tagsM s.b0 (s.l ++ [low ⟨i, A, Z, d⟩]))) _ _
      rw [tags_put s.b0 s.l (low ⟨i, A, Z, d⟩) A Z rfl rfl haz]
      exact ht
    · show w'.ownsRow 0 _ 4 v' (s.l ++ [low ⟨i, A, Z, d⟩]).length (cellsW (s.l ++ [low ⟨i, A, Z, d⟩]))
      rw [cellsW_append, cellsW_one, List.length_append]
      exact hl
  · intro k hk
    simp only [Pla.foot, List.mem_cons, Option.mem_toList] at hk ⊢
    rcases hk with rfl | rfl | rfl | hk
    · exact .inl (.inl rfl)
    · exact .inl (.inr (.inl rfl))
    · exact .inl (.inr (.inr (.inl rfl)))
    · have := (hv k hk).1
      simpa [Pla.foot] using this
theorem store_nil (t : Int) (x : Wr) (w : World) : Calls Try.prog 10 #[.pointer none, .int .i64 t, .agg #[.int .i64 x.id, .int .i64 x.addr, .int .i64 x.size, .int .u64 x.data]] w fun e w' => e = .returned (.bool false) ∧ BW w w' := by
  have HK := Lib.hid (has_nil x.addr x.size)
  go_enter Try.func10, Try.ntmps10
  go_wp2_with (first
    | (go_at_call 29; refine (HK.out _).mono ?_; rintro e w1 ⟨rfl, hb⟩))
  go_ret
  exact ⟨rfl, ((BW.new (Below.refl _ _) _).new _).on hb⟩
/-- The write lies in a new block, the memory is as it was. -/
def SB (s : Mst) (p : Pla) (w : World) (x : Wr) (y : World) : Prop := BW w y ∧ Blk (wrCells x) 31 w.heap.size y ∧ RamAt s p y
theorem SB.on {s : Mst} {p : Pla} {w y y' : World} {x : Wr} (h : SB s p w x y) (k : BW y y') : SB s p w x y' := ⟨h.1.on k, h.2.1.on k, h.2.2.on k⟩
theorem SB.begin {s : Mst} {p : Pla} {w : World} (h : RamAt s p w) (x : Wr) : SB s p w x ((w.alloc (.cells (wrCells x) 31)).alloc (.cells #[.int .i64 x.addr, .int .i64 x.size] 57)) := by
  have k : BW w ((w.alloc (.cells (wrCells x) 31)).alloc (.cells #[.int .i64 x.addr, .int .i64 x.size] 57)) := (BW.new (Below.refl _ _) _).new _
  exact ⟨k, (Blk.new _ _ _).alloc _, h.on k⟩
set_option maxHeartbeats 4000000 in
theorem store_no {s : Mst} {p : Pla} {w : World} (h : RamAt s p w) (hn : s.b0.length ≤ 1024) (t i a z d : Int) (ha : a ≤ 9223372036854775807) (hok : stoOk s.n t ⟨i, a, z, d⟩ = false) :
    Calls Try.prog 10 #[.pointer (some ⟨p.g, 0, none⟩), .int .i64 t, .agg #[.int .i64 i, .int .i64 a, .int .i64 z, .int .u64 d]] w (RetSto w s p t ⟨i, a, z, d⟩) := by
  have HSB := SB.begin h ⟨i, a, z, d⟩
  have hk := has_c HSB.2.2 hn a z ha
  have ht := isHart_any t
  have HE := Lib.hid (fun y => sto_no (p := p) (w := w) (w' := y) hok)
  unfold stoOk at hok
  cases hm : mayP s.n a z with
  | false =>
    rw [hm] at hk
    have HK := Lib.hid hk; clear hk hm ht hok h
    go_enter Try.func10, Try.ntmps10
    go_wp2_with (first
      | (go_at_call 29; refine HK.out.mono ?_; rintro e w1 ⟨rfl, hb⟩; have HS1 := HSB.on hb; have q0 : w1.cell? ⟨w.heap.size, 0, none⟩ = some (.int .i64 i) := HS1.2.1.cell 0; have q2 : w1.cell? ⟨w.heap.size, 2, none⟩ = some (.int .i64 z) := HS1.2.1.cell 2; have q3 : w1.cell? ⟨w.heap.size, 3, none⟩ = some (.int .u64 d) := HS1.2.1.cell 3; clear hb))
    go_ret
    exact HE.out _ HS1.2.2 HS1.1
  | true =>
    rw [hm] at hk
    have HK := Lib.hid hk; clear hk
    by_cases hi : i < 0
    · clear hm ht hok h
      go_enter Try.func10, Try.ntmps10
      go_wp2_with (first
        | (go_at_call 29; refine HK.out.mono ?_; rintro e w1 ⟨rfl, hb⟩; have HS1 := HSB.on hb; have q0 : w1.cell? ⟨w.heap.size, 0, none⟩ = some (.int .i64 i) := HS1.2.1.cell 0; have q2 : w1.cell? ⟨w.heap.size, 2, none⟩ = some (.int .i64 z) := HS1.2.1.cell 2; have q3 : w1.cell? ⟨w.heap.size, 3, none⟩ = some (.int .u64 d) := HS1.2.1.cell 3; clear hb))
      go_ret
      exact HE.out _ HS1.2.2 HS1.1
    · have hh : isHt t = false := by
        rw [hm] at hok
        simpa [show (0 : Int) ≤ i by omega] using hok
      rw [hh] at ht
      have HT := Lib.hid ht; clear ht hh hm hok h
      go_enter Try.func10, Try.ntmps10
      go_wp2_with (first
        | (go_at_call 29; refine HK.out.mono ?_; rintro e w1 ⟨rfl, hb⟩; have HS1 := HSB.on hb; have q0 : w1.cell? ⟨w.heap.size, 0, none⟩ = some (.int .i64 i) := HS1.2.1.cell 0; have q2 : w1.cell? ⟨w.heap.size, 2, none⟩ = some (.int .i64 z) := HS1.2.1.cell 2; have q3 : w1.cell? ⟨w.heap.size, 3, none⟩ = some (.int .u64 d) := HS1.2.1.cell 3; clear hb)
        | (go_at_call 30; refine (HT.out _).mono ?_; rintro e w2 ⟨rfl, rfl⟩))
      go_ret
      exact HE.out _ HS1.2.2 HS1.1
end Go.Proofs.Yteoemjhhjnkkiaa
