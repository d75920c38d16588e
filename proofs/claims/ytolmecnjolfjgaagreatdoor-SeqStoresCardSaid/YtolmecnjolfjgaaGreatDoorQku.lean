/- What the hart of SeqStores does: plain. SeqStores: what is loaded again; guarded values in a drawn region. -/
import Derived.Test.YtolmecnjolfjgaaGreatDoorAalu
import Derived.Test.YtolmecnjolfjgaaGreatDoorQeu
set_option linter.unusedVariables false
set_option maxRecDepth 100000
namespace Go.Proofs.YtolmecnjolfjgaaGreatDoor
open Go.RowKit

def staH (value addr : Int) : Hrt := ⟨0, ((List.replicate 32 0).set 1 value).set 2 addr, 0⟩
/-- What the hart comes to, its store and its load being of n bytes. -/
structure Sta (img : List Int) (st ld : Int) (n : Nat) (value addr : Int) : Prop where
  cause : (aloK img (staH value addr) 5).h.cause = 2
  dlen : (aloK img (staH value addr) 5).done.length = 3
  mlen : (aloK img (staH value addr) 5).mem.length = 64
  xlen : (aloK img (staH value addr) 5).h.x.length = 32
  x3 : (aloK img (staH value addr) 5).h.x.getD 3 0 = loaV ld (zx (numM (putM img addr.toNat (bytesL (stoV st 0 value) n)) addr n) (8 * siz ld).toNat)
theorem sta11a_0 (value : Int) : Sta img11a 18 15 1 value 0 := ⟨by kernel_rfl, by kernel_rfl, by kernel_rfl, by kernel_rfl, by kernel_rfl⟩
theorem sta11a_1 (value : Int) : Sta img11a 18 15 1 value 8 := ⟨by kernel_rfl, by kernel_rfl, by kernel_rfl, by kernel_rfl, by kernel_rfl⟩
theorem sta11a_2 (value : Int) : Sta img11a 18 15 1 value 16 := ⟨by kernel_rfl, by kernel_rfl, by kernel_rfl, by kernel_rfl, by kernel_rfl⟩
theorem sta11a_3 (value : Int) : Sta img11a 18 15 1 value 24 := ⟨by kernel_rfl, by kernel_rfl, by kernel_rfl, by kernel_rfl, by kernel_rfl⟩
theorem sta11a_4 (value : Int) : Sta img11a 18 15 1 value 32 := ⟨by kernel_rfl, by kernel_rfl, by kernel_rfl, by kernel_rfl, by kernel_rfl⟩
theorem sta11a_5 (value : Int) : Sta img11a 18 15 1 value 40 := ⟨by kernel_rfl, by kernel_rfl, by kernel_rfl, by kernel_rfl, by kernel_rfl⟩
theorem sta11a_6 (value : Int) : Sta img11a 18 15 1 value 48 := ⟨by kernel_rfl, by kernel_rfl, by kernel_rfl, by kernel_rfl, by kernel_rfl⟩
theorem sta11a_7 (value : Int) : Sta img11a 18 15 1 value 56 := ⟨by kernel_rfl, by kernel_rfl, by kernel_rfl, by kernel_rfl, by kernel_rfl⟩
theorem sta11b_0 (value : Int) : Sta img11b 19 16 2 value 0 := ⟨by kernel_rfl, by kernel_rfl, by kernel_rfl, by kernel_rfl, by kernel_rfl⟩
theorem sta11b_1 (value : Int) : Sta img11b 19 16 2 value 8 := ⟨by kernel_rfl, by kernel_rfl, by kernel_rfl, by kernel_rfl, by kernel_rfl⟩
theorem sta11b_2 (value : Int) : Sta img11b 19 16 2 value 16 := ⟨by kernel_rfl, by kernel_rfl, by kernel_rfl, by kernel_rfl, by kernel_rfl⟩
theorem sta11b_3 (value : Int) : Sta img11b 19 16 2 value 24 := ⟨by kernel_rfl, by kernel_rfl, by kernel_rfl, by kernel_rfl, by kernel_rfl⟩
theorem sta11b_4 (value : Int) : Sta img11b 19 16 2 value 32 := ⟨by kernel_rfl, by kernel_rfl, by kernel_rfl, by kernel_rfl, by kernel_rfl⟩
theorem sta11b_5 (value : Int) : Sta img11b 19 16 2 value 40 := ⟨by kernel_rfl, by kernel_rfl, by kernel_rfl, by kernel_rfl, by kernel_rfl⟩
theorem sta11b_6 (value : Int) : Sta img11b 19 16 2 value 48 := ⟨by kernel_rfl, by kernel_rfl, by kernel_rfl, by kernel_rfl, by kernel_rfl⟩
theorem sta11b_7 (value : Int) : Sta img11b 19 16 2 value 56 := ⟨by kernel_rfl, by kernel_rfl, by kernel_rfl, by kernel_rfl, by kernel_rfl⟩
theorem sta11c_0 (value : Int) : Sta img11c 20 17 4 value 0 := ⟨by kernel_rfl, by kernel_rfl, by kernel_rfl, by kernel_rfl, by kernel_rfl⟩
theorem sta11c_1 (value : Int) : Sta img11c 20 17 4 value 8 := ⟨by kernel_rfl, by kernel_rfl, by kernel_rfl, by kernel_rfl, by kernel_rfl⟩
theorem sta11c_2 (value : Int) : Sta img11c 20 17 4 value 16 := ⟨by kernel_rfl, by kernel_rfl, by kernel_rfl, by kernel_rfl, by kernel_rfl⟩
theorem sta11c_3 (value : Int) : Sta img11c 20 17 4 value 24 := ⟨by kernel_rfl, by kernel_rfl, by kernel_rfl, by kernel_rfl, by kernel_rfl⟩
theorem sta11c_4 (value : Int) : Sta img11c 20 17 4 value 32 := ⟨by kernel_rfl, by kernel_rfl, by kernel_rfl, by kernel_rfl, by kernel_rfl⟩
theorem sta11c_5 (value : Int) : Sta img11c 20 17 4 value 40 := ⟨by kernel_rfl, by kernel_rfl, by kernel_rfl, by kernel_rfl, by kernel_rfl⟩
theorem sta11c_6 (value : Int) : Sta img11c 20 17 4 value 48 := ⟨by kernel_rfl, by kernel_rfl, by kernel_rfl, by kernel_rfl, by kernel_rfl⟩
theorem sta11c_7 (value : Int) : Sta img11c 20 17 4 value 56 := ⟨by kernel_rfl, by kernel_rfl, by kernel_rfl, by kernel_rfl, by kernel_rfl⟩
theorem sta11d_0 (value : Int) : Sta img11d 21 14 8 value 0 := ⟨by kernel_rfl, by kernel_rfl, by kernel_rfl, by kernel_rfl, by kernel_rfl⟩
theorem sta11d_1 (value : Int) : Sta img11d 21 14 8 value 8 := ⟨by kernel_rfl, by kernel_rfl, by kernel_rfl, by kernel_rfl, by kernel_rfl⟩
theorem sta11d_2 (value : Int) : Sta img11d 21 14 8 value 16 := ⟨by kernel_rfl, by kernel_rfl, by kernel_rfl, by kernel_rfl, by kernel_rfl⟩
theorem sta11d_3 (value : Int) : Sta img11d 21 14 8 value 24 := ⟨by kernel_rfl, by kernel_rfl, by kernel_rfl, by kernel_rfl, by kernel_rfl⟩
theorem sta11d_4 (value : Int) : Sta img11d 21 14 8 value 32 := ⟨by kernel_rfl, by kernel_rfl, by kernel_rfl, by kernel_rfl, by kernel_rfl⟩
theorem sta11d_5 (value : Int) : Sta img11d 21 14 8 value 40 := ⟨by kernel_rfl, by kernel_rfl, by kernel_rfl, by kernel_rfl, by kernel_rfl⟩
theorem sta11d_6 (value : Int) : Sta img11d 21 14 8 value 48 := ⟨by kernel_rfl, by kernel_rfl, by kernel_rfl, by kernel_rfl, by kernel_rfl⟩
theorem sta11d_7 (value : Int) : Sta img11d 21 14 8 value 56 := ⟨by kernel_rfl, by kernel_rfl, by kernel_rfl, by kernel_rfl, by kernel_rfl⟩
end Go.Proofs.YtolmecnjolfjgaaGreatDoor
namespace Go.Proofs.YtolmecnjolfjgaaGreatDoor
open Go.RowKit

theorem num_put {M bs : List Int} {a : Int} {n : Nat} (h0 : 0 ≤ a) (h : a + n ≤ (M.length : Int)) (hb : bs.length = n) : numM (putM M a.toNat bs) a n = ofB bs := by
  unfold numM putM
  have h1 : (M.take a.toNat).length = a.toNat := by rw [List.length_take]; omega
  rw [List.append_assoc, List.drop_append_of_le_length (by omega), List.drop_of_length_le (by omega), List.nil_append, Int.toNat_natCast, List.take_append_of_le_length (by omega), List.take_of_length_le (by omega)]
theorem sta_val {img : List Int} (hl : img.length = 64) {st ld addr value : Int} {n : Nat} (h5 : srt st = 5) (h4 : srt ld = 4) (hs : siz st = n) (hs2 : siz ld = n) (hn : n ≤ 8) (hu : (15 ≤ ld ∧ ld ≤ 17) ∨ (n = 8 ∧ ¬ (15 ≤ ld ∧ ld ≤ 17))) (hv : U64 value) (h0 : 0 ≤ addr) (ha : addr + n ≤ 64) :
    loaV ld (zx (numM (putM img addr.toNat (bytesL (stoV st 0 value) n)) addr n) (8 * siz ld).toNat) = zx value (8 * n) := by
  have e1 : stoV st 0 value = zx value (8 * n) := by
    rw [sto_some (.inl h5), hs, show (8 * (n : Int)).toNat = 8 * n by omega]
  have e8 : (8 * siz ld).toNat = 8 * n := by rw [hs2]; omega
  have hz : zx (zx value (8 * n)) (8 * n) = zx value (8 * n) := zx_zx value (Nat.le_refl _)
  rw [e8, e1, num_put h0 (by omega) (bytesL_length _ _), of_bytes _ (zx_nonneg _ _) n hn, hz, hz]
  rcases hu with hu | ⟨rfl, hu⟩
  · rw [loaV_u (8 * n) (.inl h4) hu e8, hz]
  · rw [loaV_s 64 (.inl h4) hu (by rw [e8])]
    rw [sx_zx hv.1]
    unfold sx
    rw [if_neg (by decide)]
    split
    · show zx value 64 + 0 = zx value 64
      rw [Int.add_zero]
    · rfl
theorem sta_wh {value addr : Int} (hv : U64 value) (ha : U64 addr) : Wh (staH value addr) := by
  have z : U64 (0 : Int) := ⟨by decide, by decide⟩
  have h0 := wh_set zer_wh0 0 z 1 value hv
  have h1 := wh_set h0 0 z 2 addr ha
  exact h1
section
variable {P : Program} {ops : Array Oper} {Q : Exit → Act → World → Prop} {md : Region.Mode} {S : World → Prop} {fuel : Nat} {listed : Array Bool} {a : Act} {w : World}
/-- A value that hangs on no world, first; its operation may be guarded. -/
theorem held_valg {i : Nat} {oi : Oper} (v : Value) (hi : ops[i]? = some oi) (hs : Region.noSelect ops = true) (hf : Region.free md ops listed i = true) (hr : (Region.ready md ops listed).contains i = true)
    (hQ : ∀ c a w, Q (.panic c) (a.put oi.dst v) w → Q (.panic c) a w) (hg : Region.wanted oi (yielded ops a.tmps) = true) (hv : ∀ w, S w → (execOp a.eval oi).run P w = .ok (.value v) w) (hS : S w)
    (h : wpAnyH P md ops Q S fuel (listed.setIfInBounds i true) (a.put oi.dst v) w) : wpAnyH P md ops Q S (fuel + 1) listed a w :=
  wpAnyH_take hi hs hf hr hQ (.inl ⟨hg, hv⟩) hS h
theorem call_opg {i : Nat} {oi : Oper} {K : Act → World → Prop} {f : FuncId} {vals : Array Value} {R : Ending → World → Prop} (hi : ops[i]? = some oi) (hg : Region.wanted oi (yielded ops a.tmps) = true)
    (hx : (execOp a.eval oi).run P w = .ok (.enter f vals) w) (hc : Calls P f vals w R) (hk : ∀ e w', R e w' → ∃ v, e = .returned v ∧ K (a.put oi.dst v) w') : wpOp P ops Q i K a w := by
  unfold wpOp
  simp only [hi, hg, if_true]
  refine .inl ?_
  unfold Oper.wp
  rw [hx, Oper.upon_enter]
  refine hc.mono fun e w' he => ?_
  obtain ⟨v, rfl, h1⟩ := hk e w' he
  exact h1
end
theorem exec_eq_u64 {o : Oper} {u : TypeId} {x y : Operand} {a : Act} {w : World} {z : Int} (ho : o.op = .binOp .eql 35 x y u) (hx : a.eval x = .int .u64 z) (hy : a.eval y = .int .u64 z) : (execOp a.eval o).run Tryz.prog w = .ok (.value (.bool true)) w := by
  unfold execOp
  simp only [ho, hx, hy, eqGuard_at_int]
  simp [go_sem]
end Go.Proofs.YtolmecnjolfjgaaGreatDoor
