/- The program's Encode. The program's List. The program's Program; what is asked of package encode is so ('cenc'), behind the tables that the code lays. -/
import Derived.Test.YtolmecnjolfjgaaGreatDoorRows
import Derived.Test.YtolmecnjolfjgaaGreatDoorEil
import Derived.Test.YtolmecnjolfjgaaGreatDoorEjl
import Derived.Test.YtolmecnjolfjgaaGreatDoorCesl
import Derived.WalkKit
import Derived.WalkLawsBesides
import Derived.Deep.QuietTactic
import Derived.BigQuiet
import Derived.WalkSmall
import Derived.WalkSpells
import Derived.Lib.Hide
import Derived.Below
import Derived.Outline
import Derived.Deep.Cut
import Derived.Test.YtolmecnjolfjgaaGreatDoorWxl
import Derived.LoopTactic
import Derived.Deep.LoopGhost
import Derived.OwnWalk
import Derived.Laws.AppendOwn
import Derived.Test.YtolmecnjolfjgaaGreatDoorLw7l
set_option maxRecDepth 100000
namespace Go.Proofs.YtolmecnjolfjgaaGreatDoor
open Go.RowKit

theorem encode_no (i : Ins) (ho : I64 i.op) (hn : rgtB i = false) (w : World) (T : Tab7 w) :
    Calls Tryz.prog 59 #[insV i] w fun e w' => e = .returned (.tuple #[.int .u32 0, .int .i64 1]) ∧ Below w.heap.size w w' := by
  have HJ0 := jn_new i w
  have KR := fun g x (h : Jn w i g x) => (right_c i ho x (T.dec.below h.1)).mono fun e w' hh => (⟨hh.1, h.on hh.2⟩ : _ ∧ Jn w i g w')
  rw [hn] at KR
  clear hn T
  obtain ⟨op, rd, rs1, rs2, imm, aq, rl, pred, succ⟩ := i
  unfold insV insCells at *
  simp only at HJ0 KR ⊢
  go_enter Tryz.func59, Tryz.ntmps59
  go_upto_region 1 with (fail)
  generalize w.alloc (.cells _ 40) = w1 at *
  obtain ⟨g, hg⟩ : ∃ g, w.heap.size = g := ⟨_, rfl⟩
  have HJ : Jn w ⟨op, rd, rs1, rs2, imm, aq, rl, pred, succ⟩ g w1 := by rw [← hg]; exact HJ0
  rw [hg]
  clear hg HJ0
  obtain ⟨c0, c1, c2, c3, c4, c5, c6, c7, c8⟩ := HJ.cells
  simp only at c0 c1 c2 c3 c4 c5 c6 c7 c8
  go_wp2_with (first
    | (go_at_call 61; refine (KR g _ HJ).mono ?_; rintro e w2 ⟨rfl, HJ2⟩))
  go_ret2
  exact ⟨rfl, HJ2.1⟩
theorem encode_c (i : Ins) (ho : I64 i.op) (w : World) (T : Tab7 w) :
    Calls Tryz.prog 59 #[insV i] w fun e w' => e = .returned (.tuple #[.int .u32 (encW i), .int .i64 (encE i)]) ∧ Below w.heap.size w w' := by
  unfold encW encE
  cases hb : rgtB i
  · exact encode_no i ho hb w T
  · have hR := (rgt_iff i).1 hb
    have him : imB i.op i.imm = true := by
      have h := rgt_parts i
      rw [hb] at h
      simp only [eq_comm (a := true), Bool.and_eq_true] at h
      exact h.1
    refine encode_yes i hR w (fun g x h => (T.dec.below h.1).lasts) (fun g x h => ?_) (fun g x h => ?_) (fun g x h => opcode_c i.op ho x (T.dec.below h.1))
    · have := right_c i ho x (T.dec.below h.1)
      rw [hb] at this
      exact this.mono fun _ _ hh => ⟨hh.1, h.on hh.2⟩
    · have := imme_c i.op i.imm ho x (T.dec.below h.1)
      rw [him, show imW i.op i.imm = immW i.op i.imm by unfold imW; rw [him]; rfl] at this
      exact this.mono fun _ _ hh => ⟨hh.1, h.on hh.2⟩
end Go.Proofs.YtolmecnjolfjgaaGreatDoor
namespace Go.Proofs.YtolmecnjolfjgaaGreatDoor
open Go.RowKit

theorem ofB4 (a b c d : Int) : ofB [a, b, c, d] = a + 256 * b + 65536 * c + 16777216 * d := by
  show a + 256 * (b + 256 * (c + 256 * (d + 256 * 0))) = _
  omega
def lenOf : Value → Nat
  | .slice _ n _ => n
  | _ => 0
/-- What is left of the bytes, in a slice of its own. -/
def Lft (w : World) (bs : List Int) (k : Nat) (A : Option Addr) (cap : Nat) : Prop :=
  4 * k ≤ bs.length ∧ bs.length - 4 * k ≤ cap ∧ cap ≤ 9223372036854775807 ∧ (4 ≤ bs.length - 4 * k → ∃ b off, A = some ⟨b, off, none⟩ ∧ b < w.heap.size ∧ ∀ j, j < bs.length - 4 * k → w.cell? ⟨b, off + j, none⟩ = some (.int .u8 (bs.getD (4 * k + j) 0)))
/-- Instructions came, in a row of the call's own. -/
def RetO (w : World) (l : List Ins) (e : Ending) (w' : World) : Prop := ∃ v, e = .returned v ∧ w'.ownsRow w.heap.size 40 9 v l.length (cellsN l) ∧ Below w.heap.size w w'
set_option maxHeartbeats 1000000 in
theorem list_own (A : Option Addr) (cap : Nat) (bs : List Int) (w : World) (T : Tab6 w) (hb : ∀ b ∈ bs, 0 ≤ b ∧ b < 256) (hl : bs.length ≤ 5000) (hc : bs.length ≤ cap) (hc2 : cap ≤ 9223372036854775807) (hr : Rd w w.heap.size A (bs.map (Value.int .u8))) :
    Calls Tryz.prog 28 #[.slice A bs.length cap] w (RetO w (lstI bs)) := by
  obtain ⟨i0, hi, hz0, hz1, hz2⟩ := info_parts info_inst
  have HB := Lib.hid (fun i (h : i < bs.length) => byte_at hb h)
  have H0 : Hid (Lft w bs 0 A cap) := by
    show Lft w bs 0 A cap
    refine ⟨by omega, by omega, hc2, fun h => ?_⟩
    obtain ⟨b, off, rfl, hlt, hcell⟩ := hr.byte (i := 0) (by omega)
    exact ⟨b, off, rfl, hlt, fun j hj => by rw [Nat.mul_zero, Nat.zero_add]; exact hcell j (by omega)⟩
  have HQ : Hid (((bs.length / 4 : Nat) : Int) = (bs.length : Int).tdiv 4) := by show _ = _; rw [Int.tdiv_eq_ediv_of_nonneg (by omega)]; omega
  have KD := fun x (h : BW w x) v hv => decode_c v hv x (T.below h)
  clear hr hb T
  go_enter Tryz.func28, Tryz.ntmps28
  go_wp2_with (at_make; refine wpList_make_own _ rfl _ _ 59 rfl w.heap.size 40 i0 (.agg (insCells ⟨0, 0, 0, 0, 0, false, false, 0, 0⟩)) 9 Tryz.underlying59 hi hz0 hz1 .i64 .i64 _ (bs.length / 4) rfl rfl ?_ ?_ ?_ (Nat.le_refl _) ?_)
  · first | exact HQ.out.symm | exact HQ.out
  · rw [hz2]; omega
  · unfold maxLen; omega
  intro w1 hown hgrow
  have hb1 : BW w w1 := Below.grown (Below.refl _ _) hgrow (Nat.le_refl _) (fun _ h => by cases h)
  have HO1 := Lib.hid hown
  clear hown hgrow HQ hc hc2
  go_wp2
  go_loopw [0, 3] (fun v0 v3 wr => BW w wr ∧ ∃ (k n : Nat) (A' : Option Addr) (c' : Nat), v0 = .slice A' n c' ∧ n = bs.length - 4 * k ∧ Hid (Lft w bs k A' c') ∧ Hid (wr.ownsRow w.heap.size 40 9 v3 k (cellsN (lstK bs k)))) (fun v0 _ _ => lenOf v0)
  case atStart => exact ⟨hb1, 0, bs.length, A, cap, rfl, by omega, H0, HO1⟩
  case round =>
    clear hb1 HO1 H0
    obtain ⟨hbw, k, n, A', c', rfl, hn, HL, HO⟩ := hrel
    obtain ⟨w2, rfl⟩ : ∃ w2 : World, w2 = wr := ⟨_, rfl⟩
    have HN := Lib.hid hn
    have hk : k ≤ 1250 := by have := HL.out.1; omega
    have hn5 : n ≤ 5000 := by omega
    clear hn
    by_cases h4 : 4 ≤ n
    · have h4I : (4 : Int) ≤ n := by omega
      obtain ⟨hl1, hl2, hl3, hl4⟩ := HL.out
      obtain ⟨b, off, rfl, hblt, hcell⟩ := hl4 (by have := HN.out; omega)
      have hc4 : (4 : Int) ≤ c' := by have := HN.out; omega
      have hy0 := HB.out (4 * k) (by have := HN.out; omega)
      have hy1 := HB.out (4 * k + 1) (by have := HN.out; omega)
      have hy2 := HB.out (4 * k + 2) (by have := HN.out; omega)
      have hy3 := HB.out (4 * k + 3) (by have := HN.out; omega)
      have KW : Hid (∀ x, BW w x → Calls Tryz.prog 31 #[.slice (some ⟨b, off, none⟩) 4 c'] x fun e w' => e = .returned (.int .u64 (word4 bs (4 * k))) ∧ x = w') := fun x hx => by
        have h := of_any (some ⟨b, off, none⟩) c' [bs.getD (4 * k) 0, bs.getD (4 * k + 1) 0, bs.getD (4 * k + 2) 0, bs.getD (4 * k + 3) 0] x (by simp) (by
          intro z hz
          simp only [List.mem_cons, List.not_mem_nil, or_false] at hz
          rcases hz with rfl | rfl | rfl | rfl <;> assumption) (.inr ⟨b, off, rfl, Nat.lt_of_lt_of_le hblt (Below.size hx), fun i v hv => by
          have hi : i < 4 := by
            have := (List.getElem?_eq_some_iff.1 hv).1
            simpa [cellsB] using this
          rw [Below.cell hx (p := ⟨b, off + i, none⟩) hblt, hcell i (by have := HN.out; omega)]
          have hi' : i = 0 ∨ i = 1 ∨ i = 2 ∨ i = 3 := by omega
          rcases hi' with rfl | rfl | rfl | rfl <;> exact hv⟩)
        rw [ofB4] at h
        exact h
      have HV : Hid (lstK bs (k + 1) = lstK bs k ++ [decI (word4 bs (4 * k))]) := lstK_succ bs k
      have hvr : U32 (word4 bs (4 * k)) := by unfold word4; constructor <;> omega
      obtain ⟨V, hV⟩ : ∃ V, word4 bs (4 * k) = V := ⟨_, rfl⟩
      rw [hV] at KW HV hvr
      have hw32 := w32 hvr
      have KO := KW.out
      have KI := fun x (h : BW w x) => KD x h V hvr
      have HCL := Lib.hid hcell
      clear hy0 hy1 hy2 hy3 KW hV hcell hl4 KD HB
      obtain ⟨d, hd⟩ : ∃ d, decI V = d := ⟨_, rfl⟩
      rw [hd] at KI HV
      unfold insV at KI
      have HL1 := Lib.hid (⟨hl1, hl2, hl3⟩ : 4 * k ≤ bs.length ∧ bs.length - 4 * k ≤ c' ∧ c' ≤ 9223372036854775807)
      have HC : Hid (∀ j, j < bs.length - 4 * k → w.cell? ⟨b, off + j, none⟩ = some (.int .u8 (bs.getD (4 * k + j) 0))) := HCL
      clear hl1 hl2 hl3 HCL HL
      generalize decE V = ee at *
      go_upto_region 5 with (first
        | (go_at_call 31; refine (KO _ hbw).mono ?_; rintro e w3 ⟨rfl, rfl⟩)
        | (go_at_call 43; refine (KI _ hbw).mono ?_; rintro e w4 ⟨rfl, hb4⟩; have hbw4 := hbw.on hb4; have HO4 := Lib.hid (row_on HO.out hb4); clear hb4))
      have HX := Blk.new (insCells d) 40 w4
      have hb5 := hbw4.new (.cells (insCells d) 40)
      have HO5 := Lib.hid (HO4.out.alloc (.cells (insCells d) 40))
      unfold insCells at HX hb5 HO5
      generalize w4.alloc (.cells _ 40) = w5 at *
      obtain ⟨g, hg⟩ : ∃ g, w4.heap.size = g := ⟨_, rfl⟩
      rw [hg] at HX ⊢
      clear hg hbw4 HO4 HO hbw KI KO
      go_upto_region 3 with (first
        | (with_reducible refine load_blk (o := ⟨some 24, _, _, _, _, _⟩) rfl 40 (.tmp 4) rfl HX rfl Tryz.underlying40 rfl (by kernel_rfl) ?_)
        | (at_builtin; refine wpList_append_own _ rfl _ _ 59 rfl w.heap.size 40 i0 (.agg (insCells ⟨0, 0, 0, 0, 0, false, false, 0, 0⟩)) 9 64 Tryz.underlying59 hi hz0 hz1 hz2 rfl (by decide) _ k (cellsN (lstK bs k)) rfl (HO5.out.alloc _) ⟨w5.heap.size, 0, none⟩ 1 1 (insCells d).toList rfl rfl (cells_new9 d _ _) (ins_one' d) (by unfold maxLen; omega) (by omega) (by have := Below.size hb5; simp; omega) ?_))
      intro v7 w7 hown hgrow hnn
      clear hnn
      have hb7 : BW w w7 := Below.grown (BW.new hb5 _) hgrow (by have := Below.size hb5; simp; omega) (fun q hq => (HO5.out.lt q hq).1)
      have HO7 : Hid (w7.ownsRow w.heap.size 40 9 v7 (k + 1) (cellsN (lstK bs (k + 1)))) := by
        have e : cellsN (lstK bs (k + 1)) = cellsN (lstK bs k) ++ (insCells d).toList := by
          rw [HV.out, cellsN_append]
          unfold cellsN
          simp
        show World.ownsRow _ _ _ _ _ _ _
        rw [e]
        exact hown
      clear hown hgrow HX hb5 HO5
      by_cases hc5 : c' = 4
      · subst hc5
        have hn4 : n = 4 := by have := HN.out; have := HL1.out; omega
        subst hn4
        go_wp2
        go_roundw
        case rel =>
          refine ⟨hb7, k + 1, 0, some ⟨b, off, none⟩, 0, by rfl, by have := HN.out; omega, (show Lft _ _ _ _ _ from ⟨by have := HN.out; omega, by have := HN.out; omega, by omega, fun h => by have := HN.out; omega⟩), HO7⟩
        case measure => simp [lenOf]
      · have hc6 : ¬ c' = 4 := hc5
        go_wp2
        go_roundw
        case rel =>
          refine ⟨hb7, k + 1, n - 4, some ⟨b, off + 4, none⟩, c' - 4, ?_, by have := HN.out; omega, (show Lft _ _ _ _ _ from ⟨by have := HN.out; omega, by have := HL1.out; omega, by have := HL1.out; omega, fun h => ⟨b, off + 4, rfl, hblt, fun j hj => ?_⟩⟩), HO7⟩
          · rfl
          · have := HC.out (4 + j) (by omega)
            rw [show off + 4 + j = off + (4 + j) by omega, show 4 * (k + 1) + j = 4 * k + (4 + j) by omega]
            exact this
        case measure => simp [lenOf]; omega
    · have hkk : k = bs.length / 4 := by have := HN.out; have := HL.out.1; omega
      have HK := Lib.hid hkk
      have h4I : ¬ (4 : Int) ≤ n := by omega
      clear hkk
      go_wp2
      go_ret
      have hk2 : k = (lstI bs).length := by unfold lstI; rw [lstK_len]; exact HK.out
      have ho2 : w2.ownsRow w.heap.size 40 9 u3 k (cellsN (lstI bs)) := by unfold lstI; rw [← HK.out]; exact HO.out
      exact ⟨_, rfl, hk2 ▸ ho2, hbw⟩
end Go.Proofs.YtolmecnjolfjgaaGreatDoor
namespace Go.Proofs.YtolmecnjolfjgaaGreatDoor
open Go.RowKit

theorem own_caps {w : World} {base : Nat} {e : TypeId} {n c : Nat} {A : Option Addr} {xs : List Value} (h : w.ownsRow base e 1 (.slice A n c) n xs) : n ≤ c ∧ c ≤ 9223372036854775807 := by
  rcases h with ⟨hl, ⟨h1, h0⟩ | ⟨g, cap, cur, hv, _, hh, h1, h2, _, ht⟩⟩
  · cases h1
    exact ⟨by omega, by omega⟩
  · cases hv
    exact ⟨h1, by unfold maxLen at h2; omega⟩
set_option maxHeartbeats 1000000 in
theorem program_c (A : Option Addr) (cap : Nat) (l : List Ins) (w : World) (T : Tab7 w) (hr : Rd w w.heap.size A (cellsN l)) (ho : ∀ i ∈ l, I64 i.op) (hl : l.length ≤ 1000) :
    Calls Tryz.prog 29 #[.slice A l.length cap] w (RetP w l) := by
  obtain ⟨i0, hi, hz0, hz1, hz2⟩ := info_parts Tryz.info5
  have HR := Lib.hid hr
  have HOO := Lib.hid ho
  have KE := fun i x (h : BW w x) (ho : I64 i.op) => encode_c i ho x (T.below h)
  clear hr ho T
  go_enter Tryz.func29, Tryz.ntmps29
  go_wp2
  go_step3
  go_wp2_with (at_make; refine wpList_make_own _ rfl _ _ 22 rfl w.heap.size 5 i0 (.int .u8 0) 1 Tryz.underlying22 hi hz0 hz1 .i64 .i64 _ (4 * l.length) rfl rfl ?_ ?_ ?_ (Nat.le_refl _) ?_)
  · first | rfl | omega
  · rw [hz2]; omega
  · unfold maxLen; omega
  intro w1 hown hgrow
  have hb1 : BW w w1 := Below.grown (Below.refl _ _) hgrow (Nat.le_refl _) (fun _ h => by cases h)
  have HO1 := Lib.hid hown
  clear hown hgrow
  go_wp2
  go_step3
  go_wp2
  go_loopg [4, 5, 16] l.length (fun gg v4 v5 v16 wr => BW w wr ∧ ∃ (k m : Nat), v16 = .int .i64 k ∧ v5 = .int .i64 0 ∧ k + gg = l.length ∧ m = 4 * k ∧ Hid (allB (l.take k) = true) ∧ Hid (wr.ownsRow w.heap.size 5 1 v4 m (cellsB (progB (l.take k)))))
  case atStart => exact ⟨hb1, 0, 0, rfl, rfl, by omega, rfl, (show Hid _ from rfl), HO1⟩
  case round =>
    clear hb1 HO1
    obtain ⟨hbw, k, m, rfl, rfl, hk, hm, HA, HO⟩ := hrel
    obtain ⟨w2, rfl⟩ : ∃ w2 : World, w2 = wr := ⟨_, rfl⟩
    by_cases hlt : k < l.length
    · have hltI : (k : Int) < l.length := by omega
      obtain ⟨b, off, rfl, hblt, d0, d1, d2, d3, d4, d5, d6, d7, d8⟩ := HR.out.ins hlt
      have hcc := fun o => Below.cell hbw (p := ⟨b, o, none⟩) hblt
      have hsx : allB (l.take (k + 1)) = (allB (l.take k) && rgtB l[k]) := by rw [List.take_succ_eq_append_getElem hlt, allB_snoc]
      have hpx : progB (l.take (k + 1)) = progB (l.take k) ++ bytesL (wordV l[k]) 4 := by rw [List.take_succ_eq_append_getElem hlt, progB_snoc]
      have hox := HOO.out _ (List.getElem_mem hlt)
      have hal : rgtB l[k] = false → allB l = false := fun h => by
        unfold allB
        rw [List.all_eq_false]
        exact ⟨_, List.getElem_mem hlt, by rw [h]; decide⟩
      generalize l[k] = x at *
      have c0 := (hcc _).trans d0
      have c1 := (hcc _).trans d1
      have c2 := (hcc _).trans d2
      have c3 := (hcc _).trans d3
      have c4 := (hcc _).trans d4
      have c5 := (hcc _).trans d5
      have c6 := (hcc _).trans d6
      have c7 := (hcc _).trans d7
      have c8 := (hcc _).trans d8
      have HSX := Lib.hid hsx
      have HPX := Lib.hid hpx
      have HAL := Lib.hid hal
      have HK := Lib.hid hk
      have HM := Lib.hid hm
      have KX := fun x1 (h : BW w x1) => KE x x1 h hox
      clear d0 d1 d2 d3 d4 d5 d6 d7 d8 hcc hsx hpx hal hox KE hm
      go_upto_region 5 with (fail)
      clear c0 c1 c2 c3 c4 c5 c6 c7 c8
      have HX := Blk.new (insCells x) 40 w2
      have hb3 := hbw.new (.cells (insCells x) 40)
      have HO3 := Lib.hid (HO.out.alloc (.cells (insCells x) 40))
      unfold insCells at HX hb3 HO3
      generalize w2.alloc (.cells _ 40) = w3 at *
      obtain ⟨g, hg⟩ : ∃ g, w2.heap.size = g := ⟨_, rfl⟩
      rw [hg] at HX ⊢
      clear hg hbw HO
      unfold insV at KX
      cases hrx : rgtB x
      case false =>
        have HRX := Lib.hid hrx
        have e1 : encW x = 0 := by unfold encW; rw [hrx]; rfl
        have e2 : encE x = 1 := by unfold encE; rw [hrx]; rfl
        rw [e1, e2] at KX
        clear hrx e1 e2
        go_wp2_with (first
          | (with_reducible refine load_blk (o := ⟨some 21, _, _, _, _, _⟩) rfl 40 (.tmp 7) rfl HX rfl Tryz.underlying40 rfl (by kernel_rfl) ?_)
          | (go_at_call 59; refine (KX _ hb3).mono ?_; rintro e w4 ⟨rfl, hb4⟩; have hbw4 := hb3.on hb4; clear hb4))
        try rw [Exit.noGoto_ret]
        go_ret2
        exact ⟨none, 0, [], 1, rfl, ⟨by decide, by decide⟩, Rd.nil, hbw4, .inr ⟨HAL.out HRX.out, rfl, rfl⟩⟩
      case true =>
        have hrg := (rgt_iff x).1 hrx
        have hwr := (enc_dec hrg).1
        have HRX := Lib.hid hrx
        have e1 : encW x = wordV x := by unfold encW; rw [hrx]; rfl
        have e2 : encE x = 0 := by unfold encE; rw [hrx]; rfl
        rw [e1, e2] at KX
        clear hrx e1 e2 hrg
        obtain ⟨wv, hwv⟩ : ∃ z, wordV x = z := ⟨_, rfl⟩
        rw [hwv] at KX hwr HPX
        clear hwv
        obtain ⟨hw0, hw1⟩ := hwr
        have hm4 : m ≤ 4000 := by have := HM.out; omega
        have KY := fun w1 => (bytes_any wv 4 hw0 w1).mono fun e w' hh => RetB.four hh
        go_wp2_with (first
          | (with_reducible refine load_blk (o := ⟨some 21, _, _, _, _, _⟩) rfl 40 (.tmp 7) rfl HX rfl Tryz.underlying40 rfl (by kernel_rfl) ?_)
          | (go_at_call 59; refine (KX _ hb3).mono ?_; rintro e w4 ⟨rfl, hb4⟩; have hbw4 := hb3.on hb4; have HO4 := Lib.hid (row_on HO3.out hb4); clear hb4)
          | (go_at_call 57; refine (KY _).mono ?_; rintro e w6 ⟨ad, c2, rfl, hcell, hq⟩; have hb6 := hbw4.on hq; have HO6 := Lib.hid (row_on HO4.out hq); have HCE := Lib.hid hcell; clear hq hcell)
          | (at_builtin; refine wpList_append_own _ rfl _ _ 22 rfl w.heap.size 5 i0 (.int .u8 0) 1 1 Tryz.underlying22 hi hz0 hz1 hz2 rfl (by decide) _ m (cellsB (progB (l.take k))) rfl HO6.out ad 4 c2 (cellsB (bytesL wv 4)) rfl (by unfold cellsB; rw [List.length_map, bytesL_length]) HCE.out (cellsB_one _) (by unfold maxLen; omega) (by omega) (Below.size hb6) ?_))
        intro v7 w7 hown hgrow hnn
        clear hnn
        have hb7 : BW w w7 := Below.grown hb6 hgrow (Below.size hb6) (fun q hq => (HO6.out.lt q hq).1)
        have HO7 : Hid (w7.ownsRow w.heap.size 5 1 v7 (m + 4) (cellsB (progB (l.take (k + 1))))) := by
          have e : cellsB (progB (l.take (k + 1))) = cellsB (progB (l.take k)) ++ cellsB (bytesL wv 4) := by
            rw [HPX.out]; unfold cellsB; rw [List.map_append]
          show World.ownsRow _ _ _ _ _ _ _
          rw [e]
          exact hown
        clear hown hgrow HX HO6 hbw4 HO4 HO3 hb3 hb6
        go_wp2
        go_roundg (gk - 1)
        case measure => have := HK.out; omega
        case rel => exact ⟨hb7, k + 1, m + 4, by go_num, rfl, by have := HK.out; omega, by have := HM.out; omega, (show Hid _ from by show _ = _; rw [HSX.out, HA.out, HRX.out]; rfl), HO7⟩
    · obtain rfl : k = l.length := by omega
      rw [List.take_length] at HA HO
      have HM := Lib.hid hm
      clear hm
      go_wp2
      try rw [Exit.noGoto_ret]
      go_ret2
      have ho := HO.out
      obtain ⟨Aw, cw, rfl, hrw⟩ := own_form ho
      have hcp := own_caps ho
      have hml : m = (progB l).length := by rw [progB_len]; have := HM.out; omega
      subst hml
      exact ⟨Aw, cw, progB l, 0, rfl, hcp, hrw, hbw, .inl ⟨HA.out, rfl, rfl⟩⟩
end Go.Proofs.YtolmecnjolfjgaaGreatDoor
