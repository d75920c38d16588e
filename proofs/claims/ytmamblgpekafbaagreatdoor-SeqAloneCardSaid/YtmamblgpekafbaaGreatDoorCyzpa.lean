/- Of stage 11. -/
import Derived.Test.YtmamblgpekafbaaGreatDoorCwxpa
import Derived.Test.YtmamblgpekafbaaGreatDoorKdpa
set_option maxRecDepth 100000
namespace Go.Proofs.YtmamblgpekafbaaGreatDoor
open Go.RowKit
def GotIx (l : List Int) (x : Int) (w : World) (e : Ending) (w' : World) : Prop := ∃ r : Int, e = .returned (.int .i64 r) ∧ (0 ≤ r ↔ x ∈ l) ∧ w = w'
theorem index_c (A : Option Addr) (cap : Nat) (l : List Int) (x : Int) (w : World) (hl : l.length ≤ 9223372036854775807) (hr : Rd w w.heap.size A (zy7 l)) :
    Calls Tryz.prog 177 #[.slice A l.length cap, .int .i64 x] w (GotIx l x w) := by
  go_enter Tryz.func177, Tryz.ntmps177
  go_wp2
  go_loop [8] (fun i => ∃ k : Nat, k ≤ l.length ∧ i = .int .i64 k ∧ Hid (x ∉ l.take k)) (fun i => l.length - (intOf i).toNat)
  case atStart => exact ⟨0, by omega, rfl, by show _ ∉ _; simp⟩
  case round =>
    obtain ⟨k, hk, rfl, HT⟩ := hrel
    by_cases hlt : k < l.length
    · obtain ⟨b, off, rfl, _, hc⟩ := hr.at (i := k) (by unfold zy7; rw [List.length_map]; exact hlt)
      simp only [zy7, List.getElem_map] at hc
      have hltI : (k : Int) < l.length := by omega
      by_cases he : x = l[k]
      · have HM : Hid (x ∈ l) := by show _ ∈ _; rw [he]; exact List.getElem_mem hlt
        have hb : (x == l[k]) = true := by simpa using he
        generalize l[k] = y at *
        clear he
        go_wp2
        go_ret
        exact ⟨k, rfl, ⟨fun _ => HM.out, fun _ => by omega⟩, rfl⟩
      · have HV : Hid (x ∉ l.take (k + 1)) := by
          show _ ∉ _
          rw [List.take_succ_eq_append_getElem hlt, List.mem_append, List.mem_singleton]
          exact fun h => h.elim HT.out he
        have hb : (x == l[k]) = false := by simpa using he
        generalize l[k] = y at *
        clear he
        go_wp2
        go_round
        case rel => exact ⟨k + 1, by omega, by go_num, HV⟩
        case measure => simp [intOf]; omega
    · have HV : Hid (x ∉ l) := by
        have := HT.out
        rw [List.take_of_length_le (by omega)] at this
        exact this
      go_wp2
      go_ret
      exact ⟨-1, rfl, ⟨fun h => absurd h (by decide), fun h => absurd h HV.out⟩, rfl⟩
theorem zd3 (A : Option Addr) (cap n : Nat) (l : List Int) (x : Int) (w : World) (hn : l.length = n) (hl : n ≤ 9223372036854775807) (hr : Rd w w.heap.size A (zy7 l)) :
    Calls Tryz.prog 147 #[.slice A n cap, .int .i64 x] w fun e w' => e = .returned (.bool (decide (x ∈ l))) ∧ w = w' := by
  subst hn
  have HI := index_c A cap l x w hl hr
  generalize l.length = n at *
  clear hr
  go_enter Tryz.func147, Tryz.ntmps147
  go_wp2_with (first
    | (go_at_call 177; refine HI.mono ?_; rintro e w' ⟨r, rfl, hm, rfl⟩; have HM := Lib.hid hm; clear hm))
  go_ret
  exact ⟨zb0 (by rw [Bool.eq_iff_iff]; simpa using HM.out), rfl⟩
def askI (op : Int) : Ins := ⟨op, 1, 2, 3, 0, false, false, 0, 0⟩
def askL (op : Int) : List Int := (if firB op then [2] else []) ++ (if secB op then [3] else [])
theorem ask_srcs (op : Int) : srcs (askI op) = askL op := by
  unfold srcs askI askL
  simp
theorem ask_tgt (op : Int) : tgt (askI op) = if wrB op then 1 else 0 := rfl
def Q3 (W : World) (g1 g2 g3 : Nat) (i : Ins) (w : World) : Prop :=
  BW W w ∧ Blk (za0 i) 39 g1 w ∧ Blk (za0 za5) 39 g2 w ∧ Blk (za0 (askI i.op)) 39 g3 w ∧ W.heap.size ≤ g1 ∧ W.heap.size ≤ g2 ∧ g1 ≠ g2 ∧ g1 ≠ g3
section
variable {W w w' : World} {i : Ins} {g1 g2 g3 : Nat}
theorem Q3.bw (h : Q3 W g1 g2 g3 i w) : BW W w := h.1
theorem Q3.on (h : Q3 W g1 g2 g3 i w) (hb : Below w.heap.size w w') : Q3 W g1 g2 g3 i w' := ⟨h.1.on hb, h.2.1.on hb, h.2.2.1.on hb, h.2.2.2.1.on hb, h.2.2.2.2⟩
theorem Q3.st (h : Q3 W g1 g2 g3 i w) (n : Nat) (v : Value) (k : Ins) (e : (za0 i).setIfInBounds n v = za0 k) (eo : k.op = i.op) : Q3 W g1 g2 g3 k (w.setCell ⟨g1, n, none⟩ v) :=
  ⟨Below.setCell h.1 h.2.2.2.2.1 v, by have := h.2.1.set n v; rw [e] at this; exact this, h.2.2.1.other (a := ⟨g1, n, none⟩) (Ne.symm h.2.2.2.2.2.2.1) v, by rw [eo]; exact h.2.2.2.1.other (a := ⟨g1, n, none⟩) (Ne.symm h.2.2.2.2.2.2.2) v, h.2.2.2.2⟩
theorem Q3.s1 (h : Q3 W g1 g2 g3 i w) (x : Int) : Q3 W g1 g2 g3 { i with rd := x } (w.setCell ⟨g1, 1, none⟩ (.int .i64 x)) := h.st 1 _ _ rfl rfl
theorem Q3.s2 (h : Q3 W g1 g2 g3 i w) (x : Int) : Q3 W g1 g2 g3 { i with rs1 := x } (w.setCell ⟨g1, 2, none⟩ (.int .i64 x)) := h.st 2 _ _ rfl rfl
theorem Q3.s3 (h : Q3 W g1 g2 g3 i w) (x : Int) : Q3 W g1 g2 g3 { i with rs2 := x } (w.setCell ⟨g1, 3, none⟩ (.int .i64 x)) := h.st 3 _ _ rfl rfl
theorem Q3.facts (h : Q3 W g1 g2 g3 i w) : w.cell? ⟨g1, 0, none⟩ = some (.int .i64 i.op) ∧ w.cell? ⟨g3, 2, none⟩ = some (.int .i64 2) ∧ w.cell? ⟨g3, 3, none⟩ = some (.int .i64 3) ∧
    w.frozen? ⟨g1, 1, none⟩ = false ∧ w.frozen? ⟨g1, 2, none⟩ = false ∧ w.frozen? ⟨g1, 3, none⟩ = false ∧ w.cell? ⟨g1, 1, none⟩ = some (.int .i64 i.rd) ∧ w.cell? ⟨g1, 2, none⟩ = some (.int .i64 i.rs1) ∧ w.cell? ⟨g1, 3, none⟩ = some (.int .i64 i.rs2) :=
  ⟨h.2.1.cell 0, h.2.2.2.1.cell 2, h.2.2.2.1.cell 3, h.2.1.free 1, h.2.1.free 2, h.2.1.free 3, h.2.1.cell 1, h.2.1.cell 2, h.2.1.cell 3⟩
theorem Q3.apart {A : Option Addr} (h : Q3 W g1 g2 g3 i w) (hw : ∀ a, A = some a → w.heap.size ≤ a.block) : Hid (∀ a, A = some a → a.block ≠ g1) := fun a ha e => by
  have h1 := hw a ha
  have h2 := h.2.1.lt
  omega
theorem rd_set {A : Option Addr} {xs : List Value} {B n : Nat} {v : Value} (h : Rd w B A xs) (hd : Hid (∀ a, A = some a → a.block ≠ g1)) : Rd (w.setCell ⟨g1, n, none⟩ v) B A xs := by
  rcases h with rfl | ⟨b, off, rfl, hb, hc⟩
  · exact .inl rfl
  · refine .inr ⟨b, off, rfl, hb, fun i u hu => ?_⟩
    have hne : b ≠ g1 := hd.out _ rfl
    have h1 := Below.heap_setCell w ⟨g1, n, none⟩ v b hne
    have h2 := hc i u hu
    unfold World.cell? at h2 ⊢
    simp only at h2 ⊢
    rw [h1]
    exact h2
theorem zn9 {A : Option Addr} {xs : List Value} {n : Nat} {v : Value} (h : Rd w w.heap.size A xs) (hd : Hid (∀ a, A = some a → a.block ≠ g1)) : Rd (w.setCell ⟨g1, n, none⟩ v) (w.setCell ⟨g1, n, none⟩ v).heap.size A xs :=
  (rd_set h hd).mono (Below.size (Below.setCell (Below.refl 0 w) (Nat.zero_le _) v))
theorem Q3.ask (h : Q3 W g1 g2 g3 i w) : Blk #[.int .i64 i.op, .int .i64 1, .int .i64 2, .int .i64 3, .int .i64 0, .bool false, .bool false, .int .i64 0, .int .i64 0] 39 g3 w := h.2.2.2.1
theorem Q3.out {P : Program} (h : Q3 W g1 g2 g3 i w) : ∃ w', (storeCells ⟨g2, 0, none⟩ (za0 i).toList 0).run P w = .ok () w' ∧ Blk (za0 i) 39 g2 w' ∧ BW W w' := by
  obtain ⟨w', h1, h2, h3⟩ := h.2.2.1.store (P := P) (za0 i).toList rfl (zn2 i)
  exact ⟨w', h1, h2, Below.stored h.1 h3 h.2.2.2.2.2.1 (Below.size h.1)⟩
end
end Go.Proofs.YtmamblgpekafbaaGreatDoor
namespace Go.Proofs.YtmamblgpekafbaaGreatDoor
open Go.RowKit
set_option maxHeartbeats 2000000 in
theorem zC3 (i : Ins) (ho : I64 i.op) (w : World) (T : Tab6 w) :
    Calls Tryz.prog 105 #[insV i] w fun e w' => e = .returned (insV (clnI i)) ∧ Below w.heap.size w w' := by
  have HC0 : Hid (clnI i = { i with rd := if wrB i.op then i.rd else 0, rs1 := if firB i.op then i.rs1 else 0, rs2 := if secB i.op then i.rs2 else 0 }) := rfl
  have KS := fun x (h : BW w x) => Zm2 (askI i.op) ho x (T.lasts.below h)
  have KT := fun x (h : BW w x) => zQ9 (askI i.op) ho x (T.lasts.below h)
  rw [ask_srcs] at KS
  rw [ask_tgt] at KT
  unfold askL at KS
  unfold insV askI at KS KT
  cases h1 : wrB i.op <;> cases h2 : firB i.op <;> cases h3 : secB i.op
  all_goals
    have HC1 := HC0.out
    rw [h1, h2, h3] at HC1
    clear HC0
    rw [h2, h3] at KS
    rw [h1] at KT
    clear h1 h2 h3
    unfold insV
    obtain ⟨op, rd, rs1, rs2, imm, aq, rl, pred, succ⟩ := i
    simp only [if_true, Bool.false_eq_true, if_false, List.nil_append, List.cons_append, List.append_nil] at KS KT HC1 ⊢
  case false.false.false =>
    as_aux_lemma =>
    have HC := Lib.hid HC1
    clear HC1
    go_enter Tryz.func105, Tryz.ntmps105
    go_upto_region 2 with (fail)
    have HQ : Q3 w w.heap.size (w.heap.size + 1) (w.heap.size + 1 + 1) ⟨op, rd, rs1, rs2, imm, aq, rl, pred, succ⟩ (((w.alloc (.cells (za0 ⟨op, rd, rs1, rs2, imm, aq, rl, pred, succ⟩) 39)).alloc (.cells (za0 za5) 39)).alloc (.cells (za0 (askI op)) 39)) := by
      have a1 : (w.alloc (.cells (za0 ⟨op, rd, rs1, rs2, imm, aq, rl, pred, succ⟩) 39)).heap.size = w.heap.size + 1 := by simp
      have a2 : ((w.alloc (.cells (za0 ⟨op, rd, rs1, rs2, imm, aq, rl, pred, succ⟩) 39)).alloc (.cells (za0 za5) 39)).heap.size = w.heap.size + 1 + 1 := by simp
      have b2 := Blk.new (za0 za5) 39 (w.alloc (.cells (za0 ⟨op, rd, rs1, rs2, imm, aq, rl, pred, succ⟩) 39))
      have b3 := Blk.new (za0 (askI op)) 39 ((w.alloc (.cells (za0 ⟨op, rd, rs1, rs2, imm, aq, rl, pred, succ⟩) 39)).alloc (.cells (za0 za5) 39))
      rw [a1] at b2
      rw [a2] at b3
      exact ⟨BW.new (BW.new (BW.new (Below.refl _ _) _) _) _, ((Blk.new _ _ w).alloc _).alloc _, b2.alloc _, b3, Nat.le_refl _, by omega, by omega, by omega⟩
    unfold za0 askI za5 at HQ
    simp only at HQ
    generalize ((w.alloc (.cells _ 39)).alloc (.cells _ 39)).alloc (.cells _ 39) = w1 at *
    obtain ⟨g3, hg3⟩ : ∃ g, w.heap.size + 1 + 1 = g := ⟨_, rfl⟩
    rw [hg3] at HQ ⊢
    obtain ⟨g2, hg2⟩ : ∃ g, w.heap.size + 1 = g := ⟨_, rfl⟩
    rw [hg2] at HQ ⊢
    obtain ⟨g1, hg1⟩ : ∃ g, w.heap.size = g := ⟨_, rfl⟩
    have HQ1 : Q3 w g1 g2 g3 ⟨op, rd, rs1, rs2, imm, aq, rl, pred, succ⟩ w1 := by rw [← hg1]; exact HQ
    rw [hg1]
    clear HQ hg1 hg2 hg3
    have HA := HQ1.ask
    go_upto_region 4 with (first
      | (with_reducible refine za8 (o := ⟨some 8, _, _, _, _, _⟩) rfl 39 (.tmp 3) rfl HA rfl Tryz.underlying39 rfl (by kernel_rfl) ?_)
      | (go_at_call 146; refine (KS _ HQ1.bw).mono ?_; rintro e w2 ⟨A, cap, rfl, hr, hb, hw⟩; have HQ2 := HQ1.on hb; have HA2 := HQ2.ask; have HW := HQ1.apart hw; clear hb hw HQ1 HA)
      | (with_reducible refine za8 (o := ⟨some 10, _, _, _, _, _⟩) rfl 39 (.tmp 3) rfl HA2 rfl Tryz.underlying39 rfl (by kernel_rfl) ?_)
      | (go_at_call 36; refine (KT _ HQ2.bw).mono ?_; rintro e w3 ⟨rfl, hb⟩; have HQ3 := HQ2.on hb; have HR := Lib.hid ((hr.below hb).mono hb.size); clear hb hr HQ2 HA2))
    obtain ⟨c0, c2, c3, f1, f2, f3, k1, k2, k3⟩ := HQ3.facts
    simp only at c0 k1 k2 k3
    go_upto_region 5 with (fail)
    have HQ4 := HQ3.s1 0
    have HR4 := zn9 (n := 1) (v := .int .i64 0) HR.out HW
    simp only at HQ4
    clear c0 c2 c3 f1 f2 f3 k1 k2 k3 HQ3 HR
    generalize w3.setCell ⟨g1, 1, none⟩ (.int .i64 0) = w4 at *
    obtain ⟨c0, c2, c3, f1, f2, f3, k1, k2, k3⟩ := HQ4.facts
    simp only at c0 k1 k2 k3
    have KC := zd3 A cap 0 ([] : List Int) 2 w4 rfl (by decide) HR4
    rw [show decide ((2 : Int) ∈ ([] : List Int)) = false by decide] at KC
    have HR5 := Lib.hid HR4
    clear HR4
    go_upto_region 6 with (first
      | (go_at_call 147; refine KC.mono ?_; rintro e w5 ⟨rfl, rfl⟩))
    clear KC
    go_upto_region 7 with (fail)
    have HQ5 := HQ4.s2 0
    have HR6 := zn9 (n := 2) (v := .int .i64 0) HR5.out HW
    simp only at HQ5
    clear c0 c2 c3 f1 f2 f3 k1 k2 k3 HQ4 HR5
    generalize w4.setCell ⟨g1, 2, none⟩ (.int .i64 0) = w6 at *
    obtain ⟨c0, c2, c3, f1, f2, f3, k1, k2, k3⟩ := HQ5.facts
    simp only at c0 k1 k2 k3
    have KC := zd3 A cap 0 ([] : List Int) 3 w6 rfl (by decide) HR6
    rw [show decide ((3 : Int) ∈ ([] : List Int)) = false by decide] at KC
    clear HR6
    go_upto_region 8 with (first
      | (go_at_call 147; refine KC.mono ?_; rintro e w5 ⟨rfl, rfl⟩))
    clear KC
    go_upto_region 9 with (fail)
    have HQ6 := HQ5.s3 0
    simp only at HQ6
    clear c0 c2 c3 f1 f2 f3 k1 k2 k3 HQ5
    generalize w6.setCell ⟨g1, 3, none⟩ (.int .i64 0) = w8 at *
    rw [← HC.out] at HQ6
    obtain ⟨w9, hs, hb9, hbw⟩ := HQ6.out (P := Tryz.prog)
    have HJ := HQ6.2.1
    clear HQ6
    go_wp2_with (with_reducible refine za8 (o := ⟨some 26, _, _, _, _, _⟩) rfl 39 (.tmp 1) rfl HJ rfl Tryz.underlying39 rfl (by kernel_rfl) ?_)
    exact bodyPost_ret (zb7 rfl rfl hb9 Tryz.underlying39 rfl (by kernel_rfl)) rfl ⟨rfl, hbw⟩
  case false.false.true =>
    as_aux_lemma =>
    have HC := Lib.hid HC1
    clear HC1
    go_enter Tryz.func105, Tryz.ntmps105
    go_upto_region 2 with (fail)
    have HQ : Q3 w w.heap.size (w.heap.size + 1) (w.heap.size + 1 + 1) ⟨op, rd, rs1, rs2, imm, aq, rl, pred, succ⟩ (((w.alloc (.cells (za0 ⟨op, rd, rs1, rs2, imm, aq, rl, pred, succ⟩) 39)).alloc (.cells (za0 za5) 39)).alloc (.cells (za0 (askI op)) 39)) := by
      have a1 : (w.alloc (.cells (za0 ⟨op, rd, rs1, rs2, imm, aq, rl, pred, succ⟩) 39)).heap.size = w.heap.size + 1 := by simp
      have a2 : ((w.alloc (.cells (za0 ⟨op, rd, rs1, rs2, imm, aq, rl, pred, succ⟩) 39)).alloc (.cells (za0 za5) 39)).heap.size = w.heap.size + 1 + 1 := by simp
      have b2 := Blk.new (za0 za5) 39 (w.alloc (.cells (za0 ⟨op, rd, rs1, rs2, imm, aq, rl, pred, succ⟩) 39))
      have b3 := Blk.new (za0 (askI op)) 39 ((w.alloc (.cells (za0 ⟨op, rd, rs1, rs2, imm, aq, rl, pred, succ⟩) 39)).alloc (.cells (za0 za5) 39))
      rw [a1] at b2
      rw [a2] at b3
      exact ⟨BW.new (BW.new (BW.new (Below.refl _ _) _) _) _, ((Blk.new _ _ w).alloc _).alloc _, b2.alloc _, b3, Nat.le_refl _, by omega, by omega, by omega⟩
    unfold za0 askI za5 at HQ
    simp only at HQ
    generalize ((w.alloc (.cells _ 39)).alloc (.cells _ 39)).alloc (.cells _ 39) = w1 at *
    obtain ⟨g3, hg3⟩ : ∃ g, w.heap.size + 1 + 1 = g := ⟨_, rfl⟩
    rw [hg3] at HQ ⊢
    obtain ⟨g2, hg2⟩ : ∃ g, w.heap.size + 1 = g := ⟨_, rfl⟩
    rw [hg2] at HQ ⊢
    obtain ⟨g1, hg1⟩ : ∃ g, w.heap.size = g := ⟨_, rfl⟩
    have HQ1 : Q3 w g1 g2 g3 ⟨op, rd, rs1, rs2, imm, aq, rl, pred, succ⟩ w1 := by rw [← hg1]; exact HQ
    rw [hg1]
    clear HQ hg1 hg2 hg3
    have HA := HQ1.ask
    go_upto_region 4 with (first
      | (with_reducible refine za8 (o := ⟨some 8, _, _, _, _, _⟩) rfl 39 (.tmp 3) rfl HA rfl Tryz.underlying39 rfl (by kernel_rfl) ?_)
      | (go_at_call 146; refine (KS _ HQ1.bw).mono ?_; rintro e w2 ⟨A, cap, rfl, hr, hb, hw⟩; have HQ2 := HQ1.on hb; have HA2 := HQ2.ask; have HW := HQ1.apart hw; clear hb hw HQ1 HA)
      | (with_reducible refine za8 (o := ⟨some 10, _, _, _, _, _⟩) rfl 39 (.tmp 3) rfl HA2 rfl Tryz.underlying39 rfl (by kernel_rfl) ?_)
      | (go_at_call 36; refine (KT _ HQ2.bw).mono ?_; rintro e w3 ⟨rfl, hb⟩; have HQ3 := HQ2.on hb; have HR := Lib.hid ((hr.below hb).mono hb.size); clear hb hr HQ2 HA2))
    obtain ⟨c0, c2, c3, f1, f2, f3, k1, k2, k3⟩ := HQ3.facts
    simp only at c0 k1 k2 k3
    go_upto_region 5 with (fail)
    have HQ4 := HQ3.s1 0
    have HR4 := zn9 (n := 1) (v := .int .i64 0) HR.out HW
    simp only at HQ4
    clear c0 c2 c3 f1 f2 f3 k1 k2 k3 HQ3 HR
    generalize w3.setCell ⟨g1, 1, none⟩ (.int .i64 0) = w4 at *
    obtain ⟨c0, c2, c3, f1, f2, f3, k1, k2, k3⟩ := HQ4.facts
    simp only at c0 k1 k2 k3
    have KC := zd3 A cap 1 ([3] : List Int) 2 w4 rfl (by decide) HR4
    rw [show decide ((2 : Int) ∈ ([3] : List Int)) = false by decide] at KC
    have HR5 := Lib.hid HR4
    clear HR4
    go_upto_region 6 with (first
      | (go_at_call 147; refine KC.mono ?_; rintro e w5 ⟨rfl, rfl⟩))
    clear KC
    go_upto_region 7 with (fail)
    have HQ5 := HQ4.s2 0
    have HR6 := zn9 (n := 2) (v := .int .i64 0) HR5.out HW
    simp only at HQ5
    clear c0 c2 c3 f1 f2 f3 k1 k2 k3 HQ4 HR5
    generalize w4.setCell ⟨g1, 2, none⟩ (.int .i64 0) = w6 at *
    obtain ⟨c0, c2, c3, f1, f2, f3, k1, k2, k3⟩ := HQ5.facts
    simp only at c0 k1 k2 k3
    have KC := zd3 A cap 1 ([3] : List Int) 3 w6 rfl (by decide) HR6
    rw [show decide ((3 : Int) ∈ ([3] : List Int)) = true by decide] at KC
    clear HR6
    go_upto_region 9 with (first
      | (go_at_call 147; refine KC.mono ?_; rintro e w5 ⟨rfl, rfl⟩))
    clear KC
    have HQ6 := HQ5
    clear c0 c2 c3 f1 f2 f3 k1 k2 k3 HQ5
    obtain ⟨w8, hw8⟩ : ∃ x, w6 = x := ⟨_, rfl⟩
    rw [hw8] at HQ6 ⊢
    clear hw8
    rw [← HC.out] at HQ6
    obtain ⟨w9, hs, hb9, hbw⟩ := HQ6.out (P := Tryz.prog)
    have HJ := HQ6.2.1
    clear HQ6
    go_wp2_with (with_reducible refine za8 (o := ⟨some 26, _, _, _, _, _⟩) rfl 39 (.tmp 1) rfl HJ rfl Tryz.underlying39 rfl (by kernel_rfl) ?_)
    exact bodyPost_ret (zb7 rfl rfl hb9 Tryz.underlying39 rfl (by kernel_rfl)) rfl ⟨rfl, hbw⟩
  case false.true.false =>
    as_aux_lemma =>
    have HC := Lib.hid HC1
    clear HC1
    go_enter Tryz.func105, Tryz.ntmps105
    go_upto_region 2 with (fail)
    have HQ : Q3 w w.heap.size (w.heap.size + 1) (w.heap.size + 1 + 1) ⟨op, rd, rs1, rs2, imm, aq, rl, pred, succ⟩ (((w.alloc (.cells (za0 ⟨op, rd, rs1, rs2, imm, aq, rl, pred, succ⟩) 39)).alloc (.cells (za0 za5) 39)).alloc (.cells (za0 (askI op)) 39)) := by
      have a1 : (w.alloc (.cells (za0 ⟨op, rd, rs1, rs2, imm, aq, rl, pred, succ⟩) 39)).heap.size = w.heap.size + 1 := by simp
      have a2 : ((w.alloc (.cells (za0 ⟨op, rd, rs1, rs2, imm, aq, rl, pred, succ⟩) 39)).alloc (.cells (za0 za5) 39)).heap.size = w.heap.size + 1 + 1 := by simp
      have b2 := Blk.new (za0 za5) 39 (w.alloc (.cells (za0 ⟨op, rd, rs1, rs2, imm, aq, rl, pred, succ⟩) 39))
      have b3 := Blk.new (za0 (askI op)) 39 ((w.alloc (.cells (za0 ⟨op, rd, rs1, rs2, imm, aq, rl, pred, succ⟩) 39)).alloc (.cells (za0 za5) 39))
      rw [a1] at b2
      rw [a2] at b3
      exact ⟨BW.new (BW.new (BW.new (Below.refl _ _) _) _) _, ((Blk.new _ _ w).alloc _).alloc _, b2.alloc _, b3, Nat.le_refl _, by omega, by omega, by omega⟩
    unfold za0 askI za5 at HQ
    simp only at HQ
    generalize ((w.alloc (.cells _ 39)).alloc (.cells _ 39)).alloc (.cells _ 39) = w1 at *
    obtain ⟨g3, hg3⟩ : ∃ g, w.heap.size + 1 + 1 = g := ⟨_, rfl⟩
    rw [hg3] at HQ ⊢
    obtain ⟨g2, hg2⟩ : ∃ g, w.heap.size + 1 = g := ⟨_, rfl⟩
    rw [hg2] at HQ ⊢
    obtain ⟨g1, hg1⟩ : ∃ g, w.heap.size = g := ⟨_, rfl⟩
    have HQ1 : Q3 w g1 g2 g3 ⟨op, rd, rs1, rs2, imm, aq, rl, pred, succ⟩ w1 := by rw [← hg1]; exact HQ
    rw [hg1]
    clear HQ hg1 hg2 hg3
    have HA := HQ1.ask
    go_upto_region 4 with (first
      | (with_reducible refine za8 (o := ⟨some 8, _, _, _, _, _⟩) rfl 39 (.tmp 3) rfl HA rfl Tryz.underlying39 rfl (by kernel_rfl) ?_)
      | (go_at_call 146; refine (KS _ HQ1.bw).mono ?_; rintro e w2 ⟨A, cap, rfl, hr, hb, hw⟩; have HQ2 := HQ1.on hb; have HA2 := HQ2.ask; have HW := HQ1.apart hw; clear hb hw HQ1 HA)
      | (with_reducible refine za8 (o := ⟨some 10, _, _, _, _, _⟩) rfl 39 (.tmp 3) rfl HA2 rfl Tryz.underlying39 rfl (by kernel_rfl) ?_)
      | (go_at_call 36; refine (KT _ HQ2.bw).mono ?_; rintro e w3 ⟨rfl, hb⟩; have HQ3 := HQ2.on hb; have HR := Lib.hid ((hr.below hb).mono hb.size); clear hb hr HQ2 HA2))
    obtain ⟨c0, c2, c3, f1, f2, f3, k1, k2, k3⟩ := HQ3.facts
    simp only at c0 k1 k2 k3
    go_upto_region 5 with (fail)
    have HQ4 := HQ3.s1 0
    have HR4 := zn9 (n := 1) (v := .int .i64 0) HR.out HW
    simp only at HQ4
    clear c0 c2 c3 f1 f2 f3 k1 k2 k3 HQ3 HR
    generalize w3.setCell ⟨g1, 1, none⟩ (.int .i64 0) = w4 at *
    obtain ⟨c0, c2, c3, f1, f2, f3, k1, k2, k3⟩ := HQ4.facts
    simp only at c0 k1 k2 k3
    have KC := zd3 A cap 1 ([2] : List Int) 2 w4 rfl (by decide) HR4
    rw [show decide ((2 : Int) ∈ ([2] : List Int)) = true by decide] at KC
    have HR5 := Lib.hid HR4
    clear HR4
    go_upto_region 7 with (first
      | (go_at_call 147; refine KC.mono ?_; rintro e w5 ⟨rfl, rfl⟩))
    clear KC
    have HQ5 := HQ4
    have HR6 := HR5.out
    clear c0 c2 c3 f1 f2 f3 k1 k2 k3 HQ4 HR5
    obtain ⟨w6, hw6⟩ : ∃ x, w4 = x := ⟨_, rfl⟩
    rw [hw6] at HQ5 HR6 ⊢
    clear hw6
    obtain ⟨c0, c2, c3, f1, f2, f3, k1, k2, k3⟩ := HQ5.facts
    simp only at c0 k1 k2 k3
    have KC := zd3 A cap 1 ([2] : List Int) 3 w6 rfl (by decide) HR6
    rw [show decide ((3 : Int) ∈ ([2] : List Int)) = false by decide] at KC
    clear HR6
    go_upto_region 8 with (first
      | (go_at_call 147; refine KC.mono ?_; rintro e w5 ⟨rfl, rfl⟩))
    clear KC
    go_upto_region 9 with (fail)
    have HQ6 := HQ5.s3 0
    simp only at HQ6
    clear c0 c2 c3 f1 f2 f3 k1 k2 k3 HQ5
    generalize w6.setCell ⟨g1, 3, none⟩ (.int .i64 0) = w8 at *
    rw [← HC.out] at HQ6
    obtain ⟨w9, hs, hb9, hbw⟩ := HQ6.out (P := Tryz.prog)
    have HJ := HQ6.2.1
    clear HQ6
    go_wp2_with (with_reducible refine za8 (o := ⟨some 26, _, _, _, _, _⟩) rfl 39 (.tmp 1) rfl HJ rfl Tryz.underlying39 rfl (by kernel_rfl) ?_)
    exact bodyPost_ret (zb7 rfl rfl hb9 Tryz.underlying39 rfl (by kernel_rfl)) rfl ⟨rfl, hbw⟩
  case false.true.true =>
    as_aux_lemma =>
    have HC := Lib.hid HC1
    clear HC1
    go_enter Tryz.func105, Tryz.ntmps105
    go_upto_region 2 with (fail)
    have HQ : Q3 w w.heap.size (w.heap.size + 1) (w.heap.size + 1 + 1) ⟨op, rd, rs1, rs2, imm, aq, rl, pred, succ⟩ (((w.alloc (.cells (za0 ⟨op, rd, rs1, rs2, imm, aq, rl, pred, succ⟩) 39)).alloc (.cells (za0 za5) 39)).alloc (.cells (za0 (askI op)) 39)) := by
      have a1 : (w.alloc (.cells (za0 ⟨op, rd, rs1, rs2, imm, aq, rl, pred, succ⟩) 39)).heap.size = w.heap.size + 1 := by simp
      have a2 : ((w.alloc (.cells (za0 ⟨op, rd, rs1, rs2, imm, aq, rl, pred, succ⟩) 39)).alloc (.cells (za0 za5) 39)).heap.size = w.heap.size + 1 + 1 := by simp
      have b2 := Blk.new (za0 za5) 39 (w.alloc (.cells (za0 ⟨op, rd, rs1, rs2, imm, aq, rl, pred, succ⟩) 39))
      have b3 := Blk.new (za0 (askI op)) 39 ((w.alloc (.cells (za0 ⟨op, rd, rs1, rs2, imm, aq, rl, pred, succ⟩) 39)).alloc (.cells (za0 za5) 39))
      rw [a1] at b2
      rw [a2] at b3
      exact ⟨BW.new (BW.new (BW.new (Below.refl _ _) _) _) _, ((Blk.new _ _ w).alloc _).alloc _, b2.alloc _, b3, Nat.le_refl _, by omega, by omega, by omega⟩
    unfold za0 askI za5 at HQ
    simp only at HQ
    generalize ((w.alloc (.cells _ 39)).alloc (.cells _ 39)).alloc (.cells _ 39) = w1 at *
    obtain ⟨g3, hg3⟩ : ∃ g, w.heap.size + 1 + 1 = g := ⟨_, rfl⟩
    rw [hg3] at HQ ⊢
    obtain ⟨g2, hg2⟩ : ∃ g, w.heap.size + 1 = g := ⟨_, rfl⟩
    rw [hg2] at HQ ⊢
    obtain ⟨g1, hg1⟩ : ∃ g, w.heap.size = g := ⟨_, rfl⟩
    have HQ1 : Q3 w g1 g2 g3 ⟨op, rd, rs1, rs2, imm, aq, rl, pred, succ⟩ w1 := by rw [← hg1]; exact HQ
    rw [hg1]
    clear HQ hg1 hg2 hg3
    have HA := HQ1.ask
    go_upto_region 4 with (first
      | (with_reducible refine za8 (o := ⟨some 8, _, _, _, _, _⟩) rfl 39 (.tmp 3) rfl HA rfl Tryz.underlying39 rfl (by kernel_rfl) ?_)
      | (go_at_call 146; refine (KS _ HQ1.bw).mono ?_; rintro e w2 ⟨A, cap, rfl, hr, hb, hw⟩; have HQ2 := HQ1.on hb; have HA2 := HQ2.ask; have HW := HQ1.apart hw; clear hb hw HQ1 HA)
      | (with_reducible refine za8 (o := ⟨some 10, _, _, _, _, _⟩) rfl 39 (.tmp 3) rfl HA2 rfl Tryz.underlying39 rfl (by kernel_rfl) ?_)
      | (go_at_call 36; refine (KT _ HQ2.bw).mono ?_; rintro e w3 ⟨rfl, hb⟩; have HQ3 := HQ2.on hb; have HR := Lib.hid ((hr.below hb).mono hb.size); clear hb hr HQ2 HA2))
    obtain ⟨c0, c2, c3, f1, f2, f3, k1, k2, k3⟩ := HQ3.facts
    simp only at c0 k1 k2 k3
    go_upto_region 5 with (fail)
    have HQ4 := HQ3.s1 0
    have HR4 := zn9 (n := 1) (v := .int .i64 0) HR.out HW
    simp only at HQ4
    clear c0 c2 c3 f1 f2 f3 k1 k2 k3 HQ3 HR
    generalize w3.setCell ⟨g1, 1, none⟩ (.int .i64 0) = w4 at *
    obtain ⟨c0, c2, c3, f1, f2, f3, k1, k2, k3⟩ := HQ4.facts
    simp only at c0 k1 k2 k3
    have KC := zd3 A cap 2 ([2, 3] : List Int) 2 w4 rfl (by decide) HR4
    rw [show decide ((2 : Int) ∈ ([2, 3] : List Int)) = true by decide] at KC
    have HR5 := Lib.hid HR4
    clear HR4
    go_upto_region 7 with (first
      | (go_at_call 147; refine KC.mono ?_; rintro e w5 ⟨rfl, rfl⟩))
    clear KC
    have HQ5 := HQ4
    have HR6 := HR5.out
    clear c0 c2 c3 f1 f2 f3 k1 k2 k3 HQ4 HR5
    obtain ⟨w6, hw6⟩ : ∃ x, w4 = x := ⟨_, rfl⟩
    rw [hw6] at HQ5 HR6 ⊢
    clear hw6
    obtain ⟨c0, c2, c3, f1, f2, f3, k1, k2, k3⟩ := HQ5.facts
    simp only at c0 k1 k2 k3
    have KC := zd3 A cap 2 ([2, 3] : List Int) 3 w6 rfl (by decide) HR6
    rw [show decide ((3 : Int) ∈ ([2, 3] : List Int)) = true by decide] at KC
    clear HR6
    go_upto_region 9 with (first
      | (go_at_call 147; refine KC.mono ?_; rintro e w5 ⟨rfl, rfl⟩))
    clear KC
    have HQ6 := HQ5
    clear c0 c2 c3 f1 f2 f3 k1 k2 k3 HQ5
    obtain ⟨w8, hw8⟩ : ∃ x, w6 = x := ⟨_, rfl⟩
    rw [hw8] at HQ6 ⊢
    clear hw8
    rw [← HC.out] at HQ6
    obtain ⟨w9, hs, hb9, hbw⟩ := HQ6.out (P := Tryz.prog)
    have HJ := HQ6.2.1
    clear HQ6
    go_wp2_with (with_reducible refine za8 (o := ⟨some 26, _, _, _, _, _⟩) rfl 39 (.tmp 1) rfl HJ rfl Tryz.underlying39 rfl (by kernel_rfl) ?_)
    exact bodyPost_ret (zb7 rfl rfl hb9 Tryz.underlying39 rfl (by kernel_rfl)) rfl ⟨rfl, hbw⟩
  case true.false.false =>
    as_aux_lemma =>
    have HC := Lib.hid HC1
    clear HC1
    go_enter Tryz.func105, Tryz.ntmps105
    go_upto_region 2 with (fail)
    have HQ : Q3 w w.heap.size (w.heap.size + 1) (w.heap.size + 1 + 1) ⟨op, rd, rs1, rs2, imm, aq, rl, pred, succ⟩ (((w.alloc (.cells (za0 ⟨op, rd, rs1, rs2, imm, aq, rl, pred, succ⟩) 39)).alloc (.cells (za0 za5) 39)).alloc (.cells (za0 (askI op)) 39)) := by
      have a1 : (w.alloc (.cells (za0 ⟨op, rd, rs1, rs2, imm, aq, rl, pred, succ⟩) 39)).heap.size = w.heap.size + 1 := by simp
      have a2 : ((w.alloc (.cells (za0 ⟨op, rd, rs1, rs2, imm, aq, rl, pred, succ⟩) 39)).alloc (.cells (za0 za5) 39)).heap.size = w.heap.size + 1 + 1 := by simp
      have b2 := Blk.new (za0 za5) 39 (w.alloc (.cells (za0 ⟨op, rd, rs1, rs2, imm, aq, rl, pred, succ⟩) 39))
      have b3 := Blk.new (za0 (askI op)) 39 ((w.alloc (.cells (za0 ⟨op, rd, rs1, rs2, imm, aq, rl, pred, succ⟩) 39)).alloc (.cells (za0 za5) 39))
      rw [a1] at b2
      rw [a2] at b3
      exact ⟨BW.new (BW.new (BW.new (Below.refl _ _) _) _) _, ((Blk.new _ _ w).alloc _).alloc _, b2.alloc _, b3, Nat.le_refl _, by omega, by omega, by omega⟩
    unfold za0 askI za5 at HQ
    simp only at HQ
    generalize ((w.alloc (.cells _ 39)).alloc (.cells _ 39)).alloc (.cells _ 39) = w1 at *
    obtain ⟨g3, hg3⟩ : ∃ g, w.heap.size + 1 + 1 = g := ⟨_, rfl⟩
    rw [hg3] at HQ ⊢
    obtain ⟨g2, hg2⟩ : ∃ g, w.heap.size + 1 = g := ⟨_, rfl⟩
    rw [hg2] at HQ ⊢
    obtain ⟨g1, hg1⟩ : ∃ g, w.heap.size = g := ⟨_, rfl⟩
    have HQ1 : Q3 w g1 g2 g3 ⟨op, rd, rs1, rs2, imm, aq, rl, pred, succ⟩ w1 := by rw [← hg1]; exact HQ
    rw [hg1]
    clear HQ hg1 hg2 hg3
    have HA := HQ1.ask
    go_upto_region 5 with (first
      | (with_reducible refine za8 (o := ⟨some 8, _, _, _, _, _⟩) rfl 39 (.tmp 3) rfl HA rfl Tryz.underlying39 rfl (by kernel_rfl) ?_)
      | (go_at_call 146; refine (KS _ HQ1.bw).mono ?_; rintro e w2 ⟨A, cap, rfl, hr, hb, hw⟩; have HQ2 := HQ1.on hb; have HA2 := HQ2.ask; have HW := HQ1.apart hw; clear hb hw HQ1 HA)
      | (with_reducible refine za8 (o := ⟨some 10, _, _, _, _, _⟩) rfl 39 (.tmp 3) rfl HA2 rfl Tryz.underlying39 rfl (by kernel_rfl) ?_)
      | (go_at_call 36; refine (KT _ HQ2.bw).mono ?_; rintro e w3 ⟨rfl, hb⟩; have HQ3 := HQ2.on hb; have HR := Lib.hid ((hr.below hb).mono hb.size); clear hb hr HQ2 HA2))
    have HQ4 := HQ3
    have HR4 := HR.out
    clear HQ3 HR
    obtain ⟨w4, hw4⟩ : ∃ x, w3 = x := ⟨_, rfl⟩
    rw [hw4] at HQ4 HR4 ⊢
    clear hw4
    obtain ⟨c0, c2, c3, f1, f2, f3, k1, k2, k3⟩ := HQ4.facts
    simp only at c0 k1 k2 k3
    have KC := zd3 A cap 0 ([] : List Int) 2 w4 rfl (by decide) HR4
    rw [show decide ((2 : Int) ∈ ([] : List Int)) = false by decide] at KC
    have HR5 := Lib.hid HR4
    clear HR4
    go_upto_region 6 with (first
      | (go_at_call 147; refine KC.mono ?_; rintro e w5 ⟨rfl, rfl⟩))
    clear KC
    go_upto_region 7 with (fail)
    have HQ5 := HQ4.s2 0
    have HR6 := zn9 (n := 2) (v := .int .i64 0) HR5.out HW
    simp only at HQ5
    clear c0 c2 c3 f1 f2 f3 k1 k2 k3 HQ4 HR5
    generalize w4.setCell ⟨g1, 2, none⟩ (.int .i64 0) = w6 at *
    obtain ⟨c0, c2, c3, f1, f2, f3, k1, k2, k3⟩ := HQ5.facts
    simp only at c0 k1 k2 k3
    have KC := zd3 A cap 0 ([] : List Int) 3 w6 rfl (by decide) HR6
    rw [show decide ((3 : Int) ∈ ([] : List Int)) = false by decide] at KC
    clear HR6
    go_upto_region 8 with (first
      | (go_at_call 147; refine KC.mono ?_; rintro e w5 ⟨rfl, rfl⟩))
    clear KC
    go_upto_region 9 with (fail)
    have HQ6 := HQ5.s3 0
    simp only at HQ6
    clear c0 c2 c3 f1 f2 f3 k1 k2 k3 HQ5
    generalize w6.setCell ⟨g1, 3, none⟩ (.int .i64 0) = w8 at *
    rw [← HC.out] at HQ6
    obtain ⟨w9, hs, hb9, hbw⟩ := HQ6.out (P := Tryz.prog)
    have HJ := HQ6.2.1
    clear HQ6
    go_wp2_with (with_reducible refine za8 (o := ⟨some 26, _, _, _, _, _⟩) rfl 39 (.tmp 1) rfl HJ rfl Tryz.underlying39 rfl (by kernel_rfl) ?_)
    exact bodyPost_ret (zb7 rfl rfl hb9 Tryz.underlying39 rfl (by kernel_rfl)) rfl ⟨rfl, hbw⟩
  case true.false.true =>
    as_aux_lemma =>
    have HC := Lib.hid HC1
    clear HC1
    go_enter Tryz.func105, Tryz.ntmps105
    go_upto_region 2 with (fail)
    have HQ : Q3 w w.heap.size (w.heap.size + 1) (w.heap.size + 1 + 1) ⟨op, rd, rs1, rs2, imm, aq, rl, pred, succ⟩ (((w.alloc (.cells (za0 ⟨op, rd, rs1, rs2, imm, aq, rl, pred, succ⟩) 39)).alloc (.cells (za0 za5) 39)).alloc (.cells (za0 (askI op)) 39)) := by
      have a1 : (w.alloc (.cells (za0 ⟨op, rd, rs1, rs2, imm, aq, rl, pred, succ⟩) 39)).heap.size = w.heap.size + 1 := by simp
      have a2 : ((w.alloc (.cells (za0 ⟨op, rd, rs1, rs2, imm, aq, rl, pred, succ⟩) 39)).alloc (.cells (za0 za5) 39)).heap.size = w.heap.size + 1 + 1 := by simp
      have b2 := Blk.new (za0 za5) 39 (w.alloc (.cells (za0 ⟨op, rd, rs1, rs2, imm, aq, rl, pred, succ⟩) 39))
      have b3 := Blk.new (za0 (askI op)) 39 ((w.alloc (.cells (za0 ⟨op, rd, rs1, rs2, imm, aq, rl, pred, succ⟩) 39)).alloc (.cells (za0 za5) 39))
      rw [a1] at b2
      rw [a2] at b3
      exact ⟨BW.new (BW.new (BW.new (Below.refl _ _) _) _) _, ((Blk.new _ _ w).alloc _).alloc _, b2.alloc _, b3, Nat.le_refl _, by omega, by omega, by omega⟩
    unfold za0 askI za5 at HQ
    simp only at HQ
    generalize ((w.alloc (.cells _ 39)).alloc (.cells _ 39)).alloc (.cells _ 39) = w1 at *
    obtain ⟨g3, hg3⟩ : ∃ g, w.heap.size + 1 + 1 = g := ⟨_, rfl⟩
    rw [hg3] at HQ ⊢
    obtain ⟨g2, hg2⟩ : ∃ g, w.heap.size + 1 = g := ⟨_, rfl⟩
    rw [hg2] at HQ ⊢
    obtain ⟨g1, hg1⟩ : ∃ g, w.heap.size = g := ⟨_, rfl⟩
    have HQ1 : Q3 w g1 g2 g3 ⟨op, rd, rs1, rs2, imm, aq, rl, pred, succ⟩ w1 := by rw [← hg1]; exact HQ
    rw [hg1]
    clear HQ hg1 hg2 hg3
    have HA := HQ1.ask
    go_upto_region 5 with (first
      | (with_reducible refine za8 (o := ⟨some 8, _, _, _, _, _⟩) rfl 39 (.tmp 3) rfl HA rfl Tryz.underlying39 rfl (by kernel_rfl) ?_)
      | (go_at_call 146; refine (KS _ HQ1.bw).mono ?_; rintro e w2 ⟨A, cap, rfl, hr, hb, hw⟩; have HQ2 := HQ1.on hb; have HA2 := HQ2.ask; have HW := HQ1.apart hw; clear hb hw HQ1 HA)
      | (with_reducible refine za8 (o := ⟨some 10, _, _, _, _, _⟩) rfl 39 (.tmp 3) rfl HA2 rfl Tryz.underlying39 rfl (by kernel_rfl) ?_)
      | (go_at_call 36; refine (KT _ HQ2.bw).mono ?_; rintro e w3 ⟨rfl, hb⟩; have HQ3 := HQ2.on hb; have HR := Lib.hid ((hr.below hb).mono hb.size); clear hb hr HQ2 HA2))
    have HQ4 := HQ3
    have HR4 := HR.out
    clear HQ3 HR
    obtain ⟨w4, hw4⟩ : ∃ x, w3 = x := ⟨_, rfl⟩
    rw [hw4] at HQ4 HR4 ⊢
    clear hw4
    obtain ⟨c0, c2, c3, f1, f2, f3, k1, k2, k3⟩ := HQ4.facts
    simp only at c0 k1 k2 k3
    have KC := zd3 A cap 1 ([3] : List Int) 2 w4 rfl (by decide) HR4
    rw [show decide ((2 : Int) ∈ ([3] : List Int)) = false by decide] at KC
    have HR5 := Lib.hid HR4
    clear HR4
    go_upto_region 6 with (first
      | (go_at_call 147; refine KC.mono ?_; rintro e w5 ⟨rfl, rfl⟩))
    clear KC
    go_upto_region 7 with (fail)
    have HQ5 := HQ4.s2 0
    have HR6 := zn9 (n := 2) (v := .int .i64 0) HR5.out HW
    simp only at HQ5
    clear c0 c2 c3 f1 f2 f3 k1 k2 k3 HQ4 HR5
    generalize w4.setCell ⟨g1, 2, none⟩ (.int .i64 0) = w6 at *
    obtain ⟨c0, c2, c3, f1, f2, f3, k1, k2, k3⟩ := HQ5.facts
    simp only at c0 k1 k2 k3
    have KC := zd3 A cap 1 ([3] : List Int) 3 w6 rfl (by decide) HR6
    rw [show decide ((3 : Int) ∈ ([3] : List Int)) = true by decide] at KC
    clear HR6
    go_upto_region 9 with (first
      | (go_at_call 147; refine KC.mono ?_; rintro e w5 ⟨rfl, rfl⟩))
    clear KC
    have HQ6 := HQ5
    clear c0 c2 c3 f1 f2 f3 k1 k2 k3 HQ5
    obtain ⟨w8, hw8⟩ : ∃ x, w6 = x := ⟨_, rfl⟩
    rw [hw8] at HQ6 ⊢
    clear hw8
    rw [← HC.out] at HQ6
    obtain ⟨w9, hs, hb9, hbw⟩ := HQ6.out (P := Tryz.prog)
    have HJ := HQ6.2.1
    clear HQ6
    go_wp2_with (with_reducible refine za8 (o := ⟨some 26, _, _, _, _, _⟩) rfl 39 (.tmp 1) rfl HJ rfl Tryz.underlying39 rfl (by kernel_rfl) ?_)
    exact bodyPost_ret (zb7 rfl rfl hb9 Tryz.underlying39 rfl (by kernel_rfl)) rfl ⟨rfl, hbw⟩
  case true.true.false =>
    as_aux_lemma =>
    have HC := Lib.hid HC1
    clear HC1
    go_enter Tryz.func105, Tryz.ntmps105
    go_upto_region 2 with (fail)
    have HQ : Q3 w w.heap.size (w.heap.size + 1) (w.heap.size + 1 + 1) ⟨op, rd, rs1, rs2, imm, aq, rl, pred, succ⟩ (((w.alloc (.cells (za0 ⟨op, rd, rs1, rs2, imm, aq, rl, pred, succ⟩) 39)).alloc (.cells (za0 za5) 39)).alloc (.cells (za0 (askI op)) 39)) := by
      have a1 : (w.alloc (.cells (za0 ⟨op, rd, rs1, rs2, imm, aq, rl, pred, succ⟩) 39)).heap.size = w.heap.size + 1 := by simp
      have a2 : ((w.alloc (.cells (za0 ⟨op, rd, rs1, rs2, imm, aq, rl, pred, succ⟩) 39)).alloc (.cells (za0 za5) 39)).heap.size = w.heap.size + 1 + 1 := by simp
      have b2 := Blk.new (za0 za5) 39 (w.alloc (.cells (za0 ⟨op, rd, rs1, rs2, imm, aq, rl, pred, succ⟩) 39))
      have b3 := Blk.new (za0 (askI op)) 39 ((w.alloc (.cells (za0 ⟨op, rd, rs1, rs2, imm, aq, rl, pred, succ⟩) 39)).alloc (.cells (za0 za5) 39))
      rw [a1] at b2
      rw [a2] at b3
      exact ⟨BW.new (BW.new (BW.new (Below.refl _ _) _) _) _, ((Blk.new _ _ w).alloc _).alloc _, b2.alloc _, b3, Nat.le_refl _, by omega, by omega, by omega⟩
    unfold za0 askI za5 at HQ
    simp only at HQ
    generalize ((w.alloc (.cells _ 39)).alloc (.cells _ 39)).alloc (.cells _ 39) = w1 at *
    obtain ⟨g3, hg3⟩ : ∃ g, w.heap.size + 1 + 1 = g := ⟨_, rfl⟩
    rw [hg3] at HQ ⊢
    obtain ⟨g2, hg2⟩ : ∃ g, w.heap.size + 1 = g := ⟨_, rfl⟩
    rw [hg2] at HQ ⊢
    obtain ⟨g1, hg1⟩ : ∃ g, w.heap.size = g := ⟨_, rfl⟩
    have HQ1 : Q3 w g1 g2 g3 ⟨op, rd, rs1, rs2, imm, aq, rl, pred, succ⟩ w1 := by rw [← hg1]; exact HQ
    rw [hg1]
    clear HQ hg1 hg2 hg3
    have HA := HQ1.ask
    go_upto_region 5 with (first
      | (with_reducible refine za8 (o := ⟨some 8, _, _, _, _, _⟩) rfl 39 (.tmp 3) rfl HA rfl Tryz.underlying39 rfl (by kernel_rfl) ?_)
      | (go_at_call 146; refine (KS _ HQ1.bw).mono ?_; rintro e w2 ⟨A, cap, rfl, hr, hb, hw⟩; have HQ2 := HQ1.on hb; have HA2 := HQ2.ask; have HW := HQ1.apart hw; clear hb hw HQ1 HA)
      | (with_reducible refine za8 (o := ⟨some 10, _, _, _, _, _⟩) rfl 39 (.tmp 3) rfl HA2 rfl Tryz.underlying39 rfl (by kernel_rfl) ?_)
      | (go_at_call 36; refine (KT _ HQ2.bw).mono ?_; rintro e w3 ⟨rfl, hb⟩; have HQ3 := HQ2.on hb; have HR := Lib.hid ((hr.below hb).mono hb.size); clear hb hr HQ2 HA2))
    have HQ4 := HQ3
    have HR4 := HR.out
    clear HQ3 HR
    obtain ⟨w4, hw4⟩ : ∃ x, w3 = x := ⟨_, rfl⟩
    rw [hw4] at HQ4 HR4 ⊢
    clear hw4
    obtain ⟨c0, c2, c3, f1, f2, f3, k1, k2, k3⟩ := HQ4.facts
    simp only at c0 k1 k2 k3
    have KC := zd3 A cap 1 ([2] : List Int) 2 w4 rfl (by decide) HR4
    rw [show decide ((2 : Int) ∈ ([2] : List Int)) = true by decide] at KC
    have HR5 := Lib.hid HR4
    clear HR4
    go_upto_region 7 with (first
      | (go_at_call 147; refine KC.mono ?_; rintro e w5 ⟨rfl, rfl⟩))
    clear KC
    have HQ5 := HQ4
    have HR6 := HR5.out
    clear c0 c2 c3 f1 f2 f3 k1 k2 k3 HQ4 HR5
    obtain ⟨w6, hw6⟩ : ∃ x, w4 = x := ⟨_, rfl⟩
    rw [hw6] at HQ5 HR6 ⊢
    clear hw6
    obtain ⟨c0, c2, c3, f1, f2, f3, k1, k2, k3⟩ := HQ5.facts
    simp only at c0 k1 k2 k3
    have KC := zd3 A cap 1 ([2] : List Int) 3 w6 rfl (by decide) HR6
    rw [show decide ((3 : Int) ∈ ([2] : List Int)) = false by decide] at KC
    clear HR6
    go_upto_region 8 with (first
      | (go_at_call 147; refine KC.mono ?_; rintro e w5 ⟨rfl, rfl⟩))
    clear KC
    go_upto_region 9 with (fail)
    have HQ6 := HQ5.s3 0
    simp only at HQ6
    clear c0 c2 c3 f1 f2 f3 k1 k2 k3 HQ5
    generalize w6.setCell ⟨g1, 3, none⟩ (.int .i64 0) = w8 at *
    rw [← HC.out] at HQ6
    obtain ⟨w9, hs, hb9, hbw⟩ := HQ6.out (P := Tryz.prog)
    have HJ := HQ6.2.1
    clear HQ6
    go_wp2_with (with_reducible refine za8 (o := ⟨some 26, _, _, _, _, _⟩) rfl 39 (.tmp 1) rfl HJ rfl Tryz.underlying39 rfl (by kernel_rfl) ?_)
    exact bodyPost_ret (zb7 rfl rfl hb9 Tryz.underlying39 rfl (by kernel_rfl)) rfl ⟨rfl, hbw⟩
  case true.true.true =>
    as_aux_lemma =>
    have HC := Lib.hid HC1
    clear HC1
    go_enter Tryz.func105, Tryz.ntmps105
    go_upto_region 2 with (fail)
    have HQ : Q3 w w.heap.size (w.heap.size + 1) (w.heap.size + 1 + 1) ⟨op, rd, rs1, rs2, imm, aq, rl, pred, succ⟩ (((w.alloc (.cells (za0 ⟨op, rd, rs1, rs2, imm, aq, rl, pred, succ⟩) 39)).alloc (.cells (za0 za5) 39)).alloc (.cells (za0 (askI op)) 39)) := by
      have a1 : (w.alloc (.cells (za0 ⟨op, rd, rs1, rs2, imm, aq, rl, pred, succ⟩) 39)).heap.size = w.heap.size + 1 := by simp
      have a2 : ((w.alloc (.cells (za0 ⟨op, rd, rs1, rs2, imm, aq, rl, pred, succ⟩) 39)).alloc (.cells (za0 za5) 39)).heap.size = w.heap.size + 1 + 1 := by simp
      have b2 := Blk.new (za0 za5) 39 (w.alloc (.cells (za0 ⟨op, rd, rs1, rs2, imm, aq, rl, pred, succ⟩) 39))
      have b3 := Blk.new (za0 (askI op)) 39 ((w.alloc (.cells (za0 ⟨op, rd, rs1, rs2, imm, aq, rl, pred, succ⟩) 39)).alloc (.cells (za0 za5) 39))
      rw [a1] at b2
      rw [a2] at b3
      exact ⟨BW.new (BW.new (BW.new (Below.refl _ _) _) _) _, ((Blk.new _ _ w).alloc _).alloc _, b2.alloc _, b3, Nat.le_refl _, by omega, by omega, by omega⟩
    unfold za0 askI za5 at HQ
    simp only at HQ
    generalize ((w.alloc (.cells _ 39)).alloc (.cells _ 39)).alloc (.cells _ 39) = w1 at *
    obtain ⟨g3, hg3⟩ : ∃ g, w.heap.size + 1 + 1 = g := ⟨_, rfl⟩
    rw [hg3] at HQ ⊢
    obtain ⟨g2, hg2⟩ : ∃ g, w.heap.size + 1 = g := ⟨_, rfl⟩
    rw [hg2] at HQ ⊢
    obtain ⟨g1, hg1⟩ : ∃ g, w.heap.size = g := ⟨_, rfl⟩
    have HQ1 : Q3 w g1 g2 g3 ⟨op, rd, rs1, rs2, imm, aq, rl, pred, succ⟩ w1 := by rw [← hg1]; exact HQ
    rw [hg1]
    clear HQ hg1 hg2 hg3
    have HA := HQ1.ask
    go_upto_region 5 with (first
      | (with_reducible refine za8 (o := ⟨some 8, _, _, _, _, _⟩) rfl 39 (.tmp 3) rfl HA rfl Tryz.underlying39 rfl (by kernel_rfl) ?_)
      | (go_at_call 146; refine (KS _ HQ1.bw).mono ?_; rintro e w2 ⟨A, cap, rfl, hr, hb, hw⟩; have HQ2 := HQ1.on hb; have HA2 := HQ2.ask; have HW := HQ1.apart hw; clear hb hw HQ1 HA)
      | (with_reducible refine za8 (o := ⟨some 10, _, _, _, _, _⟩) rfl 39 (.tmp 3) rfl HA2 rfl Tryz.underlying39 rfl (by kernel_rfl) ?_)
      | (go_at_call 36; refine (KT _ HQ2.bw).mono ?_; rintro e w3 ⟨rfl, hb⟩; have HQ3 := HQ2.on hb; have HR := Lib.hid ((hr.below hb).mono hb.size); clear hb hr HQ2 HA2))
    have HQ4 := HQ3
    have HR4 := HR.out
    clear HQ3 HR
    obtain ⟨w4, hw4⟩ : ∃ x, w3 = x := ⟨_, rfl⟩
    rw [hw4] at HQ4 HR4 ⊢
    clear hw4
    obtain ⟨c0, c2, c3, f1, f2, f3, k1, k2, k3⟩ := HQ4.facts
    simp only at c0 k1 k2 k3
    have KC := zd3 A cap 2 ([2, 3] : List Int) 2 w4 rfl (by decide) HR4
    rw [show decide ((2 : Int) ∈ ([2, 3] : List Int)) = true by decide] at KC
    have HR5 := Lib.hid HR4
    clear HR4
    go_upto_region 7 with (first
      | (go_at_call 147; refine KC.mono ?_; rintro e w5 ⟨rfl, rfl⟩))
    clear KC
    have HQ5 := HQ4
    have HR6 := HR5.out
    clear c0 c2 c3 f1 f2 f3 k1 k2 k3 HQ4 HR5
    obtain ⟨w6, hw6⟩ : ∃ x, w4 = x := ⟨_, rfl⟩
    rw [hw6] at HQ5 HR6 ⊢
    clear hw6
    obtain ⟨c0, c2, c3, f1, f2, f3, k1, k2, k3⟩ := HQ5.facts
    simp only at c0 k1 k2 k3
    have KC := zd3 A cap 2 ([2, 3] : List Int) 3 w6 rfl (by decide) HR6
    rw [show decide ((3 : Int) ∈ ([2, 3] : List Int)) = true by decide] at KC
    clear HR6
    go_upto_region 9 with (first
      | (go_at_call 147; refine KC.mono ?_; rintro e w5 ⟨rfl, rfl⟩))
    clear KC
    have HQ6 := HQ5
    clear c0 c2 c3 f1 f2 f3 k1 k2 k3 HQ5
    obtain ⟨w8, hw8⟩ : ∃ x, w6 = x := ⟨_, rfl⟩
    rw [hw8] at HQ6 ⊢
    clear hw8
    rw [← HC.out] at HQ6
    obtain ⟨w9, hs, hb9, hbw⟩ := HQ6.out (P := Tryz.prog)
    have HJ := HQ6.2.1
    clear HQ6
    go_wp2_with (with_reducible refine za8 (o := ⟨some 26, _, _, _, _, _⟩) rfl 39 (.tmp 1) rfl HJ rfl Tryz.underlying39 rfl (by kernel_rfl) ?_)
    exact bodyPost_ret (zb7 rfl rfl hb9 Tryz.underlying39 rfl (by kernel_rfl)) rfl ⟨rfl, hbw⟩
end Go.Proofs.YtmamblgpekafbaaGreatDoor
