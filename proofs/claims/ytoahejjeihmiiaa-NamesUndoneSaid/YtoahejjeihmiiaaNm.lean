/- NamesUndone. -/
import Derived.Test.YtoahejjeihmiiaaNl
set_option maxRecDepth 100000
set_option linter.unusedVariables false
namespace Go.Proofs.Ytoahejjeihmiiaa
open Go.RowKit

theorem ex_rem32 {P : Program} {o : Oper} {a : Act} {w : World} {t u : TypeId} {x : Operand} {z : Int} (ho : o.op = .binOp .rem t x (.const (.int .i64 32)) u) (hx : a.eval x = .int .i64 z) (h0 : 0 ≤ z) (h1 : z ≤ 255) :
    (execOp a.eval o).run P w = .ok (.value (.int .i64 (z % 32))) w := by
  have hc : a.eval (.const (.int .i64 32)) = .int .i64 32 := rfl
  obtain ⟨e, e1, e2⟩ := mod32 h0 h1
  have e3 : IntKind.i64.wrap (z.tmod 32) = z % 32 := by rw [e, IntKind.wrap_i64]; omega
  unfold execOp
  simp only [ho, hx, hc, eqGuard_at_int]
  simp [go_sem]
  exact e
set_option maxHeartbeats 16000000 in
theorem undone15_walk (x : Nat → Int) (A1 : Option Addr) (c1 : Nat) (l1 : List Nac) (A2 : Option Addr) (c2 : Nat) (l2 : List Int) (W : World) (h1 : l1.length ≤ 9223372036854775807) (h2 : l2.length ≤ 9223372036854775807) (hw2 : ∀ z ∈ l2, 0 ≤ z ∧ z ≤ 255) (r1 : Rd W W.heap.size A1 (cellsNac l1)) (r2 : Rd W W.heap.size A2 (l2.map (Value.int .u8))) :
    Calls Try.prog 5 #[.agg (xCells x), .slice A1 l1.length c1, .slice A2 l2.length c2] W fun e w' => e = .returned (.bool true) ∧ BW W w' := by
  have HR1 := Lib.hid r1
  have HR2 := Lib.hid r2
  have HW2 := Lib.hid hw2
  have HB0 := Lib.hid (BW.new (Below.refl _ W) (.cells (xCells x) 23))
  have K0 := Lib.hid (Blk.new (xCells x) 23 W)
  have HAL := Lib.hid alive15_any
  have HAF : True := trivial
  clear r1 r2 hw2
  go_enter Try.func5, Try.ntmps5
  go_upto_region 1 with (fail)
  obtain ⟨B, hB⟩ : ∃ B, W.heap.size = B := ⟨_, rfl⟩
  try rw [hB] at K0
  try rw [hB]
  clear hB
  generalize World.alloc W _ = w0 at *
  go_upto_region 3 with (first
    | (go_at_call 7; (have HFIRST := HAF); clear HAF; refine (HAL.out _).mono ?_; rintro e w1 ⟨rfl, hb⟩; have HB1 := Lib.hid (BW.on HB0.out hb); have K1 := K0.out.on hb; clear hb))
  go_wp2_with (first
    | (with_reducible refine Hz.val_arm (o := ⟨some 22, .load _ _, _, _, _, _⟩) (by kernel_rfl) (Hz.ex_load_all 23 (.tmp 3) rfl rfl K1 Try.underlying23 rfl (by rw [xCells_size]; kernel_rfl)) ?_)
    | (go_at_call 8; refine (ng_new x W _ HB1.out [] (fun b hb => by cases hb)).mono ?_; rintro e w2 ⟨g, rfl, hng, _, _⟩; have HN2 := Lib.hid hng; clear hng))
  clear K1 K0
  go_loopw [8, 9, 10, 11] (fun i _ _ _ wx => ∃ k : Nat, k ≤ l1.length ∧ k ≤ 60 ∧ i = .int .i64 (k : Int) ∧ Hid (∃ s, NG W s g [] wx)) (fun i _ _ _ _ => 60 - (intOf i).toNat)
  case atStart => exact ⟨0, by omega, by omega, rfl, _, HN2.out⟩
  case round =>
    obtain ⟨k, hk, hk6, rfl, HX⟩ := hrel
    clear HN2
    obtain ⟨s, hs⟩ := HX.out
    clear HX
    by_cases hc : k < l1.length ∧ k < 60
    · obtain ⟨hlt, hlt6⟩ := hc
      have hltI : (k : Int) < (l1.length : Int) := by omega
      have hlt6I : (k : Int) < 60 := by omega
      obtain ⟨b, off, rfl, hb, hcs⟩ := rd_nac HR1.out hlt
      have HCS := Lib.hid (fun j v hv => (Below.cell hs.low (p := ⟨b, off + k * 3 + j, none⟩) hb).trans (hcs j v hv))
      generalize l1[k] = y at *
      obtain ⟨kd, n, v⟩ := y
      have HCS := Lib.hid (three_at (y := ⟨kd, n, v⟩) HCS.out)
      dsimp only at HCS
      have hb1 := BW.new (Below.refl _ wr) (.cells #[.int .i64 kd, .int .i64 n, .int .u64 v] 31)
      have HX1 := Lib.hid (hs.new #[.int .i64 kd, .int .i64 n, .int .u64 v] 31)
      have K1 := Lib.hid (Blk.new #[.int .i64 kd, .int .i64 n, .int .u64 v] 31 wr)
      have q10 : World.cell? _ ⟨wr.heap.size, 0, none⟩ = some (.int .i64 kd) := K1.out.cell 0
      have q11 : World.cell? _ ⟨wr.heap.size, 1, none⟩ = some (.int .i64 n) := K1.out.cell 1
      have q12 : World.cell? _ ⟨wr.heap.size, 2, none⟩ = some (.int .u64 v) := K1.out.cell 2
      obtain ⟨KL, hKL⟩ : ∃ KL : List Kb, [((#[.int .i64 kd, .int .i64 n, .int .u64 v] : Array Value), 31, wr.heap.size)] = KL := ⟨_, rfl⟩
      have HKM : Hid (((#[.int .i64 kd, .int .i64 n, .int .u64 v] : Array Value), 31, wr.heap.size) ∈ KL) := by show _ ∈ _; rw [← hKL]; exact List.mem_cons_self
      rw [hKL] at HX1
      clear hcs hb hb1 hs hKL
      by_cases h0 : kd = 0
      · subst h0
        by_cases hl : s.l.length < 12
        · have hlI : (s.l.length : Int) < 12 := by omega
          rcases cla_small hl n with ⟨n0, n1, c, hc1, hc2⟩ | ⟨hn, hc2⟩
          · have HCL := Lib.hid (fun y (h : NG W s g KL y) => hc2 ▸ ng_claim h n)
            have hcell := (fre_some hc1).1
            have HST := Lib.hid (fun t y (h : NG W t g KL y) => ng_set h (c : Int) v)
            clear hc2 hc1
            generalize addN s n.toNat c = s1 at *
            go_wp2_with (first
              | (with_reducible refine Hz.val_arm (o := ⟨some 37, .load _ _, _, _, _, _⟩) (by kernel_rfl) (Hz.ex_load_cells [.int .i64 _, .int .i64 n, .int .u64 v] rfl rfl HCS.out Try.underlying31 rfl (by kernel_rfl)) ?_)
              | (go_at_call 18; refine (ng_claims HX1.out).mono ?_; rintro e wc ⟨rfl, rfl⟩)
              | (go_at_call 10; refine (HCL.out _ HX1.out).mono ?_; rintro e w3 ⟨rfl, hng⟩; have HX3 := Lib.hid hng; have K3 := Lib.hid (HX3.out.blk HKM.out); have q31 := K3.out.cell 1; have q32 := K3.out.cell 2; clear hng)
              | (go_at_call 12; refine (HST.out _ _ HX3.out).mono ?_; rintro e w4 ⟨rfl, hng⟩; have HX4 : Hid (∃ s, NG W s g [] w4) := ⟨_, hng.sub (fun b hb => by cases hb)⟩; clear hng))
            go_roundw
            case rel => exact ⟨k + 1, by omega, by omega, by first | rfl | go_num, HX4⟩
            case measure => simp [intOf]; omega
          · have HCL := Lib.hid (fun y (h : NG W s g KL y) => hc2 ▸ ng_claim h n)
            have HST := Lib.hid (fun t y (h : NG W t g KL y) => ng_set h 0 v)
            clear hc2
            by_cases n0 : 0 < n
            · have n1 : ¬ n < 32 := fun h => hn ⟨n0, h⟩
              clear hn
              go_wp2_with (first
                | (with_reducible refine Hz.val_arm (o := ⟨some 37, .load _ _, _, _, _, _⟩) (by kernel_rfl) (Hz.ex_load_cells [.int .i64 _, .int .i64 n, .int .u64 v] rfl rfl HCS.out Try.underlying31 rfl (by kernel_rfl)) ?_)
                | (go_at_call 18; refine (ng_claims HX1.out).mono ?_; rintro e wc ⟨rfl, rfl⟩)
                | (go_at_call 10; refine (HCL.out _ HX1.out).mono ?_; rintro e w3 ⟨rfl, hng⟩; have HX3 := Lib.hid hng; have K3 := Lib.hid (HX3.out.blk HKM.out); have q31 := K3.out.cell 1; have q32 := K3.out.cell 2; clear hng)
                | (go_at_call 12; refine (HST.out _ _ HX3.out).mono ?_; rintro e w4 ⟨rfl, hng⟩; have HX4 : Hid (∃ s, NG W s g [] w4) := ⟨_, hng.sub (fun b hb => by cases hb)⟩; clear hng))
              go_roundw
              case rel => exact ⟨k + 1, by omega, by omega, by first | rfl | go_num, HX4⟩
              case measure => simp [intOf]; omega
            · clear hn
              go_wp2_with (first
                | (with_reducible refine Hz.val_arm (o := ⟨some 37, .load _ _, _, _, _, _⟩) (by kernel_rfl) (Hz.ex_load_cells [.int .i64 _, .int .i64 n, .int .u64 v] rfl rfl HCS.out Try.underlying31 rfl (by kernel_rfl)) ?_)
                | (go_at_call 18; refine (ng_claims HX1.out).mono ?_; rintro e wc ⟨rfl, rfl⟩)
                | (go_at_call 10; refine (HCL.out _ HX1.out).mono ?_; rintro e w3 ⟨rfl, hng⟩; have HX3 := Lib.hid hng; have K3 := Lib.hid (HX3.out.blk HKM.out); have q31 := K3.out.cell 1; have q32 := K3.out.cell 2; clear hng)
                | (go_at_call 12; refine (HST.out _ _ HX3.out).mono ?_; rintro e w4 ⟨rfl, hng⟩; have HX4 : Hid (∃ s, NG W s g [] w4) := ⟨_, hng.sub (fun b hb => by cases hb)⟩; clear hng))
              go_roundw
              case rel => exact ⟨k + 1, by omega, by omega, by first | rfl | go_num, HX4⟩
              case measure => simp [intOf]; omega
        · have hlI : ¬ (s.l.length : Int) < 12 := by omega
          go_wp2_with (first
            | (with_reducible refine Hz.val_arm (o := ⟨some 37, .load _ _, _, _, _, _⟩) (by kernel_rfl) (Hz.ex_load_cells [.int .i64 _, .int .i64 n, .int .u64 v] rfl rfl HCS.out Try.underlying31 rfl (by kernel_rfl)) ?_)
            | (go_at_call 18; refine (ng_claims HX1.out).mono ?_; rintro e wc ⟨rfl, rfl⟩))
          go_roundw
          case rel => exact ⟨k + 1, by omega, by omega, by first | rfl | go_num, ⟨s, HX1.out.sub (fun b hb => by cases hb)⟩⟩
          case measure => simp [intOf]; omega
      · have e0 : (kd == 0) = false := by simpa using h0
        by_cases h2 : kd = 2
        · subst h2
          have HRT := Lib.hid (fun y (h : NG W s g KL y) => ng_retire h)
          go_wp2_with (first
            | (with_reducible refine Hz.val_arm (o := ⟨some 37, .load _ _, _, _, _, _⟩) (by kernel_rfl) (Hz.ex_load_cells [.int .i64 _, .int .i64 n, .int .u64 v] rfl rfl HCS.out Try.underlying31 rfl (by kernel_rfl)) ?_)
            | (go_at_call 14; refine (HRT.out _ HX1.out).mono ?_; rintro e w4 ⟨rfl, hng⟩; have HX4 : Hid (∃ s, NG W s g [] w4) := ⟨_, hng.sub (fun b hb => by cases hb)⟩; clear hng))
          go_roundw
          case rel => exact ⟨k + 1, by omega, by omega, by first | rfl | go_num, HX4⟩
          case measure => simp [intOf]; omega
        · have e2 : (kd == 2) = false := by simpa using h2
          by_cases h3 : kd = 3
          · subst h3
            have HUN := Lib.hid (fun y (h : NG W s g KL y) => ng_undo h)
            go_wp2_with (first
              | (with_reducible refine Hz.val_arm (o := ⟨some 37, .load _ _, _, _, _, _⟩) (by kernel_rfl) (Hz.ex_load_cells [.int .i64 _, .int .i64 n, .int .u64 v] rfl rfl HCS.out Try.underlying31 rfl (by kernel_rfl)) ?_)
              | (go_at_call 16; refine (HUN.out _ HX1.out).mono ?_; rintro e w4 ⟨rfl, hng⟩; have HX4 : Hid (∃ s, NG W s g [] w4) := ⟨_, hng.sub (fun b hb => by cases hb)⟩; clear hng))
            go_roundw
            case rel => exact ⟨k + 1, by omega, by omega, by first | rfl | go_num, HX4⟩
            case measure => simp [intOf]; omega
          · have e3 : (kd == 3) = false := by simpa using h3
            go_wp2_with (first
              | (with_reducible refine Hz.val_arm (o := ⟨some 37, .load _ _, _, _, _, _⟩) (by kernel_rfl) (Hz.ex_load_cells [.int .i64 _, .int .i64 n, .int .u64 v] rfl rfl HCS.out Try.underlying31 rfl (by kernel_rfl)) ?_))
            go_roundw
            case rel => exact ⟨k + 1, by omega, by omega, by first | rfl | go_num, ⟨s, HX1.out.sub (fun b hb => by cases hb)⟩⟩
            case measure => simp [intOf]; omega
    · have hno : ¬ ((k : Int) < (l1.length : Int)) ∨ ¬ ((k : Int) < 60) := by omega
      have HS := Lib.hid hs
      clear hs hc HR1
      obtain ⟨wA, rfl⟩ : ∃ x : World, x = wr := ⟨_, rfl⟩
      have HK6 : Hid (NG W s g [(iCells (wasK s 0), 49, wA.heap.size)] (wA.alloc (.cells #[.int .i64 0, .int .i64 0, .int .i64 0, .int .i64 0, .int .i64 0, .int .i64 0, .int .i64 0, .int .i64 0, .int .i64 0, .int .i64 0, .int .i64 0, .int .i64 0, .int .i64 0, .int .i64 0, .int .i64 0, .int .i64 0, .int .i64 0, .int .i64 0, .int .i64 0, .int .i64 0, .int .i64 0, .int .i64 0, .int .i64 0, .int .i64 0, .int .i64 0, .int .i64 0, .int .i64 0, .int .i64 0, .int .i64 0, .int .i64 0, .int .i64 0, .int .i64 0] 49))) := HS.out.new (iCells (wasK s 0)) 49
      obtain ⟨b, hb⟩ : ∃ b, wA.heap.size = b := ⟨_, rfl⟩
      have HWB : Hid (W.heap.size ≤ b) := by show _ ≤ _; rw [← hb]; exact Below.size HS.out.low
      rw [hb] at HK6
      go_upto_region 5 with (fail)
      go_cut [31] from 24 to 31 (fun u31 wx => u31 = .bool false ∧ wA = wx)
      case first =>
        by_cases h1 : (k : Int) < (l1.length : Int)
        · have h60 : ¬ (k : Int) < 60 := by omega
          go_wp2
          go_meet
          case rel => exact ⟨rfl, rfl⟩
        · go_wp2
          go_meet
          case rel => exact ⟨rfl, rfl⟩
      case rest =>
      obtain ⟨rfl, rfl⟩ := hcut
      go_upto_region 18 with (fail)
      try rw [hb]
      clear hb
      generalize World.alloc wA _ = wB at *
      go_wp2
      go_loopw [13] (fun i wx => ∃ k : Nat, k ≤ 32 ∧ i = .int .i64 (k : Int) ∧ Hid (NG W s g [(iCells (wasK s k), 49, b)] wx)) (fun i _ => 32 - (intOf i).toNat)
      case atStart => exact ⟨0, by omega, rfl, HK6.out⟩
      case round =>
        obtain ⟨k, hk, rfl, HX⟩ := hrel
        clear HK6
        by_cases hlt : k < 32
        · have hltI : (0 : Int) ≤ (k : Int) ∧ (k : Int) < 32 := by omega
          have HLK := Lib.hid (ng_look HX.out (k : Int))
          have HNX : Hid (∀ y, BW wr y → NG W s g [(iCells (wasK s (k + 1)), 49, b)] (y.setCell ⟨b, k, none⟩ (.int .i64 (lookN s (k : Int)))) ∧ y.cell? ⟨b, k, none⟩ = some (.int .i64 (wasK s k k)) ∧ y.frozen? ⟨b, k, none⟩ = false) := fun y hy => by
            have h1 := HX.out.on hy
            have hbk : Blk (iCells (wasK s k)) 49 b y := h1.blk List.mem_cons_self
            have h2 := hbk.set k (.int .i64 (lookN s (k : Int)))
            rw [iCells_set _ hlt, wasK_next] at h2
            exact ⟨h1.put HWB.out (fun x hx => by cases hx) h2 ((Fr.refl [b] y).setCell (.inl (by simp)) _), (hbk.cell k).trans (iCells_at _ hlt), hbk.free k⟩
          generalize wasK s k k = u0 at *
          generalize lookN s (k : Int) = v0 at *
          go_wp2_with (first
            | (go_at_call 19; refine HLK.out.mono ?_; rintro e w3 ⟨rfl, hb3⟩; obtain ⟨n1, n2, n3⟩ := HNX.out _ hb3; have HN := Lib.hid n1; clear n1 hb3))
          go_roundw
          case rel => exact ⟨k + 1, by omega, by first | rfl | go_num, HN⟩
          case measure => simp [intOf]; omega
        · have h32 : k = 32 := by omega
          have HX2 : Hid (NG W s g [(iCells (wasK s 32), 49, b)] wr) := by show NG _ _ _ _ _; rw [← h32]; exact HX.out
          have hlt' : ¬ (k : Int) < 32 := by omega
          clear h32 HX hlt hk
          go_wp2
          go_loopw [14, 15, 16, 17] (fun j i _ _ wx => ∃ k m : Nat, k ≤ l2.length ∧ i = .int .i64 (k : Int) ∧ j = .int .i64 (m : Int) ∧ Hid (∃ t, Grown s t m ∧ NG W t g [(iCells (wasK s 32), 49, b)] wx)) (fun _ i _ _ _ => l2.length - (intOf i).toNat)
          case atStart => exact ⟨0, 0, by omega, rfl, rfl, s, Grown.refl s, HX2.out⟩
          case round =>
            obtain ⟨k, m, hk, rfl, rfl, HY⟩ := hrel
            obtain ⟨t, hgr, hng⟩ := HY.out
            have HGR := Lib.hid hgr
            have HNG := Lib.hid hng
            have hm : m ≤ 12 := by
              obtain ⟨_, e, e1, e2⟩ := hgr
              have := hng.ok.len
              rw [e1, List.length_append] at this
              omega
            clear HX2 HY hgr hng
            by_cases hc : k < l2.length ∧ t.l.length < 12
            · obtain ⟨hlt, hl12⟩ := hc
              have hltI : (k : Int) < (l2.length : Int) := by omega
              have hl12I : (t.l.length : Int) < 12 := by omega
              obtain ⟨z0, z1⟩ := HW2.out l2[k] (List.getElem_mem hlt)
              obtain ⟨b2, off, rfl, hb2, hc2⟩ := rd_map HR2.out hlt
              have cz := (Below.cell HNG.out.low (p := ⟨b2, off + k, none⟩) hb2).trans hc2
              generalize l2[k] = z at *
              obtain ⟨z2, z3, z4⟩ := mod32 z0 z1
              have hz2 : z < 9223372036854775808 ∧ -9223372036854775808 ≤ z := by omega
              clear hc2 hb2
              rcases cla_small hl12 (z % 32) with ⟨n0, n1, c, hc1, hc2⟩ | ⟨hn, hc2⟩
              · have HCL := Lib.hid (hc2 ▸ ng_claim HNG.out (z % 32))
                have HGN := Lib.hid (HGR.out.add (z % 32).toNat c)
                clear hc2 hc1
                go_wp2_with (first
                  | (go_at_call 18; refine (ng_claims HNG.out).mono ?_; rintro e wc ⟨rfl, rfl⟩)
                  | (refine Hz.val_arm (o := ⟨some 108, .binOp _ _ _ _ _, _, _, _, _⟩) (v := .int .i64 (z % 32)) (by kernel_rfl) (ex_rem32 rfl rfl z0 z1) ?_)
                  | (go_at_call 10; refine HCL.out.mono ?_; rintro e w3 ⟨rfl, hng⟩; have HX3 := Lib.hid hng; clear hng))
                go_roundw
                case rel => exact ⟨k + 1, m + 1, by omega, by first | rfl | go_num, by first | rfl | go_num, _, HGN.out, HX3.out⟩
                case measure => simp [intOf]; omega
              · have HCL := Lib.hid (hc2 ▸ ng_claim HNG.out (z % 32))
                clear hc2
                go_wp2_with (first
                  | (go_at_call 18; refine (ng_claims HNG.out).mono ?_; rintro e wc ⟨rfl, rfl⟩)
                  | (refine Hz.val_arm (o := ⟨some 108, .binOp _ _ _ _ _, _, _, _, _⟩) (v := .int .i64 (z % 32)) (by kernel_rfl) (ex_rem32 rfl rfl z0 z1) ?_)
                  | (go_at_call 10; refine HCL.out.mono ?_; rintro e w3 ⟨rfl, hng⟩; have HX3 := Lib.hid hng; clear hng))
                go_roundw
                case rel => exact ⟨k + 1, m, by omega, by first | rfl | go_num, rfl, _, HGR.out, HX3.out⟩
                case measure => simp [intOf]; omega
            · have hex : ¬ (k : Int) < (l2.length : Int) ∨ ¬ (t.l.length : Int) < 12 := by omega
              obtain ⟨wC, rfl⟩ : ∃ x : World, x = wr := ⟨_, rfl⟩
              clear hc
              go_upto_region 24 with (fail)
              go_cut [98] from 90 to 98 (fun u98 wx => u98 = .bool false ∧ wC = wx)
              case first =>
                by_cases h1 : (k : Int) < (l2.length : Int)
                · have h12 : ¬ (t.l.length : Int) < 12 := by omega
                  go_wp2_with (first
                    | (go_at_call 18; refine (ng_claims HNG.out).mono ?_; rintro e wc ⟨rfl, rfl⟩))
                  go_meet
                  case rel => exact ⟨by first | rfl | exact congrArg Value.bool (decide_eq_false (by omega)), rfl⟩
                · go_wp2
                  go_meet
                  case rel => exact ⟨rfl, rfl⟩
              case rest =>
              obtain ⟨rfl, rfl⟩ := hcut
              clear hex
              go_wp2
              go_loopw [18] (fun i wx => ∃ k : Nat, k ≤ m ∧ i = .int .i64 (k : Int) ∧ Hid (∃ t, Grown s t (m - k) ∧ NG W t g [(iCells (wasK s 32), 49, b)] wx)) (fun i _ => m - (intOf i).toNat)
              case atStart => exact ⟨0, by omega, rfl, t, HGR.out, HNG.out⟩
              case round =>
                obtain ⟨q, hq, rfl, HZ0⟩ := hrel
                obtain ⟨t2, hz⟩ := HZ0.out
                have HZ := Lib.hid hz
                clear HZ0 hz
                clear HGR HNG
                by_cases hqm : q < m
                · have hqI : (q : Int) < (m : Int) := by omega
                  have hg1 : Grown s t2 ((m - (q + 1)) + 1) := by have := HZ.out.1; rwa [show m - (q + 1) + 1 = m - q by omega]
                  obtain ⟨u1, u2⟩ := hg1.und
                  have HUN := Lib.hid (u1 ▸ ng_undo HZ.out.2)
                  have HU2 := Lib.hid u2
                  clear hg1 u1 u2
                  go_wp2_with (first
                    | (go_at_call 16; refine HUN.out.mono ?_; rintro e w3 ⟨rfl, hng⟩; have HX3 := Lib.hid hng; clear hng))
                  go_roundw
                  case rel => exact ⟨q + 1, by omega, by first | rfl | go_num, _, HU2.out, HX3.out⟩
                  case measure => simp [intOf]; omega
                · obtain rfl : q = m := by omega
                  have HG0 : Hid (Grown s t2 0) := by have := HZ.out.1; rwa [Nat.sub_self] at this
                  have HN0 := Lib.hid HZ.out.2
                  clear HZ
                  go_wp2
                  go_loopw [19] (fun i wx => ∃ k : Nat, k ≤ 32 ∧ i = .int .i64 (k : Int) ∧ Hid (NG W t2 g [(iCells (wasK s 32), 49, b)] wx)) (fun i _ => 32 - (intOf i).toNat)
                  case atStart => exact ⟨0, by omega, rfl, HN0.out⟩
                  case round =>
                    obtain ⟨r, hr, rfl, HZ⟩ := hrel
                    clear HN0
                    by_cases hrl : r < 32
                    · have hrI : (r : Int) < 32 := by omega
                      have hwas : wasK s 32 r = lookN s (r : Int) := by unfold wasK; rw [if_pos hrl]
                      have HLK := Lib.hid (fun y (h : NG W t2 g [(iCells (wasK s 32), 49, b)] y) => HG0.out.look (r : Int) ▸ ng_look h (r : Int))
                      have HCW : Hid (∀ y, NG W t2 g [(iCells (wasK s 32), 49, b)] y → y.cell? ⟨b, r, none⟩ = some (.int .i64 (lookN s (r : Int)))) := fun y hy => by
                        rw [← hwas]
                        exact ((hy.blk List.mem_cons_self).cell r).trans (iCells_at _ hrl)
                      clear hwas
                      generalize lookN s (r : Int) = v0 at *
                      go_wp2_with (fail)
                      refine wp_region_held (S := NG W t2 g [(iCells (wasK s 32), 49, b)]) (by kernel_rfl) ?_
                      change wpAnyH _ _ _ _ _ _ _ _ (World.drew _)
                      have HS5 := HZ.out.on (Below.drew (Below.refl _ _))
                      clear HZ
                      generalize World.drew _ = w5 at *
                      refine hk_val (i := 0) (oi := ⟨some 127, .move _, _, _, _, _⟩) (.pointer (some ⟨g, 0, none⟩)) rfl (by kernel_rfl) (by kernel_rfl) (by kernel_rfl) (fun _ _ _ h => h) (by kernel_rfl) (fun _ _ => rfl) HS5 ?_
                      simp only [Act.put, List.setIfInBounds_toArray, List.set_cons_zero, List.set_cons_succ]
                      refine hk_val (i := 1) (oi := ⟨some 128, .move _, _, _, _, _⟩) (.int .i64 (r : Int)) rfl (by kernel_rfl) (by kernel_rfl) (by kernel_rfl) (fun _ _ _ h => h) (by kernel_rfl) (fun _ _ => rfl) HS5 ?_
                      simp only [Act.put, List.setIfInBounds_toArray, List.set_cons_zero, List.set_cons_succ]
                      refine hk_val (i := 3) (oi := ⟨some 130, .move _, _, _, _, _⟩) (.int .i64 (r : Int)) rfl (by kernel_rfl) (by kernel_rfl) (by kernel_rfl) (fun _ _ _ h => h) (by kernel_rfl) (fun _ _ => rfl) HS5 ?_
                      simp only [Act.put, List.setIfInBounds_toArray, List.set_cons_zero, List.set_cons_succ]
                      refine hk_val (i := 4) (oi := ⟨some 131, .indexAddr _ _ _, _, _, _, _⟩) (.pointer (some ⟨b, r, none⟩)) rfl (by kernel_rfl) (by kernel_rfl) (by kernel_rfl) (fun _ _ _ h => h) (by kernel_rfl) (fun _ _ => Hz.ex_indexA (z := 1) rfl rfl rfl rfl hrl Try.underlying49 (by kernel_rfl) (by omega)) HS5 ?_
                      simp only [Act.put, List.setIfInBounds_toArray, List.set_cons_zero, List.set_cons_succ]
                      refine hk_val (i := 5) (oi := ⟨some 132, .load _ _, _, _, _, _⟩) (.int .i64 v0) rfl (by kernel_rfl) (by kernel_rfl) (by kernel_rfl) (fun _ _ _ h => h) (by kernel_rfl) (fun y hy => ex_load rfl rfl (HCW.out y hy) (by kernel_rfl)) HS5 ?_
                      simp only [Act.put, List.setIfInBounds_toArray, List.set_cons_zero, List.set_cons_succ]
                      refine hk_call (i := 2) (oi := ⟨some 129, .call _, _, _, _, _⟩) (by kernel_rfl) rfl (by kernel_rfl) (by first | rfl | kernel_rfl) (HLK.out _ HS5) ?_
                      rintro e w6 ⟨rfl, hb6⟩
                      have HS6 := HS5.on hb6
                      refine ⟨_, rfl, HS6, ?_⟩
                      simp only [Act.put, List.setIfInBounds_toArray, List.set_cons_zero, List.set_cons_succ]
                      refine hk_val (i := 6) (oi := ⟨some 133, .binOp _ _ _ _ _, _, _, _, _⟩) (.bool false) rfl (by kernel_rfl) (by kernel_rfl) (by kernel_rfl) (fun _ _ _ h => h) (by kernel_rfl) (fun _ _ => Hz.ex_neK rfl rfl rfl (by simp)) HS6 ?_
                      simp only [Act.put, List.setIfInBounds_toArray, List.set_cons_zero, List.set_cons_succ]
                      refine wpAnyH_done (by kernel_rfl) ?_ _
                      go_wp2
                      go_roundw
                      case rel => exact ⟨r + 1, by omega, by first | rfl | go_num, HS6⟩
                      case measure => simp [intOf]; omega
                    · have hrl' : ¬ (r : Int) < 32 := by omega
                      go_wp2_with (first
                        | (go_at_call 7; refine (HAL.out _).mono ?_; rintro e w9 ⟨rfl, hb9⟩; have HB9 := Lib.hid (BW.on HZ.out.low hb9); clear hb9))
                      go_ret
                      exact ⟨rfl, HB9.out⟩
end Go.Proofs.Ytoahejjeihmiiaa
