/- The program's named. -/
import Derived.Test.YtdpbiboldmoadaaDoorKc
set_option maxRecDepth 100000
namespace Go.Proofs.YtdpbiboldmoadaaDoor
open Go.RowKit

theorem named_ff {N : List UInt8} (h : tryN N false false ≠ 0) : namedT N = baseR (tryN N false false) false false := by unfold namedT namedK; rw [if_pos h]
theorem named_ft {N : List UInt8} (h0 : tryN N false false = 0) (h : tryN N false true ≠ 0) : namedT N = baseR (tryN N false true) false true := by unfold namedT namedK; rw [if_neg (fun x => x h0), if_pos h]
theorem named_tf {N : List UInt8} (h0 : tryN N false false = 0) (h1 : tryN N false true = 0) (h : tryN N true false ≠ 0) : namedT N = baseR (tryN N true false) true false := by unfold namedT namedK; rw [if_neg (fun x => x h0), if_neg (fun x => x h1), if_pos h]
theorem named_tt {N : List UInt8} (h0 : tryN N false false = 0) (h1 : tryN N false true = 0) (h2 : tryN N true false = 0) (h : tryN N true true ≠ 0) : namedT N = baseR (tryN N true true) true true := by unfold namedT namedK; rw [if_neg (fun x => x h0), if_neg (fun x => x h1), if_neg (fun x => x h2), if_pos h]
theorem named_no {N : List UInt8} (h0 : tryN N false false = 0) (h1 : tryN N false true = 0) (h2 : tryN N true false = 0) (h3 : tryN N true true = 0) : namedT N = noIns := by unfold namedT namedK; rw [if_neg (fun x => x h0), if_neg (fun x => x h1), if_neg (fun x => x h2), if_neg (fun x => x h3)]; rfl
/-- What a round does: whether a name with this annotation is an operation's. -/
structure Rnd (W w1 : World) (N : List UInt8) (g0 : Nat) (aq rl : Bool) (P : ByteArray) (H : Bool) (B : Int) : Prop where
  cut : ∀ x, Calls Tryd.prog 49 #[.string (bs N), .string (bs (annT aq rl))] x fun e w' => e = .returned (.tuple #[.string P, .bool H]) ∧ w' = x
  byn : Calls Tryd.prog 50 #[.string P] w1 fun e w' => e = .returned (.int .i64 B) ∧ w1 = w'
  val : tryN N aq rl = if H then B else 0
  sets : Calls Tryd.prog 51 #[insV ⟨B, 0, 0, 0, 0, aq, rl, 0, 0⟩] w1 fun e w' => e = .returned (.agg (insCells (baseR B aq rl))) ∧ BW w1 w'
theorem rnd_any (W w1 : World) (N : List UInt8) (hl : N.length ≤ 100000) (g0 : Nat) (aq rl : Bool) (hN : TabN w1) : ∃ P H B, Rnd W w1 N g0 aq rl P H B := by
  refine ⟨bs (Lib.trimSuffix N (annT aq rl)), Lib.hasSuffix N (annT aq rl), bynm (Lib.trimSuffix N (annT aq rl)), ?_, ?_, rfl, ?_⟩
  · intro x
    exact Tryd.strings_CutSuffix (bs N) (bs (annT aq rl)) x (by show N.length ≤ _; omega)
  · have := byname_c (bs (Lib.trimSuffix N (annT aq rl))) w1 hN
    rw [bs_list] at this
    exact this
  · exact withSets_c _ aq rl w1
set_option maxHeartbeats 4000000 in
theorem named_c (N : List UInt8) (hl : N.length ≤ 100000) (w : World) (T : Tab9 w) : Calls Tryd.prog 33 #[tx N] w fun e w' => e = .returned (insV (namedT N)) ∧ BW w w' := by
  have HJ0 := jn_new noIns w
  have HV : Hid (∀ {i : Ins}, namedT N = i → insV (namedT N) = .agg (insCells i)) := fun e => by rw [e]; rfl
  have KA := fun aq rl x => annot_c aq rl x
  unfold tx at KA ⊢
  have ix0 : ∀ w : World, (Instr.index 70 (.agg #[.bool false, .bool true]) (.int .i64 0)).run Tryd.prog w = .ok (.bool false) w := fun _ => by kernel_rfl
  have ix1 : ∀ w : World, (Instr.index 70 (.agg #[.bool false, .bool true]) (.int .i64 1)).run Tryd.prog w = .ok (.bool true) w := fun _ => by kernel_rfl
  generalize insV (namedT N) = res at *
  unfold insCells noIns at HJ0
  simp only at HJ0
  go_enter Tryd.func33, Tryd.ntmps33
  go_upto_region 1 with (fail)
  generalize w.alloc (.cells _ 23) = w1 at *
  obtain ⟨g, hg⟩ : ∃ g, w.heap.size = g := ⟨_, rfl⟩
  have HJ : Jn w noIns g w1 := by rw [← hg]; exact HJ0
  rw [hg]
  clear hg HJ0
  have HN := T.names.below HJ.1
  obtain ⟨Pff, Hff, Bff, rff⟩ := rnd_any w w1 N hl g false false HN
  obtain ⟨Pft, Hft, Bft, rft⟩ := rnd_any w w1 N hl g false true HN
  obtain ⟨Ptf, Htf, Btf, rtf⟩ := rnd_any w w1 N hl g true false HN
  obtain ⟨Ptt, Htt, Btt, rtt⟩ := rnd_any w w1 N hl g true true HN
  clear HN T
  go_wp2
  go_loop [11] (fun i => ∃ k : Nat, i = .int .i64 k ∧ k ≤ 2 ∧ Hid ((0 < k → tryN N false false = 0 ∧ tryN N false true = 0) ∧ (1 < k → tryN N true false = 0 ∧ tryN N true true = 0))) (fun i => (2 - intOf i).toNat)
  case atStart => exact ⟨0, rfl, by omega, ⟨fun h => absurd h (by omega), fun h => absurd h (by omega)⟩⟩
  case round =>
    obtain ⟨k, rfl, hk, HK⟩ := hrel
    have hk3 : k = 0 ∨ k = 1 ∨ k = 2 := by omega
    clear hk
    rcases hk3 with rfl | rfl | rfl
    · clear rtf rtt
      go_wp2
      go_loop [15] (fun i => ∃ j : Nat, i = .int .i64 j ∧ j ≤ 2 ∧ Hid ((0 < j → tryN N false false = 0) ∧ (1 < j → tryN N false true = 0))) (fun i => (2 - intOf i).toNat)
      case atStart => exact ⟨0, rfl, by omega, ⟨fun h => absurd h (by omega), fun h => absurd h (by omega)⟩⟩
      case round =>
        obtain ⟨j, rfl, hj, HQ⟩ := hrel
        have hj3 : j = 0 ∨ j = 1 ∨ j = 2 := by omega
        clear hj
        rcases hj3 with rfl | rfl | rfl
        · have hval := rff.val
          have kc := rff.cut
          have kb := rff.byn
          have ks := rff.sets
          have ka := KA false false
          unfold insV at ks
          simp only at ks
          by_cases hv : tryN N false false = 0
          · have HQ2 : Hid ((0 < 0 + 1 → tryN N false false = 0) ∧ (1 < 0 + 1 → tryN N false true = 0)) := ⟨fun _ => hv, fun h => absurd h (by omega)⟩
            rw [hv] at hval
            cases Hff with
            | false =>
              clear hv hval HQ HK
              go_wp2_with (first
                | (go_at_call 20; refine (ka _).mono ?_; rintro e w' ⟨rfl, rfl⟩)
                | (go_at_call 49; refine (kc _).mono ?_; rintro e w' ⟨rfl, rfl⟩)
                | (go_at_call 50; refine kb.mono ?_; rintro e w' ⟨rfl, rfl⟩))
              go_round
              case rel => exact ⟨0 + 1, rfl, by omega, HQ2⟩
              case measure => simp [intOf]
            | true =>
              rw [if_pos rfl] at hval
              have hb0 : (Bff != 0) = false := by rw [← hval]; rfl
              clear hv hval HQ HK
              go_wp2_with (first
                | (go_at_call 20; refine (ka _).mono ?_; rintro e w' ⟨rfl, rfl⟩)
                | (go_at_call 49; refine (kc _).mono ?_; rintro e w' ⟨rfl, rfl⟩)
                | (go_at_call 50; refine kb.mono ?_; rintro e w' ⟨rfl, rfl⟩))
              go_round
              case rel => exact ⟨0 + 1, rfl, by omega, HQ2⟩
              case measure => simp [intOf]
          · cases Hff with
            | false => exact absurd hval hv
            | true =>
              rw [if_pos rfl] at hval
              have hv : tryN N false false ≠ 0 := hv
              have hres := HV.out (named_ff hv)
              rw [hval] at hres
              have hb0 : (Bff != 0) = true := by rw [← hval]; simpa using hv
              have HRES := Lib.hid hres
              clear hv hval HQ HK hres
              go_wp2_with (first
                | (go_at_call 20; refine (ka _).mono ?_; rintro e w' ⟨rfl, rfl⟩)
                | (go_at_call 49; refine (kc _).mono ?_; rintro e w' ⟨rfl, rfl⟩)
                | (go_at_call 50; refine kb.mono ?_; rintro e w' ⟨rfl, rfl⟩)
                | (go_at_call 51; refine ks.mono ?_; rintro e w2 ⟨rfl, hb⟩; obtain ⟨w3, hs, k4⟩ := (HJ.on hb).put (P := Tryd.prog) (baseR Bff false false); clear hb))
              exact bodyPost_ret (results_blk1 rfl rfl k4.2.1 Tryd.underlying23 rfl (by kernel_rfl)) rfl ⟨by rw [HRES.out], k4.1⟩
        · have hval := rft.val
          have kc := rft.cut
          have kb := rft.byn
          have ks := rft.sets
          have ka := KA false true
          unfold insV at ks
          simp only at ks
          by_cases hv : tryN N false true = 0
          · have HQ2 : Hid ((0 < 1 + 1 → tryN N false false = 0) ∧ (1 < 1 + 1 → tryN N false true = 0)) := ⟨fun _ => HQ.out.1 (by decide), fun _ => hv⟩
            rw [hv] at hval
            cases Hft with
            | false =>
              clear hv hval HQ HK
              go_wp2_with (first
                | (go_at_call 20; refine (ka _).mono ?_; rintro e w' ⟨rfl, rfl⟩)
                | (go_at_call 49; refine (kc _).mono ?_; rintro e w' ⟨rfl, rfl⟩)
                | (go_at_call 50; refine kb.mono ?_; rintro e w' ⟨rfl, rfl⟩))
              go_round
              case rel => exact ⟨1 + 1, rfl, by omega, HQ2⟩
              case measure => simp [intOf]
            | true =>
              rw [if_pos rfl] at hval
              have hb0 : (Bft != 0) = false := by rw [← hval]; rfl
              clear hv hval HQ HK
              go_wp2_with (first
                | (go_at_call 20; refine (ka _).mono ?_; rintro e w' ⟨rfl, rfl⟩)
                | (go_at_call 49; refine (kc _).mono ?_; rintro e w' ⟨rfl, rfl⟩)
                | (go_at_call 50; refine kb.mono ?_; rintro e w' ⟨rfl, rfl⟩))
              go_round
              case rel => exact ⟨1 + 1, rfl, by omega, HQ2⟩
              case measure => simp [intOf]
          · cases Hft with
            | false => exact absurd hval hv
            | true =>
              rw [if_pos rfl] at hval
              have hv : tryN N false true ≠ 0 := hv
              have hres := HV.out (named_ft (HQ.out.1 (by decide)) hv)
              rw [hval] at hres
              have hb0 : (Bft != 0) = true := by rw [← hval]; simpa using hv
              have HRES := Lib.hid hres
              clear hv hval HQ HK hres
              go_wp2_with (first
                | (go_at_call 20; refine (ka _).mono ?_; rintro e w' ⟨rfl, rfl⟩)
                | (go_at_call 49; refine (kc _).mono ?_; rintro e w' ⟨rfl, rfl⟩)
                | (go_at_call 50; refine kb.mono ?_; rintro e w' ⟨rfl, rfl⟩)
                | (go_at_call 51; refine ks.mono ?_; rintro e w2 ⟨rfl, hb⟩; obtain ⟨w3, hs, k4⟩ := (HJ.on hb).put (P := Tryd.prog) (baseR Bft false true); clear hb))
              exact bodyPost_ret (results_blk1 rfl rfl k4.2.1 Tryd.underlying23 rfl (by kernel_rfl)) rfl ⟨by rw [HRES.out], k4.1⟩
        · have HK2 : Hid ((0 < 0 + 1 → tryN N false false = 0 ∧ tryN N false true = 0) ∧ (1 < 0 + 1 → tryN N true false = 0 ∧ tryN N true true = 0)) := ⟨fun _ => ⟨HQ.out.1 (by decide), HQ.out.2 (by decide)⟩, fun h => absurd h (by omega)⟩
          clear HQ HK
          go_wp2
          go_round
          case rel => exact ⟨0 + 1, rfl, by omega, HK2⟩
          case measure => simp [intOf]
    · clear rff rft
      go_wp2
      go_loop [15] (fun i => ∃ j : Nat, i = .int .i64 j ∧ j ≤ 2 ∧ Hid ((0 < j → tryN N true false = 0) ∧ (1 < j → tryN N true true = 0))) (fun i => (2 - intOf i).toNat)
      case atStart => exact ⟨0, rfl, by omega, ⟨fun h => absurd h (by omega), fun h => absurd h (by omega)⟩⟩
      case round =>
        obtain ⟨j, rfl, hj, HQ⟩ := hrel
        have hj3 : j = 0 ∨ j = 1 ∨ j = 2 := by omega
        clear hj
        rcases hj3 with rfl | rfl | rfl
        · have hval := rtf.val
          have kc := rtf.cut
          have kb := rtf.byn
          have ks := rtf.sets
          have ka := KA true false
          unfold insV at ks
          simp only at ks
          by_cases hv : tryN N true false = 0
          · have HQ2 : Hid ((0 < 0 + 1 → tryN N true false = 0) ∧ (1 < 0 + 1 → tryN N true true = 0)) := ⟨fun _ => hv, fun h => absurd h (by omega)⟩
            rw [hv] at hval
            cases Htf with
            | false =>
              clear hv hval HQ HK
              go_wp2_with (first
                | (go_at_call 20; refine (ka _).mono ?_; rintro e w' ⟨rfl, rfl⟩)
                | (go_at_call 49; refine (kc _).mono ?_; rintro e w' ⟨rfl, rfl⟩)
                | (go_at_call 50; refine kb.mono ?_; rintro e w' ⟨rfl, rfl⟩))
              go_round
              case rel => exact ⟨0 + 1, rfl, by omega, HQ2⟩
              case measure => simp [intOf]
            | true =>
              rw [if_pos rfl] at hval
              have hb0 : (Btf != 0) = false := by rw [← hval]; rfl
              clear hv hval HQ HK
              go_wp2_with (first
                | (go_at_call 20; refine (ka _).mono ?_; rintro e w' ⟨rfl, rfl⟩)
                | (go_at_call 49; refine (kc _).mono ?_; rintro e w' ⟨rfl, rfl⟩)
                | (go_at_call 50; refine kb.mono ?_; rintro e w' ⟨rfl, rfl⟩))
              go_round
              case rel => exact ⟨0 + 1, rfl, by omega, HQ2⟩
              case measure => simp [intOf]
          · cases Htf with
            | false => exact absurd hval hv
            | true =>
              rw [if_pos rfl] at hval
              have hv : tryN N true false ≠ 0 := hv
              have hres := HV.out (named_tf (HK.out.1 (by decide)).1 (HK.out.1 (by decide)).2 hv)
              rw [hval] at hres
              have hb0 : (Btf != 0) = true := by rw [← hval]; simpa using hv
              have HRES := Lib.hid hres
              clear hv hval HQ HK hres
              go_wp2_with (first
                | (go_at_call 20; refine (ka _).mono ?_; rintro e w' ⟨rfl, rfl⟩)
                | (go_at_call 49; refine (kc _).mono ?_; rintro e w' ⟨rfl, rfl⟩)
                | (go_at_call 50; refine kb.mono ?_; rintro e w' ⟨rfl, rfl⟩)
                | (go_at_call 51; refine ks.mono ?_; rintro e w2 ⟨rfl, hb⟩; obtain ⟨w3, hs, k4⟩ := (HJ.on hb).put (P := Tryd.prog) (baseR Btf true false); clear hb))
              exact bodyPost_ret (results_blk1 rfl rfl k4.2.1 Tryd.underlying23 rfl (by kernel_rfl)) rfl ⟨by rw [HRES.out], k4.1⟩
        · have hval := rtt.val
          have kc := rtt.cut
          have kb := rtt.byn
          have ks := rtt.sets
          have ka := KA true true
          unfold insV at ks
          simp only at ks
          by_cases hv : tryN N true true = 0
          · have HQ2 : Hid ((0 < 1 + 1 → tryN N true false = 0) ∧ (1 < 1 + 1 → tryN N true true = 0)) := ⟨fun _ => HQ.out.1 (by decide), fun _ => hv⟩
            rw [hv] at hval
            cases Htt with
            | false =>
              clear hv hval HQ HK
              go_wp2_with (first
                | (go_at_call 20; refine (ka _).mono ?_; rintro e w' ⟨rfl, rfl⟩)
                | (go_at_call 49; refine (kc _).mono ?_; rintro e w' ⟨rfl, rfl⟩)
                | (go_at_call 50; refine kb.mono ?_; rintro e w' ⟨rfl, rfl⟩))
              go_round
              case rel => exact ⟨1 + 1, rfl, by omega, HQ2⟩
              case measure => simp [intOf]
            | true =>
              rw [if_pos rfl] at hval
              have hb0 : (Btt != 0) = false := by rw [← hval]; rfl
              clear hv hval HQ HK
              go_wp2_with (first
                | (go_at_call 20; refine (ka _).mono ?_; rintro e w' ⟨rfl, rfl⟩)
                | (go_at_call 49; refine (kc _).mono ?_; rintro e w' ⟨rfl, rfl⟩)
                | (go_at_call 50; refine kb.mono ?_; rintro e w' ⟨rfl, rfl⟩))
              go_round
              case rel => exact ⟨1 + 1, rfl, by omega, HQ2⟩
              case measure => simp [intOf]
          · cases Htt with
            | false => exact absurd hval hv
            | true =>
              rw [if_pos rfl] at hval
              have hv : tryN N true true ≠ 0 := hv
              have hres := HV.out (named_tt (HK.out.1 (by decide)).1 (HK.out.1 (by decide)).2 (HQ.out.1 (by decide)) hv)
              rw [hval] at hres
              have hb0 : (Btt != 0) = true := by rw [← hval]; simpa using hv
              have HRES := Lib.hid hres
              clear hv hval HQ HK hres
              go_wp2_with (first
                | (go_at_call 20; refine (ka _).mono ?_; rintro e w' ⟨rfl, rfl⟩)
                | (go_at_call 49; refine (kc _).mono ?_; rintro e w' ⟨rfl, rfl⟩)
                | (go_at_call 50; refine kb.mono ?_; rintro e w' ⟨rfl, rfl⟩)
                | (go_at_call 51; refine ks.mono ?_; rintro e w2 ⟨rfl, hb⟩; obtain ⟨w3, hs, k4⟩ := (HJ.on hb).put (P := Tryd.prog) (baseR Btt true true); clear hb))
              exact bodyPost_ret (results_blk1 rfl rfl k4.2.1 Tryd.underlying23 rfl (by kernel_rfl)) rfl ⟨by rw [HRES.out], k4.1⟩
        · have HK2 : Hid ((0 < 1 + 1 → tryN N false false = 0 ∧ tryN N false true = 0) ∧ (1 < 1 + 1 → tryN N true false = 0 ∧ tryN N true true = 0)) := ⟨fun _ => HK.out.1 (by decide), fun _ => ⟨HQ.out.1 (by decide), HQ.out.2 (by decide)⟩⟩
          clear HQ HK
          go_wp2
          go_round
          case rel => exact ⟨1 + 1, rfl, by omega, HK2⟩
          case measure => simp [intOf]
    · have hres := HV.out (named_no (HK.out.1 (by decide)).1 (HK.out.1 (by decide)).2 (HK.out.2 (by decide)).1 (HK.out.2 (by decide)).2)
      have HRES := Lib.hid hres
      have c0 := HJ.2.1.cell 0
      have c1 := HJ.2.1.cell 1
      have c2 := HJ.2.1.cell 2
      have c3 := HJ.2.1.cell 3
      have c4 := HJ.2.1.cell 4
      have c5 := HJ.2.1.cell 5
      have c6 := HJ.2.1.cell 6
      have c7 := HJ.2.1.cell 7
      have c8 := HJ.2.1.cell 8
      simp only [noIns, insCells] at c0 c1 c2 c3 c4 c5 c6 c7 c8
      have f0 := HJ.2.1.free 0
      have f1 := HJ.2.1.free 1
      have f2 := HJ.2.1.free 2
      have f3 := HJ.2.1.free 3
      have f4 := HJ.2.1.free 4
      have f5 := HJ.2.1.free 5
      have f6 := HJ.2.1.free 6
      have f7 := HJ.2.1.free 7
      have f8 := HJ.2.1.free 8
      clear hres HK
      go_wp2
      have HW := (((((((((HJ.2.1.set 0 (.int .i64 0)).set 1 (.int .i64 0)).set 2 (.int .i64 0)).set 3 (.int .i64 0)).set 4 (.int .i64 0)).set 5 (.bool false)).set 6 (.bool false)).set 7 (.int .i64 0)).set 8 (.int .i64 0))
      have HW' : Blk (insCells noIns) 23 g _ := HW
      refine bodyPost_ret (results_blk1 rfl rfl HW' Tryd.underlying23 rfl (by kernel_rfl)) rfl ⟨by rw [HRES.out], ?_⟩
      exact ((((((((HJ.1.setCell HJ.2.2 _).setCell HJ.2.2 _).setCell HJ.2.2 _).setCell HJ.2.2 _).setCell HJ.2.2 _).setCell HJ.2.2 _).setCell HJ.2.2 _).setCell HJ.2.2 _).setCell HJ.2.2 _
end Go.Proofs.YtdpbiboldmoadaaDoor
