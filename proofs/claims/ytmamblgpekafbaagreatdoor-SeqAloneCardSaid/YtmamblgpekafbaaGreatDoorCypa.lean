/- Of stage 11. -/
import Derived.Test.YtmamblgpekafbaaGreatDoorCwxpa
import Derived.Test.YtmamblgpekafbaaGreatDoorFgpa
set_option maxRecDepth 100000
namespace Go.Proofs.YtmamblgpekafbaaGreatDoor
open Go.RowKit
theorem zm3 (v : Int) (hv : U32 v) (w : World) (T : Tab6 w) :
    Calls Tryz.prog 101 #[.int .u32 v] w fun e w' => e = .returned (.int .i64 (opW v)) ∧ Below w.heap.size w w' := by
  obtain ⟨f, h3, hf⟩ := zA4 v
  have HT := fun w => zm1 v hv w
  rw [h3] at HT
  have H7 := fun w => zn0 v hv w
  have HO := fun w => zn7 v hv w
  have hlt : (f : Int) < 8 := by omega
  by_cases q55 : v % 128 = 55
  · have HV := Lib.hid (Zh9.1 q55)
    rw [q55] at HO
    generalize opW v = r at *
    clear h3 hv T H7 q55
    go_enter Tryz.func101, Tryz.ntmps101
    go_wp2_with (first
      | (go_at_call 135; refine (HT _).mono ?_; rintro e w' ⟨rfl, rfl⟩)
      | (go_at_call 104; refine (HO _).mono ?_; rintro e w' ⟨rfl, rfl⟩))
    go_ret
    exact ⟨za1 HV.out.symm, Below.refl _ _⟩
  by_cases q23 : v % 128 = 23
  · have HV := Lib.hid (Zh9.2.1 q23)
    rw [q23] at HO
    generalize opW v = r at *
    clear h3 hv T H7 q23
    go_enter Tryz.func101, Tryz.ntmps101
    go_wp2_with (first
      | (go_at_call 135; refine (HT _).mono ?_; rintro e w' ⟨rfl, rfl⟩)
      | (go_at_call 104; refine (HO _).mono ?_; rintro e w' ⟨rfl, rfl⟩))
    go_ret
    exact ⟨za1 HV.out.symm, Below.refl _ _⟩
  by_cases q111 : v % 128 = 111
  · have HV := Lib.hid (Zh9.2.2 q111)
    rw [q111] at HO
    generalize opW v = r at *
    clear h3 hv T H7 q111
    go_enter Tryz.func101, Tryz.ntmps101
    go_wp2_with (first
      | (go_at_call 135; refine (HT _).mono ?_; rintro e w' ⟨rfl, rfl⟩)
      | (go_at_call 104; refine (HO _).mono ?_; rintro e w' ⟨rfl, rfl⟩))
    go_ret
    exact ⟨za1 HV.out.symm, Below.refl _ _⟩
  by_cases q103 : v % 128 = 103
  · have HV := Lib.hid (opW_jalr q103 h3 (by omega))
    rw [zp6] at HV
    rw [q103] at HO
    have c1 := fun w => ix_jalr hf w
    generalize jalrL.getD f 0 = a at *
    generalize opW v = r at *
    clear h3 hv T H7 q103
    go_enter Tryz.func101, Tryz.ntmps101
    go_wp2_with (first
      | (go_at_call 135; refine (HT _).mono ?_; rintro e w' ⟨rfl, rfl⟩)
      | (go_at_call 104; refine (HO _).mono ?_; rintro e w' ⟨rfl, rfl⟩))
    go_ret
    exact ⟨za1 HV.out.symm, Below.refl _ _⟩
  by_cases q99 : v % 128 = 99
  · have HV := Lib.hid (zW1 q99 h3 (by omega))
    rw [zp6] at HV
    rw [q99] at HO
    have c1 := fun w => Zk9 hf w
    generalize zB5.getD f 0 = a at *
    generalize opW v = r at *
    clear h3 hv T H7 q99
    go_enter Tryz.func101, Tryz.ntmps101
    go_wp2_with (first
      | (go_at_call 135; refine (HT _).mono ?_; rintro e w' ⟨rfl, rfl⟩)
      | (go_at_call 104; refine (HO _).mono ?_; rintro e w' ⟨rfl, rfl⟩))
    go_ret
    exact ⟨za1 HV.out.symm, Below.refl _ _⟩
  by_cases q3 : v % 128 = 3
  · have HV := Lib.hid (opW_load q3 h3 (by omega))
    rw [zp6] at HV
    rw [q3] at HO
    have c1 := fun w => ix_load hf w
    generalize loadL.getD f 0 = a at *
    generalize opW v = r at *
    clear h3 hv T H7 q3
    go_enter Tryz.func101, Tryz.ntmps101
    go_wp2_with (first
      | (go_at_call 135; refine (HT _).mono ?_; rintro e w' ⟨rfl, rfl⟩)
      | (go_at_call 104; refine (HO _).mono ?_; rintro e w' ⟨rfl, rfl⟩))
    go_ret
    exact ⟨za1 HV.out.symm, Below.refl _ _⟩
  by_cases q35 : v % 128 = 35
  · have HV := Lib.hid (Zj9 q35 h3 (by omega))
    rw [zp6] at HV
    rw [q35] at HO
    have c1 := fun w => ix_store hf w
    generalize zR4.getD f 0 = a at *
    generalize opW v = r at *
    clear h3 hv T H7 q35
    go_enter Tryz.func101, Tryz.ntmps101
    go_wp2_with (first
      | (go_at_call 135; refine (HT _).mono ?_; rintro e w' ⟨rfl, rfl⟩)
      | (go_at_call 104; refine (HO _).mono ?_; rintro e w' ⟨rfl, rfl⟩))
    go_ret
    exact ⟨za1 HV.out.symm, Below.refl _ _⟩
  by_cases q19 : v % 128 = 19
  · have HN := number_c v hv q19 w T
    rw [q19] at HO
    generalize opW v = r at *
    clear h3 hv T H7 q19
    go_enter Tryz.func101, Tryz.ntmps101
    go_wp2_with (first
      | (go_at_call 135; refine (HT _).mono ?_; rintro e w' ⟨rfl, rfl⟩)
      | (go_at_call 104; refine (HO _).mono ?_; rintro e w' ⟨rfl, rfl⟩)
      | (go_at_call 136; refine HN.mono ?_; rintro e w' ⟨rfl, hb⟩))
    go_ret
    exact ⟨rfl, hb⟩
  by_cases q27 : v % 128 = 27
  · have HN := numw_c v hv q27 w T
    rw [q27] at HO
    generalize opW v = r at *
    clear h3 hv T H7 q27
    go_enter Tryz.func101, Tryz.ntmps101
    go_wp2_with (first
      | (go_at_call 135; refine (HT _).mono ?_; rintro e w' ⟨rfl, rfl⟩)
      | (go_at_call 104; refine (HO _).mono ?_; rintro e w' ⟨rfl, rfl⟩)
      | (go_at_call 137; refine HN.mono ?_; rintro e w' ⟨rfl, hb⟩))
    go_ret
    exact ⟨rfl, hb⟩
  by_cases q15 : v % 128 = 15
  · have HN := fence_c v hv q15 w T
    rw [q15] at HO
    generalize opW v = r at *
    clear h3 hv T H7 q15
    go_enter Tryz.func101, Tryz.ntmps101
    go_wp2_with (first
      | (go_at_call 135; refine (HT _).mono ?_; rintro e w' ⟨rfl, rfl⟩)
      | (go_at_call 104; refine (HO _).mono ?_; rintro e w' ⟨rfl, rfl⟩)
      | (go_at_call 140; refine HN.mono ?_; rintro e w' ⟨rfl, rfl⟩))
    go_ret
    exact ⟨rfl, Below.refl _ _⟩
  by_cases q115 : v % 128 = 115
  · have HN := halt_c v q115 w
    rw [q115] at HO
    generalize opW v = r at *
    clear h3 hv T H7 q115
    go_enter Tryz.func101, Tryz.ntmps101
    go_wp2_with (first
      | (go_at_call 135; refine (HT _).mono ?_; rintro e w' ⟨rfl, rfl⟩)
      | (go_at_call 104; refine (HO _).mono ?_; rintro e w' ⟨rfl, rfl⟩)
      | (go_at_call 141; refine HN.mono ?_; rintro e w' ⟨rfl, rfl⟩))
    go_ret
    exact ⟨rfl, Below.refl _ _⟩
  by_cases q47 : v % 128 = 47
  · have HN := atomic_c v hv q47 w T
    rw [q47] at HO
    generalize opW v = r at *
    clear h3 hv T H7 q47
    go_enter Tryz.func101, Tryz.ntmps101
    go_wp2_with (first
      | (go_at_call 135; refine (HT _).mono ?_; rintro e w' ⟨rfl, rfl⟩)
      | (go_at_call 104; refine (HO _).mono ?_; rintro e w' ⟨rfl, rfl⟩)
      | (go_at_call 142; refine HN.mono ?_; rintro e w' ⟨rfl, rfl⟩))
    go_ret
    exact ⟨rfl, Below.refl _ _⟩
  by_cases q51 : v % 128 = 51
  · have HN := pair_c v hv q51 w
    rw [q51] at HO
    generalize opW v = r at *
    clear h3 hv T H7 q51
    go_enter Tryz.func101, Tryz.ntmps101
    go_wp2_with (first
      | (go_at_call 135; refine (HT _).mono ?_; rintro e w' ⟨rfl, rfl⟩)
      | (go_at_call 104; refine (HO _).mono ?_; rintro e w' ⟨rfl, rfl⟩)
      | (go_at_call 138; refine HN.mono ?_; rintro e w' ⟨rfl, hb⟩))
    go_ret
    exact ⟨rfl, hb⟩
  by_cases q59 : v % 128 = 59
  · have HN := pairw_c v hv q59 w
    rw [q59] at HO
    generalize opW v = r at *
    clear h3 hv T H7 q59
    go_enter Tryz.func101, Tryz.ntmps101
    go_wp2_with (first
      | (go_at_call 135; refine (HT _).mono ?_; rintro e w' ⟨rfl, rfl⟩)
      | (go_at_call 104; refine (HO _).mono ?_; rintro e w' ⟨rfl, rfl⟩)
      | (go_at_call 139; refine HN.mono ?_; rintro e w' ⟨rfl, hb⟩))
    go_ret
    exact ⟨rfl, hb⟩
  have HV := Lib.hid (opW_noc (v := v) (by simp only [ocs, List.mem_cons, List.not_mem_nil, or_false]; omega))
  have b55 : (v % 128 == 55) = false := by simpa using q55
  have b23 : (v % 128 == 23) = false := by simpa using q23
  have b111 : (v % 128 == 111) = false := by simpa using q111
  have b103 : (v % 128 == 103) = false := by simpa using q103
  have b99 : (v % 128 == 99) = false := by simpa using q99
  have b3 : (v % 128 == 3) = false := by simpa using q3
  have b35 : (v % 128 == 35) = false := by simpa using q35
  have b19 : (v % 128 == 19) = false := by simpa using q19
  have b27 : (v % 128 == 27) = false := by simpa using q27
  have b15 : (v % 128 == 15) = false := by simpa using q15
  have b115 : (v % 128 == 115) = false := by simpa using q115
  have b47 : (v % 128 == 47) = false := by simpa using q47
  have b51 : (v % 128 == 51) = false := by simpa using q51
  have b59 : (v % 128 == 59) = false := by simpa using q59
  generalize v % 128 = q at *
  clear h3 hv T H7 q55 q23 q111 q103 q99 q3 q35 q19 q27 q15 q115 q47 q51 q59
  go_enter Tryz.func101, Tryz.ntmps101
  go_wp2_with (first
    | (go_at_call 135; refine (HT _).mono ?_; rintro e w' ⟨rfl, rfl⟩)
    | (go_at_call 104; refine (HO _).mono ?_; rintro e w' ⟨rfl, rfl⟩))
  go_ret
  exact ⟨za1 HV.out.symm, Below.refl _ _⟩
def frm (q : Int) : Int := if q = 55 ∨ q = 23 then 4 else if q = 111 then 5 else if q = 103 ∨ q = 3 ∨ q = 19 ∨ q = 27 then 1 else if q = 99 then 3 else if q = 35 then 2 else 0
theorem format_c (q : Int) (w : World) :
    Calls Tryz.prog 145 #[.int .u32 q] w fun e w' => e = .returned (.int .i64 (frm q)) ∧ w = w' := by
  have hc : (q = 55 ∨ q = 23 ∨ q = 111 ∨ q = 103 ∨ q = 3 ∨ q = 19 ∨ q = 27 ∨ q = 99 ∨ q = 35) ∨ (q ≠ 55 ∧ q ≠ 23 ∧ q ≠ 111 ∧ q ≠ 103 ∧ q ≠ 3 ∧ q ≠ 19 ∧ q ≠ 27 ∧ q ≠ 99 ∧ q ≠ 35) := by omega
  rcases hc with hc | ⟨n1, n2, n3, n4, n5, n6, n7, n8, n9⟩
  · rcases hc with rfl | rfl | rfl | rfl | rfl | rfl | rfl | rfl | rfl
    all_goals
      go_enter Tryz.func145, Tryz.ntmps145
      go_wp2
      go_ret
      exact ⟨rfl, rfl⟩
  · have HV : Hid (frm q = 0) := by show _ = _; unfold frm; simp [n1, n2, n3, n4, n5, n6, n7, n8, n9]
    have b1 : (q == 55) = false := by simpa using n1
    have b2 : (q == 23) = false := by simpa using n2
    have b3 : (q == 111) = false := by simpa using n3
    have b4 : (q == 103) = false := by simpa using n4
    have b5 : (q == 3) = false := by simpa using n5
    have b6 : (q == 19) = false := by simpa using n6
    have b7 : (q == 27) = false := by simpa using n7
    have b8 : (q == 99) = false := by simpa using n8
    have b9 : (q == 35) = false := by simpa using n9
    clear n1 n2 n3 n4 n5 n6 n7 n8 n9
    go_enter Tryz.func145, Tryz.ntmps145
    go_wp2
    go_ret
    exact ⟨za1 HV.out.symm, rfl⟩
theorem frm_fm : ∀ k : Fin 75, shV ((k.val : Int) + 1) = 0 → frm (ocV ((k.val : Int) + 1)) = fmV ((k.val : Int) + 1) := by decide
theorem sh_six : ∀ k : Fin 75, (shV ((k.val : Int) + 1) = 6 ∧ ((k.val : Int) + 1 = 28 ∨ (k.val : Int) + 1 = 29 ∨ (k.val : Int) + 1 = 30)) ∨ (shV ((k.val : Int) + 1) = 5 ∧ ((k.val : Int) + 1 = 32 ∨ (k.val : Int) + 1 = 33 ∨ (k.val : Int) + 1 = 34)) ∨
    (shV ((k.val : Int) + 1) = 0 ∧ (k.val : Int) + 1 ≠ 28 ∧ (k.val : Int) + 1 ≠ 29 ∧ (k.val : Int) + 1 ≠ 30 ∧ (k.val : Int) + 1 ≠ 32 ∧ (k.val : Int) + 1 ≠ 33 ∧ (k.val : Int) + 1 ≠ 34) := by decide
def immV (v op : Int) : Int := if 0 < fmV op then getK (fmV op) v 32 else if shV op = 6 then v / 1048576 % 64 else if shV op = 5 then v / 1048576 % 32 else 0
theorem fm_range : ∀ k : Fin 75, 0 ≤ fmV ((k.val : Int) + 1) ∧ (shV ((k.val : Int) + 1) ≠ 0 → fmV ((k.val : Int) + 1) = 0) := by decide
theorem Zn1 (v : Int) : getK 0 v 32 = 0 := Zd3 (by omega) v
theorem imm_c (op v : Int) (hv : U32 v) (h1 : 1 ≤ op ∧ op ≤ 75) (ho : v % 128 = ocV op) (w : World) (T : Tab6 w) :
    Calls Tryz.prog 103 #[.int .i64 op, .int .u32 v] w fun e w' => e = .returned (.int .i64 (immV v op)) ∧ Below w.heap.size w w' := by
  obtain ⟨k, hk⟩ : ∃ k : Fin 75, op = (k.val : Int) + 1 := ⟨⟨op.toNat - 1, by omega⟩, by show op = ((op.toNat - 1 : Nat) : Int) + 1; omega⟩
  have hs := sh_six k
  have hf := fm_range k
  have hq := frm_fm k
  rw [← hk] at hs hf hq
  rcases hs with ⟨hs, hc⟩ | ⟨hs, hc⟩ | ⟨hs, n1, n2, n3, n4, n5, n6⟩
  · have HP := fun w => zg6 v 25 20 hv w
    rw [fo_s6] at HP
    have HV : Hid (immV v op = v / 1048576 % 64) := by show _ = _; unfold immV; rw [if_neg (by have := hf.2 (by omega); omega), if_pos hs]
    have HR : Hid (0 ≤ v / 1048576 % 64 ∧ v / 1048576 % 64 < 64) := by show _ ∧ _; omega
    generalize immV v op = r at *
    generalize v / 1048576 % 64 = x at *
    clear hs hf hq hk h1 ho T hv
    rcases hc with rfl | rfl | rfl
    all_goals
      go_enter Tryz.func103, Tryz.ntmps103
      go_wp2_with (first
        | (go_at_call 102; refine (HP _).mono ?_; rintro e w' ⟨rfl, rfl⟩))
      go_ret
      exact ⟨za1 HV.out.symm, Below.refl _ _⟩
  · have HP := fun w => zg6 v 24 20 hv w
    rw [zX2] at HP
    have HV : Hid (immV v op = v / 1048576 % 32) := by show _ = _; unfold immV; rw [if_neg (by have := hf.2 (by omega); omega), if_neg (by omega), if_pos hs]
    generalize immV v op = r at *
    generalize v / 1048576 % 32 = x at *
    clear hs hf hq hk h1 ho T hv
    rcases hc with rfl | rfl | rfl
    all_goals
      go_enter Tryz.func103, Tryz.ntmps103
      go_wp2_with (first
        | (go_at_call 102; refine (HP _).mono ?_; rintro e w' ⟨rfl, rfl⟩))
      go_ret
      exact ⟨za1 HV.out.symm, Below.refl _ _⟩
  · have HV : Hid (immV v op = getK (fmV op) v 32) := by
      show _ = _
      unfold immV
      by_cases hz : 0 < fmV op
      · rw [if_pos hz]
      · rw [if_neg hz, if_neg (by omega), if_neg (by omega), show fmV op = 0 by omega, Zn1]
    have HO := fun w => zn7 v hv w
    have HF := fun w => format_c (v % 128) w
    rw [ho] at HO HF
    rw [hq hs] at HF
    have HG := get_c (fmV op) v hv.1 hv.2 w T.lay
    have b1 : (op == 28) = false := by simpa using n1
    have b2 : (op == 29) = false := by simpa using n2
    have b3 : (op == 30) = false := by simpa using n3
    have b4 : (op == 32) = false := by simpa using n4
    have b5 : (op == 33) = false := by simpa using n5
    have b6 : (op == 34) = false := by simpa using n6
    generalize immV v op = r at *
    generalize getK (fmV op) v 32 = x at *
    generalize fmV op = g at *
    generalize ocV op = q at *
    clear hs hf hq hk h1 ho T n1 n2 n3 n4 n5 n6 hv
    go_enter Tryz.func103, Tryz.ntmps103
    go_wp2_with (first
      | (go_at_call 104; refine (HO _).mono ?_; rintro e w' ⟨rfl, rfl⟩)
      | (go_at_call 145; refine (HF _).mono ?_; rintro e w' ⟨rfl, rfl⟩)
      | (go_at_call 144; refine HG.mono ?_; rintro e w' ⟨rfl, hb⟩))
    go_ret
    exact ⟨za1 HV.out.symm, hb⟩
theorem oc_cases : ∀ k : Fin 75, ((k.val : Int) + 1 = 1 ∨ (k.val : Int) + 1 = 2 ∨ (k.val : Int) + 1 = 3 ∨ (k.val : Int) + 1 = 4 ∨ (k.val : Int) + 1 = 31 ∨ (k.val : Int) + 1 = 32 ∨ (k.val : Int) + 1 = 33 ∨ (k.val : Int) + 1 = 34 ∨ (k.val : Int) + 1 = 45 ∨ (k.val : Int) + 1 = 46 ∨ (k.val : Int) + 1 = 47 ∨ (k.val : Int) + 1 = 48 ∨ (k.val : Int) + 1 = 49) ∨ soL.getD (srt ((k.val : Int) + 1)).toNat 0 = ocV ((k.val : Int) + 1) := by decide
theorem opcode_c (op : Int) (ho : I64 op) (w : World) (T : Tab6 w) :
    Calls Tryz.prog 96 #[.int .i64 op] w fun e w' => e = .returned (.int .u32 (ocV op)) ∧ w = w' := by
  have hc : (op = 1 ∨ op = 2 ∨ op = 3 ∨ op = 4 ∨ op = 31 ∨ op = 32 ∨ op = 33 ∨ op = 34 ∨ op = 45 ∨ op = 46 ∨ op = 47 ∨ op = 48 ∨ op = 49) ∨ ((op ≠ 1 ∧ op ≠ 2 ∧ op ≠ 3 ∧ op ≠ 4 ∧ op ≠ 31 ∧ op ≠ 32 ∧ op ≠ 33 ∧ op ≠ 34 ∧ op ≠ 45 ∧ op ≠ 46 ∧ op ≠ 47 ∧ op ≠ 48 ∧ op ≠ 49) ∧ soL.getD (srt op).toNat 0 = ocV op) := by
    by_cases hr : 1 ≤ op ∧ op ≤ 75
    · have := oc_cases ⟨op.toNat - 1, by omega⟩
      simp only [show ((op.toNat - 1 : Nat) : Int) + 1 = op by omega] at this
      rcases this with h | h
      · exact .inl h
      · by_cases hn : (op = 1 ∨ op = 2 ∨ op = 3 ∨ op = 4 ∨ op = 31 ∨ op = 32 ∨ op = 33 ∨ op = 34 ∨ op = 45 ∨ op = 46 ∨ op = 47 ∨ op = 48 ∨ op = 49)
        · exact .inl hn
        · exact .inr ⟨by omega, h⟩
    · refine .inr ⟨by omega, ?_⟩
      rw [show srt op = 0 by have := zd0 op; omega]
      unfold ocV tabI
      rw [if_neg hr]
      rfl
  rcases hc with hc | ⟨⟨n1, n2, n3, n4, n5, n6, n7, n8, n9, n10, n11, n12, n13⟩, he⟩
  · rcases hc with rfl | rfl | rfl | rfl | rfl | rfl | rfl | rfl | rfl | rfl | rfl | rfl | rfl
    all_goals
      clear T ho
      go_enter Tryz.func96, Tryz.ntmps96
      go_wp2
      go_ret
      exact ⟨za1 (by decide), rfl⟩
  · have HS := zh2 op ho w T.lasts
    have hk := zj9 op
    obtain ⟨s, hs⟩ : ∃ s : Nat, srt op = (s : Int) := ⟨(srt op).toNat, by omega⟩
    rw [hs] at HS he hk
    rw [Int.toNat_natCast] at he
    have c1 := T.sorts s (by show s < 13; omega)
    rw [he] at c1
    have hlt : (s : Int) < 13 := by omega
    have hltn : s < 13 := by omega
    generalize ocV op = r at *
    have b1 : (op == 1) = false := by simpa using n1
    have b2 : (op == 2) = false := by simpa using n2
    have b3 : (op == 3) = false := by simpa using n3
    have b4 : (op == 4) = false := by simpa using n4
    have b5 : (op == 31) = false := by simpa using n5
    have b6 : (op == 32) = false := by simpa using n6
    have b7 : (op == 33) = false := by simpa using n7
    have b8 : (op == 34) = false := by simpa using n8
    have b9 : (op == 45) = false := by simpa using n9
    have b10 : (op == 46) = false := by simpa using n10
    have b11 : (op == 47) = false := by simpa using n11
    have b12 : (op == 48) = false := by simpa using n12
    have b13 : (op == 49) = false := by simpa using n13
    clear n1 n2 n3 n4 n5 n6 n7 n8 n9 n10 n11 n12 n13 T ho he hs hk hltn
    go_enter Tryz.func96, Tryz.ntmps96
    go_wp2_with (first
      | (go_at_call 15; refine HS.mono ?_; rintro e w' ⟨rfl, rfl⟩))
    go_ret
    exact ⟨rfl, rfl⟩
end Go.Proofs.YtmamblgpekafbaaGreatDoor
