/- Of stage 11. -/
import Derived.Test.YtmamblgpekafbaaGreatDoorWxpa
import Derived.Test.YtmamblgpekafbaaGreatDoorOp5pa
import Derived.Test.YtmamblgpekafbaaGreatDoorOcpa
import Derived.Test.YtmamblgpekafbaaGreatDoorTipa
set_option linter.unusedVariables false
set_option maxRecDepth 100000
namespace Go.Proofs.YtmamblgpekafbaaGreatDoor
open Go.RowKit
def soL : List Int := [0, 0, 0, 99, 3, 35, 19, 51, 15, 115, 47, 47, 47]
structure Tab6 (w : World) : Prop where
  sorts : TabU 2 soL w
  lasts : TabL w
  lay : Tab w
theorem Tab6.below {W w : World} (h : Tab6 W) (hb : Below W.heap.size W w) : Tab6 w :=
  ⟨h.sorts.below hb, h.lasts.below hb, h.lay.below hb (World.block_lt_of_cell? W _ (h.lay 0 (by decide)))⟩
theorem zB2 {l : List Int} {f : Nat} (h : f < l.length) : (l.map (Value.int .i64)).toArray[f]? = some (.int .i64 (l.getD f 0)) := by
  rw [List.getElem?_toArray, List.getElem?_map, List.getD_eq_getElem?_getD, List.getElem?_eq_getElem h]
  rfl
theorem ix8 {l : List Int} (hl : l.length = 8) {f : Nat} (h : f < 8) (w : World) : (Instr.index 149 (.agg (l.map (Value.int .i64)).toArray) (.int .i64 f)).run Tryz.prog w = .ok (.int .i64 (l.getD f 0)) w :=
  zq6 Tryz.underlying149 Tryz.underlying3 rfl (by kernel_rfl) h (zB2 (by omega)) w
theorem ix32 {l : List Int} (hl : l.length = 32) {f : Nat} (h : f < 32) (w : World) : (Instr.index 182 (.agg (l.map (Value.int .i64)).toArray) (.int .i64 f)).run Tryz.prog w = .ok (.int .i64 (l.getD f 0)) w :=
  zq6 Tryz.underlying182 Tryz.underlying3 rfl (by kernel_rfl) h (zB2 (by omega)) w
theorem ix_jalr {f : Nat} (h : f < 8) (w : World) : (Instr.index 149 (.agg #[.int .i64 4, .int .i64 0, .int .i64 0, .int .i64 0, .int .i64 0, .int .i64 0, .int .i64 0, .int .i64 0]) (.int .i64 f)).run Tryz.prog w = .ok (.int .i64 (jalrL.getD f 0)) w := ix8 (l := jalrL) rfl h w
theorem Zk9 {f : Nat} (h : f < 8) (w : World) : (Instr.index 149 (.agg #[.int .i64 5, .int .i64 6, .int .i64 0, .int .i64 0, .int .i64 7, .int .i64 8, .int .i64 9, .int .i64 10]) (.int .i64 f)).run Tryz.prog w = .ok (.int .i64 (zB5.getD f 0)) w := ix8 (l := zB5) rfl h w
theorem ix_load {f : Nat} (h : f < 8) (w : World) : (Instr.index 149 (.agg #[.int .i64 11, .int .i64 12, .int .i64 13, .int .i64 14, .int .i64 15, .int .i64 16, .int .i64 17, .int .i64 0]) (.int .i64 f)).run Tryz.prog w = .ok (.int .i64 (loadL.getD f 0)) w := ix8 (l := loadL) rfl h w
theorem ix_store {f : Nat} (h : f < 8) (w : World) : (Instr.index 149 (.agg #[.int .i64 18, .int .i64 19, .int .i64 20, .int .i64 21, .int .i64 0, .int .i64 0, .int .i64 0, .int .i64 0]) (.int .i64 f)).run Tryz.prog w = .ok (.int .i64 (zR4.getD f 0)) w := ix8 (l := zR4) rfl h w
theorem ix_fence {f : Nat} (h : f < 8) (w : World) : (Instr.index 149 (.agg #[.int .i64 50, .int .i64 0, .int .i64 0, .int .i64 0, .int .i64 0, .int .i64 0, .int .i64 0, .int .i64 0]) (.int .i64 f)).run Tryz.prog w = .ok (.int .i64 (zA0.getD f 0)) w := ix8 (l := zA0) rfl h w
theorem ix_num {f : Nat} (h : f < 8) (w : World) : (Instr.index 149 (.agg #[.int .i64 22, .int .i64 0, .int .i64 23, .int .i64 24, .int .i64 25, .int .i64 0, .int .i64 26, .int .i64 27]) (.int .i64 f)).run Tryz.prog w = .ok (.int .i64 (numL.getD f 0)) w := ix8 (l := numL) rfl h w
theorem ix_shi {f : Nat} (h : f < 8) (w : World) : (Instr.index 149 (.agg #[.int .i64 0, .int .i64 28, .int .i64 0, .int .i64 0, .int .i64 0, .int .i64 29, .int .i64 0, .int .i64 0]) (.int .i64 f)).run Tryz.prog w = .ok (.int .i64 (shiL.getD f 0)) w := ix8 (l := shiL) rfl h w
theorem ix_oshi {f : Nat} (h : f < 8) (w : World) : (Instr.index 149 (.agg #[.int .i64 0, .int .i64 0, .int .i64 0, .int .i64 0, .int .i64 0, .int .i64 30, .int .i64 0, .int .i64 0]) (.int .i64 f)).run Tryz.prog w = .ok (.int .i64 (Zd0.getD f 0)) w := ix8 (l := Zd0) rfl h w
theorem ix_numw {f : Nat} (h : f < 8) (w : World) : (Instr.index 149 (.agg #[.int .i64 31, .int .i64 0, .int .i64 0, .int .i64 0, .int .i64 0, .int .i64 0, .int .i64 0, .int .i64 0]) (.int .i64 f)).run Tryz.prog w = .ok (.int .i64 (zx9.getD f 0)) w := ix8 (l := zx9) rfl h w
theorem ix_shiw {f : Nat} (h : f < 8) (w : World) : (Instr.index 149 (.agg #[.int .i64 0, .int .i64 32, .int .i64 0, .int .i64 0, .int .i64 0, .int .i64 33, .int .i64 0, .int .i64 0]) (.int .i64 f)).run Tryz.prog w = .ok (.int .i64 (Zm6.getD f 0)) w := ix8 (l := Zm6) rfl h w
theorem ix_oshiw {f : Nat} (h : f < 8) (w : World) : (Instr.index 149 (.agg #[.int .i64 0, .int .i64 0, .int .i64 0, .int .i64 0, .int .i64 0, .int .i64 34, .int .i64 0, .int .i64 0]) (.int .i64 f)).run Tryz.prog w = .ok (.int .i64 (zH4.getD f 0)) w := ix8 (l := zH4) rfl h w
theorem ix_atw {f : Nat} (h : f < 32) (w : World) : (Instr.index 182 (.agg #[.int .i64 59, .int .i64 58, .int .i64 54, .int .i64 56, .int .i64 60, .int .i64 0, .int .i64 0, .int .i64 0, .int .i64 62, .int .i64 0, .int .i64 0, .int .i64 0, .int .i64 61, .int .i64 0, .int .i64 0, .int .i64 0, .int .i64 63, .int .i64 0, .int .i64 0, .int .i64 0, .int .i64 64, .int .i64 0, .int .i64 0, .int .i64 0, .int .i64 65, .int .i64 0, .int .i64 0, .int .i64 0, .int .i64 66, .int .i64 0, .int .i64 0, .int .i64 0]) (.int .i64 f)).run Tryz.prog w = .ok (.int .i64 (atwL.getD f 0)) w := ix32 (l := atwL) rfl h w
theorem ix_atd {f : Nat} (h : f < 32) (w : World) : (Instr.index 182 (.agg #[.int .i64 68, .int .i64 67, .int .i64 55, .int .i64 57, .int .i64 69, .int .i64 0, .int .i64 0, .int .i64 0, .int .i64 71, .int .i64 0, .int .i64 0, .int .i64 0, .int .i64 70, .int .i64 0, .int .i64 0, .int .i64 0, .int .i64 72, .int .i64 0, .int .i64 0, .int .i64 0, .int .i64 73, .int .i64 0, .int .i64 0, .int .i64 0, .int .i64 74, .int .i64 0, .int .i64 0, .int .i64 0, .int .i64 75, .int .i64 0, .int .i64 0, .int .i64 0]) (.int .i64 f)).run Tryz.prog w = .ok (.int .i64 (atdL.getD f 0)) w := ix32 (l := atdL) rfl h w
theorem fo_range (v hi lo : Int) (_hv : U32 v) : 0 ≤ ze1 v hi lo ∧ ze1 v hi lo < 4294967296 := by
  unfold ze1
  split
  · unfold fld
    have h1 := zc0 (hi.toNat + 1 - lo.toNat)
    have h2 : (2 : Int) ^ (hi.toNat + 1 - lo.toNat) ≤ 2 ^ 32 := ze7 (by omega)
    have h3 := Int.emod_nonneg (v / 2 ^ lo.toNat) (Int.ne_of_gt h1)
    have h4 := Int.emod_lt_of_pos (v / 2 ^ lo.toNat) h1
    exact ⟨h3, by omega⟩
  · omega
section
variable (v : Int)
theorem fo_op : ze1 v 6 0 = v % 128 := by rw [za6 (by decide)]; unfold fld; simp
theorem fo_rd : ze1 v 11 7 = v / 128 % 32 := by rw [za6 (by decide)]; unfold fld; simp
theorem fo_f3 : ze1 v 14 12 = v / 4096 % 8 := by rw [za6 (by decide)]; unfold fld; simp
theorem fo_r1 : ze1 v 19 15 = v / 32768 % 32 := by rw [za6 (by decide)]; unfold fld; simp
theorem zX2 : ze1 v 24 20 = v / 1048576 % 32 := by rw [za6 (by decide)]; unfold fld; simp
theorem fo_s6 : ze1 v 25 20 = v / 1048576 % 64 := by rw [za6 (by decide)]; unfold fld; simp
theorem fo_aq : ze1 v 26 26 = v / 67108864 % 2 := by rw [za6 (by decide)]; unfold fld; simp
theorem fo_rl : ze1 v 25 25 = v / 33554432 % 2 := by rw [za6 (by decide)]; unfold fld; simp
theorem fo_pr : ze1 v 27 24 = v / 16777216 % 16 := by rw [za6 (by decide)]; unfold fld; simp
theorem fo_su : ze1 v 23 20 = v / 1048576 % 16 := by rw [za6 (by decide)]; unfold fld; simp
theorem fo_up : ze1 v 31 20 = v / 1048576 % 4096 := by rw [za6 (by decide)]; unfold fld; simp
theorem fo_f7 : ze1 v 31 25 = v / 33554432 % 128 := by rw [za6 (by decide)]; unfold fld; simp
theorem fo_f5 : ze1 v 31 27 = v / 134217728 % 32 := by rw [za6 (by decide)]; unfold fld; simp
end
theorem zg6 (v hi lo : Int) (hv : U32 v) (w : World) :
    Calls Tryz.prog 102 #[.int .u32 v, .int .i64 hi, .int .i64 lo] w fun e w' => e = .returned (.int .i64 (ze1 v hi lo)) ∧ w = w' := by
  have HF := fun w => zb9 v hi lo hv.1 hv.2 w
  have HR := Lib.hid (fo_range v hi lo hv)
  generalize ze1 v hi lo = x at *
  clear hv
  go_enter Tryz.func102, Tryz.ntmps102
  go_wp2_with (go_at_call 143; refine (HF _).mono ?_; rintro e w' ⟨rfl, rfl⟩)
  go_ret
  exact ⟨za1 (by have := HR.out; first | rfl | (rw [ze2, IntKind.wrap_i64]; omega)), rfl⟩
theorem zn7 (v : Int) (hv : U32 v) (w : World) :
    Calls Tryz.prog 104 #[.int .u32 v] w fun e w' => e = .returned (.int .u32 (v % 128)) ∧ w = w' := by
  have HF := fun w => zb9 v 6 0 hv.1 hv.2 w
  rw [fo_op] at HF
  generalize v % 128 = x at *
  go_enter Tryz.func104, Tryz.ntmps104
  go_wp2_with (go_at_call 143; refine (HF _).mono ?_; rintro e w' ⟨rfl, rfl⟩)
  go_ret
  exact ⟨rfl, rfl⟩
theorem zm1 (v : Int) (hv : U32 v) (w : World) :
    Calls Tryz.prog 135 #[.int .u32 v] w fun e w' => e = .returned (.int .i64 (v / 4096 % 8)) ∧ w = w' := by
  have HF := fun w => zg6 v 14 12 hv w
  rw [fo_f3] at HF
  generalize v / 4096 % 8 = x at *
  go_enter Tryz.func135, Tryz.ntmps135
  go_wp2_with (go_at_call 102; refine (HF _).mono ?_; rintro e w' ⟨rfl, rfl⟩)
  go_ret
  exact ⟨rfl, rfl⟩
theorem zn0 (v : Int) (hv : U32 v) (w : World) :
    Calls Tryz.prog 170 #[.int .u32 v] w fun e w' => e = .returned (.int .i64 (v / 33554432)) ∧ w = w' := by
  have HF := fun w => zg6 v 31 25 hv w
  rw [fo_f7, show v / 33554432 % 128 = v / 33554432 by have := hv.1; have := hv.2; omega] at HF
  generalize v / 33554432 = x at *
  go_enter Tryz.func170, Tryz.ntmps170
  go_wp2_with (go_at_call 102; refine (HF _).mono ?_; rintro e w' ⟨rfl, rfl⟩)
  go_ret
  exact ⟨rfl, rfl⟩
def eitV (f a b : Int) : Int := if f = 0 then a else if f = 32 then b else 0
theorem zv9 (f a b : Int) (w : World) :
    Calls Tryz.prog 171 #[.int .i64 f, .int .i64 a, .int .i64 b] w fun e w' => e = .returned (.int .i64 (eitV f a b)) ∧ w = w' := by
  by_cases h0 : f = 0
  · subst h0
    go_enter Tryz.func171, Tryz.ntmps171
    go_wp2
    go_ret
    exact ⟨rfl, rfl⟩
  · by_cases h1 : f = 32
    · subst h1
      go_enter Tryz.func171, Tryz.ntmps171
      go_wp2
      go_ret
      exact ⟨rfl, rfl⟩
    · have HV : Hid (eitV f a b = 0) := by show _ = _; unfold eitV; rw [if_neg h0, if_neg h1]
      have b0 : (f == 0) = false := by simpa using h0
      have b1 : (f == 32) = false := by simpa using h1
      clear h0 h1
      go_enter Tryz.func171, Tryz.ntmps171
      go_wp2
      go_ret
      exact ⟨za1 HV.out.symm, rfl⟩
theorem zr3 {x f a b : Int} (h0 : f = 0 → x = a) (h1 : f = 32 → x = b) (h2 : f ≠ 0 → f ≠ 32 → x = 0) : x = eitV f a b := by
  unfold eitV
  by_cases e0 : f = 0
  · rw [if_pos e0]; exact h0 e0
  · rw [if_neg e0]
    by_cases e1 : f = 32
    · rw [if_pos e1]; exact h1 e1
    · rw [if_neg e1]; exact h2 e0 e1
theorem zp6 (l : List Int) (f : Nat) : l8 l (f : Int) = l.getD f 0 := rfl
theorem opW_pair {v : Int} {f : Nat} (ho : v % 128 = 51) (h3 : v / 4096 % 8 = (f : Int)) (_hf : f < 8) : opW v = eitV (v / 33554432) (Zl5.getD f 0) (zJ9.getD f 0) :=
  zr3 (fun h => Zk7 ho h3 (by omega) h) (fun h => Za1 ho h3 (by omega) h) (fun h h' => Zl0 ho rfl h h')
theorem Zi1 {v : Int} {f : Nat} (ho : v % 128 = 59) (h3 : v / 4096 % 8 = (f : Int)) (_hf : f < 8) : opW v = eitV (v / 33554432) (zJ1.getD f 0) (zw6.getD f 0) :=
  zr3 (fun h => zY0 ho h3 (by omega) h) (fun h => zN7 ho h3 (by omega) h) (fun h h' => zY1 ho rfl h h')
theorem opW_shi {v : Int} {f : Nat} (ho : v % 128 = 19) (h3 : v / 4096 % 8 = (f : Int)) (_hf : f < 8) (hn : numL.getD f 0 = 0) : opW v = eitV (v / 33554432 / 2 * 2) (shiL.getD f 0) (Zd0.getD f 0) :=
  zr3 (fun h => opW_shi0 ho h3 (by omega) hn (by omega)) (fun h => Zl6 ho h3 (by omega) hn (by omega)) (fun h h' => opW_shix ho h3 (by omega) hn rfl (by omega) (by omega))
theorem opW_shiw {v : Int} {f : Nat} (ho : v % 128 = 27) (h3 : v / 4096 % 8 = (f : Int)) (_hf : f < 8) (hn : zx9.getD f 0 = 0) : opW v = eitV (v / 33554432) (Zm6.getD f 0) (zH4.getD f 0) :=
  zr3 (fun h => Zc3 ho h3 (by omega) hn h) (fun h => zX5 ho h3 (by omega) hn h) (fun h h' => Ze2 ho h3 (by omega) hn rfl h h')
theorem andn1 (s : Int) (h : 0 ≤ s ∧ s < 128) : bits .andNot .i64 s 1 = s / 2 * 2 := by
  obtain ⟨n, rfl⟩ := Int.eq_ofNat_of_zero_le h.1
  have : ∀ n : Fin 128, bits .andNot .i64 (n.val : Int) 1 = (n.val : Int) / 2 * 2 := by decide +kernel
  exact this ⟨n, by omega⟩
theorem zA4 (v : Int) : ∃ f : Nat, v / 4096 % 8 = (f : Int) ∧ f < 8 := ⟨(v / 4096 % 8).toNat, by omega, by omega⟩
theorem zg1 {w : World} (n : Nat) : Below w.heap.size w (w.drewN n) := ⟨rfl, rfl, rfl, Nat.le_refl _, fun _ _ => rfl⟩
theorem number_c (v : Int) (hv : U32 v) (ho : v % 128 = 19) (w : World) (T : Tab6 w) :
    Calls Tryz.prog 136 #[.int .u32 v] w fun e w' => e = .returned (.int .i64 (opW v)) ∧ Below w.heap.size w w' := by
  obtain ⟨f, h3, hf⟩ := zA4 v
  have HT := fun w => zm1 v hv w
  have H7 := fun w => zn0 v hv w
  rw [h3] at HT
  have c1 := fun w => ix_num hf w
  have c2 := fun w => ix_shi hf w
  have c3 := fun w => ix_oshi hf w
  have hlt : (f : Int) < 8 := by omega
  by_cases h0 : numL.getD f 0 = 0
  · have HV := Lib.hid (opW_shi ho h3 hf h0)
    have HA := andn1 (v / 33554432) (by have := hv.1; have := hv.2; omega)
    have HE := fun a b w => zv9 (v / 33554432 / 2 * 2) a b w
    rw [h0] at c1
    generalize v / 33554432 / 2 * 2 = s2 at *
    generalize v / 33554432 = s at *
    generalize shiL.getD f 0 = a at *
    generalize Zd0.getD f 0 = b at *
    generalize opW v = r at *
    clear h0 ho h3 hv T
    go_enter Tryz.func136, Tryz.ntmps136
    go_wp2_with (first
      | (go_at_call 135; refine (HT _).mono ?_; rintro e w' ⟨rfl, rfl⟩)
      | (go_at_call 170; refine (H7 _).mono ?_; rintro e w' ⟨rfl, rfl⟩))
    go_quiet (first
      | (go_at_call 171; refine Calls.quiet_of_same ((HE _ _ _).mono (fun _ _ ⟨he, hw⟩ => ⟨he, hw.symm⟩))))
    go_wp2
    go_ret
    exact ⟨za1 HV.out.symm, zg1 _⟩
  · have HV := Lib.hid (opW_num ho h3 (by omega) h0)
    rw [zp6] at HV
    have hb : (numL.getD f 0 != 0) = true := by simpa using h0
    generalize numL.getD f 0 = a at *
    generalize opW v = r at *
    clear h0 ho h3 hv T c2 c3
    go_enter Tryz.func136, Tryz.ntmps136
    go_wp2_with (first
      | (go_at_call 135; refine (HT _).mono ?_; rintro e w' ⟨rfl, rfl⟩))
    go_ret
    exact ⟨za1 HV.out.symm, Below.refl _ _⟩
end Go.Proofs.YtmamblgpekafbaaGreatDoor
namespace Go.Proofs.YtmamblgpekafbaaGreatDoor
open Go.RowKit
end Go.Proofs.YtmamblgpekafbaaGreatDoor
namespace Go.Proofs.YtmamblgpekafbaaGreatDoor
open Go.RowKit
theorem numw_c (v : Int) (hv : U32 v) (ho : v % 128 = 27) (w : World) (T : Tab6 w) :
    Calls Tryz.prog 137 #[.int .u32 v] w fun e w' => e = .returned (.int .i64 (opW v)) ∧ Below w.heap.size w w' := by
  obtain ⟨f, h3, hf⟩ := zA4 v
  have HT := fun w => zm1 v hv w
  have H7 := fun w => zn0 v hv w
  rw [h3] at HT
  have c1 := fun w => ix_numw hf w
  have c2 := fun w => ix_shiw hf w
  have c3 := fun w => ix_oshiw hf w
  have hlt : (f : Int) < 8 := by omega
  by_cases h0 : zx9.getD f 0 = 0
  · have HV := Lib.hid (opW_shiw ho h3 hf h0)
    have HE := fun a b w => zv9 (v / 33554432) a b w
    rw [h0] at c1
    generalize v / 33554432 = s at *
    generalize Zm6.getD f 0 = a at *
    generalize zH4.getD f 0 = b at *
    generalize opW v = r at *
    clear h0 ho h3 hv T
    go_enter Tryz.func137, Tryz.ntmps137
    go_wp2_with (first
      | (go_at_call 135; refine (HT _).mono ?_; rintro e w' ⟨rfl, rfl⟩))
    go_quiet (first
      | (go_at_call 170; refine Calls.quiet_of_same ((H7 _).mono (fun _ _ ⟨he, hw⟩ => ⟨he, hw.symm⟩)))
      | (go_at_call 171; refine Calls.quiet_of_same ((HE _ _ _).mono (fun _ _ ⟨he, hw⟩ => ⟨he, hw.symm⟩))))
    go_wp2
    go_ret
    exact ⟨za1 HV.out.symm, zg1 _⟩
  · have HV := Lib.hid (opW_numw ho h3 (by omega) h0)
    rw [zp6] at HV
    have hb : (zx9.getD f 0 != 0) = true := by simpa using h0
    generalize zx9.getD f 0 = a at *
    generalize opW v = r at *
    clear h0 ho h3 hv T c2 c3
    go_enter Tryz.func137, Tryz.ntmps137
    go_wp2_with (first
      | (go_at_call 135; refine (HT _).mono ?_; rintro e w' ⟨rfl, rfl⟩))
    go_ret
    exact ⟨za1 HV.out.symm, Below.refl _ _⟩
theorem halt_c (v : Int) (ho : v % 128 = 115) (w : World) :
    Calls Tryz.prog 141 #[.int .u32 v] w fun e w' => e = .returned (.int .i64 (opW v)) ∧ w = w' := by
  by_cases h1 : v = 115
  · subst h1
    rw [opW_call]
    clear ho
    go_enter Tryz.func141, Tryz.ntmps141
    go_wp2
    go_ret
    exact ⟨rfl, rfl⟩
  · by_cases h2 : v = 1048691
    · subst h2
      rw [opW_brk]
      clear ho h1
      go_enter Tryz.func141, Tryz.ntmps141
      go_wp2
      go_ret
      exact ⟨rfl, rfl⟩
    · have HV := Lib.hid (opW_halt ho h1 h2)
      have b1 : (v == 115) = false := by simpa using h1
      have b2 : (v == 1048691) = false := by simpa using h2
      clear h1 h2 ho
      go_enter Tryz.func141, Tryz.ntmps141
      go_wp2
      go_ret
      exact ⟨za1 HV.out.symm, rfl⟩
theorem fen_50 : ∀ f : Fin 8, (zA0.getD f.val 0 = 50 ∧ f.val = 0) ∨ (zA0.getD f.val 0 = 0 ∧ f.val ≠ 0) := by decide
theorem fence_c (v : Int) (hv : U32 v) (ho : v % 128 = 15) (w : World) (T : Tab6 w) :
    Calls Tryz.prog 140 #[.int .u32 v] w fun e w' => e = .returned (.int .i64 (opW v)) ∧ w = w' := by
  obtain ⟨f, h3, hf⟩ := zA4 v
  have HT := fun w => zm1 v hv w
  have HP := fun w => zg6 v 31 20 hv w
  rw [fo_up, show v / 1048576 % 4096 = v / 1048576 by have := hv.1; have := hv.2; omega] at HP
  rw [h3] at HT
  have c1 := fun w => ix_fence hf w
  have hlt : (f : Int) < 8 := by omega
  rcases fen_50 ⟨f, hf⟩ with ⟨e, e0⟩ | ⟨e, e0⟩
  · simp only at e e0
    rw [e] at c1
    by_cases h7 : v / 1048576 = 2099
    · have HV := Lib.hid (opW_tso ho (by omega) h7)
      rw [h7] at HP
      clear e e0 h7 ho h3 hv T
      go_enter Tryz.func140, Tryz.ntmps140
      go_wp2_with (first
        | (go_at_call 135; refine (HT _).mono ?_; rintro e w' ⟨rfl, rfl⟩)
        | (go_at_call 102; refine (HP _).mono ?_; rintro e w' ⟨rfl, rfl⟩))
      go_ret
      exact ⟨za1 HV.out.symm, rfl⟩
    · have HV := Lib.hid (Zl7 ho h3 (by omega) (.inl h7))
      rw [zp6, e] at HV
      have b7 : (v / 1048576 == 2099) = false := by simpa using h7
      generalize v / 1048576 = x at *
      clear e e0 h7 ho h3 hv T
      go_enter Tryz.func140, Tryz.ntmps140
      go_wp2_with (first
        | (go_at_call 135; refine (HT _).mono ?_; rintro e w' ⟨rfl, rfl⟩)
        | (go_at_call 102; refine (HP _).mono ?_; rintro e w' ⟨rfl, rfl⟩))
      go_ret
      exact ⟨za1 HV.out.symm, rfl⟩
  · simp only at e e0
    rw [e] at c1
    have HV := Lib.hid (Zl7 ho h3 (by omega) (.inr (by omega)))
    rw [zp6, e] at HV
    clear e e0 ho h3 hv T
    go_enter Tryz.func140, Tryz.ntmps140
    go_wp2_with (first
      | (go_at_call 135; refine (HT _).mono ?_; rintro e w' ⟨rfl, rfl⟩)
      | (go_at_call 102; refine (HP _).mono ?_; rintro e w' ⟨rfl, rfl⟩))
    go_ret
    exact ⟨za1 HV.out.symm, rfl⟩
theorem atw_c {f : Nat} (h : f < 32) (w : World) :
    Calls Tryz.prog 172 #[.int .i64 f] w fun e w' => e = .returned (.int .i64 (atwL.getD f 0)) ∧ w = w' := by
  have c1 := fun w => ix_atw h w
  have hlt : (f : Int) < 32 := by omega
  generalize atwL.getD f 0 = a at *
  go_enter Tryz.func172, Tryz.ntmps172
  go_wp2
  go_ret
  exact ⟨rfl, rfl⟩
theorem atd_c {f : Nat} (h : f < 32) (w : World) :
    Calls Tryz.prog 173 #[.int .i64 f] w fun e w' => e = .returned (.int .i64 (atdL.getD f 0)) ∧ w = w' := by
  have c1 := fun w => ix_atd h w
  have hlt : (f : Int) < 32 := by omega
  generalize atdL.getD f 0 = a at *
  go_enter Tryz.func173, Tryz.ntmps173
  go_wp2
  go_ret
  exact ⟨rfl, rfl⟩
theorem Zp8 : ∀ f : Fin 32, (f.val ≠ 2 → srt (atwL.getD f.val 0) ≠ 10 ∧ srt (atdL.getD f.val 0) ≠ 10) ∧ (-9223372036854775808 ≤ atwL.getD f.val 0 ∧ atwL.getD f.val 0 ≤ 9223372036854775807) ∧ (-9223372036854775808 ≤ atdL.getD f.val 0 ∧ atdL.getD f.val 0 ≤ 9223372036854775807) := by decide
theorem atomic_w (v : Int) (hv : U32 v) (ho : v % 128 = 47) (h3 : v / 4096 % 8 = 2) (w : World) (T : Tab6 w) :
    Calls Tryz.prog 142 #[.int .u32 v] w fun e w' => e = .returned (.int .i64 (opW v)) ∧ w = w' := by
  have HT := fun w => zm1 v hv w
  rw [h3] at HT
  have H5 := fun w => zg6 v 31 27 hv w
  have H2 := fun w => zg6 v 24 20 hv w
  rw [fo_f5, show v / 134217728 % 32 = v / 134217728 by have := hv.1; have := hv.2; omega] at H5
  rw [zX2] at H2
  obtain ⟨f, h5, hf⟩ : ∃ f : Nat, v / 134217728 = (f : Int) ∧ f < 32 := ⟨(v / 134217728).toNat, by have := hv.1; omega, by have := hv.2; omega⟩
  rw [h5] at H5
  have c1 := fun w => atw_c hf w
  have hlt : (f : Int) < 32 := by omega
  have hs := Zp8 ⟨f, hf⟩
  simp only at hs
  by_cases h2 : f = 2
  · subst h2
    have HS := zh2 54 ⟨by decide, by decide⟩ w T.lasts
    rw [show srt 54 = 10 by decide] at HS
    rw [show atwL.getD 2 0 = 54 by decide] at c1
    by_cases hr : v / 1048576 % 32 = 0
    · have HV := Lib.hid ((opW_lr ho h5 hr).1 h3)
      rw [hr] at H2
      clear hr hs ho h3 hv T h5
      go_enter Tryz.func142, Tryz.ntmps142
      go_wp2_with (first
        | (go_at_call 172; refine (c1 _).mono ?_; rintro e w' ⟨rfl, rfl⟩)
        | (go_at_call 135; refine (HT _).mono ?_; rintro e w' ⟨rfl, rfl⟩)
        | (go_at_call 102; ((with_reducible refine (H5 _).mono ?_); rintro e w' ⟨rfl, rfl⟩))
        | (go_at_call 102; ((with_reducible refine (H2 _).mono ?_); rintro e w' ⟨rfl, rfl⟩))
        | (go_at_call 15; refine HS.mono ?_; rintro e w' ⟨rfl, rfl⟩))
      go_ret
      exact ⟨za1 HV.out.symm, rfl⟩
    · have HV := Lib.hid (Ze5 ho h5 hr)
      have br : (v / 1048576 % 32 != 0) = true := by simpa using hr
      generalize v / 1048576 % 32 = r2 at *
      clear hr hs ho h3 hv T h5
      go_enter Tryz.func142, Tryz.ntmps142
      go_wp2_with (first
        | (go_at_call 172; refine (c1 _).mono ?_; rintro e w' ⟨rfl, rfl⟩)
        | (go_at_call 135; refine (HT _).mono ?_; rintro e w' ⟨rfl, rfl⟩)
        | (go_at_call 102; ((with_reducible refine (H5 _).mono ?_); rintro e w' ⟨rfl, rfl⟩))
        | (go_at_call 102; ((with_reducible refine (H2 _).mono ?_); rintro e w' ⟨rfl, rfl⟩))
        | (go_at_call 15; refine HS.mono ?_; rintro e w' ⟨rfl, rfl⟩))
      go_ret
      exact ⟨za1 HV.out.symm, rfl⟩
  · have HV := Lib.hid (opW_atw ho h3 h5 (by omega) (by omega))
    rw [zp6] at HV
    have HS := zh2 (atwL.getD f 0) ⟨by exact hs.2.1.1, by exact hs.2.1.2⟩ w T.lasts
    have bs : (srt (atwL.getD f 0) == 10) = false := by simpa using (hs.1 h2).1
    generalize atwL.getD f 0 = a at *
    generalize srt a = k at *
    clear h2 hs ho h3 hv T h5
    go_enter Tryz.func142, Tryz.ntmps142
    go_wp2_with (first
      | (go_at_call 172; refine (c1 _).mono ?_; rintro e w' ⟨rfl, rfl⟩)
      | (go_at_call 135; refine (HT _).mono ?_; rintro e w' ⟨rfl, rfl⟩)
      | (go_at_call 102; ((with_reducible refine (H5 _).mono ?_); rintro e w' ⟨rfl, rfl⟩))
      | (go_at_call 15; refine HS.mono ?_; rintro e w' ⟨rfl, rfl⟩))
    go_ret
    exact ⟨za1 HV.out.symm, rfl⟩
theorem atomic_d (v : Int) (hv : U32 v) (ho : v % 128 = 47) (h3 : v / 4096 % 8 = 3) (w : World) (T : Tab6 w) :
    Calls Tryz.prog 142 #[.int .u32 v] w fun e w' => e = .returned (.int .i64 (opW v)) ∧ w = w' := by
  have HT := fun w => zm1 v hv w
  rw [h3] at HT
  have H5 := fun w => zg6 v 31 27 hv w
  have H2 := fun w => zg6 v 24 20 hv w
  rw [fo_f5, show v / 134217728 % 32 = v / 134217728 by have := hv.1; have := hv.2; omega] at H5
  rw [zX2] at H2
  obtain ⟨f, h5, hf⟩ : ∃ f : Nat, v / 134217728 = (f : Int) ∧ f < 32 := ⟨(v / 134217728).toNat, by have := hv.1; omega, by have := hv.2; omega⟩
  rw [h5] at H5
  have c1 := fun w => atd_c hf w
  have hlt : (f : Int) < 32 := by omega
  have hs := Zp8 ⟨f, hf⟩
  simp only at hs
  by_cases h2 : f = 2
  · subst h2
    have HS := zh2 55 ⟨by decide, by decide⟩ w T.lasts
    rw [show srt 55 = 10 by decide] at HS
    rw [show atdL.getD 2 0 = 55 by decide] at c1
    by_cases hr : v / 1048576 % 32 = 0
    · have HV := Lib.hid ((opW_lr ho h5 hr).2 h3)
      rw [hr] at H2
      clear hr hs ho h3 hv T h5
      go_enter Tryz.func142, Tryz.ntmps142
      go_wp2_with (first
        | (go_at_call 173; refine (c1 _).mono ?_; rintro e w' ⟨rfl, rfl⟩)
        | (go_at_call 135; refine (HT _).mono ?_; rintro e w' ⟨rfl, rfl⟩)
        | (go_at_call 102; ((with_reducible refine (H5 _).mono ?_); rintro e w' ⟨rfl, rfl⟩))
        | (go_at_call 102; ((with_reducible refine (H2 _).mono ?_); rintro e w' ⟨rfl, rfl⟩))
        | (go_at_call 15; refine HS.mono ?_; rintro e w' ⟨rfl, rfl⟩))
      go_ret
      exact ⟨za1 HV.out.symm, rfl⟩
    · have HV := Lib.hid (Ze5 ho h5 hr)
      have br : (v / 1048576 % 32 != 0) = true := by simpa using hr
      generalize v / 1048576 % 32 = r2 at *
      clear hr hs ho h3 hv T h5
      go_enter Tryz.func142, Tryz.ntmps142
      go_wp2_with (first
        | (go_at_call 173; refine (c1 _).mono ?_; rintro e w' ⟨rfl, rfl⟩)
        | (go_at_call 135; refine (HT _).mono ?_; rintro e w' ⟨rfl, rfl⟩)
        | (go_at_call 102; ((with_reducible refine (H5 _).mono ?_); rintro e w' ⟨rfl, rfl⟩))
        | (go_at_call 102; ((with_reducible refine (H2 _).mono ?_); rintro e w' ⟨rfl, rfl⟩))
        | (go_at_call 15; refine HS.mono ?_; rintro e w' ⟨rfl, rfl⟩))
      go_ret
      exact ⟨za1 HV.out.symm, rfl⟩
  · have HV := Lib.hid (opW_atd ho h3 h5 (by omega) (by omega))
    rw [zp6] at HV
    have HS := zh2 (atdL.getD f 0) ⟨by exact hs.2.2.1, by exact hs.2.2.2⟩ w T.lasts
    have bs : (srt (atdL.getD f 0) == 10) = false := by simpa using (hs.1 h2).2
    generalize atdL.getD f 0 = a at *
    generalize srt a = k at *
    clear h2 hs ho h3 hv T h5
    go_enter Tryz.func142, Tryz.ntmps142
    go_wp2_with (first
      | (go_at_call 173; refine (c1 _).mono ?_; rintro e w' ⟨rfl, rfl⟩)
      | (go_at_call 135; refine (HT _).mono ?_; rintro e w' ⟨rfl, rfl⟩)
      | (go_at_call 102; ((with_reducible refine (H5 _).mono ?_); rintro e w' ⟨rfl, rfl⟩))
      | (go_at_call 15; refine HS.mono ?_; rintro e w' ⟨rfl, rfl⟩))
    go_ret
    exact ⟨za1 HV.out.symm, rfl⟩
theorem atomic_c (v : Int) (hv : U32 v) (ho : v % 128 = 47) (w : World) (T : Tab6 w) :
    Calls Tryz.prog 142 #[.int .u32 v] w fun e w' => e = .returned (.int .i64 (opW v)) ∧ w = w' := by
  by_cases h2 : v / 4096 % 8 = 2
  · exact atomic_w v hv ho h2 w T
  by_cases h3 : v / 4096 % 8 = 3
  · exact atomic_d v hv ho h3 w T
  have HV := Lib.hid (opW_atx ho rfl (f3_lt v) h2 h3)
  have HT := fun w => zm1 v hv w
  have H5 := fun w => zg6 v 31 27 hv w
  have HS := zh2 0 ⟨by decide, by decide⟩ w T.lasts
  rw [show srt 0 = 0 by decide] at HS
  have b2 : (v / 4096 % 8 == 2) = false := by simpa using h2
  have b3 : (v / 4096 % 8 == 3) = false := by simpa using h3
  generalize v / 4096 % 8 = f at *
  generalize ze1 v 31 27 = x at *
  clear h2 h3 ho hv T
  go_enter Tryz.func142, Tryz.ntmps142
  go_wp2_with (first
    | (go_at_call 135; refine (HT _).mono ?_; rintro e w' ⟨rfl, rfl⟩)
    | (go_at_call 102; refine (H5 _).mono ?_; rintro e w' ⟨rfl, rfl⟩)
    | (go_at_call 15; refine HS.mono ?_; rintro e w' ⟨rfl, rfl⟩))
  go_ret
  exact ⟨za1 HV.out.symm, rfl⟩
theorem pair_c (v : Int) (hv : U32 v) (ho : v % 128 = 51) (w : World) :
    Calls Tryz.prog 138 #[.int .u32 v] w fun e w' => e = .returned (.int .i64 (opW v)) ∧ Below w.heap.size w w' := by
  obtain ⟨f, h3, hf⟩ := zA4 v
  have HV := Lib.hid (opW_pair ho h3 hf)
  have HT := fun w => zm1 v hv w
  rw [h3] at HT
  have H7 := fun w => zn0 v hv w
  have HE := fun a b w => zv9 (v / 33554432) a b w
  have hlt : (f : Int) < 8 := by omega
  have HB : Hid (Below w.heap.size w ((w.alloc (.cells #[.int .i64 35, .int .i64 37, .int .i64 38, .int .i64 39, .int .i64 40, .int .i64 41, .int .i64 43, .int .i64 44] 149)).alloc (.cells #[.int .i64 36, .int .i64 0, .int .i64 0, .int .i64 0, .int .i64 0, .int .i64 42, .int .i64 0, .int .i64 0] 149))) := ((Below.refl _ _).alloc (Nat.le_refl _) _).alloc (by simp) _
  have hc1 : ((w.alloc (.cells #[.int .i64 35, .int .i64 37, .int .i64 38, .int .i64 39, .int .i64 40, .int .i64 41, .int .i64 43, .int .i64 44] 149)).alloc (.cells #[.int .i64 36, .int .i64 0, .int .i64 0, .int .i64 0, .int .i64 0, .int .i64 42, .int .i64 0, .int .i64 0] 149)).cell? ⟨w.heap.size, f, none⟩ = some (.int .i64 (Zl5.getD f 0)) := by
    rw [Blk.cell ((Blk.new _ _ w).alloc _) f]
    exact zB2 (l := Zl5) hf
  have hc2 : ((w.alloc (.cells #[.int .i64 35, .int .i64 37, .int .i64 38, .int .i64 39, .int .i64 40, .int .i64 41, .int .i64 43, .int .i64 44] 149)).alloc (.cells #[.int .i64 36, .int .i64 0, .int .i64 0, .int .i64 0, .int .i64 0, .int .i64 42, .int .i64 0, .int .i64 0] 149)).cell? ⟨w.heap.size + 1, f, none⟩ = some (.int .i64 (zJ9.getD f 0)) := by
    have h := Blk.new #[.int .i64 36, .int .i64 0, .int .i64 0, .int .i64 0, .int .i64 0, .int .i64 42, .int .i64 0, .int .i64 0] 149 (w.alloc (.cells #[.int .i64 35, .int .i64 37, .int .i64 38, .int .i64 39, .int .i64 40, .int .i64 41, .int .i64 43, .int .i64 44] 149))
    have e : (w.alloc (.cells #[.int .i64 35, .int .i64 37, .int .i64 38, .int .i64 39, .int .i64 40, .int .i64 41, .int .i64 43, .int .i64 44] 149)).heap.size = w.heap.size + 1 := by simp
    rw [e] at h
    rw [h.cell f]
    exact zB2 (l := zJ9) hf
  generalize v / 33554432 = s at *
  generalize Zl5.getD f 0 = a at *
  generalize zJ9.getD f 0 = b at *
  generalize opW v = r at *
  clear h3 hv ho
  go_enter Tryz.func138, Tryz.ntmps138
  go_upto_region 3 with (fail)
  generalize (w.alloc (.cells _ 149)).alloc (.cells _ 149) = w1 at *
  go_quiet (first
    | (go_at_call 135; refine Calls.quiet_of_same ((HT _).mono (fun _ _ ⟨he, hw⟩ => ⟨he, hw.symm⟩)))
    | (go_at_call 170; refine Calls.quiet_of_same ((H7 _).mono (fun _ _ ⟨he, hw⟩ => ⟨he, hw.symm⟩)))
    | (go_at_call 171; refine Calls.quiet_of_same ((HE _ _ _).mono (fun _ _ ⟨he, hw⟩ => ⟨he, hw.symm⟩))))
  go_wp2
  go_ret
  exact ⟨za1 HV.out.symm, HB.out.trans ((zg1 _).mono (Below.size HB.out))⟩
theorem pairw_c (v : Int) (hv : U32 v) (ho : v % 128 = 59) (w : World) :
    Calls Tryz.prog 139 #[.int .u32 v] w fun e w' => e = .returned (.int .i64 (opW v)) ∧ Below w.heap.size w w' := by
  obtain ⟨f, h3, hf⟩ := zA4 v
  have HV := Lib.hid (Zi1 ho h3 hf)
  have HT := fun w => zm1 v hv w
  rw [h3] at HT
  have H7 := fun w => zn0 v hv w
  have HE := fun a b w => zv9 (v / 33554432) a b w
  have hlt : (f : Int) < 8 := by omega
  have HB : Hid (Below w.heap.size w ((w.alloc (.cells #[.int .i64 45, .int .i64 47, .int .i64 0, .int .i64 0, .int .i64 0, .int .i64 48, .int .i64 0, .int .i64 0] 149)).alloc (.cells #[.int .i64 46, .int .i64 0, .int .i64 0, .int .i64 0, .int .i64 0, .int .i64 49, .int .i64 0, .int .i64 0] 149))) := ((Below.refl _ _).alloc (Nat.le_refl _) _).alloc (by simp) _
  have hc1 : ((w.alloc (.cells #[.int .i64 45, .int .i64 47, .int .i64 0, .int .i64 0, .int .i64 0, .int .i64 48, .int .i64 0, .int .i64 0] 149)).alloc (.cells #[.int .i64 46, .int .i64 0, .int .i64 0, .int .i64 0, .int .i64 0, .int .i64 49, .int .i64 0, .int .i64 0] 149)).cell? ⟨w.heap.size, f, none⟩ = some (.int .i64 (zJ1.getD f 0)) := by
    rw [Blk.cell ((Blk.new _ _ w).alloc _) f]
    exact zB2 (l := zJ1) hf
  have hc2 : ((w.alloc (.cells #[.int .i64 45, .int .i64 47, .int .i64 0, .int .i64 0, .int .i64 0, .int .i64 48, .int .i64 0, .int .i64 0] 149)).alloc (.cells #[.int .i64 46, .int .i64 0, .int .i64 0, .int .i64 0, .int .i64 0, .int .i64 49, .int .i64 0, .int .i64 0] 149)).cell? ⟨w.heap.size + 1, f, none⟩ = some (.int .i64 (zw6.getD f 0)) := by
    have h := Blk.new #[.int .i64 46, .int .i64 0, .int .i64 0, .int .i64 0, .int .i64 0, .int .i64 49, .int .i64 0, .int .i64 0] 149 (w.alloc (.cells #[.int .i64 45, .int .i64 47, .int .i64 0, .int .i64 0, .int .i64 0, .int .i64 48, .int .i64 0, .int .i64 0] 149))
    have e : (w.alloc (.cells #[.int .i64 45, .int .i64 47, .int .i64 0, .int .i64 0, .int .i64 0, .int .i64 48, .int .i64 0, .int .i64 0] 149)).heap.size = w.heap.size + 1 := by simp
    rw [e] at h
    rw [h.cell f]
    exact zB2 (l := zw6) hf
  generalize v / 33554432 = s at *
  generalize zJ1.getD f 0 = a at *
  generalize zw6.getD f 0 = b at *
  generalize opW v = r at *
  clear h3 hv ho
  go_enter Tryz.func139, Tryz.ntmps139
  go_upto_region 3 with (fail)
  generalize (w.alloc (.cells _ 149)).alloc (.cells _ 149) = w1 at *
  go_quiet (first
    | (go_at_call 135; refine Calls.quiet_of_same ((HT _).mono (fun _ _ ⟨he, hw⟩ => ⟨he, hw.symm⟩)))
    | (go_at_call 170; refine Calls.quiet_of_same ((H7 _).mono (fun _ _ ⟨he, hw⟩ => ⟨he, hw.symm⟩)))
    | (go_at_call 171; refine Calls.quiet_of_same ((HE _ _ _).mono (fun _ _ ⟨he, hw⟩ => ⟨he, hw.symm⟩))))
  go_wp2
  go_ret
  exact ⟨za1 HV.out.symm, HB.out.trans ((zg1 _).mono (Below.size HB.out))⟩
end Go.Proofs.YtmamblgpekafbaaGreatDoor
