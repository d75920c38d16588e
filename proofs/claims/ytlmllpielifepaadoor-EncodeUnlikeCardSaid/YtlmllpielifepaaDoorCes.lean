/- The contract of the document's List. The contract of the document's Same. What is asked of the program's functions of package encode (each proved of the code, at its round); the laws on words, walked over it. -/
import Derived.Test.YtlmllpielifepaaDoorRows
import Derived.Test.YtlmllpielifepaaDoorBa
import Derived.Test.YtlmllpielifepaaDoorJn
import Derived.Test.YtlmllpielifepaaDoorCqd
import Derived.WalkKit
import Derived.WalkLawsBesides
import Derived.Deep.QuietTactic
import Derived.BigQuiet
import Derived.WalkSmall
import Derived.WalkSpells
import Derived.Lib.Hide
import Derived.IntWalk
import Derived.Below
import Derived.Outline
import Derived.LoopTactic
import Derived.Deep.LoopGhost
import Derived.Test.YtlmllpielifepaaDoorEw
import Derived.Test.YtlmllpielifepaaDoorRg
import Derived.Test.YtlmllpielifepaaDoorWo
namespace Go.Proofs.YtlmllpielifepaaDoor
open Go.RowKit

/-- The word of the four bytes from a place on. -/
def word4 (bs : List Int) (n : Nat) : Int := bs.getD n 0 + 256 * bs.getD (n + 1) 0 + 65536 * bs.getD (n + 2) 0 + 16777216 * bs.getD (n + 3) 0
/-- The instructions of the first 4 k bytes. -/
def lstK (bs : List Int) (k : Nat) : List Ins := (List.range k).map fun j => decI (word4 bs (4 * j))
theorem lstK_len (bs : List Int) (k : Nat) : (lstK bs k).length = k := by simp [lstK]
theorem lstK_succ (bs : List Int) (k : Nat) : lstK bs (k + 1) = lstK bs k ++ [decI (word4 bs (4 * k))] := by
  unfold lstK; rw [List.range_succ, List.map_append]; rfl
def lstI (bs : List Int) : List Ins := lstK bs (bs.length / 4)
def RetM (w : World) (l : List Ins) (e : Ending) (w' : World) : Prop := ∃ A cap, e = .returned (.slice A l.length cap) ∧ Rd w' w'.heap.size A (cellsN l) ∧ Below w.heap.size w w'

theorem w32 {x : Int} (h : 0 ≤ x ∧ x < 4294967296) : IntKind.u32.wrap x = x := by rw [IntKind.wrap_u32]; omega
theorem byte_at {bs : List Int} (hb : ∀ b ∈ bs, 0 ≤ b ∧ b < 256) {i : Nat} (hi : i < bs.length) : 0 ≤ bs.getD i 0 ∧ bs.getD i 0 < 256 := by
  rw [List.getD_eq_getElem?_getD, List.getElem?_eq_getElem hi]
  exact hb _ (List.getElem_mem hi)
theorem Rd.byte {w : World} {B : Nat} {A : Option Addr} {bs : List Int} (h : Rd w B A (bs.map (Value.int .u8))) {i : Nat} (hi : i < bs.length) : ∃ b off, A = some ⟨b, off, none⟩ ∧ b < B ∧ ∀ j, j < bs.length → w.cell? ⟨b, off + j, none⟩ = some (.int .u8 (bs.getD j 0)) := by
  rcases h with h | ⟨b, off, rfl, hb, hc⟩
  · have := congrArg List.length h; simp at this; rw [this] at hi; cases hi
  · refine ⟨b, off, rfl, hb, fun j hj => hc j _ ?_⟩
    rw [List.getElem?_map, List.getD_eq_getElem?_getD, List.getElem?_eq_getElem hj]
    rfl
theorem grown_of' {w w' : World} (h : Below w.heap.size w w') : w.grownBy w' none := ⟨h.os, h.tape, h.output, h.size, fun k hk _ => h.block k hk⟩
theorem row_on {w w' : World} {base : Nat} {e : TypeId} {z n : Nat} {v : Value} {xs : List Value} (h : w.ownsRow base e z v n xs) (hb : Below w.heap.size w w') : w'.ownsRow base e z v n xs :=
  h.kept (grown_of' hb) (by cases v.ownBlock <;> simp)
theorem drewN_belowL (w : World) (n : Nat) : Below w.heap.size w (w.drewN n) := ⟨rfl, rfl, rfl, Nat.le_refl _, fun _ _ => rfl⟩
theorem past_grown9 {w w' : World} {o : Obj} {r : Option Nat} {B : Nat} (h : (w.alloc o).grownBy w' r) (hB : B ≤ w.heap.size) (hr : ∀ k, r = some k → B ≤ k) : Below B w w' :=
  ((Below.refl B w).alloc hB o).grown h (by simp; omega) hr
theorem cells_new9 (d : Ins) (w : World) (t : TypeId) : ∀ j u, (insCells d).toList[j]? = some u → (w.alloc (.cells (insCells d) t)).cell? ((⟨w.heap.size, 0, none⟩ : Addr).add j) = some u := by
  intro j u hu
  have hadd : (⟨w.heap.size, 0, none⟩ : Addr).add j = ⟨w.heap.size, j, none⟩ := by unfold Addr.add; split <;> simp_all
  rw [hadd, (Blk.new (insCells d) t w).cell j]
  simpa using hu
theorem RetM.of_own {w w' : World} {l : List Ins} {base : Nat} {e : TypeId} {n : Nat} {v : Value} (hn : n = l.length) (h : w'.ownsRow base e 9 v n (cellsN l)) (hb : Below w.heap.size w w') : RetM w l (.returned v) w' := by
  obtain ⟨A, c, rfl, hr, _, _⟩ := row_form9 h
  subst hn
  exact ⟨A, c, rfl, hr, hb⟩
set_option maxHeartbeats 1000000 in
theorem rlist_any (A : Option Addr) (cap : Nat) (bs : List Int) (w : World) (hb : ∀ b ∈ bs, 0 ≤ b ∧ b < 256) (hl : bs.length ≤ 5000) (hr : Rd w w.heap.size A (bs.map (Value.int .u8))) :
    Calls Tryd.prog 16 #[.slice A bs.length cap] w (RetM w (lstI bs)) := by
  obtain ⟨i0, hi, hz0, hz1, hz2⟩ := info_parts info_inst
  have HR := Lib.hid hr
  have HB := Lib.hid (fun i (h : i < bs.length) => byte_at hb h)
  clear hr hb
  go_enter Tryd.func16, Tryd.ntmps16
  go_wp2
  go_loopw [3, 4] (fun v3 v4 wr => BW w wr ∧ ∃ k n : Nat, v4 = .int .i64 n ∧ n = 4 * k ∧ n ≤ bs.length ∧ Hid (wr.ownsRow w.heap.size 23 9 v3 k (cellsN (lstK bs k)))) (fun _ v4 _ => bs.length + 8 - (intOf v4).toNat)
  case atStart => exact ⟨Below.refl _ _, 0, 0, rfl, rfl, by omega, (show Hid _ from World.ownsRow_nil _ _ _ _)⟩
  case round =>
    obtain ⟨hbw, k, n, rfl, hnk, hn, HO⟩ := hrel
    obtain ⟨w1, rfl⟩ : ∃ w1 : World, w1 = wr := ⟨_, rfl⟩
    have HNK := Lib.hid hnk
    have hkb : k ≤ 1250 := by omega
    clear hnk
    by_cases hlt : n + 4 ≤ bs.length
    · have hltI : (n : Int) + 4 ≤ bs.length := by omega
      obtain ⟨b, off, rfl, hblt, hc⟩ := HR.out.byte (i := n) (by omega)
      have hcw := fun j (hj : j < bs.length) => (Below.cell hbw (p := ⟨b, off + j, none⟩) hblt).trans (hc j hj)
      have q0 := hcw n (by omega)
      have q1 := hcw (n + 1) (by omega)
      have q2 := hcw (n + 2) (by omega)
      have q3 := hcw (n + 3) (by omega)
      have r0 := HB.out n (by omega)
      have r1 := HB.out (n + 1) (by omega)
      have r2 := HB.out (n + 2) (by omega)
      have r3 := HB.out (n + 3) (by omega)
      have HW4 : Hid (∀ a b c d, bs.getD n 0 = a → bs.getD (n + 1) 0 = b → bs.getD (n + 2) 0 = c → bs.getD (n + 3) 0 = d → word4 bs n = a + 256 * b + 65536 * c + 16777216 * d) := by
        intro a b c d h1 h2 h3 h4; unfold word4; rw [h1, h2, h3, h4]
      obtain ⟨y0, hy0⟩ : ∃ y, bs.getD n 0 = y := ⟨_, rfl⟩
      obtain ⟨y1, hy1⟩ : ∃ y, bs.getD (n + 1) 0 = y := ⟨_, rfl⟩
      obtain ⟨y2, hy2⟩ : ∃ y, bs.getD (n + 2) 0 = y := ⟨_, rfl⟩
      obtain ⟨y3, hy3⟩ : ∃ y, bs.getD (n + 3) 0 = y := ⟨_, rfl⟩
      have HV := Lib.hid (HW4.out _ _ _ _ hy0 hy1 hy2 hy3)
      rw [hy0] at q0 r0
      rw [hy1] at q1 r1
      rw [hy2] at q2 r2
      rw [hy3] at q3 r3
      clear hy0 hy1 hy2 hy3 HW4 hc hcw
      have s1 : (n : Int) + 1 < bs.length := by omega
      have s2 : (n : Int) + 2 < bs.length := by omega
      have s3 : (n : Int) + 3 < bs.length := by omega
      have s0 : (n : Int) < bs.length := by omega
      have z1 : IntKind.i64.wrap ((n : Int) + 1) = (n : Int) + 1 := IntWalk.i64_in _ (by omega)
      have z2 : IntKind.i64.wrap ((n : Int) + 2) = (n : Int) + 2 := IntWalk.i64_in _ (by omega)
      have z3 : IntKind.i64.wrap ((n : Int) + 3) = (n : Int) + 3 := IntWalk.i64_in _ (by omega)
      have t1 : ((n : Int) + 1).toNat = n + 1 := by omega
      have t2 : ((n : Int) + 2).toNat = n + 2 := by omega
      have t3 : ((n : Int) + 3).toNat = n + 3 := by omega
      have p1 : (0 : Int) ≤ (n : Int) + 1 := by omega
      have p2 : (0 : Int) ≤ (n : Int) + 2 := by omega
      have p3 : (0 : Int) ≤ (n : Int) + 3 := by omega
      have e0 := w32 (x := y0) (by omega)
      have e1 := w32 (x := y1) (by omega)
      have e2 := w32 (x := y2) (by omega)
      have e3 := w32 (x := y3) (by omega)
      have e4 := w32 (x := 256 * y1) (by omega)
      have e5 := w32 (x := 65536 * y2) (by omega)
      have e6 := w32 (x := 16777216 * y3) (by omega)
      have e7 := w32 (x := y0 + 256 * y1) (by omega)
      have e8 := w32 (x := y0 + 256 * y1 + 65536 * y2) (by omega)
      have e9 := w32 (x := y0 + 256 * y1 + 65536 * y2 + 16777216 * y3) (by omega)
      have hvr : U32 (y0 + 256 * y1 + 65536 * y2 + 16777216 * y3) := ⟨by omega, by omega⟩
      go_upto_region 5 with (fail)
      go_quiet (fail)
      clear z1 z2 z3 t1 t2 t3 e0 e1 e2 e3 e4 e5 e6 e7 e8 e9 q0 q1 q2 q3
      go_upto_region 6 with (fail)
      obtain ⟨w2, hw2⟩ : ∃ w2, w1.drewN nq = w2 := ⟨_, rfl⟩
      have hd2 : Below w1.heap.size w1 w2 := by rw [← hw2]; exact drewN_belowL _ _
      have hbw2 : BW w w2 := hbw.on hd2
      have HO2 : Hid (w2.ownsRow w.heap.size 23 9 u3 k (cellsN (lstK bs k))) := row_on HO.out hd2
      rw [hw2]
      clear hw2 hd2 hbw HO
      have KD := fun w1 (h : BW w w1) => d_decode (y0 + 256 * y1 + 65536 * y2 + 16777216 * y3) hvr h
      rw [← HV.out] at KD ⊢
      obtain ⟨V, hVV⟩ : ∃ V, word4 bs n = V := ⟨_, rfl⟩
      rw [hVV] at KD ⊢
      have HVV := Lib.hid hVV
      clear hVV
      unfold insV at KD
      obtain ⟨d, hd⟩ : ∃ d, decI V = d := ⟨_, rfl⟩
      rw [hd] at KD
      have HD := Lib.hid hd
      clear hd
      go_upto_region 7 with (first
        | (go_at_call 42; refine (KD _ hbw2).mono ?_; rintro e w4 ⟨rfl, hb4, hq⟩; have HO4 := Lib.hid (row_on HO2.out hq); clear hq))
      have HX := Blk.new (insCells d) 23 w4
      have hb5 := hb4.new (.cells (insCells d) 23)
      have HO5 := Lib.hid (HO4.out.alloc (.cells (insCells d) 23))
      unfold insCells at HX hb5 HO5
      generalize w4.alloc (.cells _ 23) = w5 at *
      obtain ⟨g, hg⟩ : ∃ g, w4.heap.size = g := ⟨_, rfl⟩
      rw [hg] at HX ⊢
      clear hg hb4 HO4 HO2 hbw2 KD
      go_wp2_with (first
        | (with_reducible refine load_blk (o := ⟨some 50, _, _, _, _, _⟩) rfl 23 (.tmp 6) rfl HX rfl Tryd.underlying23 rfl (by kernel_rfl) ?_)
        | (at_builtin; refine wpList_append_own _ rfl _ _ 31 rfl w.heap.size 23 i0 (.agg (insCells ⟨0, 0, 0, 0, 0, false, false, 0, 0⟩)) 9 64 Tryd.underlying31 hi hz0 hz1 hz2 rfl (by decide) _ k (cellsN (lstK bs k)) rfl (HO5.out.alloc _) ⟨w5.heap.size, 0, none⟩ 1 1 (insCells d).toList rfl rfl (cells_new9 d _ _) (ins_one' d) (by unfold maxLen; omega) (by omega) (by have := Below.size hb5; simp; omega) ?_))
      intro v7 w7 hown hgrow hnn
      clear hnn
      have hb7 : BW w w7 := Below.grown (BW.new hb5 _) hgrow (by have := Below.size hb5; simp; omega) (fun q hq => (HO5.out.lt q hq).1)
      have HO7 : Hid (w7.ownsRow w.heap.size 23 9 v7 (k + 1) (cellsN (lstK bs (k + 1)))) := by
        have e : cellsN (lstK bs (k + 1)) = cellsN (lstK bs k) ++ (insCells d).toList := by
          rw [lstK_succ, ← HNK.out, HVV.out, HD.out, cellsN_append]
          unfold cellsN
          simp
        show World.ownsRow _ _ _ _ _ _ _
        rw [e]
        exact hown
      clear hown hgrow HX hb5 HO5
      go_wp2
      go_roundw
      case rel => exact ⟨hb7, k + 1, n + 4, by go_num, by have := HNK.out; omega, by omega, HO7⟩
      case measure => simp [intOf]; omega
    · have hkk : k = bs.length / 4 := by have := HNK.out; omega
      have HK := Lib.hid hkk
      clear hkk
      go_wp2
      go_ret
      have hk2 : k = (lstI bs).length := by unfold lstI; rw [lstK_len]; exact HK.out
      have ho2 : w1.ownsRow w.heap.size 23 9 u3 k (cellsN (lstI bs)) := by unfold lstI; rw [← HK.out]; exact HO.out
      exact RetM.of_own hk2 ho2 hbw
end Go.Proofs.YtlmllpielifepaaDoor
namespace Go.Proofs.YtlmllpielifepaaDoor
open Go.RowKit

theorem below_drewM {B : Nat} {a w : World} (h : Below B a w) (n : Nat) : Below B a (w.drewN n) := ⟨h.os, h.tape, h.output, h.size, h.block⟩
set_option maxHeartbeats 1000000 in
theorem sameN_any (A A' : Option Addr) (cap cap' : Nat) (l l' : List Ins) (w : World) (hl : l.length ≤ 9223372036854775807) (hr : Rd w w.heap.size A (cellsN l)) (hr' : Rd w w.heap.size A' (cellsN l')) (b : Bool) (hb : b = true ↔ l = l') :
    Calls Tryd.prog 14 #[.slice A l.length cap, .slice A' l'.length cap'] w fun e w' => e = .returned (.bool b) ∧ Below w.heap.size w w' := by
  have HBB : Hid (∀ c : Bool, (c = true ↔ l = l') → Ending.returned (.bool c) = .returned (.bool b)) := fun c hc => ret_bool (by rw [Bool.eq_iff_iff, hc, hb])
  clear hb
  by_cases hne : l.length = l'.length
  · have hb : ((l.length : Int) != l'.length) = false := by simp [hne]
    have HN := Lib.hid hne; clear hne
    have HR := Lib.hid hr
    have HR' := Lib.hid hr'
    clear hr hr'
    go_enter Tryd.func14, Tryd.ntmps14
    go_wp2
    go_loopw [5] (fun i wx => Below w.heap.size w wx ∧ ∃ k : Nat, k ≤ l.length ∧ i = .int .i64 k ∧ l.take k = l'.take k) (fun i _ => l.length - (intOf i).toNat)
    case atStart => exact ⟨Below.refl _ _, 0, by omega, rfl, by simp⟩
    case round =>
      obtain ⟨hbl, k, hk, rfl, htk⟩ := hrel
      have HT := Lib.hid htk; clear htk
      by_cases hlt : k < l.length
      · have hlt' : k < l'.length := by have := HN.out; omega
        obtain ⟨b1, o1, rfl, _, c0, c1, c2, c3, c4, c5, c6, c7, c8⟩ := (HR.out.below hbl).ins hlt
        obtain ⟨b2, o2, rfl, _, d0, d1, d2, d3, d4, d5, d6, d7, d8⟩ := (HR'.out.below hbl).ins hlt'
        have hltI : (k : Int) < l.length := by omega
        have hltJ : (k : Int) < l'.length := by omega
        have hq := fun w => run_neq_ins l[k] l'[k] w
        have HE := Lib.hid (eqB_iff l[k] l'[k])
        obtain ⟨x, hx⟩ : ∃ x, l[k] = x := ⟨_, rfl⟩
        obtain ⟨y, hy⟩ : ∃ y, l'[k] = y := ⟨_, rfl⟩
        rw [hx] at c0 c1 c2 c3 c4 c5 c6 c7 c8 hq HE
        rw [hy] at d0 d1 d2 d3 d4 d5 d6 d7 d8 hq HE
        have HX := Lib.hid hx
        have HY := Lib.hid hy
        clear hx hy
        unfold insCells at hq
        obtain ⟨p0, p1, p2, p3, p4, p5, p6, p7, p8⟩ := x
        obtain ⟨q0, q1, q2, q3, q4, q5, q6, q7, q8⟩ := y
        simp only at c0 c1 c2 c3 c4 c5 c6 c7 c8 d0 d1 d2 d3 d4 d5 d6 d7 d8 hq
        cases hb2 : eqB ⟨p0, p1, p2, p3, p4, p5, p6, p7, p8⟩ ⟨q0, q1, q2, q3, q4, q5, q6, q7, q8⟩
        · have HD : Hid (l[k] ≠ l'[k]) := by
            show _ ≠ _
            rw [HX.out, HY.out]
            intro e
            have := HE.out.2 e
            rw [hb2] at this
            cases this
          rw [hb2] at hq
          clear hb2 HE
          simp only [Bool.not_false] at hq
          go_wp2
          go_quiet (fail)
          go_wp2
          go_ret
          refine ⟨HBB.out _ ⟨fun h => (by cases h), fun h => absurd ?_ HD.out⟩, below_drewM hbl _⟩
          simp only [h]
        · have HD : Hid (l[k] = l'[k]) := by
            show _ = _
            rw [HX.out, HY.out]
            exact HE.out.1 hb2
          rw [hb2] at hq
          clear hb2 HE
          simp only [Bool.not_true] at hq
          go_wp2
          go_quiet (fail)
          go_wp2
          go_roundw
          case rel =>
            refine ⟨below_drewM hbl _, k + 1, by omega, by go_num, ?_⟩
            rw [List.take_succ_eq_append_getElem hlt, List.take_succ_eq_append_getElem hlt', HT.out, HD.out]
          case measure => simp [intOf]; omega
      · go_wp2
        go_ret
        have ht := HT.out
        rw [List.take_of_length_le (by omega), List.take_of_length_le (by have := HN.out; omega)] at ht
        exact ⟨HBB.out _ ⟨fun _ => ht, fun _ => rfl⟩, hbl⟩
  · have hb : ((l.length : Int) != l'.length) = true := by simp; omega
    have HN := Lib.hid hne; clear hne hr hr'
    go_enter Tryd.func14, Tryd.ntmps14
    go_wp2
    go_ret
    exact ⟨HBB.out _ ⟨fun h => (by cases h), fun e => absurd (by rw [e]) HN.out⟩, Below.refl _ _⟩
end Go.Proofs.YtlmllpielifepaaDoor
namespace Go.Proofs.YtlmllpielifepaaDoor
open Go.RowKit

/-- The word, and the error's number. -/
def encW (i : Ins) : Int := if rgtB i then wordV i else 0
def encE (i : Ins) : Int := if rgtB i then 0 else 1
/-- In every world behind W. -/
structure Cenc (W : World) : Prop where
  right : ∀ i w, BW W w → I64 i.op → Calls Tryd.prog 10 #[insV i] w fun e w' => e = .returned (.bool (rgtB i)) ∧ Below w.heap.size w w'
  encode : ∀ i w, BW W w → I64 i.op → Calls Tryd.prog 8 #[insV i] w fun e w' => e = .returned (.tuple #[.int .u32 (encW i), .int .i64 (encE i)]) ∧ Below w.heap.size w w'
  list : ∀ A cap (bs : List Int) w, BW W w → Rd w w.heap.size A (bs.map (Value.int .u8)) → (∀ b ∈ bs, 0 ≤ b ∧ b < 256) → bs.length ≤ 5000 → bs.length ≤ cap → cap ≤ 9223372036854775807 → Calls Tryd.prog 15 #[.slice A bs.length cap] w (RetM w (lstI bs))
theorem Cenc.on {W w : World} (C : Cenc W) (h : BW W w) : Cenc w :=
  ⟨fun i x hx => C.right i x (h.on hx), fun i x hx => C.encode i x (h.on hx), fun A c b x hx => C.list A c b x (h.on hx)⟩

theorem rgt_addi : rgtB ⟨22, 1, 0, 0, 10, false, false, 0, 0⟩ = true ∧ wordV ⟨22, 1, 0, 0, 10, false, false, 0, 0⟩ = 10485907 := by
  refine ⟨by decide, ?_⟩
  decide
theorem rgt_addi2 : rgtB ⟨22, 1, 0, 0, 2048, false, false, 0, 0⟩ = false := by decide
theorem rgt_ecall : rgtB ⟨52, 0, 0, 0, 0, false, false, 0, 0⟩ = true := by decide
theorem alive7_any {W : World} (C : Cenc W) (w : World) (h : BW W w) : Calls Tryd.prog 7 #[] w fun e w' => e = .returned (.bool true) ∧ BW W w' ∧ Below w.heap.size w w' := by
  have H0 : BW w w := Below.refl _ _
  have C' := C.on h
  have HA := fun w1 (h1 : BW w w1) => past h1 (C'.encode ⟨22, 1, 0, 0, 10, false, false, 0, 0⟩ w1 h1 ⟨by decide, by decide⟩)
  have HZ := fun w1 (h1 : BW w w1) => past h1 (C'.encode ⟨22, 1, 0, 0, 2048, false, false, 0, 0⟩ w1 h1 ⟨by decide, by decide⟩)
  have HR := fun w1 (h1 : BW w w1) => past h1 (C'.right ⟨52, 0, 0, 0, 0, false, false, 0, 0⟩ w1 h1 ⟨by decide, by decide⟩)
  have HL := fun w1 (h1 : BW w w1) (hb : Blk #[.int .u8 0, .int .u8 0, .int .u8 0, .int .u8 0, .int .u8 1] 5 w1.heap.size (w1.alloc (.cells #[.int .u8 0, .int .u8 0, .int .u8 0, .int .u8 0, .int .u8 1] 5))) =>
    C'.list (some ⟨w1.heap.size, 0, none⟩) 5 [0, 0, 0, 0, 1] _ (BW.new h1 (.cells #[.int .u8 0, .int .u8 0, .int .u8 0, .int .u8 0, .int .u8 1] 5)) (.inr ⟨_, 0, rfl, hb.lt, fun i v hv => by rw [Nat.zero_add, hb.cell]; simpa using hv⟩) (by decide) (by decide) (by decide) (by decide)
  rw [show encW ⟨22, 1, 0, 0, 10, false, false, 0, 0⟩ = 10485907 by unfold encW; rw [rgt_addi.1, if_pos rfl, rgt_addi.2], show encE ⟨22, 1, 0, 0, 10, false, false, 0, 0⟩ = 0 by unfold encE; rw [rgt_addi.1, if_pos rfl]] at HA
  rw [show encW ⟨22, 1, 0, 0, 2048, false, false, 0, 0⟩ = 0 by unfold encW; rw [rgt_addi2]; rfl, show encE ⟨22, 1, 0, 0, 2048, false, false, 0, 0⟩ = 1 by unfold encE; rw [rgt_addi2]; rfl] at HZ
  rw [rgt_ecall] at HR
  unfold insV at HA HZ HR
  simp only at HA HZ HR
  go_enter Tryd.func7, Tryd.ntmps7
  go_wp2_with (first
    | (go_at_call 8; ((with_reducible refine (HA _ (by assumption)).mono ?_); rintro e w1 ⟨rfl, hb1, hq⟩; clear hq))
    | (go_at_call 8; ((with_reducible refine (HZ _ (by assumption)).mono ?_); rintro e w2 ⟨rfl, hb2, hq⟩; clear hq))
    | (go_at_call 10; ((with_reducible refine (HR _ (by assumption)).mono ?_); rintro e w3 ⟨rfl, hb3, hq⟩; clear hq))
    | (go_at_call 15; refine (HL _ hb3 (Blk.new _ _ _)).mono ?_; rintro e w4 ⟨A, cap, rfl, _, hb4⟩; have HX := Lib.hid (BW.on (BW.new hb3 _) hb4); clear hb4))
  go_ret
  exact ⟨rfl, h.on HX.out, HX.out⟩
end Go.Proofs.YtlmllpielifepaaDoor
