/- RamHeld: a hart's own stores don't turn its reservation, and of another hart's just those that overlap it end it. -/
import Derived.Test.YteoemjhhjnkkiaaMj
import Derived.Test.YteoemjhhjnkkiaaOa
set_option maxRecDepth 100000
set_option linter.unusedVariables false
namespace Go.Proofs.Yteoemjhhjnkkiaa
open Go.RowKit

/-! ### Plain -/
theorem stoM_b0 (s : Mst) (h : Int) (x : Wr) : (stoM s h x).b0 = s.b0 := by unfold stoM; split <;> rfl
theorem stoM_len (s : Mst) (h : Int) (x : Wr) : (stoM s h x).l.length ≤ s.l.length + 1 := by
  unfold stoM
  split
  · show (s.l ++ [low x]).length ≤ _; simp
  · omega
theorem resM_b0 (s : Mst) (h a z : Int) : (resM s h a z).b0 = s.b0 ∧ (resM s h a z).l = s.l := by unfold resM; split <;> exact ⟨rfl, rfl⟩
/-- The first k acts stored. -/
def runS (s : Mst) (l : List Ac) (k : Nat) : Mst := (l.take k).foldl (fun s a => stoM s a.hart a.w) s
theorem runS_zero (s : Mst) (l : List Ac) : runS s l 0 = s := by simp [runS]
theorem runS_succ (s : Mst) (l : List Ac) (k : Nat) (h : k < l.length) : runS s l (k + 1) = stoM (runS s l k) l[k].hart l[k].w := by
  unfold runS
  rw [List.take_succ_eq_append_getElem h, List.foldl_append]
  rfl
theorem runS_b0 (s : Mst) (l : List Ac) : ∀ k, k ≤ l.length → (runS s l k).b0 = s.b0
  | 0, _ => by rw [runS_zero]
  | k + 1, h => by rw [runS_succ s l k (by omega), stoM_b0, runS_b0 s l k (by omega)]
theorem runS_len (s : Mst) (l : List Ac) : ∀ k, k ≤ l.length → (runS s l k).l.length ≤ s.l.length + k
  | 0, _ => by rw [runS_zero]; omega
  | k + 1, h => by
    rw [runS_succ s l k (by omega)]
    have h1 := stoM_len (runS s l k) l[k].hart l[k].w
    have h2 := runS_len s l k (by omega)
    omega
theorem hel_same {s : Mst} {t fa fs : Int} {x : Wr} (h : stoOk s.n t x = false ∨ t = 1 ∨ ovl fa fs x.addr x.size = false) : helM (stoM s t x) 1 fa fs = helM s 1 fa fs := by
  unfold stoM
  by_cases hok : stoOk s.n t x = true
  · rw [if_pos hok]
    unfold helM
    show (mayP s.n fa fs && _) = _
    cases hm : mayP s.n fa fs with
    | false => rfl
    | true =>
      have hmo := mayP_out hm
      have e1 : endR t x.addr x.size s.r 2 = (if (1 : Int) ≠ t ∧ ovl (s.r 2) (s.r 3) x.addr x.size = true then 0 else s.r 2) := rfl
      have e2 : endR t x.addr x.size s.r 3 = (if (1 : Int) ≠ t ∧ ovl (s.r 2) (s.r 3) x.addr x.size = true then 0 else s.r 3) := rfl
      show (true && (isHt 1 && ((endR t x.addr x.size s.r 2 == fa) && (endR t x.addr x.size s.r 3 == fs)))) = (true && (isHt 1 && ((s.r 2 == fa) && (s.r 3 == fs))))
      rw [e1, e2]
      split
      · rename_i hc
        have h0 : ((0 : Int) == fs) = false := by simp; omega
        have h1 : ((s.r 2 == fa) && (s.r 3 == fs)) = false := by
          cases hq : ((s.r 2 == fa) && (s.r 3 == fs)) with
          | false => rfl
          | true =>
            simp only [Bool.and_eq_true, beq_iff_eq] at hq
            rw [hq.1, hq.2] at hc
            rcases h with h | h | h
            · rw [hok] at h; cases h
            · exact absurd h.symm hc.1
            · rw [hc.2] at h; cases h
        rw [h0, h1, Bool.and_false]
      · rfl
  · rw [if_neg hok]
theorem hel_gone {s : Mst} {t fa fs : Int} {x : Wr} (hok : stoOk s.n t x = true) (ht : t ≠ 1) (ho : ovl fa fs x.addr x.size = true) : helM (stoM s t x) 1 fa fs = false := by
  unfold stoM
  rw [if_pos hok]
  unfold helM
  show (mayP s.n fa fs && _) = _
  cases hm : mayP s.n fa fs with
  | false => rfl
  | true =>
    have hmo := mayP_out hm
    have e1 : endR t x.addr x.size s.r 2 = (if (1 : Int) ≠ t ∧ ovl (s.r 2) (s.r 3) x.addr x.size = true then 0 else s.r 2) := rfl
    have e2 : endR t x.addr x.size s.r 3 = (if (1 : Int) ≠ t ∧ ovl (s.r 2) (s.r 3) x.addr x.size = true then 0 else s.r 3) := rfl
    show (true && (isHt 1 && ((endR t x.addr x.size s.r 2 == fa) && (endR t x.addr x.size s.r 3 == fs)))) = false
    rw [e1, e2]
    split
    · have h0 : ((0 : Int) == fs) = false := by simp; omega
      rw [h0, Bool.and_false, Bool.and_false, Bool.and_false]
    · rename_i hc
      have h1 : ((s.r 2 == fa) && (s.r 3 == fs)) = false := by
        cases hq : ((s.r 2 == fa) && (s.r 3 == fs)) with
        | false => rfl
        | true =>
          simp only [Bool.and_eq_true, beq_iff_eq] at hq
          rw [hq.1, hq.2] at hc
          exact absurd ⟨fun e => ht e.symm, ho⟩ hc
      rw [h1, Bool.and_false, Bool.and_false]
theorem hel_first (s : Mst) (fa fs : Int) (h0 : s.r 2 = 0 ∧ s.r 3 = 0) : helM (resM s 1 fa fs) 1 fa fs = (mayP s.n fa fs && isHt 1) := by
  unfold resM
  by_cases h : (mayP s.n fa fs && isHt 1) = true
  · rw [if_pos h, h]
    simp only [Bool.and_eq_true] at h
    unfold helM
    show (mayP s.n fa fs && (isHt 1 && ((setR 1 fa fs s.r 2 == fa) && (setR 1 fa fs s.r 3 == fs)))) = true
    rw [h.1, h.2]
    have e1 : setR 1 fa fs s.r 2 = fa := rfl
    have e2 : setR 1 fa fs s.r 3 = fs := rfl
    rw [e1, e2]
    simp
  · rw [if_neg h, Bool.eq_false_iff.2 h]
    unfold helM
    show (mayP s.n fa fs && (isHt 1 && ((s.r 2 == fa) && (s.r 3 == fs)))) = false
    cases hm : mayP s.n fa fs with
    | false => rfl
    | true => rw [hm] at h; exact absurd rfl h

/-! ### The memory of a law, behind W -/
structure LH (W : World) (s : Mst) (p : Pla) (wx : World) : Prop where
  at' : RamAt s p wx
  foot : ∀ k ∈ p.foot, W.heap.size ≤ k
  bw : BW W wx
theorem LH.on {W wx wy : World} {s : Mst} {p : Pla} (h : LH W s p wx) (k : BW wx wy) : LH W s p wy := ⟨h.at'.on k, h.foot, h.bw.on k⟩
theorem LH.fr1 {W wx wy : World} {s s' : Mst} {p : Pla} (h : LH W s p wx) (hr : RamAt s' p wy) (k : Fr [p.g] wx wy) : LH W s' p wy := ⟨hr, h.foot, h.bw.fr1 k h.foot⟩
theorem LH.sto {W wx wy : World} {s s' : Mst} {p p' : Pla} (h : LH W s p wx) (hr : RamAt s' p' wy) (hf : ∀ k ∈ p'.foot, k ∈ p.foot ∨ wx.heap.size ≤ k) (k : Fr p.foot wx wy) : LH W s' p' wy :=
  ⟨hr, fun i hi => by
    rcases hf i hi with h1 | h1
    · exact h.foot i h1
    · have := Below.size h.bw; omega, h.bw.fr k h.foot⟩
theorem BW.frg {W w w' : World} {g : Nat} (h : BW W w) (k : Fr [g] w w') (hg : W.heap.size ≤ g) : BW W w' := h.fr k (fun i hi => by
  have e : i = g := by simpa using hi
  omega)
/-- A block that was there ahead of the memory, or was made behind what it has, stays. -/
theorem fr_keep {F : List Nat} {w w' : World} {cs : Array Value} {t : TypeId} {g : Nat} (k : Fr F w w') (hb : Blk cs t g w) (hF : g ∉ F) : Blk cs t g w' := k.blk hb hF
theorem new_c (A : Option Addr) (cap : Nat) (l : List Int) (w : World) (hl : l.length ≤ cap) (hcap : cap ≤ 9223372036854775807) (hA : A = none → cap = 0 ∧ l = []) (hr : Rd w w.heap.size A (cellsB l)) :
    Calls Try.prog 8 #[.slice A l.length cap] w fun e w' => ∃ p : Pla, e = .returned (.pointer (some ⟨p.g, 0, none⟩)) ∧ LH w (newM l) p w' := by
  cases A with
  | none =>
    obtain ⟨rfl, rfl⟩ := hA rfl
    exact (new_none w).mono fun e w' ⟨p, h1, h2, h3, h4⟩ => ⟨p, h1, h2, h3, h4⟩
  | some ad => exact (new_some ad cap l w hl hcap hr).mono fun e w' ⟨p, h1, h2, h3, h4⟩ => ⟨p, h1, h2, h3, h4⟩
theorem ac_cell {w : World} {A : Option Addr} {l : List Ac} (h : Rd w w.heap.size A (cellsA l)) (hl : 0 < l.length) : ∃ b off, A = some ⟨b, off, none⟩ ∧ b < w.heap.size ∧ ∀ k (hk : k < l.length), w.cell? ⟨b, off + k * 6, none⟩ = some (.int .i64 l[k].kind) ∧ w.cell? ⟨b, off + k * 6 + 1, none⟩ = some (.int .i64 l[k].hart) ∧
    w.cell? ⟨b, off + k * 6 + 2, none⟩ = some (.int .i64 l[k].w.id) ∧ w.cell? ⟨b, off + k * 6 + 3, none⟩ = some (.int .i64 l[k].w.addr) ∧ w.cell? ⟨b, off + k * 6 + 4, none⟩ = some (.int .i64 l[k].w.size) ∧ w.cell? ⟨b, off + k * 6 + 5, none⟩ = some (.int .u64 l[k].w.data) := by
  have hz : ∀ x : Ac, ((acCells x).toList).length = 6 := fun _ => rfl
  rcases h with h0 | ⟨b, off, rfl, hb, hc⟩
  · have := flat_len (fun x => (acCells x).toList) 6 hz l
    have h1 : (cellsA l).length = l.length * 6 := this
    rw [h0] at h1
    simp at h1
    omega
  · refine ⟨b, off, rfl, hb, fun k hk => ?_⟩
    have at_ : ∀ j, j < 6 → w.cell? ⟨b, off + k * 6 + j, none⟩ = (acCells l[k])[j]? := fun j hj => by
      have e := flat_at (fun x => (acCells x).toList) 6 hz l k j hj
      rw [List.getElem?_eq_getElem hk] at e
      have e2 : (cellsA l)[k * 6 + j]? = (acCells l[k]).toList[j]? := e
      have hj2 : j < (acCells l[k]).toList.length := hj
      rw [List.getElem?_eq_getElem hj2] at e2
      have := hc (k * 6 + j) _ e2
      rw [← Nat.add_assoc] at this
      rw [this]
      simp
    exact ⟨at_ 0 (by omega), at_ 1 (by omega), at_ 2 (by omega), at_ 3 (by omega), at_ 4 (by omega), at_ 5 (by omega)⟩
set_option maxHeartbeats 8000000 in
theorem held_walk (A : Option Addr) (cap : Nat) (img : List Int) (B : Option Addr) (bap : Nat) (l : List Ac) (f : Wr) (W : World) (hl : img.length ≤ cap) (hcap : cap ≤ 9223372036854775807) (hA : A = none → cap = 0 ∧ img = []) (hby : Byts img) (hr : Rd W W.heap.size A (cellsB img))
    (hm : l.length ≤ bap) (hbap : bap ≤ 9223372036854775807) (hws : Wacs l) (hra : Rd W W.heap.size B (cellsA l)) (hf : Wwr f) :
    Calls Try.prog 6 #[.slice A img.length cap, .slice B l.length bap, .agg #[.int .i64 f.id, .int .i64 f.addr, .int .i64 f.size, .int .u64 f.data]] W fun e w' => e = .returned (.bool true) ∧ BW W w' := by
  have HAL := Lib.hid (fun w => alive12_any w)
  obtain ⟨fi, fa, fs, fd⟩ := f
  have hfa : fa ≤ 9223372036854775807 := hf.addr.2
  have hi2 : img.length ≤ 9223372036854775807 := by omega
  have hl2 : l.length ≤ 9223372036854775807 := by omega
  clear hf
  by_cases h2 : 200 < img.length
  · have h2' : (200 : Int) < (img.length : Int) := by omega
    go_enter Try.func6, Try.ntmps6
    go_wp2_with fail
    refine (HAL.out _).mono ?_
    rintro e w1 ⟨rfl, hb⟩
    have HB1 := Lib.hid ((show BW W _ from BW.new (Below.refl _ _) _).on hb)
    clear hb
    go_wp2_with fail
    refine (HAL.out _).mono ?_
    rintro e w2 ⟨rfl, hb⟩
    go_wp2
    go_ret
    exact ⟨rfl, HB1.out.on hb⟩
  · have h2' : ¬ (200 : Int) < (img.length : Int) := by omega
    have hn200 : (newM img).b0.length ≤ 200 := by show (img.take 1024).length ≤ 200; rw [List.length_take]; omega
    have hkb : Blk #[.int .i64 fi, .int .i64 fa, .int .i64 fs, .int .u64 fd] 31 W.heap.size (W.alloc (.cells #[.int .i64 fi, .int .i64 fa, .int .i64 fs, .int .u64 fd] 31)) := Blk.new _ _ _
    go_enter Try.func6, Try.ntmps6
    go_wp2_with fail
    refine (HAL.out _).mono ?_
    rintro e w1 ⟨rfl, hb⟩
    have HB1 := Lib.hid ((show BW W _ from BW.new (Below.refl _ _) _).on hb)
    have HK1 := Lib.hid (hkb.on hb)
    have hz1 : W.heap.size < w1.heap.size := (hkb.on hb).lt
    clear hb hkb
    have hr1 := (hr.below HB1.out).mono (Below.size HB1.out)
    have HNEW := Lib.hid (new_c A cap img w1 hl hcap hA hr1)
    have HRA := Lib.hid hra
    clear hr1 hr hra
    go_wp2_with fail
    refine HNEW.out.mono ?_
    rintro e w2 ⟨p, rfl, hlh⟩
    have HLH := Lib.hid hlh
    have HB2 := Lib.hid (HB1.out.on hlh.bw)
    have HK2 := Lib.hid (HK1.out.on hlh.bw)
    have q1 : w2.cell? ⟨W.heap.size, 1, none⟩ = some (.int .i64 fa) := HK2.out.cell 1
    have q2 : w2.cell? ⟨W.heap.size, 2, none⟩ = some (.int .i64 fs) := HK2.out.cell 2
    have HRES := Lib.hid (reserve_c hlh.at' (by omega) 1 fa fs hfa)
    clear hlh HNEW HK1 HB1
    go_wp2_with fail
    refine HRES.out.mono ?_
    rintro e w3 ⟨rfl, hr3, hk3⟩
    have HL3 := Lib.hid (HLH.out.fr1 hr3 hk3)
    have hpg : W.heap.size < p.g := by have := HLH.out.foot _ (foot_mem p).1; omega
    have HB3 := Lib.hid (HB2.out.frg hk3 (by omega))
    have HK3 := Lib.hid (fr_keep hk3 HK2.out (by simp; omega))
    clear hr3 hk3 HLH HRES q1 q2 HB2 HK2
    obtain ⟨s0, hs0⟩ : ∃ s0, s0 = resM (newM img) 1 fa fs := ⟨_, rfl⟩
    have hh0 : helM s0 1 fa fs = (mayP (newM img).n fa fs && isHt 1) := by rw [hs0]; exact hel_first (newM img) fa fs ⟨rfl, rfl⟩
    have hb0 : s0.b0.length ≤ 200 ∧ s0.l.length = 0 := by rw [hs0]; have := resM_b0 (newM img) 1 fa fs; rw [this.1, this.2]; exact ⟨hn200, rfl⟩
    rw [← hs0] at HL3
    rw [← hh0]
    clear hs0 hh0 hn200
    obtain ⟨g, hg⟩ : ∃ g, p.g = g := ⟨_, rfl⟩
    rw [hg]
    clear hpg
    go_wp2
    go_loopw [8, 9] (fun h i wx => ∃ (k : Nat) (q : Pla), k ≤ l.length ∧ k ≤ 40 ∧ i = .int .i64 (k : Int) ∧ h = .bool (helM (runS s0 l k) 1 fa fs) ∧ LH w1 (runS s0 l k) q wx ∧ q.g = g ∧ Blk #[.int .i64 fi, .int .i64 fa, .int .i64 fs, .int .u64 fd] 31 W.heap.size wx ∧ BW W wx) (fun _ i _ => 40 - (intOf i).toNat)
    case atStart => exact ⟨0, p, by omega, by omega, rfl, by rw [runS_zero], by rw [runS_zero]; exact HL3.out, hg, HK3.out, HB3.out⟩
    case round =>
      obtain ⟨k, q, hk1, hk2, rfl, rfl, hlh, hqg, hkk, hbw⟩ := hrel
      clear HL3 HK3 HB3
      have HLH := Lib.hid hlh
      have HQG := Lib.hid hqg
      have HKK := Lib.hid hkk
      have HBW := Lib.hid hbw
      clear hlh hqg hkk hbw
      by_cases hc : k < l.length ∧ k < 40
      · obtain ⟨hc1, hc2⟩ := hc
        have hc1' : (k : Int) < (l.length : Int) := by omega
        have hc2' : (k : Int) < 40 := by omega
        obtain ⟨b, off, hB, hbl, hcell⟩ := ac_cell ((HRA.out.below HBW.out).mono (Below.size HBW.out)) (by omega)
        obtain ⟨g0, g1, g2, g3, g4, g5⟩ := hcell k hc1
        have hwk := hws _ (List.getElem_mem hc1)
        have hsu := runS_succ s0 l k hc1
        have hb2 := runS_b0 s0 l k (by omega)
        have hl3 := runS_len s0 l k (by omega)
        obtain ⟨⟨kd, t, ⟨i, a, z, d⟩⟩, hx⟩ : ∃ x, l[k] = x := ⟨_, rfl⟩
        rw [hx] at g0 g1 g2 g3 g4 g5 hwk hsu
        obtain ⟨s, hs⟩ : ∃ s, runS s0 l k = s := ⟨_, rfl⟩
        obtain ⟨s', hs'⟩ : ∃ s, runS s0 l (k + 1) = s := ⟨_, rfl⟩
        rw [hs] at HLH hsu hb2 hl3
        rw [hs'] at hsu
        rw [hs]
        have hn2 : s.b0.length ≤ 1024 := by rw [hb2]; omega
        have hl4 : s.l.length ≤ 1000 := by omega
        have ha2 : a ≤ 9223372036854775807 := hwk.w.addr.2
        have hsto := fun (w : World) (h : RamAt s q w) => store_c h hn2 hl4 t i a z d ha2 hwk.w.data.1 hwk.w.data.2
        rw [HQG.out] at hsto
        have HSTO := Lib.hid hsto
        have hhel : ∀ (w : World) (q : Pla), RamAt s' q w → q.g = g → Calls Try.prog 20 #[.pointer (some ⟨g, 0, none⟩), .int .i64 1, .int .i64 fa, .int .i64 fs] w fun e w' => e = .returned (.bool (helM s' 1 fa fs)) ∧ BW w w' := fun w q h e => by
          have h1 := held_c h (by rw [hsu, stoM_b0]; exact hn2) 1 fa fs hfa
          rw [e] at h1
          exact h1
        have HHEL := Lib.hid hhel
        have HSU := Lib.hid hsu
        have HS' := Lib.hid hs'
        subst hB
        clear hcell hsto hhel hx hs hs' hsu hwk hb2 hl3 hn2 hl4 ha2
        have HV := Lib.hid (Blk.new #[.int .i64 kd, .int .i64 t, .int .i64 i, .int .i64 a, .int .i64 z, .int .u64 d] 33 wr)
        have HLV := Lib.hid (HLH.out.on (BW.new (Below.refl _ _) (.cells #[.int .i64 kd, .int .i64 t, .int .i64 i, .int .i64 a, .int .i64 z, .int .u64 d] 33)))
        have HKV := Lib.hid (HKK.out.on (BW.new (Below.refl _ _) (.cells #[.int .i64 kd, .int .i64 t, .int .i64 i, .int .i64 a, .int .i64 z, .int .u64 d] 33)))
        have HBV := Lib.hid (HBW.out.on (BW.new (Below.refl _ _) (.cells #[.int .i64 kd, .int .i64 t, .int .i64 i, .int .i64 a, .int .i64 z, .int .u64 d] 33)))
        have hzz : W.heap.size < wr.heap.size := HKK.out.lt
        have HLT := Lib.hid HLH.out.at'.lt
        clear HLH HKK HBW
        go_wp2_with fail
        refine (HSTO.out _ HLV.out.at').mono ?_
        rintro e w4 ⟨rfl, q', hr4, hqg4, hf4, hk4⟩
        have HL4 := Lib.hid (HLV.out.sto (by rw [HSU.out]; exact hr4) hf4 hk4 : LH w1 s' q' w4)
        have hnv : wr.heap.size ∉ q.foot := fun hm => by have := HLT.out _ hm; omega
        have hnk : W.heap.size ∉ q.foot := fun hm => by have := HLV.out.foot _ hm; omega
        have HV4 := Lib.hid (fr_keep hk4 HV.out hnv)
        have HK4 := Lib.hid (fr_keep hk4 HKV.out hnk)
        have HB4 := Lib.hid (HBV.out.fr hk4 (fun j hj => by have := HLV.out.foot j hj; omega))
        have HQ4 : Hid (q'.g = g) := hqg4.trans HQG.out
        clear hr4 hf4 hk4 hnv hnk HV HKV HBV HLV HSTO HLT HQG hqg4
        have v1 : w4.cell? ⟨wr.heap.size, 1, none⟩ = some (.int .i64 t) := HV4.out.cell 1
        have v3 : w4.cell? ⟨wr.heap.size, 3, none⟩ = some (.int .i64 a) := HV4.out.cell 3
        have v4 : w4.cell? ⟨wr.heap.size, 4, none⟩ = some (.int .i64 z) := HV4.out.cell 4
        have f1 : w4.cell? ⟨W.heap.size, 1, none⟩ = some (.int .i64 fa) := HK4.out.cell 1
        have f2 : w4.cell? ⟨W.heap.size, 2, none⟩ = some (.int .i64 fs) := HK4.out.cell 2
        have HOV := Lib.hid (roverlap_any fa fs a z)
        clear g0 g1 g2 g3 g4 g5 HV4
        cases hok : stoOk s.n t ⟨i, a, z, d⟩ with
        | false =>
          have he := hel_same (s := s) (t := t) (fa := fa) (fs := fs) (x := ⟨i, a, z, d⟩) (.inl hok)
          rw [← HSU.out] at he
          rw [← he]
          clear he hok
          obtain ⟨hb, hhb⟩ : ∃ hb, helM s' 1 fa fs = hb := ⟨_, rfl⟩
          rw [hhb] at HHEL ⊢
          have HHB := Lib.hid hhb; clear hhb
          have hbb : (hb != hb) = false := by simp
          go_wp2_with (first
            | (go_at_call 26; refine (HOV.out _).mono ?_; rintro e w5 ⟨rfl, rfl⟩)
            | (go_at_call 20; refine (HHEL.out _ _ HL4.out.at' HQ4.out).mono ?_; rintro e w6 ⟨rfl, hb6⟩; have HL6 := Lib.hid (HL4.out.on hb6); have HK6 := Lib.hid (HK4.out.on hb6); have HB6 := Lib.hid (HB4.out.on hb6); clear hb6))
          go_roundw
          case rel => exact ⟨k + 1, q', by omega, by omega, by go_num, by rw [HS'.out, HHB.out], by rw [HS'.out]; exact HL6.out, HQ4.out, HK6.out, HB6.out⟩
          case measure => simp [intOf]; omega
        | true =>
          by_cases ht : t = 1
          · have he := hel_same (s := s) (t := t) (fa := fa) (fs := fs) (x := ⟨i, a, z, d⟩) (.inr (.inl ht))
            rw [← HSU.out] at he
            rw [← he]
            have htb : (t != 1) = false := by simp [ht]
            clear he hok ht
            obtain ⟨hb, hhb⟩ : ∃ hb, helM s' 1 fa fs = hb := ⟨_, rfl⟩
            rw [hhb] at HHEL ⊢
            have HHB := Lib.hid hhb; clear hhb
            have hbb : (hb != hb) = false := by simp
            go_wp2_with (first
              | (go_at_call 26; refine (HOV.out _).mono ?_; rintro e w5 ⟨rfl, rfl⟩)
              | (go_at_call 20; refine (HHEL.out _ _ HL4.out.at' HQ4.out).mono ?_; rintro e w6 ⟨rfl, hb6⟩; have HL6 := Lib.hid (HL4.out.on hb6); have HK6 := Lib.hid (HK4.out.on hb6); have HB6 := Lib.hid (HB4.out.on hb6); clear hb6))
            go_roundw
            case rel => exact ⟨k + 1, q', by omega, by omega, by go_num, by rw [HS'.out, HHB.out], by rw [HS'.out]; exact HL6.out, HQ4.out, HK6.out, HB6.out⟩
            case measure => simp [intOf]; omega
          · have htb : (t != 1) = true := by simp [ht]
            cases ho : ovl fa fs a z with
            | false =>
              have he := hel_same (s := s) (t := t) (fa := fa) (fs := fs) (x := ⟨i, a, z, d⟩) (.inr (.inr ho))
              rw [← HSU.out] at he
              rw [← he]
              rw [ho] at HOV
              clear he hok ht ho
              obtain ⟨hb, hhb⟩ : ∃ hb, helM s' 1 fa fs = hb := ⟨_, rfl⟩
              rw [hhb] at HHEL ⊢
              have HHB := Lib.hid hhb; clear hhb
              have hbb : (hb != hb) = false := by simp
              go_wp2_with (first
                | (go_at_call 26; refine (HOV.out _).mono ?_; rintro e w5 ⟨rfl, rfl⟩)
                | (go_at_call 20; refine (HHEL.out _ _ HL4.out.at' HQ4.out).mono ?_; rintro e w6 ⟨rfl, hb6⟩; have HL6 := Lib.hid (HL4.out.on hb6); have HK6 := Lib.hid (HK4.out.on hb6); have HB6 := Lib.hid (HB4.out.on hb6); clear hb6))
              go_roundw
              case rel => exact ⟨k + 1, q', by omega, by omega, by go_num, by rw [HS'.out, HHB.out], by rw [HS'.out]; exact HL6.out, HQ4.out, HK6.out, HB6.out⟩
              case measure => simp [intOf]; omega
            | true =>
              have he := hel_gone (s := s) (t := t) (fa := fa) (fs := fs) (x := ⟨i, a, z, d⟩) hok ht ho
              rw [← HSU.out] at he
              rw [he] at HHEL
              have HE := Lib.hid he
              rw [ho] at HOV
              clear he hok ht ho
              generalize helM s 1 fa fs = hb0
              go_wp2_with (first
                | (go_at_call 26; refine (HOV.out _).mono ?_; rintro e w5 ⟨rfl, rfl⟩)
                | (go_at_call 20; refine (HHEL.out _ _ HL4.out.at' HQ4.out).mono ?_; rintro e w6 ⟨rfl, hb6⟩; have HL6 := Lib.hid (HL4.out.on hb6); have HK6 := Lib.hid (HK4.out.on hb6); have HB6 := Lib.hid (HB4.out.on hb6); clear hb6))
              go_roundw
              case rel => exact ⟨k + 1, q', by omega, by omega, by go_num, by rw [HS'.out, HE.out], by rw [HS'.out]; exact HL6.out, HQ4.out, HK6.out, HB6.out⟩
              case measure => simp [intOf]; omega
      · have hc' : k = l.length ∨ 40 ≤ k := by omega
        clear hc
        rcases hc' with rfl | hc'
        · have d1 : decide ((l.length : Int) < (l.length : Int)) = false := by simp
          go_wp2_with fail
          refine (HAL.out _).mono ?_
          rintro e w9 ⟨rfl, hb9⟩
          go_wp2
          go_ret
          exact ⟨rfl, HBW.out.on hb9⟩
        · obtain rfl : k = 40 := by omega
          by_cases h40 : (40 : Int) < (l.length : Int)
          · go_wp2_with fail
            refine (HAL.out _).mono ?_
            rintro e w9 ⟨rfl, hb9⟩
            go_wp2
            go_ret
            exact ⟨rfl, HBW.out.on hb9⟩
          · go_wp2_with fail
            refine (HAL.out _).mono ?_
            rintro e w9 ⟨rfl, hb9⟩
            go_wp2
            go_ret
            exact ⟨rfl, HBW.out.on hb9⟩
theorem byts_wf {l : List Int} (h : ∀ z ∈ l, (Lit.int .u8 z).wf = true) : Byts l := fun z hz => wf_u8_out (h z hz)
theorem ramHeld_law (A : Option Addr) (cap : Nat) (l0 : List Int) (B : Option Addr) (bap : Nat) (l1 : List Ac) (f : Wr) (W : World) (hl : l0.length ≤ cap) (hcap : cap ≤ 9223372036854775807) (hA : A = none → cap = 0 ∧ l0 = []) (hw : ∀ z ∈ l0, (Lit.int .u8 z).wf = true) (hr : Rd W W.heap.size A (l0.map (Value.int .u8)))
    (hm : l1.length ≤ bap) (hbap : bap ≤ 9223372036854775807) (_ : B = none → bap = 0 ∧ l1 = []) (hws : Wacs l1) (hra : Rd W W.heap.size B (cellsA l1)) (hf : Wwr f) :
    Calls Try.prog 6 #[.slice A l0.length cap, .slice B l1.length bap, .agg (wrCells f)] W fun e w' => e = .returned (.bool true) ∧ Below W.heap.size W w' :=
  held_walk A cap l0 B bap l1 f W hl hcap hA (byts_wf hw) hr hm hbap hws hra hf
end Go.Proofs.Yteoemjhhjnkkiaa
