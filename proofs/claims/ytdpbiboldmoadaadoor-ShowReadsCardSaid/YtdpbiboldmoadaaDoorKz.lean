/- The program's Read. -/
import Derived.Test.YtdpbiboldmoadaaDoorKq
import Derived.Lib.SmallJoins
set_option maxRecDepth 100000
namespace Go.Proofs.YtdpbiboldmoadaaDoor
open Go.RowKit

theorem cut_len (o : List UInt8) : ∀ s A B r, cutA o s A = some (B, r) → ∀ x ∈ B, x ∈ A ∨ x.2.length ≤ s.length := by
  induction o with
  | nil =>
    intro s A B r h x hx
    obtain ⟨rfl, rfl⟩ := Prod.mk.inj (Option.some.inj h)
    exact .inl hx
  | cons c o ih =>
    intro s A B r h x hx
    rw [cutA] at h
    cases hc : isMk c with
    | true =>
      rw [if_pos hc] at h
      obtain ⟨t, ht, hx2⟩ := Option.bind_eq_some_iff.1 h
      obtain rfl := eat_some ht
      rcases ih _ _ _ _ hx2 x hx with h1 | h1
      · exact .inl h1
      · exact .inr (by simp; omega)
    | false =>
      rw [if_neg (by rw [hc]; decide)] at h
      have hl : (s.takeWhile noMk).length + (s.dropWhile noMk).length = s.length := by rw [← List.length_append, List.takeWhile_append_dropWhile]
      rcases ih _ _ _ _ h x hx with h1 | h1
      · rcases List.mem_append.1 h1 with h2 | h2
        · exact .inl h2
        · rw [List.mem_singleton.1 h2]; exact .inr (by simp only; omega)
      · exact .inr (by omega)
theorem named_op (N : List UInt8) : I64 (namedT N).op := by
  by_cases h : (namedT N).op = 0
  · rw [h]; unfold I64; decide
  · have := (named_sound h).1; unfold I64; omega
theorem putAll_op (l : List (UInt8 × List UInt8)) : ∀ i b, (putAll i l b).1.op = i.op := by
  induction l with
  | nil => intro i b; rfl
  | cons x l ih => intro i b; rw [putAll, ih]; exact (put_op i x.1 x.2).1
theorem rest_drop (S : List UInt8) : restT S = S.drop (nameT S).length := by
  unfold restT nameT
  have h : S.takeWhile no32 ++ S.dropWhile no32 = S := List.takeWhile_append_dropWhile
  rw [← congrArg (List.drop (S.takeWhile no32).length) h, List.drop_left]
theorem own_at {w : World} {base n : Nat} {e : TypeId} {v : Value} {xs : List Value} (h : w.ownsRow base e 1 v n xs) : ∃ A c, v = .slice A n c ∧ ∀ k, k < n → ∃ b, A = some ⟨b, 0, none⟩ ∧ base ≤ b ∧ b < w.heap.size ∧ w.cell? ⟨b, k, none⟩ = xs[k]? := by
  rcases h.2 with ⟨rfl, rfl⟩ | ⟨g, c, cur, rfl, hb, hg, hn, _, hs, ht⟩
  · exact ⟨none, 0, rfl, fun k hk => absurd hk (Nat.not_lt_zero k)⟩
  · refine ⟨_, c, rfl, fun k hk => ⟨g, rfl, hb, (Array.getElem?_eq_some_iff.1 hg).1, ?_⟩⟩
    rw [cell_of_row w g k cur e (0, 0) hg, ← ht, Nat.mul_one, List.getElem?_take, if_pos hk, Array.getElem?_toList]
def RetRd (w : World) (o : Option Ins) (e : Ending) (w' : World) : Prop := e = .returned (.tuple #[insV (o.getD noIns), .int .i64 (if o.isSome then 0 else 5)]) ∧ Below w.heap.size w w'
set_option maxHeartbeats 4000000 in
theorem read_none (S : List UInt8) (hl : S.length ≤ 100000) (w : World) (T : Tab9 w) (hcut : cutA (shpT (namedT (nameT S)).op) (restT S) [] = none) : Calls Tryd.prog 11 #[tx S] w (RetRd w (readC S)) := by
  have KC := fun x => strcut_c S hl x
  have hnl : (nameT S).length ≤ S.length := by
    have h : S.takeWhile no32 ++ S.dropWhile no32 = S := List.takeWhile_append_dropWhile
    have := congrArg List.length h
    rw [List.length_append] at this
    unfold nameT
    omega
  have KN := fun x (h : BW w x) => named_c (nameT S) (by omega) x (T.below h)
  have hN := named_op (nameT S)
  have HRD : Hid (readC S = match cutA (shpT (namedT (nameT S)).op) (restT S) [] with
    | none => none
    | some x => if (putAll (namedT (nameT S)) x.1 (decide (x.2 = []))).2 && rgtB (putAll (namedT (nameT S)) x.1 (decide (x.2 = []))).1 then some (putAll (namedT (nameT S)) x.1 (decide (x.2 = []))).1 else none) := rfl
  have hR := rest_drop S
  have hex := extract_drop S (nameT S).length
  rw [← hR] at hex
  have hrl : (restT S).length ≤ 100000 := by rw [hR, List.length_drop]; omega
  have HJ0 := jn_new noIns w
  generalize readC S = res at *
  generalize restT S = Rs at *
  obtain ⟨N, hNN⟩ : ∃ N, nameT S = N := ⟨_, rfl⟩
  simp only [hNN] at *
  obtain ⟨ni, hni⟩ : ∃ ni, namedT N = ni := ⟨_, rfl⟩
  simp only [hni] at *
  have KH := fun g x (h : Jn w ni g x) => shape_c ni.op hN x (T.below h.1).dec.lasts (T.below h.1).shapes
  have hshl := shp_len ni.op
  have KQ := fun x => cut_fill Rs (shpT ni.op) hrl (by omega) x
  have hsx := (shp_ok ni.op).2.2
  have hnlI : (N.length : Int) ≤ S.length := by omega
  obtain ⟨d, hdd⟩ : ∃ d, bs S = d := ⟨_, rfl⟩
  obtain ⟨nd, hnd⟩ : ∃ d, bs N = d := ⟨_, rfl⟩
  have hds : d.size = S.length := by rw [← hdd]; rfl
  have hns : nd.size = N.length := by rw [← hnd]; rfl
  rw [hdd] at hex
  rw [← hns, ← hds] at hnlI
  rw [← hns] at hex
  unfold tx at *
  simp only [hdd, hnd] at *
  clear hds hns hR hNN hni hdd hnd
  rw [hcut] at HRD
  simp only [hcut] at KQ
  have HR : Hid (res = none) := HRD
  have KQ0 : ∀ x, Calls Tryd.prog 34 #[.string (bs Rs), .string (bs (shpT ni.op))] x fun e w' => e = .returned (.tuple #[.slice none 0 0, .slice none 0 0, .bool false]) ∧ Below x.heap.size x w' := fun x => KQ x
  clear KQ HRD hcut
  generalize shpT ni.op = sh at *
  obtain ⟨op, rd, rs1, rs2, imm, aq, rl, pred, succ⟩ := ni
  unfold insV insCells noIns at *
  simp only at *
  go_enter Tryd.func11, Tryd.ntmps11
  go_upto_region 1 with (fail)
  generalize w.alloc (.cells _ 23) = w1 at *
  obtain ⟨g0, hg0⟩ : ∃ g, w.heap.size = g := ⟨_, rfl⟩
  have HJ : Jn w noIns g0 w1 := by rw [← hg0]; exact HJ0
  rw [hg0]
  clear hg0 HJ0
  go_upto_region 3 with (first
    | (go_at_call 32; refine (KC _).mono ?_; rintro e w2 ⟨r, b, rfl, hb⟩; have HJ2 := HJ.on hb; clear hb)
    | (go_at_call 33; refine (KN _ HJ2.1).mono ?_; rintro e w3 ⟨rfl, hb⟩; have HJ3 := HJ2.on hb; clear hb))
  have HJ7 : Jn w ⟨op, rd, rs1, rs2, imm, aq, rl, pred, succ⟩ w3.heap.size (w3.alloc (.cells (insCells ⟨op, rd, rs1, rs2, imm, aq, rl, pred, succ⟩) 23)) := ⟨HJ3.1.new _, Blk.new _ _ _, Below.size HJ3.1⟩
  have HJ4 : Jn w noIns g0 (w3.alloc (.cells (insCells ⟨op, rd, rs1, rs2, imm, aq, rl, pred, succ⟩) 23)) := ⟨HJ3.1.new _, HJ3.2.1.alloc _, HJ3.2.2⟩
  unfold insCells at HJ7 HJ4
  simp only at HJ7 HJ4
  clear HJ3
  generalize w3.alloc (.cells _ 23) = w4 at *
  obtain ⟨g7, hg7⟩ : ∃ g, w3.heap.size = g := ⟨_, rfl⟩
  rw [hg7] at HJ7 ⊢
  clear hg7 HJ HJ2 KC KN
  have c0 : w4.cell? ⟨g7, 0, none⟩ = some (.int .i64 op) := HJ7.2.1.cell 0
  go_region_with (first
    | (go_at_call 21; with_reducible refine (KH g7 _ HJ7.drew).mono ?_; rintro e w5 ⟨rfl, rfl⟩)
    | (go_at_call 34; with_reducible refine (KQ0 _).mono ?_; rintro e w6 ⟨rfl, hb⟩; have HJ8 := HJ4.drew.on hb; clear hb))
  clear c0 HJ4 HJ7 KH KQ0 hex
  go_wp2
  go_loop [10, 35] (fun ok i => ok = .bool false ∧ i = .int .i64 0) (fun _ _ => 0)
  case atStart => exact ⟨rfl, rfl⟩
  case round =>
    obtain ⟨rfl, rfl⟩ := hrel
    have c0 := HJ8.2.1.cell 0
    have c1 := HJ8.2.1.cell 1
    have c2 := HJ8.2.1.cell 2
    have c3 := HJ8.2.1.cell 3
    have c4 := HJ8.2.1.cell 4
    have c5 := HJ8.2.1.cell 5
    have c6 := HJ8.2.1.cell 6
    have c7 := HJ8.2.1.cell 7
    have c8 := HJ8.2.1.cell 8
    simp only [noIns, insCells] at c0 c1 c2 c3 c4 c5 c6 c7 c8
    have f0 := HJ8.2.1.free 0
    have f1 := HJ8.2.1.free 1
    have f2 := HJ8.2.1.free 2
    have f3 := HJ8.2.1.free 3
    have f4 := HJ8.2.1.free 4
    have f5 := HJ8.2.1.free 5
    have f6 := HJ8.2.1.free 6
    have f7 := HJ8.2.1.free 7
    have f8 := HJ8.2.1.free 8
    go_wp2
    have HW := (((((((((HJ8.2.1.set 0 (.int .i64 0)).set 1 (.int .i64 0)).set 2 (.int .i64 0)).set 3 (.int .i64 0)).set 4 (.int .i64 0)).set 5 (.bool false)).set 6 (.bool false)).set 7 (.int .i64 0)).set 8 (.int .i64 0))
    have HW' : Blk (insCells noIns) 23 g0 _ := HW
    rw [HR.out]
    refine bodyPost_ret (results_blk rfl rfl HW' Tryd.underlying23 rfl (by kernel_rfl)) rfl ⟨rfl, ?_⟩
    exact ((((((((HJ8.1.setCell HJ8.2.2 _).setCell HJ8.2.2 _).setCell HJ8.2.2 _).setCell HJ8.2.2 _).setCell HJ8.2.2 _).setCell HJ8.2.2 _).setCell HJ8.2.2 _).setCell HJ8.2.2 _).setCell HJ8.2.2 _
set_option maxHeartbeats 4000000 in
theorem read_some (S : List UInt8) (hl : S.length ≤ 100000) (w : World) (T : Tab9 w) (x : List (UInt8 × List UInt8) × List UInt8) (hcut : cutA (shpT (namedT (nameT S)).op) (restT S) [] = some x) : Calls Tryd.prog 11 #[tx S] w (RetRd w (readC S)) := by
  have KC := fun x => strcut_c S hl x
  have hnl : (nameT S).length ≤ S.length := by
    have h : S.takeWhile no32 ++ S.dropWhile no32 = S := List.takeWhile_append_dropWhile
    have := congrArg List.length h
    rw [List.length_append] at this
    unfold nameT
    omega
  have KN := fun x (h : BW w x) => named_c (nameT S) (by omega) x (T.below h)
  have hN := named_op (nameT S)
  have HRD : Hid (readC S = match cutA (shpT (namedT (nameT S)).op) (restT S) [] with
    | none => none
    | some x => if (putAll (namedT (nameT S)) x.1 (decide (x.2 = []))).2 && rgtB (putAll (namedT (nameT S)) x.1 (decide (x.2 = []))).1 then some (putAll (namedT (nameT S)) x.1 (decide (x.2 = []))).1 else none) := rfl
  have hR := rest_drop S
  have hex := extract_drop S (nameT S).length
  rw [← hR] at hex
  have hrl : (restT S).length ≤ 100000 := by rw [hR, List.length_drop]; omega
  have HJ0 := jn_new noIns w
  generalize readC S = res at *
  generalize restT S = Rs at *
  obtain ⟨N, hNN⟩ : ∃ N, nameT S = N := ⟨_, rfl⟩
  simp only [hNN] at *
  obtain ⟨ni, hni⟩ : ∃ ni, namedT N = ni := ⟨_, rfl⟩
  simp only [hni] at *
  have KH := fun g x (h : Jn w ni g x) => shape_c ni.op hN x (T.below h.1).dec.lasts (T.below h.1).shapes
  have hshl := shp_len ni.op
  have KQ := fun x => cut_fill Rs (shpT ni.op) hrl (by omega) x
  have hsx := (shp_ok ni.op).2.2
  have hnlI : (N.length : Int) ≤ S.length := by omega
  obtain ⟨d, hdd⟩ : ∃ d, bs S = d := ⟨_, rfl⟩
  obtain ⟨nd, hnd⟩ : ∃ d, bs N = d := ⟨_, rfl⟩
  have hds : d.size = S.length := by rw [← hdd]; rfl
  have hns : nd.size = N.length := by rw [← hnd]; rfl
  rw [hdd] at hex
  rw [← hns, ← hds] at hnlI
  rw [← hns] at hex
  unfold tx at *
  simp only [hdd, hnd] at *
  clear hds hns hR hNN hni hdd hnd
  rw [hcut] at HRD
  simp only [hcut] at KQ
  obtain ⟨B, rr⟩ := x
  obtain ⟨D, hBD, hBf, _⟩ := cut_sound _ _ _ _ _ hcut
  have hBl := cut_len _ _ _ _ _ hcut
  rw [List.nil_append] at hBD
  rw [← hBD] at hBf
  have hBn : B.length ≤ 20 := by
    have h1 := congrArg List.length hBf
    rw [List.length_map] at h1
    have h2 := List.length_filter_le noMk (shpT ni.op)
    omega
  have hsix : Hid (∀ y ∈ B, y.1 ∈ sixL) := fun y hy => by
    have : y.1 ∈ (shpT ni.op).filter noMk := by rw [← hBf]; exact List.mem_map_of_mem hy
    exact hsx _ (List.mem_filter.1 this).1 (List.mem_filter.1 this).2
  have hpl : Hid (∀ y ∈ B, y.2.length ≤ 100000) := fun y hy => by
    rcases hBl y hy with h | h
    · cases h
    · omega
  clear hBD hBf hBl
  obtain ⟨b0, hb0⟩ : ∃ b, decide (rr = []) = b := ⟨_, rfl⟩
  have KQ1 : ∀ x, Calls Tryd.prog 34 #[.string (bs Rs), .string (bs (shpT ni.op))] x fun e w' => ∃ v7 v8 b, e = .returned (.tuple #[v7, v8, .bool b]) ∧ b = b0 ∧ w'.ownsRow x.heap.size 5 1 v7 B.length (cellsU8 (B.map Prod.fst)) ∧ w'.ownsRow x.heap.size 9 1 v8 B.length (txs (B.map Prod.snd)) ∧ Below x.heap.size x w' := fun x => by rw [← hb0]; exact KQ x
  have HRX : Hid (res = if (putAll ni B b0).2 && rgtB (putAll ni B b0).1 then some (putAll ni B b0).1 else none) := by show _ = _; rw [← hb0]; exact HRD
  have hop := putAll_op B ni b0
  have KG := fun j x (h : BW w x) (ho : I64 j.op) => right_c j ho x (T.below h).dec
  clear KQ HRD hcut hb0 hsx T
  obtain ⟨RES, hRES⟩ : ∃ R, putAll ni B b0 = R := ⟨_, rfl⟩
  rw [hRES] at HRX hop
  rw [← hop] at hN
  have HRS := Lib.hid hRES
  clear hRES hop
  generalize shpT ni.op = sh at *
  obtain ⟨op, rd, rs1, rs2, imm, aq, rl, pred, succ⟩ := ni
  unfold insV insCells noIns at *
  simp only at *
  go_enter Tryd.func11, Tryd.ntmps11
  go_upto_region 1 with (fail)
  generalize w.alloc (.cells _ 23) = w1 at *
  obtain ⟨g0, hg0⟩ : ∃ g, w.heap.size = g := ⟨_, rfl⟩
  have HJ : Jn w noIns g0 w1 := by rw [← hg0]; exact HJ0
  rw [hg0]
  clear hg0 HJ0
  go_upto_region 3 with (first
    | (go_at_call 32; refine (KC _).mono ?_; rintro e w2 ⟨r, b, rfl, hb⟩; have HJ2 := HJ.on hb; clear hb)
    | (go_at_call 33; refine (KN _ HJ2.1).mono ?_; rintro e w3 ⟨rfl, hb⟩; have HJ3 := HJ2.on hb; clear hb))
  have HJ7 : Jn w ⟨op, rd, rs1, rs2, imm, aq, rl, pred, succ⟩ w3.heap.size (w3.alloc (.cells (insCells ⟨op, rd, rs1, rs2, imm, aq, rl, pred, succ⟩) 23)) := ⟨HJ3.1.new _, Blk.new _ _ _, Below.size HJ3.1⟩
  have HJ4 : Jn w noIns g0 (w3.alloc (.cells (insCells ⟨op, rd, rs1, rs2, imm, aq, rl, pred, succ⟩) 23)) := ⟨HJ3.1.new _, HJ3.2.1.alloc _, HJ3.2.2⟩
  have hne : g0 ≠ w3.heap.size := Nat.ne_of_lt HJ3.2.1.lt
  have hgs : w3.heap.size < (w3.alloc (.cells (insCells ⟨op, rd, rs1, rs2, imm, aq, rl, pred, succ⟩) 23)).heap.size := by simp
  unfold insCells at HJ7 HJ4 hgs
  simp only at HJ7 HJ4 hgs
  clear HJ3
  generalize w3.alloc (.cells _ 23) = w4 at *
  obtain ⟨g7, hg7⟩ : ∃ g, w3.heap.size = g := ⟨_, rfl⟩
  rw [hg7] at HJ7 hne hgs ⊢
  clear hg7 HJ HJ2 KC KN
  have c0 : w4.cell? ⟨g7, 0, none⟩ = some (.int .i64 op) := HJ7.2.1.cell 0
  go_region_with (first
    | (go_at_call 21; with_reducible refine (KH g7 _ HJ7.drew).mono ?_; rintro e w5 ⟨rfl, rfl⟩)
    | (go_at_call 34; with_reducible refine (KQ1 _).mono ?_; rintro e w6 ⟨v7, v8, b2, rfl, rfl, hL, hP, hb⟩; have HJ8 := HJ4.drew.on hb; have HJ9 := HJ7.drew.on hb; obtain ⟨A7, c7, rfl, q7⟩ := own_at hL; obtain ⟨A8, c8, rfl, q8⟩ := own_at hP; have Q7 := Lib.hid q7; have Q8 := Lib.hid q8; have hw64 := Lib.hid (Below.size hb); clear hb hL hP q7 q8))
  have HW64 : Hid (w4.heap.size ≤ w6.heap.size) := hw64.out
  clear c0 HJ4 HJ7 KH KQ1 hex hw64
  have hg76 : g7 < w6.heap.size := HJ9.2.1.lt
  go_wp2
  go_loopw [10, 35] (fun ok i wr => ∃ (k : Nat) (ik : Ins) (bk : Bool), i = .int .i64 k ∧ k ≤ B.length ∧ ok = .bool bk ∧ Hid (putAll ik (B.drop k) bk = RES) ∧ Hid (Jn w ik g7 wr) ∧ Hid (Jn w noIns g0 wr) ∧ Hid (KeptBut g7 w6 wr)) (fun _ i _ => B.length - (intOf i).toNat)
  case atStart => exact ⟨0, _, _, rfl, Nat.zero_le _, rfl, HRS, HJ9, HJ8, KeptBut.refl _ _⟩
  case round =>
    obtain ⟨k, ik, bk, rfl, hk, rfl, HA, HJa, HJb, HKB⟩ := hrel
    by_cases hlt : k < B.length
    · have hltI : (k : Int) < B.length := by omega
      obtain ⟨y, hy⟩ : ∃ y, B[k] = y := ⟨_, rfl⟩
      have hmem : y ∈ B := by rw [← hy]; exact List.getElem_mem hlt
      obtain ⟨b7, e7, l7, z7, cc7⟩ := Q7.out k hlt
      obtain ⟨b8, e8, l8, z8, cc8⟩ := Q8.out k hlt
      have n7 : b7 ≠ g7 := by have : w4.drew.heap.size = w4.heap.size := rfl; omega
      have n8 : b8 ≠ g7 := by have : w4.drew.heap.size = w4.heap.size := rfl; omega
      have cL : wr.cell? ⟨b7, k, none⟩ = some (.int .u8 (y.1.toNat : Int)) := by
        rw [HKB.out.cell z7 n7, cc7]
        unfold cellsU8
        rw [List.getElem?_map, List.getElem?_map, List.getElem?_eq_getElem hlt, hy]
        rfl
      have cP : wr.cell? ⟨b8, k, none⟩ = some (tx y.2) := by
        rw [HKB.out.cell z8 n8, cc8]
        unfold txs
        rw [List.getElem?_map, List.getElem?_map, List.getElem?_eq_getElem hlt, hy]
        rfl
      have HP := put_fill w ik g7 y.1 (hsix.out y hmem) y.2 (hpl.out y hmem) wr HJa.out
      have HA2 : Hid (putAll (putT ik y.1 y.2).1 (B.drop (k + 1)) ((putT ik y.1 y.2).2 && bk) = RES) := by
        show _ = _
        rw [← HA.out, List.drop_eq_getElem_cons hlt, hy]
        rfl
      unfold tx at cP HP
      subst e7 e8
      clear hmem l7 z7 cc7 l8 z8 cc8 n7 n8 hy HA Q7 Q8
      generalize (putT ik y.1 y.2).1 = i2 at *
      generalize (putT ik y.1 y.2).2 = b2 at *
      generalize (y.1.toNat : Int) = C at *
      generalize bs y.2 = P at *
      cases b2 with
      | true =>
        go_wp2_with (first
          | (go_at_call 35; refine HP.mono ?_; rintro e w7 ⟨rfl, hj, hkb⟩; have HJ2 := Lib.hid hj; have HK2 := Lib.hid (KeptBut.trans HKB.out hkb); have HB2 : Hid (Jn w noIns g0 w7) := ⟨hj.1, (hkb.2 g0 HJb.out.2.1.lt hne).trans HJb.out.2.1, HJb.out.2.2⟩; clear hj hkb))
        exact ⟨⟨k + 1, i2, bk, by go_num, by omega, rfl, by simpa using HA2, HJ2, HB2, HK2⟩, by simp [intOf]; omega⟩
      | false =>
        go_wp2_with (first
          | (go_at_call 35; refine HP.mono ?_; rintro e w7 ⟨rfl, hj, hkb⟩; have HJ2 := Lib.hid hj; have HK2 := Lib.hid (KeptBut.trans HKB.out hkb); have HB2 : Hid (Jn w noIns g0 w7) := ⟨hj.1, (hkb.2 g0 HJb.out.2.1.lt hne).trans HJb.out.2.1, HJb.out.2.2⟩; clear hj hkb))
        exact ⟨⟨k + 1, i2, false, by go_num, by omega, rfl, by simpa using HA2, HJ2, HB2, HK2⟩, by simp [intOf]; omega⟩
    · obtain rfl : k = B.length := by omega
      have hA := HA.out
      rw [List.drop_length, putAll] at hA
      rw [← hA] at HRX hN
      simp only at HRX hN
      clear hA HA Q7 Q8
      cases bk with
      | false =>
        have HRR : Hid (res = none) := HRX.out
        have HJZ := HJb.out
        have z0 := HJZ.2.1.cell 0
        have z1 := HJZ.2.1.cell 1
        have z2 := HJZ.2.1.cell 2
        have z3 := HJZ.2.1.cell 3
        have z4 := HJZ.2.1.cell 4
        have z5 := HJZ.2.1.cell 5
        have z6 := HJZ.2.1.cell 6
        have z7 := HJZ.2.1.cell 7
        have z8 := HJZ.2.1.cell 8
        simp only [noIns, insCells] at z0 z1 z2 z3 z4 z5 z6 z7 z8
        have y0 := HJZ.2.1.free 0
        have y1 := HJZ.2.1.free 1
        have y2 := HJZ.2.1.free 2
        have y3 := HJZ.2.1.free 3
        have y4 := HJZ.2.1.free 4
        have y5 := HJZ.2.1.free 5
        have y6 := HJZ.2.1.free 6
        have y7 := HJZ.2.1.free 7
        have y8 := HJZ.2.1.free 8
        clear KG HRX
        go_wp2
        have HW := (((((((((HJZ.2.1.set 0 (.int .i64 0)).set 1 (.int .i64 0)).set 2 (.int .i64 0)).set 3 (.int .i64 0)).set 4 (.int .i64 0)).set 5 (.bool false)).set 6 (.bool false)).set 7 (.int .i64 0)).set 8 (.int .i64 0))
        have HW' : Blk (insCells noIns) 23 g0 _ := HW
        rw [HRR.out]
        refine bodyPost_ret (results_blk rfl rfl HW' Tryd.underlying23 rfl (by kernel_rfl)) rfl ⟨rfl, ?_⟩
        exact ((((((((HJZ.1.setCell HJZ.2.2 _).setCell HJZ.2.2 _).setCell HJZ.2.2 _).setCell HJZ.2.2 _).setCell HJZ.2.2 _).setCell HJZ.2.2 _).setCell HJZ.2.2 _).setCell HJZ.2.2 _).setCell HJZ.2.2 _
      | true =>
        have hG := KG ik wr HJa.out.1 hN
        have HRX2 : Hid (res = if rgtB ik then some ik else none) := by show _ = _; rw [HRX.out, Bool.true_and]
        have HJR := HJa.out
        clear KG HRX hN
        cases hg : rgtB ik with
        | false =>
          rw [hg] at hG HRX2
          have HRR : Hid (res = none) := HRX2.out
          clear HRX2 hg
          obtain ⟨op, rd, rs1, rs2, imm, aq, rl, pred, succ⟩ := ik
          obtain ⟨c0, c1, c2, c3, c4, c5, c6, c7, c8⟩ := HJR.cells
          simp only at c0 c1 c2 c3 c4 c5 c6 c7 c8 hG
          go_upto_if 56 with (first
            | (go_at_call 18; refine hG.mono ?_; rintro e w8 ⟨rfl, hb⟩; have HJ8 := HJb.out.on hb; clear hb))
          clear c0 c1 c2 c3 c4 c5 c6 c7 c8
          have z0 := HJ8.2.1.cell 0
          have z1 := HJ8.2.1.cell 1
          have z2 := HJ8.2.1.cell 2
          have z3 := HJ8.2.1.cell 3
          have z4 := HJ8.2.1.cell 4
          have z5 := HJ8.2.1.cell 5
          have z6 := HJ8.2.1.cell 6
          have z7 := HJ8.2.1.cell 7
          have z8 := HJ8.2.1.cell 8
          simp only [noIns, insCells] at z0 z1 z2 z3 z4 z5 z6 z7 z8
          have y0 := HJ8.2.1.free 0
          have y1 := HJ8.2.1.free 1
          have y2 := HJ8.2.1.free 2
          have y3 := HJ8.2.1.free 3
          have y4 := HJ8.2.1.free 4
          have y5 := HJ8.2.1.free 5
          have y6 := HJ8.2.1.free 6
          have y7 := HJ8.2.1.free 7
          have y8 := HJ8.2.1.free 8
          go_wp2
          have HW := (((((((((HJ8.2.1.set 0 (.int .i64 0)).set 1 (.int .i64 0)).set 2 (.int .i64 0)).set 3 (.int .i64 0)).set 4 (.int .i64 0)).set 5 (.bool false)).set 6 (.bool false)).set 7 (.int .i64 0)).set 8 (.int .i64 0))
          have HW' : Blk (insCells noIns) 23 g0 _ := HW
          rw [HRR.out]
          refine bodyPost_ret (results_blk rfl rfl HW' Tryd.underlying23 rfl (by kernel_rfl)) rfl ⟨rfl, ?_⟩
          exact ((((((((HJ8.1.setCell HJ8.2.2 _).setCell HJ8.2.2 _).setCell HJ8.2.2 _).setCell HJ8.2.2 _).setCell HJ8.2.2 _).setCell HJ8.2.2 _).setCell HJ8.2.2 _).setCell HJ8.2.2 _).setCell HJ8.2.2 _
        | true =>
          rw [hg] at hG HRX2
          have HRR : Hid (res = some ik) := HRX2.out
          clear HRX2 hg
          obtain ⟨c0, c1, c2, c3, c4, c5, c6, c7, c8⟩ := HJR.cells
          go_upto_if 56 with (first
            | (go_at_call 18; refine hG.mono ?_; rintro e w8 ⟨rfl, hb⟩; have HJ8 := HJb.out.on hb; have HJ9 := HJa.out.on hb; clear hb))
          clear c0 c1 c2 c3 c4 c5 c6 c7 c8
          obtain ⟨w9, hs, k4⟩ := HJ8.put (P := Tryd.prog) ik
          have HA := HJ9.2.1
          go_wp2_with (with_reducible refine load_blk (o := ⟨some 58, _, _, _, _, _⟩) rfl 23 (.tmp 7) rfl HA rfl Tryd.underlying23 rfl (by kernel_rfl) ?_)
          rw [HRR.out]
          exact bodyPost_ret (results_blk rfl rfl k4.2.1 Tryd.underlying23 rfl (by kernel_rfl)) rfl ⟨rfl, k4.1⟩
theorem read_fill (S : List UInt8) (hl : S.length ≤ 100000) (w : World) (T : Tab9 w) : Calls Tryd.prog 11 #[tx S] w (RetRd w (readC S)) := by
  cases hcut : cutA (shpT (namedT (nameT S)).op) (restT S) [] with
  | none => exact read_none S hl w T hcut
  | some x => exact read_some S hl w T x hcut
end Go.Proofs.YtdpbiboldmoadaaDoor
