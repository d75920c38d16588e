/- Package names: Claim, Set. -/
import Derived.Test.YtoahejjeihmiiaaNv
import Derived.Deep.AppendLies
set_option maxRecDepth 100000
set_option linter.unusedVariables false
namespace Go.Proofs.Ytoahejjeihmiiaa
open Go.RowKit

theorem inf_partsN {P : Program} {e : TypeId} {z : Value} {n b : Nat} (h : (P.info? e).map (fun i => (i.zero, i.size, i.bytes)) = some (some z, n, b)) : ∃ i, P.info? e = some i ∧ i.zero = some z ∧ i.size = n ∧ i.bytes = b := by
  cases hq : P.info? e with
  | none => rw [hq] at h; cases h
  | some i =>
    rw [hq] at h
    simp only [Option.map_some, Option.some.injEq, Prod.mk.injEq] at h
    exact ⟨i, rfl, h.1, h.2.1, h.2.2⟩
/-- An append onto a row that lies somewhere, in a plain region. -/
theorem wpList_append_O {P : Program} {w : World} {ops : Array Oper} {rest : List Oper} {o : Oper} {a : Act} {Q : Exit → Act → World → Prop} (hgd : o.guard = none) (s x : Operand) (t : TypeId) (ho : o.op = Op.call { callee := Callee.builtin Builtin.append, args := #[s, x], argTypes := #[t, t] })
    (e : TypeId) (i : TypeInfo) (zv : Value) (size bytes : Nat) (ht : P.underlying t = some (.slice e)) (hi : P.info? e = some i) (hz : i.zero = some zv) (hsize : i.size = size) (hby : i.bytes = bytes) (hzs : zv.cells.size = size) (hsz : 0 < size)
    (v : Value) (n : Nat) (xs : List Value) (hs : a.eval s = v) (hown : RowO e size v n xs w)
    (ad : Addr) (m c : Nat) (news : List Value) (hx : a.eval x = .slice (some ad) m c) (hl : news.length = m * size) (hnews : ∀ j u, news[j]? = some u → w.cell? (ad.add j) = some u) (h1 : ∀ u ∈ news, u.oneCell' = true)
    (hm : 0 < m) (h63 : n + m ≤ maxLen) (hbytes : (n + m) * bytes ≤ 140737488355328)
    (h : ∀ v' w', RowO e size v' (n + m) (xs ++ news) w' → w.grownBy w' v.ownBlock → (v'.ownBlock = v.ownBlock ∨ ∃ g, v'.ownBlock = some g ∧ w.heap.size ≤ g) → wpList P ops Q rest (a.put o.dst v') w') : wpList P ops Q (o :: rest) a w :=
  wpList_plain hgd fun _ hK => wp_append_O s x t ho e i zv size bytes ht hi hz hsize hby hzs hsz v n xs hs hown ad m c news hx hl hnews h1 hm h63 hbytes fun v' w' a b c => hK _ _ (h v' w' a b c)
theorem NAt.addRow {s : Nst} {p : Npl} {X Y : World} (h : NAt s p X) {r c : Nat} {v' : Value} (hr : RowO 61 2 v' (s.l.length + 1) (cellsNc s.l ++ ncCells (r, c)) Y) (hg : X.grownBy Y p.vl.ownBlock) (hat : v'.ownBlock = p.vl.ownBlock ∨ ∃ g, v'.ownBlock = some g ∧ X.heap.size ≤ g) :
    UpT (NAt (addN s r c)) p X (Y.setCell ⟨p.g, 120, none⟩ v') := by
  obtain ⟨a, b, d⟩ := Two.newRow (C' := nCells (addN s r c)) (i := 120) h hr hg hat (fun u => nCells_setL s p.vl u)
  refine ⟨⟨p.g, v'⟩, ?_, rfl, b, d⟩
  unfold NAt
  rw [show (addN s r c).l = s.l ++ [(r, c)] from rfl, List.length_append, cellsNc_snoc]
  exact a
theorem claim15_nil (r : Int) (w : World) : Calls Try.prog 10 #[.pointer none, .int .i64 r] w fun e w' => e = .returned (.tuple #[.int .i64 0, .bool false]) ∧ w = w' := by
  go_enter Try.func10, Try.ntmps10
  go_wp2
  go_ret2
  exact ⟨rfl, rfl⟩
set_option maxHeartbeats 2000000 in
theorem claim15_c {s : Nst} {p : Npl} {w : World} (h : NAt s p w) (ok : NOk s) (r : Int) : Calls Try.prog 10 #[.pointer (some ⟨p.g, 0, none⟩), .int .i64 r] w fun e w' => e = .returned (.tuple #[.int .i64 (claN s r).2.1, .bool (claN s r).2.2]) ∧ UpT (NAt (claN s r).1) p w w' := by
  by_cases hr : 0 < r ∧ r < 32
  · have HF := free15_c h ok
    have HH := Lib.hid (fun x (hx : BW w x) => Two.on h hx)
    have hlen := ok.len
    obtain ⟨g, hgp⟩ : ∃ g, p.g = g := ⟨_, rfl⟩
    have d1 : decide (r ≤ 0) = false := decide_eq_false (by omega)
    have d2 : decide ((32 : Int) ≤ r) = false := decide_eq_false (by omega)
    obtain ⟨A, cap, hv, h1, h2, _⟩ := h.reads
    have hup := Lib.hid (fun x (hx : BW w x) => UpT.same (R := NAt s) (Two.on h hx) (Fr.of p.foot hx))
    rw [hgp] at HF ⊢
    clear h
    cases hf : freN s with
    | none =>
      have hc : claN s r = (s, 0, false) := by unfold claN; rw [if_pos hr, hf]
      rw [hc]
      dsimp only
      go_enter Try.func10, Try.ntmps10
      go_wp2_with (first
        | (go_at_call 25; refine HF.mono ?_; rintro e w2 ⟨⟨c, b, rfl, (⟨rfl, rfl, _⟩ | ⟨k, rfl, rfl, hk⟩)⟩, hb⟩; rotate_left; (rw [hf] at hk; cases hk)))
      go_ret2
      exact ⟨rfl, hup.out _ hb⟩
    | some k =>
      have hc : claN s r = (addN s r.toNat k, (k : Int), true) := by unfold claN; rw [if_pos hr, hf]
      rw [hc]
      dsimp only
      obtain ⟨q, rfl⟩ : ∃ q : Nat, r = (q : Int) := ⟨r.toNat, by omega⟩
      rw [Int.toNat_natCast]
      obtain ⟨iw, hiw, hwz, hws, hwb⟩ := inf_partsN (P := Try.prog) (e := 61) (z := .agg #[.int .i64 0, .int .i64 0]) (n := 2) (b := 16) (by kernel_rfl)
      clear hc
      go_enter Try.func10, Try.ntmps10
      go_upto_region 4 with (first
        | (go_at_call 25; refine HF.mono ?_; rintro e w2 ⟨⟨c, b, rfl, (⟨rfl, rfl, hk⟩ | ⟨k', rfl, rfl, hk⟩)⟩, hb⟩; (rw [hf] at hk; cases hk); (obtain rfl : k = k' := by (rw [hf] at hk; injection hk))))
      have HX := HH.out _ hb
      have q2 := (HX.head.cell 120).trans (nCells_l s p.vl)
      rw [hgp, hv] at q2
      have hb3 : BW w (w2.alloc (.cells #[.int .i64 (q : Int), .int .i64 (k : Int)] 61)) := BW.on hb (BW.new (Below.refl _ _) _)
      have HX3 := HH.out _ hb3
      have HR3 := HX3.row
      rw [hv] at HR3
      clear hf hk HX
      go_wp2_with (first
        | (refine build_lit rfl 56 61 1 _ rfl (.agg #[.int .i64 0, .int .i64 0]) 2 Try.underlying56 (by kernel_rfl) (by decide) (by decide) #[.int .i64 (q : Int), .int .i64 (k : Int)] (by kernel_rfl) rfl _ rfl ?_)
        | (at_builtin; refine wpList_append_O rfl (.tmp 28) (.tmp 32) 56 rfl 61 iw _ 2 16 Try.underlying56 hiw hwz hws hwb rfl (by decide) (.slice A s.l.length cap) s.l.length (cellsNc s.l) rfl HR3 ⟨w2.heap.size, 0, none⟩ 1 1 (ncCells (q, k)) rfl rfl (World.news_of_block (cs := (ncCells (q, k)).toArray) (Blk.new #[.int .i64 (q : Int), .int .i64 (k : Int)] 61 w2)) (by intro u hu; simp [ncCells] at hu; rcases hu with rfl | rfl <;> rfl) (by decide) (by unfold maxLen; omega) (by omega) ?_; intro v' w4 hr4 hg4 hat4; (rw [← hv] at hg4 hat4); (have HU := NAt.addRow HX3 hr4 hg4 hat4); (have hbk := (hg4.block p.g HX3.head.lt (fun he => HX3.apart he.symm)).trans HX3.head); (have q4 := (Blk.cell hbk 120).trans (nCells_l s p.vl)); (have f4 := Blk.free hbk 120); (obtain ⟨A4, c4, rfl, _⟩ := hr4.shape); (rw [hgp] at HU q4 f4); (rw [hv] at q4); (have HU := Lib.hid (UpT.ahead hb3 HU)); (clear hr4 hg4 hat4 hbk HX3 HR3 q2)))
      go_ret2
      exact ⟨rfl, HU.out⟩
  · have hc : claN s r = (s, 0, false) := by unfold claN; rw [if_neg hr]
    rw [hc]
    dsimp only
    have hup : Hid (UpT (NAt s) p w w) := UpT.same h (Fr.refl _ _)
    generalize p.g = g at *
    by_cases h0 : r ≤ 0
    · clear hr hc h
      go_enter Try.func10, Try.ntmps10
      go_wp2
      go_ret2
      exact ⟨rfl, hup.out⟩
    · have h1 : (32 : Int) ≤ r := by omega
      clear hr hc h
      go_enter Try.func10, Try.ntmps10
      go_wp2
      go_ret2
      exact ⟨rfl, hup.out⟩
end Go.Proofs.Ytoahejjeihmiiaa
