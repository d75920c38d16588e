/- The contract of the program's Sort: the places in the moments' order, those of one moment as they stood. -/
import Derived.Test.YtbpcggoplacplaaRows
import Derived.Test.YtbpcggoplacplaaMem
import Derived.Test.YtbpcggoplacplaaSm
import Derived.Test.YtbpcggoplacplaaSw
import Derived.Test.YtbpcggoplacplaaCm
import Derived.Test.YtbpcggoplacplaaIn
import Derived.Test.YtbpcggoplacplaaSb
import Derived.WalkKit
import Derived.WalkLawsBesides
import Derived.WalkSmall
import Derived.WalkSpells
import Derived.Laws.MakeOwn
import Derived.Lib.Hide
import Derived.Outline
namespace Go.Proofs.Ytbpcggoplacplaa
open Go.RowKit Go.Sort

theorem sortStable_any (w0 : World) (blk off cap B sz : Nat) (l : List Nat) (d : Array Int) (w : World) (S : SW w0 blk off d w) (R : Had w0 blk off sz) (V : Vals sz d) (C : CmpOk w0 blk off B l sz) (es : d.size = sz)
    (hsz : sz ≤ 1000000) (hx : ∀ p q, p < q → q < sz → d[p]! < d[q]!) :
    Calls Try.prog 30 #[.slice (some ⟨blk, off, none⟩) sz cap, .func (.func 31) #[] #[.pointer (some ⟨B, 0, none⟩)]] w fun e w' =>
      e = .returned (.tuple #[]) ∧ ∃ d', PermIn 0 sz d d' ∧ SrtIn (kyL l) 0 sz d' ∧ SW w0 blk off d' w' := by
  have HC := Lib.hid (stable_any w0 blk off cap B sz l d w S R V C es hsz hx)
  clear S R V C es hx
  go_enter Try.func30, Try.ntmps30
  go_wp2_with (first
    | (go_at_call 36; refine HC.out.mono ?_; rintro ee w2 ⟨rfl, h⟩))
  go_end0
  exact ⟨rfl, h⟩

/-- The numbers below n. -/
def ns (n : Nat) : List Int := (List.range n).map Int.ofNat
def cellsI (l : List Int) : List Value := l.map (Value.int .i64)
theorem ns_length (n : Nat) : (ns n).length = n := by simp [ns]
theorem ns_succ (n : Nat) : ns (n + 1) = ns n ++ [(n : Int)] := by simp [ns, List.range_succ]
theorem ns_get {n k : Nat} (h : k < n) : (ns n).toArray[k]! = (k : Int) := by
  rw [getElem!_pos _ k (by simp [ns]; exact h)]; simp [ns]
theorem mem_ns {n : Nat} {x : Int} : x ∈ ns n ↔ 0 ≤ x ∧ x < n := by
  simp only [ns, List.mem_map, List.mem_range]
  constructor
  · rintro ⟨k, hk, rfl⟩
    show 0 ≤ (k : Int) ∧ (k : Int) < n
    omega
  · rintro ⟨h0, h1⟩; exact ⟨x.toNat, by omega, by show ((x.toNat : Nat) : Int) = x; omega⟩

/-- The places of l in order: all of them, and none behind one that it is ahead of. -/
def IsStab (l : List Nat) (r : List Int) : Prop := r.length = l.length ∧ r.Pairwise (bef (kyL l)) ∧ ∀ x, x ∈ r ↔ 0 ≤ x ∧ x < l.length
theorem pairwise_of_srt {rk : Int → Int} {d : Array Int} (h : SrtIn rk 0 d.size d) : d.toList.Pairwise (bef rk) := by
  rw [List.pairwise_iff_getElem]
  intro i j hi hj hij
  have hi' : i < d.size := by simpa using hi
  have hj' : j < d.size := by simpa using hj
  have q := h i j (by omega) hij hj'
  rw [getElem!_pos d i hi', getElem!_pos d j hj'] at q
  simpa using q
theorem isStab_of {l : List Nat} {d : Array Int} (hp : PermIn 0 l.length (ns l.length).toArray d) (hs : SrtIn (kyL l) 0 l.length d) : IsStab l d.toList := by
  have e : d.size = l.length := by have := hp.1; simpa [ns] using this
  refine ⟨by simpa using e, pairwise_of_srt (by rw [e]; exact hs), fun x => ?_⟩
  have q := hp.2.2
  have e1 : d.extract 0 l.length = d := by rw [← e]; simp
  have e2 : (ns l.length).toArray.extract 0 l.length = (ns l.length).toArray := by
    have : (ns l.length).toArray.size = l.length := by simp [ns]
    apply Array.ext'
    simp [ns_length, List.take_of_length_le]
  rw [e1, e2] at q
  rw [q.mem_iff]
  exact mem_ns
theorem bef_asymm {rk : Int → Int} {x y : Int} (h : bef rk x y) : ¬ bef rk y x := by unfold bef at *; omega
theorem sorted_one {rk : Int → Int} : ∀ {r s : List Int}, r.Pairwise (bef rk) → s.Pairwise (bef rk) → (∀ x, x ∈ r ↔ x ∈ s) → r = s
  | [], [], _, _, _ => rfl
  | [], y :: s, _, _, h => by have := (h y).2 (List.mem_cons_self ..); cases this
  | x :: r, [], _, _, h => by have := (h x).1 (List.mem_cons_self ..); cases this
  | x :: r, y :: s, hr, hs, h => by
    rw [List.pairwise_cons] at hr hs
    have exy : x = y := by
      have h1 := (h x).1 (List.mem_cons_self ..)
      have h2 := (h y).2 (List.mem_cons_self ..)
      rcases List.mem_cons.1 h1 with e | h1
      · exact e
      · rcases List.mem_cons.1 h2 with e | h2
        · exact e.symm
        · exact absurd (hr.1 y h2) (bef_asymm (hs.1 x h1))
    subst exy
    refine congrArg (x :: ·) (sorted_one hr.2 hs.2 fun z => ?_)
    have hz := h z
    rw [List.mem_cons, List.mem_cons] at hz
    constructor
    · intro hm
      rcases hz.1 (.inr hm) with e | e
      · subst e; exact absurd (hr.1 z hm) (fun q => bef_asymm q q)
      · exact e
    · intro hm
      rcases hz.2 (.inr hm) with e | e
      · subst e; exact absurd (hs.1 z hm) (fun q => bef_asymm q q)
      · exact e
theorem isStab_one {l : List Nat} {r s : List Int} (h : IsStab l r) (g : IsStab l s) : r = s := sorted_one h.2.1 g.2.1 fun x => (h.2.2 x).trans (g.2.2 x).symm

theorem SW.below {w0 W : World} {blk off : Nat} {d : Array Int} (h : SW w0 blk off d W) : Below blk w0 W := by
  obtain ⟨n, rfl⟩ := h
  refine ⟨rfl, rfl, rfl, by show _ ≤ (putRow _ w0 blk off d).heap.size; rw [Go.Sort.size_putRow]; exact Nat.le_refl _, fun k hk => ?_⟩
  show (w0.heap.modify blk _)[k]? = _
  rw [Array.getElem?_modify, if_neg (by omega)]
theorem SW.sizeEq {w0 W : World} {blk off : Nat} {d : Array Int} (h : SW w0 blk off d W) : W.heap.size = w0.heap.size := by
  obtain ⟨n, rfl⟩ := h
  show (putRow _ w0 blk off d).heap.size = _
  rw [Go.Sort.size_putRow]
theorem SW.rd {w0 W : World} {blk : Nat} {d : Array Int} (h : SW w0 blk 0 d W) (R : Had w0 blk 0 d.size) (hb : blk < w0.heap.size) : Rd W W.heap.size (some ⟨blk, 0, none⟩) (cellsI d.toList) := by
  refine .inr ⟨blk, 0, rfl, by rw [h.sizeEq]; exact hb, fun i v hv => ?_⟩
  unfold cellsI at hv
  rw [List.getElem?_map, Option.map_eq_some_iff] at hv
  obtain ⟨z, hz, rfl⟩ := hv
  have hi : i < d.size := by
    rcases Nat.lt_or_ge i d.size with g | g
    · exact g
    · rw [List.getElem?_eq_none (by simpa using g)] at hz; cases hz
  rw [h.c1 R i hi, getElem!_pos d i hi]
  rw [List.getElem?_eq_getElem (by simpa using hi)] at hz
  simp at hz
  rw [hz]

/-- The call returns the places in order, in new memory. -/
def RetS (l : List Nat) (w : World) (e : Ending) (w' : World) : Prop := ∃ A cap r, e = .returned (.slice A l.length cap) ∧ IsStab l r ∧ Rd w' w'.heap.size A (cellsI r) ∧ Below w.heap.size w w'

theorem Try.info3 : (Try.prog.info? 3).map (fun i => (i.zero, i.size, i.bytes)) = some (some (.int .i64 0), 1, 8) := by kernel_rfl
def zerosI (m : Nat) : List Value := List.replicate m (.int .i64 0)
theorem madeCells_zerosI (m : Nat) : (madeCells #[Value.int .i64 0] m).toList = zerosI m := by
  apply List.ext_getElem
  · simp [madeCells, zerosI]
  · intro i h1 h2
    simp [madeCells, zerosI, Nat.mod_one]
theorem zerosI_set (k m : Nat) (hk : k < m) : (cellsI (ns k) ++ zerosI (m - k)).set k (.int .i64 (k : Int)) = cellsI (ns (k + 1)) ++ zerosI (m - (k + 1)) := by
  have hl : (cellsI (ns k)).length = k := by simp [cellsI, ns]
  rw [List.set_append_right _ _ (by omega), hl, Nat.sub_self, ns_succ]
  unfold zerosI
  rw [show m - k = (m - (k + 1)) + 1 by omega, List.replicate_succ, List.set_cons_zero]
  simp [cellsI]
theorem holds_of_own {w : World} {base g n : Nat} {e : TypeId} (h : w.ownsRow base e 1 (.slice (some ⟨g, 0, none⟩) n n) n (cellsI (ns n))) : Holds (Value.int .i64) w g 0 (ns n).toArray := fun j hj => by
  have hj' : j < n := by simpa [ns] using hj
  rw [Nat.zero_add]
  refine ⟨?_, h.frozenAt j⟩
  rw [h.cellAt j (by omega), ns_get hj']
  unfold cellsI ns
  simp [hj']

theorem vals_ns (n : Nat) : Vals n (ns n).toArray := fun k hk => by
  have hk' : k < n := by simpa [ns] using hk
  rw [ns_get hk']; omega
theorem cmpOk_of (A : Option Addr) (cap g B : Nat) (l : List Nat) (w wr : World) (hl : l.length ≤ 1000000) (hw : Words l) (hr : Rd w w.heap.size A (cellsF l)) (hB : B < g) (hwB : w.heap.size ≤ B)
    (hold : ∀ b o, b < w.heap.size → wr.cell? ⟨b, o, none⟩ = w.cell? ⟨b, o, none⟩) (hbox : wr.cell? ⟨B, 0, none⟩ = some (.slice A l.length cap)) (hsz : w.heap.size ≤ wr.heap.size) : CmpOk wr g 0 B l l.length := fun d W _ _ hS x y hx hy m => by
  have hk : ∀ b o, b < g → (W.drewN m).cell? ⟨b, o, none⟩ = wr.cell? ⟨b, o, none⟩ := fun b o hb => hS.other ⟨b, o, none⟩ (by show b ≠ g; omega)
  refine closure_any A cap B l x y (W.drewN m) hw (by omega) ((hk B 0 hB).trans hbox) ?_ hx.1 hx.2 hy.1 hy.2
  refine (hr.keep (w' := W.drewN m) fun b o hb => (hk b o (by omega)).trans (hold b o hb)).mono ?_
  show w.heap.size ≤ W.heap.size
  rw [hS.sizeEq]; exact hsz

set_option maxHeartbeats 800000 in
set_option maxRecDepth 100000 in
theorem sort_any (A : Option Addr) (cap : Nat) (l : List Nat) (w : World) (hl : l.length ≤ 1000000) (hw : Words l) (hr : Rd w w.heap.size A (cellsF l)) :
    Calls Try.prog 22 #[.slice A l.length cap] w (RetS l w) := by
  obtain ⟨i0, hi, hz0, hz1, hz2⟩ := info_parts Try.info3
  have hmf : ∀ (fn : Fn) (first cap : Array Value) (w : World), (Instr.makeFunc fn first cap).run Try.prog w = .ok (.func fn first cap) w := fun _ _ _ _ => rfl
  have HR := Lib.hid hr
  have HW := Lib.hid hw
  clear hr hw
  go_enter Try.func22, Try.ntmps22
  go_wp2_with (at_make; refine wpList_make_full _ rfl _ _ 35 rfl (w.heap.size + 1) 3 i0 (.int .i64 0) 1 Try.underlying35 hi hz0 hz1 .i64 .i64 _ _ l.length rfl rfl ?_ ?_ ?_ ?_ ?_ ?_)
  · rfl
  · rfl
  · rw [hz2]; omega
  · unfold maxLen; omega
  · simp
  intro w1 hown hgrow
  have hbl : Below (w.heap.size + 1) (w.alloc (.cells #[.slice A l.length cap] 34)) w1 := (Below.refl _ _).grown hgrow (by simp) (fun _ h => by cases h)
  have hown1 : w1.ownsRow (w.heap.size + 1) 3 1 (.slice (some ⟨w.heap.size + 1, 0, none⟩) l.length l.length) l.length (cellsI (ns 0) ++ zerosI (l.length - 0)) := by
    show w1.ownsRow _ _ _ _ _ (zerosI l.length)
    rw [← madeCells_zerosI l.length]; exact hown
  clear hown hgrow hi hz0 hz1 hz2
  go_wp2
  go_loopw [10] (fun i wx => Below (w.heap.size + 1) (w.alloc (.cells #[.slice A l.length cap] 34)) wx ∧ ∃ k : Nat, k ≤ l.length ∧ i = .int .i64 k ∧ wx.ownsRow (w.heap.size + 1) 3 1 (.slice (some ⟨w.heap.size + 1, 0, none⟩) l.length l.length) l.length (cellsI (ns k) ++ zerosI (l.length - k))) (fun i _ => l.length - (intOf i).toNat)
  case atStart => exact ⟨hbl, 0, by omega, rfl, hown1⟩
  case round =>
    obtain ⟨hblr, k, hk, rfl, howr⟩ := hrel
    clear hbl hown1
    by_cases hlt : k < l.length
    · have hcell := howr.cellAt k (by omega)
      have hfz := howr.frozenAt k
      obtain ⟨u, hu⟩ : ∃ u, (cellsI (ns k) ++ zerosI (l.length - k))[k]? = some u := ⟨_, List.getElem?_eq_getElem (by simp [cellsI, ns, zerosI]; omega)⟩
      rw [hu] at hcell
      clear hu
      go_wp2
      go_roundw
      case rel =>
        have hst := (howr.stored k (.int .i64 (k : Int))).1
        rw [zerosI_set k l.length hlt] at hst
        exact ⟨hblr.setCell (Nat.le_refl _) _, k + 1, by omega, by go_num, hst⟩
      case measure => simp [intOf]; omega
    · have hkl : k = l.length := by omega
      rw [hkl, Nat.sub_self] at howr
      simp only [zerosI, List.replicate_zero, List.append_nil] at howr
      have H := holds_of_own howr
      have hsz : w.heap.size + 1 < wr.heap.size := (howr.lt _ rfl).2
      have hbox : wr.cell? ⟨w.heap.size, 0, none⟩ = some (.slice A l.length cap) := by rw [hblr.cell (p := ⟨w.heap.size, 0, none⟩) (by show w.heap.size < _; omega)]; simp
      have hold : ∀ b o, b < w.heap.size → wr.cell? ⟨b, o, none⟩ = w.cell? ⟨b, o, none⟩ := fun b o hb => by
        rw [hblr.cell (p := ⟨b, o, none⟩) (by show b < _; omega)]
        exact ((Below.refl w.heap.size w).alloc (Nat.le_refl _) _).cell (p := ⟨b, o, none⟩) hb
      have HC := Lib.hid (sortStable_any wr (w.heap.size + 1) 0 l.length w.heap.size l.length l (ns l.length).toArray wr (SW.start H) ⟨_, by simp [ns], H⟩
        (vals_ns _)
        (cmpOk_of A cap (w.heap.size + 1) w.heap.size l w wr hl HW.out HR.out (by omega) (Nat.le_refl _) hold hbox (by omega)) (by simp [ns]) hl
        (fun p q hpq hq => by rw [ns_get (by omega), ns_get hq]; omega))
      have HH := Lib.hid H
      have HB : Below w.heap.size w wr := ((Below.refl w.heap.size w).alloc (Nat.le_refl _) _).trans (hblr.mono (by omega))
      clear H hbox hold howr hblr hkl
      go_wp2_with (first
        | (go_at_call 30; refine HC.out.mono ?_; rintro ee w2 ⟨rfl, d', hp, hs, hS⟩))
      go_ret
      have hd : d'.size = l.length := by have := hp.1; simpa [ns] using this
      exact ⟨_, _, d'.toList, rfl, isStab_of hp hs, hS.rd ⟨_, by rw [hd]; simp [ns], HH.out⟩ hsz, HB.trans (hS.below.mono (by omega))⟩
end Go.Proofs.Ytbpcggoplacplaa
