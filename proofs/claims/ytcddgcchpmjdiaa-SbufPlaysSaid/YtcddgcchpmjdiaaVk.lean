/- seek: the last store of which something is so, and the place of its entry. -/
import Derived.Test.YtcddgcchpmjdiaaVs
set_option maxRecDepth 100000
set_option linter.unusedVariables false
namespace Go.Proofs.Ytcddgcchpmjdiaa
open Go.RowKit Go.Shelf

attribute [local go_sem] Oper.semAt_some

def w4 (x : Wr) : Value := .agg #[.int .i64 x.id, .int .i64 x.addr, .int .i64 x.size, .int .u64 x.data]
def wr0 : Wr := ⟨0, 0, 0, 0⟩
def z4 : Array Value := #[.int .i64 0, .int .i64 0, .int .i64 0, .int .u64 0]
/-- What seek tells. -/
def SeekR (f : Wr → Bool) (L : Nat) (m : Nat → Nat) (st : Nat → Nat → Wr) (k : Int) (x : Wr) (ok : Bool) : Prop :=
  (ok = false ∧ k = 0 ∧ x = wr0 ∧ ∀ i j, i < L → j < m i → f (st i j) = false) ∨
  (ok = true ∧ ∃ i j : Nat, i < L ∧ j < m i ∧ k = (i : Int) ∧ x = st i j ∧ f x = true ∧ (∀ j', j < j' → j' < m i → f (st i j') = false) ∧ ∀ i' j', i < i' → i' < L → j' < m i' → f (st i' j') = false)
/-- What the break leaves in the boxes. -/
structure Fnd (n0 b1 b2 b3 b4 : Nat) (k : Int) (x : Wr) (w W : World) : Prop where
  res : Blk z4 34 b1 W
  at_ : Blk #[.int .i64 k] 3 b2 W
  fnd : Blk (wrCells x) 34 b3 W
  ok : Blk #[.bool true] 4 b4 W
  low : Below n0 w W
theorem Blk.own {cs : Array Value} {t : TypeId} {g : Nat} {X Y : World} {row : Option Nat} {B : Nat} (h : Blk cs t g X) (hg : X.grownBy Y row) (hr : ∀ r, row = some r → B ≤ r ∧ ∃ o : Obj, X.heap[r]? = some o ∧ o.isCells = false) : Blk cs t g Y := by
  refine (hg.block g h.lt (fun e => ?_)).trans h
  obtain ⟨_, o, ho, hc⟩ := hr g e.symm
  have h' : X.heap[g]? = some (.cells cs t (0, 0)) := h
  rw [h'] at ho
  cases ho
  cases hc
theorem Fnd.own {n0 b1 b2 b3 b4 : Nat} {k : Int} {x : Wr} {w X Y : World} {row : Option Nat} {B : Nat} (h : Fnd n0 b1 b2 b3 b4 k x w X) (hB : n0 ≤ B) (h0 : n0 ≤ w.heap.size) (hg : X.grownBy Y row) (hr : ∀ r, row = some r → B ≤ r ∧ ∃ o : Obj, X.heap[r]? = some o ∧ o.isCells = false) : Fnd n0 b1 b2 b3 b4 k x w Y :=
  ⟨h.res.own hg hr, h.at_.own hg hr, h.fnd.own hg hr, h.ok.own hg hr, h.low.grown hg (Nat.le_trans h0 h.low.size) (fun r e => Nat.le_trans hB (hr r e).1)⟩
theorem Blk.oth {cs : Array Value} {t : TypeId} {g : Nat} {w : World} (h : Blk cs t g w) (b o : Nat) (hne : g ≠ b) (v : Value) : Blk cs t g (w.setCell ⟨b, o, none⟩ v) := h.other hne v
theorem fnd_put {n0 b1 b2 b3 b4 B : Nat} {k : Int} {x : Wr} {w W : World} (k1 : Blk z4 34 b1 W) (k2 : Blk #[.int .i64 0] 3 b2 W) (k3 : Blk z4 34 b3 W) (k4 : Blk #[.bool false] 4 b4 W) (hl : Below n0 w W) (e1 : n0 ≤ b1) (e2 : b1 < b2) (e3 : b2 < b3) (e4 : b3 < b4) :
    Fnd n0 b1 b2 b3 b4 k x w ((((((W.setCell ⟨b2, 0, none⟩ (.int .i64 k)).setCell ⟨b3, 0, none⟩ (.int .i64 x.id)).setCell ⟨b3, 1, none⟩ (.int .i64 x.addr)).setCell ⟨b3, 2, none⟩ (.int .i64 x.size)).setCell ⟨b3, 3, none⟩ (.int .u64 x.data)).setCell ⟨b4, 0, none⟩ (.bool true)).drew ∧
    KeepsFrom B W ((((((W.setCell ⟨b2, 0, none⟩ (.int .i64 k)).setCell ⟨b3, 0, none⟩ (.int .i64 x.id)).setCell ⟨b3, 1, none⟩ (.int .i64 x.addr)).setCell ⟨b3, 2, none⟩ (.int .i64 x.size)).setCell ⟨b3, 3, none⟩ (.int .u64 x.data)).setCell ⟨b4, 0, none⟩ (.bool true)).drew := by
  refine ⟨⟨?_, ?_, ?_, ?_, ?_⟩, ?_⟩
  · exact ((((((k1.oth b2 0 (by omega) _).oth b3 0 (by omega) _).oth b3 1 (by omega) _).oth b3 2 (by omega) _).oth b3 3 (by omega) _).oth b4 0 (by omega) _).drew
  · exact ((((((k2.set 0 (.int .i64 k)).oth b3 0 (by omega) _).oth b3 1 (by omega) _).oth b3 2 (by omega) _).oth b3 3 (by omega) _).oth b4 0 (by omega) _).drew
  · exact ((((((k3.oth b2 0 (by omega) _).set 0 (.int .i64 x.id)).set 1 (.int .i64 x.addr)).set 2 (.int .i64 x.size)).set 3 (.int .u64 x.data)).oth b4 0 (by omega) _).drew
  · exact ((((((k4.oth b2 0 (by omega) _).oth b3 0 (by omega) _).oth b3 1 (by omega) _).oth b3 2 (by omega) _).oth b3 3 (by omega) _).set 0 (.bool true)).drew
  · exact Below.drew ((((((hl.setCell (p := ⟨b2, 0, none⟩) (by show n0 ≤ b2; omega) _).setCell (p := ⟨b3, 0, none⟩) (by show n0 ≤ b3; omega) _).setCell (p := ⟨b3, 1, none⟩) (by show n0 ≤ b3; omega) _).setCell (p := ⟨b3, 2, none⟩) (by show n0 ≤ b3; omega) _).setCell (p := ⟨b3, 3, none⟩) (by show n0 ≤ b3; omega) _).setCell (p := ⟨b4, 0, none⟩) (by show n0 ≤ b4; omega) _)
  · exact KeepsOthers.from (((((((KeepsOthers.setCell _ _ _).trans (KeepsOthers.setCell _ _ _)).trans (KeepsOthers.setCell _ _ _)).trans (KeepsOthers.setCell _ _ _)).trans (KeepsOthers.setCell _ _ _)).trans (KeepsOthers.setCell _ _ _)).trans (KeepsOthers.drew _)) _
/-- What is told lies in its block. -/
theorem res_put {n0 b1 : Nat} {x : Wr} {w W : World} (k1 : Blk z4 34 b1 W) (hl : Below n0 w W) (e1 : n0 ≤ b1) :
    Blk (wrCells x) 34 b1 ((((W.setCell ⟨b1, 0, none⟩ (.int .i64 x.id)).setCell ⟨b1, 1, none⟩ (.int .i64 x.addr)).setCell ⟨b1, 2, none⟩ (.int .i64 x.size)).setCell ⟨b1, 3, none⟩ (.int .u64 x.data)).drew ∧
    Below n0 w ((((W.setCell ⟨b1, 0, none⟩ (.int .i64 x.id)).setCell ⟨b1, 1, none⟩ (.int .i64 x.addr)).setCell ⟨b1, 2, none⟩ (.int .i64 x.size)).setCell ⟨b1, 3, none⟩ (.int .u64 x.data)).drew ∧
    KeepsOthers W ((((W.setCell ⟨b1, 0, none⟩ (.int .i64 x.id)).setCell ⟨b1, 1, none⟩ (.int .i64 x.addr)).setCell ⟨b1, 2, none⟩ (.int .i64 x.size)).setCell ⟨b1, 3, none⟩ (.int .u64 x.data)).drew := by
  refine ⟨?_, ?_, ?_⟩
  · exact ((((k1.set 0 (.int .i64 x.id)).set 1 (.int .i64 x.addr)).set 2 (.int .i64 x.size)).set 3 (.int .u64 x.data)).drew
  · exact Below.drew ((((hl.setCell (p := ⟨b1, 0, none⟩) e1 _).setCell (p := ⟨b1, 1, none⟩) e1 _).setCell (p := ⟨b1, 2, none⟩) e1 _).setCell (p := ⟨b1, 3, none⟩) e1 _)
  · exact (((((KeepsOthers.setCell _ _ _).trans (KeepsOthers.setCell _ _ _)).trans (KeepsOthers.setCell _ _ _)).trans (KeepsOthers.setCell _ _ _)).trans (KeepsOthers.drew _))
theorem Blk.put {cs : Array Value} {t : TypeId} {g D : Nat} {X : World} {o o' : Obj} (h : Blk cs t g X) (hD : X.heap[D]? = some o) (ho : o.isCells = false) : Blk cs t g (X.putObj D o') :=
  h.own (B := 0) (grownBy_putObj' X D o') (fun r e => by cases e; exact ⟨Nat.zero_le _, o, hD, ho⟩)
theorem results_tct {P : Program} {fn : Func} {p q r : Tmp} {ty : TypeId} {d : TypeDesc} {cs : Array Value} {t : TypeId} {g : Nat} {w : World} {tmps : Array Value} {vp vr : Value} (h : fn.results = #[.tmp p, .cell q ty, .tmp r]) (hq : tmps.getD q undef = .pointer (some ⟨g, 0, none⟩)) (hp : tmps.getD p undef = vp) (hr : tmps.getD r undef = vr) (hb : Blk cs t g w)
    (hu : P.underlying ty = some d) (hd : (match d with | .struct _ | .array _ _ => true | _ => false) = true) (hi : (P.info? ty).map (·.size) = some cs.size) :
    (results fn tmps).run P w = .ok (.tuple #[vp, .agg cs, vr]) w := by
  have hq' : tmps[q]?.getD undef = .pointer (some ⟨g, 0, none⟩) := by simpa using hq
  have hp' : tmps[p]?.getD undef = vp := by simpa using hp
  have hr' : tmps[r]?.getD undef = vr := by simpa using hr
  simp [results, h, hq', hp', hr', asAddr, hb.var hu hd hi]
theorem keepsFrom_low {B n : Nat} {W W' : World} (h : Below n W W') (hn : W.heap.size ≤ n) : KeepsFrom B W W' :=
  ⟨h.size, fun k o _ hk _ => (h.block k (by have := (Array.getElem?_eq_some_iff.1 hk).1; omega)).trans hk⟩

set_option maxHeartbeats 8000000 in
theorem seekF_core (d0 : Value) (pv A : Option Addr) (cap L : Nat) (ep : Nat → Int) (sv : Nat → Value) (m : Nat → Nat) (st : Nat → Nat → Wr) (f : Wr → Bool) (w : World) (hL : L ≤ 1000) (hm : ∀ i, i < L → m i ≤ 1000)
    (hA : 0 < L → ∃ b, A = some ⟨b, 0, none⟩ ∧ b < w.heap.size ∧ ∀ j, j < L → w.cell? ⟨b, j * 2, none⟩ = some (.int .i64 (ep j)) ∧ w.cell? ⟨b, j * 2 + 1, none⟩ = some (sv j))
    (hS : ∀ i, i < L → ∃ c cp, sv i = .slice (some ⟨c, 0, none⟩) (m i) cp ∧ c < w.heap.size ∧ ∀ j, j < m i → w.cell? ⟨c, j * 4, none⟩ = some (.int .i64 (st i j).id) ∧ w.cell? ⟨c, j * 4 + 1, none⟩ = some (.int .i64 (st i j).addr) ∧ w.cell? ⟨c, j * 4 + 2, none⟩ = some (.int .i64 (st i j).size) ∧ w.cell? ⟨c, j * 4 + 3, none⟩ = some (.int .u64 (st i j).data))
    (hall : ∀ X, BW w X → Calls Try.prog 35 #[.pointer pv] X fun e X' => e = .returned (.slice A L cap) ∧ X = X')
    (hso : ∀ i j, i < L → j < m i → ∀ X, BW w X → Calls Try.prog 40 #[.agg #[.int .i64 (st i j).id, .int .i64 (st i j).addr, .int .i64 (st i j).size, .int .u64 (st i j).data], d0] X fun e X' => e = .returned (.bool (f (st i j))) ∧ BW X X') :
    Calls Try.prog 39 #[.pointer pv, .func (.func 40) #[] #[d0]] w fun e w' => (∃ k x ok, e = .returned (.tuple #[.int .i64 k, w4 x, .bool ok]) ∧ SeekR f L m st k x ok) ∧ BW w w' := by
  refine (callsIn_wide (n := 9)).1 ?_
  refine callsIn_of_wp_marks Try.func39 rfl trivial ?_ rfl
  simp only [Try.ntmps39, List.size_toArray, List.length_cons, List.length_nil, Nat.reduceAdd, Nat.reduceSub, Array.replicate_succ, Array.replicate_zero, List.push_toArray, List.append_toArray, List.nil_append, List.cons_append]
  have HALL := Lib.hid hall
  clear hall
  have HBA : ∀ X, BW w X → BW w X := fun _ h => h
  gi_wp2_with (first
    | apply wpIn_scope_straight
    | apply wpIn_label
    | (refine ⟨trivial, ?_⟩; gi_at_call 35; refine (callsIn_wide.2 (HALL.out _ (by repeat (first | exact Below.refl _ _ | refine BW.new ?_ _)))).mono ?_; rintro e w' ⟨rfl, rfl⟩)
    | (refine ⟨trivial, ?_⟩; gi_at_call 50; refine (backWE_in Fence.wide _ trivial rfl _ _ _ _).mono ?_; rintro e w' ⟨rfl, rfl⟩))
  obtain ⟨n0, hn0⟩ : ∃ n0, w.heap.size = n0 := ⟨_, rfl⟩
  obtain ⟨b1, hb1⟩ : ∃ b, n0 + 1 = b := ⟨_, rfl⟩
  obtain ⟨b2, hb2⟩ : ∃ b, b1 + 1 = b := ⟨_, rfl⟩
  obtain ⟨b3, hb3⟩ : ∃ b, b2 + 1 = b := ⟨_, rfl⟩
  obtain ⟨b4, hb4⟩ : ∃ b, b3 + 1 = b := ⟨_, rfl⟩
  obtain ⟨b5, hb5⟩ : ∃ b, b4 + 1 = b := ⟨_, rfl⟩
  rw [hn0, hb1, hb2, hb3, hb4, hb5]
  have hz4 : #[Value.int IntKind.i64 0, Value.int IntKind.i64 0, Value.int IntKind.i64 0, Value.int IntKind.u64 0] = z4 := rfl
  rw [hz4]
  clear hz4
  obtain ⟨dvv, hdv⟩ : ∃ dvv : Value, dvv = .func (.func 40) #[] #[d0] := ⟨_, rfl⟩
  rw [← hdv]
  have HDV := Lib.hid hdv
  clear hdv
  obtain ⟨W0, hW0⟩ : ∃ W0, ((((((w.alloc (Obj.cells #[dvv] 37)).alloc (Obj.cells z4 34)).alloc (Obj.cells #[Value.int IntKind.i64 0] 3)).alloc (Obj.cells z4 34)).alloc (Obj.cells #[Value.bool false] 4)).alloc (Obj.cells #[Value.slice A L cap] 25)) = W0 := ⟨_, rfl⟩
  rw [hW0]
  have hsz : W0.heap.size = b5 + 1 := by rw [← hW0]; simp only [World.size_alloc]; omega
  have hbw : Below n0 w W0 := by
    rw [← hW0, ← hn0]
    exact ((((((Below.refl _ w).alloc (by omega) _).alloc (by simp only [World.size_alloc]; omega) _).alloc (by simp only [World.size_alloc]; omega) _).alloc (by simp only [World.size_alloc]; omega) _).alloc (by simp only [World.size_alloc]; omega) _).alloc (by simp only [World.size_alloc]; omega) _
  have k0 : Blk #[dvv] 37 n0 W0 := by
    rw [← hW0, ← hn0]; exact (((((Blk.new _ _ w).alloc _).alloc _).alloc _).alloc _).alloc _
  have k1 : Blk z4 34 b1 W0 := by
    rw [← hW0]
    have := ((((Blk.new z4 34 (w.alloc (Obj.cells #[dvv] 37))).alloc (Obj.cells #[Value.int IntKind.i64 0] 3)).alloc (Obj.cells z4 34)).alloc (Obj.cells #[Value.bool false] 4)).alloc (Obj.cells #[Value.slice A L cap] 25)
    simp only [World.size_alloc, hn0, hb1] at this
    exact this
  have k2 : Blk #[.int .i64 0] 3 b2 W0 := by
    rw [← hW0]
    have := (((Blk.new #[.int .i64 0] 3 ((w.alloc (Obj.cells #[dvv] 37)).alloc (Obj.cells z4 34))).alloc (Obj.cells z4 34)).alloc (Obj.cells #[Value.bool false] 4)).alloc (Obj.cells #[Value.slice A L cap] 25)
    simp only [World.size_alloc, hn0, hb1, hb2] at this
    exact this
  have k3 : Blk z4 34 b3 W0 := by
    rw [← hW0]
    have := ((Blk.new z4 34 (((w.alloc (Obj.cells #[dvv] 37)).alloc (Obj.cells z4 34)).alloc (Obj.cells #[Value.int IntKind.i64 0] 3))).alloc (Obj.cells #[Value.bool false] 4)).alloc (Obj.cells #[Value.slice A L cap] 25)
    simp only [World.size_alloc, hn0, hb1, hb2, hb3] at this
    exact this
  have k4 : Blk #[.bool false] 4 b4 W0 := by
    rw [← hW0]
    have := (Blk.new #[.bool false] 4 ((((w.alloc (Obj.cells #[dvv] 37)).alloc (Obj.cells z4 34)).alloc (Obj.cells #[Value.int IntKind.i64 0] 3)).alloc (Obj.cells z4 34))).alloc (Obj.cells #[Value.slice A L cap] 25)
    simp only [World.size_alloc, hn0, hb1, hb2, hb3, hb4] at this
    exact this
  have k5 : Blk #[.slice A L cap] 25 b5 W0 := by
    rw [← hW0]
    have := Blk.new #[.slice A L cap] 25 (((((w.alloc (Obj.cells #[dvv] 37)).alloc (Obj.cells z4 34)).alloc (Obj.cells #[Value.int IntKind.i64 0] 3)).alloc (Obj.cells z4 34)).alloc (Obj.cells #[Value.bool false] 4))
    simp only [World.size_alloc, hn0, hb1, hb2, hb3, hb4, hb5] at this
    exact this
  clear hW0
  have hA0 : 0 < L → ∃ b, A = some ⟨b, 0, none⟩ ∧ b < W0.heap.size ∧ ∀ j, j < L → W0.cell? ⟨b, j * 2, none⟩ = some (.int .i64 (ep j)) ∧ W0.cell? ⟨b, j * 2 + 1, none⟩ = some (sv j) := fun h => by
    obtain ⟨b, e1, e2, e3⟩ := hA h
    exact ⟨b, e1, by omega, fun j hj => ⟨(hbw.cell (p := ⟨b, j * 2, none⟩) (by show b < _; omega)).trans (e3 j hj).1, (hbw.cell (p := ⟨b, j * 2 + 1, none⟩) (by show b < _; omega)).trans (e3 j hj).2⟩⟩
  refine wpIn_rangeFunc_ownH (F := Fence.wide) rfl (by omega) (gf := 54) (lb := #[.pointer (some ⟨b5, 0, none⟩)]) rfl trivial (enters_of Try.func54 (by kernel_rfl) rfl)
    (backE_stops Fence.wide 8 trivial rfl (by omega) b5 cap L A ep sv (by omega) W0 (k5.cell 0) (by omega) hA0) belowK_t (belowK_b (Nat.le_refl _)) (Below.refl _ _) (fun _ => rfl)
    (fun pre W => (∀ i ∈ pre, ∀ j, j < m i.1 → f (st i.1 j) = false) ∧ Below W0.heap.size W0 W)
    (fun c pre W => c = .exit 0 ∧ ∃ pre' x, ∃ j : Nat, pre = pre' ++ [x] ∧ (∀ i ∈ pre', ∀ j', j' < m i.1 → f (st i.1 j') = false) ∧ j < m x.1 ∧ f (st x.1 j) = true ∧ (∀ j', j < j' → j' < m x.1 → f (st x.1 j') = false) ∧ Fnd n0 b1 b2 b3 b4 (x.1 : Nat) (st x.1 j) w W)
    (OwnFrom.and (ownFrom_pure _ _) (ownFrom_below (Nat.le_refl _) (Nat.le_refl _)))
    (fun c s X Y row hs hg hr => by
      obtain ⟨h1, p', x, j, h2, h3, h4, h5, h6, h7⟩ := hs
      exact ⟨h1, p', x, j, h2, h3, h4, h5, h6, h7.own (B := W0.heap.size) (by omega) (by omega) hg hr⟩)
    ⟨by simp, Below.refl _ _⟩
    (fun x a' W => ∃ Bk Be, W0.heap.size ≤ Bk ∧ W0.heap.size ≤ Be ∧ Blk #[.int .i64 (x.1 : Nat)] 3 Bk W ∧ Blk #[.int .i64 (ep x.1), sv x.1] 60 Be W ∧ a' = { tmps := #[.pointer pv, dvv, undef, .pointer (some ⟨n0, 0, none⟩), .int .i64 0, .pointer (some ⟨b1, 0, none⟩), .bool false, .pointer (some ⟨b2, 0, none⟩), .pointer (some ⟨b3, 0, none⟩), .pointer (some ⟨b4, 0, none⟩), .pointer (some ⟨Bk, 0, none⟩), .pointer (some ⟨Be, 0, none⟩), undef, undef, .agg z4, .pointer pv, .slice A L cap, .func (.func 54) #[] #[.pointer (some ⟨b5, 0, none⟩)], .int .i64 (x.1 : Nat), .agg #[.int .i64 (ep x.1), sv x.1], undef, undef, undef, undef, undef, undef, undef, undef, undef, undef, undef, undef, undef], defers := [] })
    (fun x a' _ X Y row hs hg hr => by obtain ⟨Bk, Be, e1, e2, e3, e4, e5⟩ := hs; exact ⟨Bk, Be, e1, e2, e3.own hg hr, e4.own hg hr, e5⟩)
    ?assign ?body ?done ?stop
  case assign =>
    rintro l pre x W K ⟨hp, hB1⟩ hK
    have hs1 := hB1.size
    obtain ⟨cx, cpx, hsv, _, _⟩ := hS x.1 x.2
    rw [hsv] at hK ⊢
    gi_wp2
    exact hK _ _ (((KeepsOthers.alloc _ _).trans (KeepsOthers.alloc _ _)).from _) (((Below.refl _ W).alloc hs1 _).alloc (by simp only [World.size_alloc]; omega) _) ⟨hp, (hB1.alloc hs1 _).alloc (by simp only [World.size_alloc]; omega) _⟩ ⟨W.heap.size, W.heap.size + 1, hs1, by omega, (Blk.new _ _ _).alloc _, (by have := Blk.new #[.int .i64 (ep x.1), .slice (some ⟨cx, 0, none⟩) (m x.1) cpx] 60 (W.alloc (.cells #[.int .i64 (x.1 : Nat)] 3)); rw [World.size_alloc] at this; exact this), rfl⟩
  case body =>
    rintro l pre x a' W hl ⟨r, hr⟩ ⟨hp, hB1⟩ ⟨Bk, Be, hBk, hBe, bK, bE, rfl⟩ hlt
    obtain ⟨cx, cpx, hsv, hcx, hst⟩ := hS x.1 x.2
    have hs1 := hB1.size
    have cE : W.cell? ⟨Be, 1, none⟩ = some (.slice (some ⟨cx, 0, none⟩) (m x.1) cpx) := by rw [← hsv]; exact bE.cell 1
    clear hsv
    gi_wp2_with (first
      | (refine ⟨trivial, ?_⟩; gi_at_call 51; refine (CallsIn.inRound l (backWS_in Fence.wide _ trivial rfl _ _ _ _)).mono ?_; rintro e w' ⟨rfl, rfl⟩))
    have hr' : (W.alloc (.cells #[.slice (some ⟨cx, 0, none⟩) (m x.1) cpx] 39)).heap[l]? = some (.loop r) := (Below.heap_alloc W _ l (Array.getElem?_eq_some_iff.1 hr).1).trans hr
    have kN := Blk.new #[.slice (some ⟨cx, 0, none⟩) (m x.1) cpx] 39 W
    have hWn : Below W0.heap.size W0 (W.alloc (.cells #[.slice (some ⟨cx, 0, none⟩) (m x.1) cpx] 39)) := hB1.alloc hs1 _
    have hKn : KeepsFrom W0.heap.size W (W.alloc (.cells #[.slice (some ⟨cx, 0, none⟩) (m x.1) cpx] 39)) := (KeepsOthers.alloc _ _).from _
    have hLn : Below W0.heap.size W (W.alloc (.cells #[.slice (some ⟨cx, 0, none⟩) (m x.1) cpx] 39)) := (Below.refl _ W).alloc hs1 _
    have bK' := bK.alloc (.cells #[.slice (some ⟨cx, 0, none⟩) (m x.1) cpx] 39)
    have hsn : (W.alloc (.cells #[.slice (some ⟨cx, 0, none⟩) (m x.1) cpx] 39)).heap.size = W.heap.size + 1 := World.size_alloc _ _
    obtain ⟨Wn, hWn0⟩ : ∃ Wn, W.alloc (.cells #[.slice (some ⟨cx, 0, none⟩) (m x.1) cpx] 39) = Wn := ⟨_, rfl⟩
    rw [hWn0] at hr' kN hWn hKn hLn bK' hsn ⊢
    clear hWn0
    have hbn : Below n0 w Wn := hbw.trans (hWn.mono (by omega))
    refine wpIn_rangeFunc_ownN (l₀ := l) (r₀ := r) rfl hr' (by omega) (gf := 55) (lb := #[.pointer (some ⟨W.heap.size, 0, none⟩)]) rfl trivial (enters_of Try.func55 (by kernel_rfl) rfl)
      ((backS_stops Fence.wide 6 trivial rfl (by omega) W.heap.size cpx (m x.1) (some ⟨cx, 0, none⟩) (st x.1) (by have := hm x.1 x.2; omega) Wn (kN.cell 0) (by omega) (fun _ => ⟨cx, rfl, by have := hbn.size; omega, fun j hj => by
        obtain ⟨e1, e2, e3, e4⟩ := hst j hj
        exact ⟨(hbn.cell (p := ⟨cx, j * 4, none⟩) (by show cx < _; omega)).trans e1, (hbn.cell (p := ⟨cx, j * 4 + 1, none⟩) (by show cx < _; omega)).trans e2, (hbn.cell (p := ⟨cx, j * 4 + 2, none⟩) (by show cx < _; omega)).trans e3, (hbn.cell (p := ⟨cx, j * 4 + 3, none⟩) (by show cx < _; omega)).trans e4⟩⟩)).inRound l) belowK_t (belowK_b (Nat.le_refl _)) (Below.refl _ _) (fun _ => rfl)
      (fun pre' W' => (∀ j ∈ pre', f (st x.1 j.1) = false) ∧ Below Wn.heap.size Wn W')
      (fun c pre' W' => (c = .exit 0 ∧ ∃ q, ∃ j : Fin (m x.1), pre' = q ++ [j] ∧ (∀ i ∈ q, f (st x.1 i.1) = false) ∧ f (st x.1 j.1) = true ∧ Fnd n0 b1 b2 b3 b4 (x.1 : Nat) (st x.1 j.1) w W') ∧ KeepsFrom W0.heap.size W W')
      (OwnFrom.and (ownFrom_pure _ _) (ownFrom_below (Nat.le_refl _) (Nat.le_refl _)))
      (fun c s X Y row hs hg hr => by
        obtain ⟨⟨h1, q, j, h2, h3, h4, h5⟩, h6⟩ := hs
        exact ⟨⟨h1, q, j, h2, h3, h4, h5.own (B := Wn.heap.size) (by omega) (by omega) hg hr⟩, ownFrom_keepsFrom (β := Unit) (B' := Wn.heap.size) (by omega) () X Y row h6 hg hr⟩)
      ⟨by simp, Below.refl _ _⟩
      (fun j a'' W' => ∃ Bw, Wn.heap.size ≤ Bw ∧ Blk #[.int .i64 (st x.1 j.1).id, .int .i64 (st x.1 j.1).addr, .int .i64 (st x.1 j.1).size, .int .u64 (st x.1 j.1).data] 34 Bw W' ∧ a'' = { tmps := #[.pointer pv, dvv, undef, .pointer (some ⟨n0, 0, none⟩), .int .i64 0, .pointer (some ⟨b1, 0, none⟩), .bool false, .pointer (some ⟨b2, 0, none⟩), .pointer (some ⟨b3, 0, none⟩), .pointer (some ⟨b4, 0, none⟩), .pointer (some ⟨Bk, 0, none⟩), .pointer (some ⟨Be, 0, none⟩), undef, .pointer (some ⟨Bw, 0, none⟩), .agg z4, .pointer pv, .slice A L cap, .func (.func 54) #[] #[.pointer (some ⟨b5, 0, none⟩)], .int .i64 (x.1 : Nat), .agg #[.int .i64 (ep x.1), sv x.1], .pointer (some ⟨Be, 1, none⟩), .slice (some ⟨cx, 0, none⟩) (m x.1) cpx, .func (.func 55) #[] #[.pointer (some ⟨W.heap.size, 0, none⟩)], .int .i64 (j.1 : Nat), .agg #[.int .i64 (st x.1 j.1).id, .int .i64 (st x.1 j.1).addr, .int .i64 (st x.1 j.1).size, .int .u64 (st x.1 j.1).data], undef, undef, undef, undef, undef, undef, undef, undef], defers := [] })
      (fun j a'' _ X Y row hs hg hr => by obtain ⟨Bw, e1, e2, e3⟩ := hs; exact ⟨Bw, e1, e2.own hg hr, e3⟩)
      ?assign2 ?body2 ?done2 ?stop2
    case assign2 =>
      rintro l2 pre' j W' K ⟨hq, hB2⟩ hK
      have hs2 := hB2.size
      gi_wp2
      exact hK _ _ ((KeepsOthers.alloc _ _).from _) ((Below.refl _ W').alloc hs2 _) ⟨hq, hB2.alloc hs2 _⟩ ⟨W'.heap.size, hs2, Blk.new _ _ _, rfl⟩
    case body2 =>
      rintro l2 pre' j a'' W' _ _ ⟨hq, hB2⟩ ⟨Bw, hBw, bW, rfl⟩ hlt2
      have hs2 := hB2.size
      have hB2' : Below n0 w W' := hbn.trans (hB2.mono (by omega))
      have HSO := hso x.1 j.1 x.2 j.2 W' (by unfold BW; rw [hn0]; exact hB2')
      have kd := (k0.within hWn (by omega)).within hB2 (by omega)
      have cd : W'.cell? ⟨n0, 0, none⟩ = some (.func (.func 40) #[] #[d0]) := by rw [← HDV.out]; exact kd.cell 0
      have w0 : W'.cell? ⟨Bw, 0, none⟩ = some (.int .i64 (st x.1 j.1).id) := bW.cell 0
      have w1 : W'.cell? ⟨Bw, 1, none⟩ = some (.int .i64 (st x.1 j.1).addr) := bW.cell 1
      have w2 : W'.cell? ⟨Bw, 2, none⟩ = some (.int .i64 (st x.1 j.1).size) := bW.cell 2
      have w3 : W'.cell? ⟨Bw, 3, none⟩ = some (.int .u64 (st x.1 j.1).data) := bW.cell 3
      cases hfx : f (st x.1 j.1) with
      | false =>
        rw [hfx] at HSO
        have HF := Lib.hid hfx
        clear hfx
        gi_wp2_with (first
          | (refine ⟨fun _ _ => trivial, ?_⟩; gi_at_call 40; refine (CallsIn.inRound l2 (callsIn_wide.2 HSO)).mono ?_; rintro e W2 ⟨rfl, hb⟩)
          | (refine ⟨trivial, ?_⟩; gi_at_call 40; refine (CallsIn.inRound l2 (callsIn_wide.2 HSO)).mono ?_; rintro e W2 ⟨rfl, hb⟩))
        exact ⟨keepsFrom_low hb (Nat.le_refl _), hb.mono hs2, ⟨fun i hi => (List.mem_append.1 hi).elim (hq i) (fun e => by simp at e; subst e; exact HF.out), hB2.trans (hb.mono hs2)⟩⟩
      | true =>
        rw [hfx] at HSO
        have HF := Lib.hid hfx
        clear hfx
        gi_wp2_with (first
          | (refine ⟨fun _ _ => trivial, ?_⟩; gi_at_call 40; refine (CallsIn.inRound l2 (callsIn_wide.2 HSO)).mono ?_; rintro e W2 ⟨rfl, hb⟩)
          | (refine ⟨trivial, ?_⟩; gi_at_call 40; refine (CallsIn.inRound l2 (callsIn_wide.2 HSO)).mono ?_; rintro e W2 ⟨rfl, hb⟩))
        have hmx : Try.prog.follows .mixedOrders = true := by kernel_rfl
        have hW2 := hB2.trans (hb.mono hs2)
        have hKW2 : KeepsFrom W0.heap.size W' W2 := keepsFrom_low hb (Nat.le_refl _)
        have kk1 := (k1.within hWn (by omega)).within hW2 (by omega)
        have kk2 := (k2.within hWn (by omega)).within hW2 (by omega)
        have kk3 := (k3.within hWn (by omega)).within hW2 (by omega)
        have kk4 := (k4.within hWn (by omega)).within hW2 (by omega)
        have q2 : W2.cell? ⟨b2, 0, none⟩ = some (.int .i64 0) := kk2.cell 0
        have q30 : W2.cell? ⟨b3, 0, none⟩ = some (.int .i64 0) := kk3.cell 0
        have q31 : W2.cell? ⟨b3, 1, none⟩ = some (.int .i64 0) := kk3.cell 1
        have q32 : W2.cell? ⟨b3, 2, none⟩ = some (.int .i64 0) := kk3.cell 2
        have q33 : W2.cell? ⟨b3, 3, none⟩ = some (.int .u64 0) := kk3.cell 3
        have q4 : W2.cell? ⟨b4, 0, none⟩ = some (.bool false) := kk4.cell 0
        have fq2 := kk2.free 0
        have fq30 := kk3.free 0
        have fq31 := kk3.free 1
        have fq32 := kk3.free 2
        have fq33 := kk3.free 3
        have fq4 := kk4.free 0
        have bW2 := bW.on hb
        have bK2 := bK'.within hW2 (by have := bK.lt; omega)
        have v0 : W2.cell? ⟨Bw, 0, none⟩ = some (.int .i64 (st x.1 j.1).id) := bW2.cell 0
        have v1 : W2.cell? ⟨Bw, 1, none⟩ = some (.int .i64 (st x.1 j.1).addr) := bW2.cell 1
        have v2 : W2.cell? ⟨Bw, 2, none⟩ = some (.int .i64 (st x.1 j.1).size) := bW2.cell 2
        have v3 : W2.cell? ⟨Bw, 3, none⟩ = some (.int .u64 (st x.1 j.1).data) := bW2.cell 3
        have vk : W2.cell? ⟨Bk, 0, none⟩ = some (.int .i64 (x.1 : Nat)) := bK2.cell 0
        have hl2 := hbn.trans (hW2.mono (by omega))
        have hne1 : Bw ≠ b2 ∧ Bw ≠ b3 ∧ Bw ≠ b4 ∧ Bk ≠ b2 ∧ Bk ≠ b3 ∧ Bk ≠ b4 := by omega
        obtain ⟨ne1, ne2, ne3, ne4, ne5, ne6⟩ := hne1
        clear cd w0 w1 w2 w3
        gi_region_with_o fail
        all_goals gi_wp2
        all_goals (try go_bits)
        all_goals have HX := fnd_put (B := W0.heap.size) (x := st x.1 j.1) (k := (x.1 : Nat)) kk1 kk2 kk3 kk4 hl2 (by omega) (by omega) (by omega) (by omega)
        all_goals exact ⟨(keepsFrom_low hb (Nat.le_refl _)).trans (fnd_put (x := st x.1 j.1) (k := (x.1 : Nat)) kk1 kk2 kk3 kk4 hl2 (by omega) (by omega) (by omega) (by omega)).2, ⟨rfl, pre', j, rfl, hq, HF.out, HX.1⟩, ((hKn.trans (keepsFrom_low hB2 (Nat.le_refl _))).trans hKW2).trans HX.2⟩
    case done2 =>
      rintro ys W' rfl ⟨hq, hB2⟩
      gi_wp2
      have hW' : Below W0.heap.size W W' := hLn.trans (hB2.mono (by omega))
      exact ⟨hKn.trans (keepsFrom_low hB2 (Nat.le_refl _)), hW', ⟨fun i hi => (List.mem_append.1 hi).elim (hp i) (fun e j hj => by simp at e; subst e; exact hq ⟨j, hj⟩ (revF_all _)), hB1.trans hW'⟩⟩
    case stop2 =>
      rintro c pre' W' hpre ⟨⟨rfl, q, j, rfl, hq, hf, hF⟩, hKF⟩
      gi_wp2
      exact ⟨hKF, rfl, pre, x, j.1, rfl, hp, j.2, hf, fun j' h1 h2 => hq ⟨j', h2⟩ (revF_pre hpre h1), hF⟩
  case done =>
    rintro D ys W hD rfl ⟨hp, hB1⟩ hK
    have kk1 := k1.within hB1 (by omega)
    have kk2 := k2.within hB1 (by omega)
    have kk3 := k3.within hB1 (by omega)
    have kk4 := k4.within hB1 (by omega)
    have q10 : W.cell? ⟨b1, 0, none⟩ = some (.int .i64 0) := kk1.cell 0
    have q11 : W.cell? ⟨b1, 1, none⟩ = some (.int .i64 0) := kk1.cell 1
    have q12 : W.cell? ⟨b1, 2, none⟩ = some (.int .i64 0) := kk1.cell 2
    have q13 : W.cell? ⟨b1, 3, none⟩ = some (.int .u64 0) := kk1.cell 3
    have q2 : W.cell? ⟨b2, 0, none⟩ = some (.int .i64 0) := kk2.cell 0
    have q30 : W.cell? ⟨b3, 0, none⟩ = some (.int .i64 0) := kk3.cell 0
    have q31 : W.cell? ⟨b3, 1, none⟩ = some (.int .i64 0) := kk3.cell 1
    have q32 : W.cell? ⟨b3, 2, none⟩ = some (.int .i64 0) := kk3.cell 2
    have q33 : W.cell? ⟨b3, 3, none⟩ = some (.int .u64 0) := kk3.cell 3
    have q4 : W.cell? ⟨b4, 0, none⟩ = some (.bool false) := kk4.cell 0
    have fq10 := kk1.free 0
    have fq11 := kk1.free 1
    have fq12 := kk1.free 2
    have fq13 := kk1.free 3
    gi_wp2
    gi_region
    all_goals gi_wp2
    simp only [Exit.noGoto]
    all_goals have HX := res_put (x := wr0) kk1 (hbw.trans (hB1.mono (by omega))) (by omega)
    all_goals have hK' := HX.2.2.same D _ hK rfl
    all_goals refine ⟨by simp, .inl ⟨_, _, rfl, run_takeDeferred hK', ?_⟩⟩
    all_goals refine ⟨.tuple #[.int .i64 0, w4 wr0, .bool false], results_tct rfl rfl rfl rfl (HX.1.put hK' rfl) Try.underlying34 rfl (by kernel_rfl), ⟨0, wr0, false, rfl, .inl ⟨rfl, rfl, rfl, fun i j hi hj => hp ⟨i, hi⟩ (revF_all _) j hj⟩⟩, ?_⟩
    all_goals exact (show Below w.heap.size w _ from hn0.symm ▸ HX.2.1).trans (belowK_b (w := w) (Nat.le_refl _) _ D _ _ (by omega) hK' rfl rfl)
  case stop =>
    rintro D c pre W hD hpre ⟨rfl, pre', x, j, rfl, hp, hj, hf, hrest, hF⟩ hK
    have kk1 := hF.res
    have q10 : W.cell? ⟨b1, 0, none⟩ = some (.int .i64 0) := kk1.cell 0
    have q11 : W.cell? ⟨b1, 1, none⟩ = some (.int .i64 0) := kk1.cell 1
    have q12 : W.cell? ⟨b1, 2, none⟩ = some (.int .i64 0) := kk1.cell 2
    have q13 : W.cell? ⟨b1, 3, none⟩ = some (.int .u64 0) := kk1.cell 3
    have q2 : W.cell? ⟨b2, 0, none⟩ = some (.int .i64 (x.1 : Nat)) := hF.at_.cell 0
    have q30 : W.cell? ⟨b3, 0, none⟩ = some (.int .i64 (st x.1 j).id) := hF.fnd.cell 0
    have q31 : W.cell? ⟨b3, 1, none⟩ = some (.int .i64 (st x.1 j).addr) := hF.fnd.cell 1
    have q32 : W.cell? ⟨b3, 2, none⟩ = some (.int .i64 (st x.1 j).size) := hF.fnd.cell 2
    have q33 : W.cell? ⟨b3, 3, none⟩ = some (.int .u64 (st x.1 j).data) := hF.fnd.cell 3
    have q4 : W.cell? ⟨b4, 0, none⟩ = some (.bool true) := hF.ok.cell 0
    have fq10 := kk1.free 0
    have fq11 := kk1.free 1
    have fq12 := kk1.free 2
    have fq13 := kk1.free 3
    have hlow := hF.low
    have HFF := Lib.hid hf
    clear hf
    gi_wp2
    gi_region
    all_goals gi_wp2
    simp only [Exit.noGoto]
    all_goals have HX := res_put (x := st x.1 j) kk1 hlow (by omega)
    all_goals have hK' := HX.2.2.same D _ hK rfl
    all_goals refine ⟨by simp, .inl ⟨_, _, rfl, run_takeDeferred hK', ?_⟩⟩
    all_goals refine ⟨.tuple #[.int .i64 (x.1 : Nat), w4 (st x.1 j), .bool true], results_tct rfl rfl rfl rfl (HX.1.put hK' rfl) Try.underlying34 rfl (by kernel_rfl), ⟨_, _, true, rfl, .inr ⟨rfl, x.1, j, x.2, hj, rfl, rfl, HFF.out, hrest, fun i' j' h1 h2 h3 => hp ⟨i', h2⟩ (revF_pre hpre h1) j' h3⟩⟩, ?_⟩
    all_goals exact (show Below w.heap.size w _ from hn0.symm ▸ HX.2.1).trans (belowK_b (w := w) (Nat.le_refl _) _ D _ _ (by omega) hK' rfl rfl)
end Go.Proofs.Ytcddgcchpmjdiaa
