/- seek at a buffer: what it tells, in plain words. -/
import Derived.Test.YtcddgcchpmjdiaaVk
import Derived.Test.YtcddgcchpmjdiaaVl
import Derived.Test.YtcddgcchpmjdiaaVn
import Derived.Test.YtcddgcchpmjdiaaVb
set_option maxRecDepth 100000
set_option linter.unusedVariables false
namespace Go.Proofs.Ytcddgcchpmjdiaa
open Go.RowKit

/-! ### Plain -/
theorem find_last {f : Wr → Bool} {l : List Wr} {j : Nat} (hj : j < l.length) (hf : f l[j] = true) (h : ∀ j' (h' : j' < l.length), j < j' → f l[j'] = false) : l.reverse.find? f = some l[j] := by
  have e : l = l.take j ++ (l[j] :: l.drop (j + 1)) := by rw [← List.drop_eq_getElem_cons hj, List.take_append_drop]
  have hd : (l.drop (j + 1)).reverse.find? f = none := by
    refine List.find?_eq_none.2 fun y hy => ?_
    rw [List.mem_reverse] at hy
    obtain ⟨k, hk, rfl⟩ := List.getElem_of_mem hy
    rw [List.length_drop] at hk
    rw [List.getElem_drop, h (j + 1 + k) (by omega) (by omega)]
    decide
  rw [show l.reverse = (l.take j ++ (l[j] :: l.drop (j + 1))).reverse by rw [← e], List.reverse_append, List.reverse_cons, List.append_assoc, List.find?_append, hd]
  simp [hf]
theorem seekU_rev {f : Wr → Bool} {es : List Ent} : ∀ {k : Nat} {q : Nat × Wr}, seekU f es k = some q → (es.getD q.1 ent0).st.reverse.find? f = some q.2
  | 0, _, h => by cases h
  | k + 1, q, h => by
    rw [seekU] at h
    cases hf : (es.getD k ent0).st.reverse.find? f with
    | some x => rw [hf] at h; cases h; exact hf
    | none => rw [hf] at h; exact seekU_rev h
def mE (es : List Ent) (i : Nat) : Nat := (es.getD i ent0).st.length
def stE (es : List Ent) (i j : Nat) : Wr := (es.getD i ent0).st.getD j wr0
theorem stE_at {es : List Ent} {i j : Nat} (h : j < mE es i) : stE es i j = (es.getD i ent0).st[j] := by
  unfold stE
  rw [List.getD_eq_getElem?_getD, List.getElem?_eq_getElem h]
  rfl
def seekV : Option (Nat × Wr) → Value
  | none => .tuple #[.int .i64 0, w4 wr0, .bool false]
  | some q => .tuple #[.int .i64 (q.1 : Nat), w4 q.2, .bool true]
theorem seek_of {f : Wr → Bool} {es : List Ent} {k : Int} {x : Wr} {ok : Bool} (h : SeekR f es.length (mE es) (stE es) k x ok) : Value.tuple #[.int .i64 k, w4 x, .bool ok] = seekV (seekN f es) := by
  unfold seekN
  rcases h with ⟨rfl, rfl, rfl, h⟩ | ⟨rfl, i, j, hi, hj, rfl, rfl, hf, h1, h2⟩
  · cases hq : seekU f es es.length with
    | none => rfl
    | some q =>
      obtain ⟨g1, g2, g3, _⟩ := seekU_some hq
      obtain ⟨j, hj, e⟩ := List.getElem_of_mem g2
      have := h q.1 j g1 hj
      rw [stE_at hj, e, g3] at this
      cases this
  · cases hq : seekU f es es.length with
    | none =>
      have := seekU_none hq i hi (stE es i j) (by rw [stE_at hj]; exact List.getElem_mem _)
      rw [hf] at this; cases this
    | some q =>
      obtain ⟨g1, g2, g3, g4⟩ := seekU_some hq
      have hm : stE es i j ∈ (es.getD i ent0).st := by rw [stE_at hj]; exact List.getElem_mem _
      have e : q.1 = i := by
        rcases Nat.lt_trichotomy q.1 i with hl | hl | hl
        · have := g4 i hl hi _ hm
          rw [hf] at this; cases this
        · exact hl
        · obtain ⟨j', hj', e⟩ := List.getElem_of_mem g2
          have := h2 q.1 j' hl g1 hj'
          rw [stE_at hj', e, g3] at this
          cases this
      have e2 := seekU_rev hq
      rw [e] at e2
      have e3 := find_last (f := f) (l := (es.getD i ent0).st) (j := j) hj (by rw [← stE_at hj]; exact hf) (fun j' h' hl => by rw [← stE_at h']; exact h1 j' hl h')
      rw [e3, ← stE_at hj] at e2
      obtain ⟨q1, q2⟩ := q
      have e' : q1 = i := e
      have e4 : stE es i j = q2 := Option.some.inj e2
      rw [e', ← e4]
      rfl

/-! ### At a buffer -/
def svP (p : Bpl) (i : Nat) : Value := (p.es.getD i (ent0, .slice none 0 0)).2
theorem BufAt.reads {s : Bst} {p : Bpl} {w : World} (h : BufAt s p w) : ∃ A cap, p.ve = .slice A s.es.length cap ∧ (0 < s.es.length → ∃ b, A = some ⟨b, 0, none⟩ ∧ b < w.heap.size ∧ ∀ j, j < s.es.length → w.cell? ⟨b, j * 2, none⟩ = some (.int .i64 (s.es.getD j ent0).ep) ∧ w.cell? ⟨b, j * 2 + 1, none⟩ = some (svP p j)) := by
  rcases h.row.2 with ⟨h1, h2⟩ | ⟨g, cap, cur, hv, _, hg, _, _, _, ht⟩
  · exact ⟨none, 0, by rw [h1, h2], fun h3 => by omega⟩
  · refine ⟨some ⟨g, 0, none⟩, cap, hv, fun _ => ⟨g, rfl, (Array.getElem?_eq_some_iff.1 hg).1, fun j hj => ?_⟩⟩
    obtain ⟨hp, he⟩ := h.at_ hj
    have hc := h.row.cells (g := g) (by rw [hv]; rfl)
    have c0 := hc (j * 2 + 0) _ (cellsE_at p.es j hp 0 (by omega))
    have c1 := hc (j * 2 + 1) _ (cellsE_at p.es j hp 1 (by omega))
    have a0 : (⟨g, 0, none⟩ : Addr).add (j * 2 + 0) = ⟨g, j * 2, none⟩ := by unfold Addr.add; split <;> simp_all
    have a1 : (⟨g, 0, none⟩ : Addr).add (j * 2 + 1) = ⟨g, j * 2 + 1, none⟩ := by unfold Addr.add; split <;> simp_all
    rw [a0] at c0
    rw [a1] at c1
    refine ⟨?_, ?_⟩
    · rw [c0, he, getD_ent hj]
    · rw [c1]
      unfold svP
      rw [List.getD_eq_getElem?_getD, List.getElem?_eq_getElem hp]
      rfl
theorem BufAt.stores {s : Bst} {p : Bpl} {w : World} (h : BufAt s p w) (hok : BsOk s) : ∀ i, i < s.es.length → ∃ c cp, svP p i = .slice (some ⟨c, 0, none⟩) (mE s.es i) cp ∧ c < w.heap.size ∧ ∀ j, j < mE s.es i → w.cell? ⟨c, j * 4, none⟩ = some (.int .i64 (stE s.es i j).id) ∧ w.cell? ⟨c, j * 4 + 1, none⟩ = some (.int .i64 (stE s.es i j).addr) ∧ w.cell? ⟨c, j * 4 + 2, none⟩ = some (.int .i64 (stE s.es i j).size) ∧ w.cell? ⟨c, j * 4 + 3, none⟩ = some (.int .u64 (stE s.es i j).data) := by
  intro i hi
  obtain ⟨hp, he⟩ := h.at_ hi
  have ho := h.each p.es[i] (List.getElem_mem _)
  have hsv : svP p i = p.es[i].2 := by
    unfold svP
    rw [List.getD_eq_getElem?_getD, List.getElem?_eq_getElem hp]
    rfl
  have hpos := (hok.some s.es[i] (List.getElem_mem _)).1
  rw [he] at ho
  rcases ho.2 with ⟨h1, h2⟩ | ⟨g, cap, cur, hv, _, hg, _, _, _, ht⟩
  · omega
  · refine ⟨g, cap, ?_, (Array.getElem?_eq_some_iff.1 hg).1, fun j hj => ?_⟩
    · rw [hsv, hv]; unfold mE; rw [getD_ent hi]
    · rw [stE_at hj]
      unfold mE at hj
      have hj' : j < s.es[i].st.length := by rw [getD_ent hi] at hj; exact hj
      have e : (s.es.getD i ent0).st[j] = s.es[i].st[j] := by simp only [getD_ent hi]
      rw [e]
      have hc := ho.cells (g := g) (by rw [hv]; rfl)
      have cc : ∀ k, (hk : k < 4) → w.cell? ⟨g, j * 4 + k, none⟩ = (wrCells s.es[i].st[j])[k]? := fun k hk => by
        have := hc (j * 4 + k) ((wrCells s.es[i].st[j])[k]'hk) (by rw [cellsW_at _ j hj' k hk]; exact Array.getElem?_eq_getElem hk)
        rw [show (⟨g, 0, none⟩ : Addr).add (j * 4 + k) = ⟨g, j * 4 + k, none⟩ by unfold Addr.add; split <;> simp_all] at this
        rw [this]; exact (Array.getElem?_eq_getElem hk).symm
      exact ⟨cc 0 (by omega), cc 1 (by omega), cc 2 (by omega), cc 3 (by omega)⟩
theorem BsOk.at_ {s : Bst} (h : BsOk s) {i j : Nat} (hi : i < s.es.length) (hj : j < mE s.es i) : StOk (stE s.es i j) := by
  rw [stE_at hj]
  have : (s.es.getD i ent0) = s.es[i] := getD_ent hi
  refine h.st s.es[i] (List.getElem_mem _) _ ?_
  simp only [this]
  exact List.getElem_mem _
theorem BsOk.m_le {s : Bst} (h : BsOk s) {i : Nat} (hi : i < s.es.length) : mE s.es i ≤ 8 := by
  unfold mE
  rw [getD_ent hi]
  exact (h.some _ (List.getElem_mem _)).2

theorem seekF_c {s : Bst} {p : Bpl} {w : World} (h : BufAt s p w) (hok : BsOk s) {B : Nat} {q : Int} (hB : w.cell? ⟨B, 0, none⟩ = some (.int .i64 q)) :
    Calls Try.prog 39 #[.pointer (some ⟨p.g, 0, none⟩), .func (.func 40) #[] #[.pointer (some ⟨B, 0, none⟩)]] w fun e w' => e = .returned (seekV (seekN (hasAt q) s.es)) ∧ BW w w' := by
  obtain ⟨A, cap, hve, hA⟩ := h.reads
  refine (seekF_core (.pointer (some ⟨B, 0, none⟩)) (some ⟨p.g, 0, none⟩) A cap s.es.length (fun j => (s.es.getD j ent0).ep) (svP p) (mE s.es) (stE s.es) (hasAt q) w (by have := hok.len; omega) (fun i hi => by have := hok.m_le hi; omega) hA (h.stores hok)
    (fun X hX => all_g (by have := (h.on hX).head.cell 0; rw [hve] at this; exact this)) (fun i j hi hj X hX => findS_any _ (hok.at_ hi hj) ((Below.cell hX (World.block_lt_of_cell? w _ hB)).trans hB))).mono ?_
  rintro e w' ⟨⟨k, x, ok, rfl, hr⟩, hb⟩
  exact ⟨by rw [seek_of hr], hb⟩
theorem seekF_nil (d0 : Value) (w : World) :
    Calls Try.prog 39 #[.pointer none, .func (.func 40) #[] #[d0]] w fun e w' => e = .returned (seekV none) ∧ BW w w' := by
  refine (seekF_core d0 none none 0 0 (fun _ => 0) (fun _ => .slice none 0 0) (fun _ => 0) (fun _ _ => wr0) (fun _ => false) w (by omega) (fun i hi => by omega) (fun h => by omega) (fun i hi => by omega)
    (fun X hX => all_nil X) (fun i j hi hj X hX => by omega)).mono ?_
  rintro e w' ⟨⟨k, x, ok, rfl, hr⟩, hb⟩
  refine ⟨?_, hb⟩
  rcases hr with ⟨rfl, rfl, rfl, _⟩ | ⟨_, i, _, hi, _⟩
  · rfl
  · omega

theorem seekO_c {s : Bst} {p : Bpl} {w : World} (h : BufAt s p w) (hok : BsOk s) {B C : Nat} {a z : Int} (hB : w.cell? ⟨B, 0, none⟩ = some (.int .i64 a)) (hC : w.cell? ⟨C, 0, none⟩ = some (.int .i64 z)) :
    Calls Try.prog 39 #[.pointer (some ⟨p.g, 0, none⟩), .func (.func 41) #[] #[.pointer (some ⟨B, 0, none⟩), .pointer (some ⟨C, 0, none⟩)]] w fun e w' => e = .returned (seekV (seekN (ovAt a z) s.es)) ∧ BW w w' := by
  obtain ⟨A, cap, hve, hA⟩ := h.reads
  refine (seekO_core (.pointer (some ⟨B, 0, none⟩)) (.pointer (some ⟨C, 0, none⟩)) (some ⟨p.g, 0, none⟩) A cap s.es.length (fun j => (s.es.getD j ent0).ep) (svP p) (mE s.es) (stE s.es) (ovAt a z) w (by have := hok.len; omega) (fun i hi => by have := hok.m_le hi; omega) hA (h.stores hok)
    (fun X hX => all_g (by have := (h.on hX).head.cell 0; rw [hve] at this; exact this)) (fun i j hi hj X hX => overS_any _ ((Below.cell hX (World.block_lt_of_cell? w _ hB)).trans hB) ((Below.cell hX (World.block_lt_of_cell? w _ hC)).trans hC))).mono ?_
  rintro e w' ⟨⟨k, x, ok, rfl, hr⟩, hb⟩
  exact ⟨by rw [seek_of hr], hb⟩
theorem seekO_nil (d0 d1 : Value) (w : World) :
    Calls Try.prog 39 #[.pointer none, .func (.func 41) #[] #[d0, d1]] w fun e w' => e = .returned (seekV none) ∧ BW w w' := by
  refine (seekO_core d0 d1 none none 0 0 (fun _ => 0) (fun _ => .slice none 0 0) (fun _ => 0) (fun _ _ => wr0) (fun _ => false) w (by omega) (fun i hi => by omega) (fun h => by omega) (fun i hi => by omega)
    (fun X hX => all_nil X) (fun i j hi hj X hX => by omega)).mono ?_
  rintro e w' ⟨⟨k, x, ok, rfl, hr⟩, hb⟩
  refine ⟨?_, hb⟩
  rcases hr with ⟨rfl, rfl, rfl, _⟩ | ⟨_, i, _, hi, _⟩
  · rfl
  · omega

theorem seekP_c {s : Bst} {p : Bpl} {w : World} (h : BufAt s p w) (hok : BsOk s) {B : Nat} {x : Wr} (hx : 0 ≤ x.addr ∧ x.addr ≤ 1024) (hB : Blk (wrCells x) 34 B w) :
    Calls Try.prog 39 #[.pointer (some ⟨p.g, 0, none⟩), .func (.func 46) #[] #[.pointer (some ⟨B, 0, none⟩)]] w fun e w' => e = .returned (seekV (seekN (sameBk x) s.es)) ∧ BW w w' := by
  obtain ⟨A, cap, hve, hA⟩ := h.reads
  refine (seekP_core (.pointer (some ⟨B, 0, none⟩)) (some ⟨p.g, 0, none⟩) A cap s.es.length (fun j => (s.es.getD j ent0).ep) (svP p) (mE s.es) (stE s.es) (sameBk x) w (by have := hok.len; omega) (fun i hi => by have := hok.m_le hi; omega) hA (h.stores hok)
    (fun X hX => all_g (by have := (h.on hX).head.cell 0; rw [hve] at this; exact this)) (fun i j hi hj X hX => placeS_any _ x (by have := mayW_out (hok.at_ hi hj).may; omega) hx (hB.on hX))).mono ?_
  rintro e w' ⟨⟨k, x, ok, rfl, hr⟩, hb⟩
  exact ⟨by rw [seek_of hr], hb⟩
theorem seekP_nil (d0 : Value) (w : World) :
    Calls Try.prog 39 #[.pointer none, .func (.func 46) #[] #[d0]] w fun e w' => e = .returned (seekV none) ∧ BW w w' := by
  refine (seekP_core d0 none none 0 0 (fun _ => 0) (fun _ => .slice none 0 0) (fun _ => 0) (fun _ _ => wr0) (fun _ => false) w (by omega) (fun i hi => by omega) (fun h => by omega) (fun i hi => by omega)
    (fun X hX => all_nil X) (fun i j hi hj X hX => by omega)).mono ?_
  rintro e w' ⟨⟨k, x, ok, rfl, hr⟩, hb⟩
  refine ⟨?_, hb⟩
  rcases hr with ⟨rfl, rfl, rfl, _⟩ | ⟨_, i, _, hi, _⟩
  · rfl
  · omega
end Go.Proofs.Ytcddgcchpmjdiaa
