/- The document's memory: what is loaded. -/
import Derived.Test.YteoemjhhjnkkiaaYb
set_option maxRecDepth 100000
set_option linter.unusedVariables false
namespace Go.Proofs.Yteoemjhhjnkkiaa
open Go.RowKit

/-- One value, appended onto a row of the call's own; where the new one lies. -/
theorem append_one {P : Program} {w0 : World} {ops : Array Oper} {rest : List Oper} {o : Oper} {a : Act} {Q : Exit → Act → World → Prop} (hgd : o.guard = none) (s x : Operand) (t e : TypeId)
    (ho : o.op = .call { callee := .builtin .append, args := #[s, x], argTypes := #[t, t] }) (z : Value) (bytes : Nat) (hi : (P.info? e).map (fun i => (i.zero, i.size, i.bytes)) = some (some z, 1, bytes)) (hu : P.underlying t = some (.slice e)) (hzs : z.cells.size = 1)
    (base : Nat) (v : Value) (n : Nat) (xs : List Value) (hs : a.eval s = v) (hown : w0.ownsRow base e 1 v n xs) (y : Value) (hx : a.eval x = .slice (some ⟨w0.heap.size, 0, none⟩) 1 1) (h1 : y.oneCell' = true) (h63 : n + 1 ≤ maxLen) (hbytes : (n + 1) * bytes ≤ 140737488355328) (hbase : base ≤ w0.heap.size)
    (h : ∀ g cap w', w'.ownsRow base e 1 (.slice (some ⟨g, 0, none⟩) (n + 1) cap) (n + 1) (xs ++ [y]) → (w0.alloc (.cells #[y] e)).grownBy w' v.ownBlock → (v.ownBlock = some g ∨ g = w0.heap.size + 1) → wpList P ops Q rest (a.put o.dst (.slice (some ⟨g, 0, none⟩) (n + 1) cap)) w') : wpList P ops Q (o :: rest) a (w0.alloc (.cells #[y] e)) := by
  obtain ⟨i0, hi, hz0, hz1, hz2⟩ := inf_parts hi
  refine wpList_append_lies _ hgd s x t ho base e i0 z 1 bytes hu hi hz0 hz1 hz2 hzs (by decide) v n xs hs (hown.alloc _) ⟨w0.heap.size, 0, none⟩ 1 1 [y] hx rfl (World.news_of_block (cs := #[y]) (heap_alloc_new w0 _)) (by intro u hu; simp at hu; rw [hu]; exact h1) (by decide) h63 hbytes (by simp; omega) (w0.heap.size + 1) (by simp) ?_
  intro g cap w' h2 h3 h4 _
  exact h g cap w' h2 h3 h4
theorem bytesP_at (s : Mst) (a z k : Nat) (hk : k < z) (h : a + z ≤ s.b0.length) : (cellsB (bytesP s a z))[k]? = some (.int .u8 (lastB s.b0 s.l (a + k)).1) := by
  have h1 := bytesM_at s.b0 s.l (a + k) (by omega)
  unfold bytesP
  rw [cellsB_sub, List.getElem?_take, if_pos hk, List.getElem?_drop]
  exact h1
theorem tagsP_at (s : Mst) (a z k : Nat) (hk : k < z) (h : a + z ≤ s.b0.length) : (cellsI (tagsP s a z))[k]? = some (.int .i64 (lastB s.b0 s.l (a + k)).2) := by
  have h1 := tagsM_at s.b0 s.l (a + k) (by omega)
  unfold tagsP
  rw [cellsI_sub, List.getElem?_take, if_pos hk, List.getElem?_drop]
  exact h1
theorem take_snocV (xs : List Value) (k : Nat) (v : Value) (h : xs[k]? = some v) : xs.take (k + 1) = xs.take k ++ [v] := by
  obtain ⟨hk, e⟩ := List.getElem?_eq_some_iff.1 h
  rw [List.take_succ_eq_append_getElem hk, e]
/-- The two lists, in a world behind w. -/
structure LD (w : World) (bs ts : List Value) (k : Nat) (v u : Value) (x : World) : Prop where
  bw : BW w x
  rb : x.ownsRow w.heap.size 5 1 v k (bs.take k)
  rt : x.ownsRow w.heap.size 3 1 u k (ts.take k)
  ap : ∀ q, v.ownBlock = some q → u.ownBlock ≠ some q
theorem LD.on {w x y : World} {bs ts : List Value} {k : Nat} {v u : Value} (h : LD w bs ts k v u x) (b : BW x y) : LD w bs ts k v u y := ⟨h.bw.on b, (Fr.of [] b).row h.rb (by simp), (Fr.of [] b).row h.rt (by simp), h.ap⟩
/-- Half a round: the first list has one more. -/
structure LE (w : World) (bs ts : List Value) (k : Nat) (v u : Value) (x : World) : Prop where
  bw : BW w x
  rb : x.ownsRow w.heap.size 5 1 v (k + 1) (bs.take (k + 1))
  rt : x.ownsRow w.heap.size 3 1 u k (ts.take k)
  ap : ∀ q, v.ownBlock = some q → u.ownBlock ≠ some q
theorem LD.one {w x x' : World} {bs ts : List Value} {k g cap : Nat} {v u y : Value} (h : LD w bs ts k v u x) (hy : bs[k]? = some y) (ho : x'.ownsRow w.heap.size 5 1 (.slice (some ⟨g, 0, none⟩) (k + 1) cap) (k + 1) (bs.take k ++ [y])) (hg : (x.alloc (.cells #[y] 5)).grownBy x' v.ownBlock) (hl : v.ownBlock = some g ∨ g = x.heap.size + 1) :
    LE w bs ts k (.slice (some ⟨g, 0, none⟩) (k + 1) cap) u x' := by
  refine ⟨(h.bw.new (.cells #[y] 5)).grown hg (Below.size (h.bw.new _)) (fun q hq => (h.rb.lt q hq).1), by rw [take_snocV bs k y hy]; exact ho, (h.rt.alloc _).kept hg ?_, fun q hq => ?_⟩
  · cases hu : u.ownBlock with
    | none => exact .inl rfl
    | some q => right; intro e; exact h.ap q e.symm hu
  · cases hq
    rcases hl with hl | hl
    · exact h.ap _ hl
    · intro e
      have h2 : g < x.heap.size := (h.rt.lt _ e).2
      omega
theorem LE.one {w x x' : World} {bs ts : List Value} {k g cap : Nat} {v u y : Value} (h : LE w bs ts k v u x) (hy : ts[k]? = some y) (ho : x'.ownsRow w.heap.size 3 1 (.slice (some ⟨g, 0, none⟩) (k + 1) cap) (k + 1) (ts.take k ++ [y])) (hg : (x.alloc (.cells #[y] 3)).grownBy x' u.ownBlock) (hl : u.ownBlock = some g ∨ g = x.heap.size + 1) :
    LD w bs ts (k + 1) v (.slice (some ⟨g, 0, none⟩) (k + 1) cap) x' := by
  refine ⟨(h.bw.new (.cells #[y] 3)).grown hg (Below.size (h.bw.new _)) (fun q hq => (h.rt.lt q hq).1), (h.rb.alloc _).kept hg ?_, by rw [take_snocV ts k y hy]; exact ho, fun q hq e => ?_⟩
  · cases hv : v.ownBlock with
    | none => exact .inl rfl
    | some q => right; intro e; exact h.ap q hv e.symm
  · cases e
    rcases hl with hl | hl
    · exact h.ap _ hq hl
    · have h2 : g < x.heap.size := (h.rb.lt _ hq).2
      omega
def RetLd (w : World) (x : Int) (l : List Int) (e : Ending) (w' : World) : Prop := ∃ v, e = .returned (.tuple #[.int .u64 x, v]) ∧ w'.ownsRow w.heap.size 3 1 v l.length (cellsI l) ∧ BW w w'
set_option maxHeartbeats 8000000 in
theorem rload_c {s : Mst} {p : Plr} {w : World} (h : RrAt s p w) (hok : MsOk s) (hl : s.l.length ≤ 1000) (a z : Nat) (hz : z ≤ 8) (haz : a + z ≤ s.b0.length) :
    Calls Try.prog 18 #[.pointer (some ⟨p.g, 0, none⟩), .int .i64 (a : Int), .int .i64 (z : Int)] w (RetLd w (ofB (bytesP s a z)) (tagsP s a z)) := by
  have HBY := Lib.hid (fun (x : World) (hb : BW w x) (k : Nat) (hk : k < s.b0.length) => rbyte_c (h.on hb) hok hl k hk)
  have hn := hok.n
  have HL0 : Hid (LD w (cellsB (bytesP s a z)) (cellsI (tagsP s a z)) 0 (.slice none 0 0) (.slice none 0 0) w) := ⟨Below.refl _ _, World.ownsRow_nil _ _ _ _, World.ownsRow_nil _ _ _ _, fun q hq => by cases hq⟩
  have hbb : Byts (bytesP s a z) := fun v hv => bytesM_byts hok.byts s.l v (List.mem_of_mem_drop (List.mem_of_mem_take hv))
  have HBB := Lib.hid hbb
  have hbl := bytesP_len s a z haz
  have htl := tagsP_len s a z haz
  have HBL := Lib.hid hbl
  have HTL := Lib.hid htl
  clear h hok hbb hbl htl
  go_enter Try.func18, Try.ntmps18
  go_wp2
  go_loopw [8, 9, 10] (fun v u i wx => ∃ k : Nat, k ≤ z ∧ i = .int .i64 ((a + k : Nat) : Int) ∧ LD w (cellsB (bytesP s a z)) (cellsI (tagsP s a z)) k v u wx) (fun _ _ i _ => a + z - (intOf i).toNat)
  case atStart => exact ⟨0, by omega, rfl, HL0.out⟩
  case round =>
    obtain ⟨k, hk0, rfl, hld⟩ := hrel
    clear HL0
    have HLD := Lib.hid hld
    clear hld
    by_cases hk : k < z
    · have hk' : ((a + k : Nat) : Int) < (a : Int) + (z : Int) := by omega
      have hby := HBY.out wr HLD.out.bw (a + k) (by omega)
      have hat := bytesP_at s a z k hk haz
      have htt := tagsP_at s a z k hk haz
      obtain ⟨pr, hpr⟩ : ∃ pr, lastB s.b0 s.l (a + k) = pr := ⟨_, rfl⟩
      obtain ⟨p1, p2⟩ := pr
      rw [hpr] at hby hat htt
      have HPB := Lib.hid hby
      have HAT := Lib.hid hat
      have HTT := Lib.hid htt
      clear hby hat htt hpr
      obtain ⟨A0, c0, hv0, -⟩ := own_parts HLD.out.rb
      obtain ⟨A1, c1, hu0, -⟩ := own_parts HLD.out.rt
      subst hv0 hu0
      obtain ⟨q, hq⟩ : ∃ q, a + k = q := ⟨_, rfl⟩
      rw [hq] at HPB hk' ⊢
      have HQ := Lib.hid hq
      clear hq
      go_wp2_with fail
      refine HPB.out.mono ?_
      rintro e w2 ⟨rfl, hb2⟩
      have HLD2 := Lib.hid (HLD.out.on hb2)
      have hz2 : w.heap.size ≤ w2.heap.size := Below.size HLD2.out.bw
      clear HLD hb2 HPB
      go_wp2_with (first
        | (at_builtin; refine append_one (o := ⟨some 30, _, _, _, _, _⟩) rfl _ _ _ 5 rfl (.int .u8 0) 1 (by kernel_rfl) Try.underlying22 rfl w.heap.size _ k _ rfl HLD2.out.rb _ rfl rfl (by unfold maxLen; omega) (by omega) hz2 ?_; intro gv cv w3 ho3 hg3 hl3; have HLE := Lib.hid (HLD2.out.one HAT.out ho3 hg3 hl3); clear ho3 hg3 hl3 HLD2 hz2; have hz3 : w.heap.size ≤ w3.heap.size := Below.size HLE.out.bw)
        | (at_builtin; refine append_one (o := ⟨some 34, _, _, _, _, _⟩) rfl _ _ _ 3 rfl (.int .i64 0) 8 (by kernel_rfl) Try.underlying37 rfl w.heap.size _ k _ rfl HLE.out.rt _ rfl rfl (by unfold maxLen; omega) (by omega) hz3 ?_; intro gu cu w4 ho4 hg4 hl4; have HLF := Lib.hid (HLE.out.one HTT.out ho4 hg4 hl4); clear ho4 hg4 hl4 HLE hz3))
      go_roundw
      case rel => exact ⟨k + 1, by omega, by rw [← HQ.out]; simp only [Int.natCast_add]; rw [Int.add_assoc]; rfl, HLF.out⟩
      case measure => have := HQ.out; simp [intOf]; omega
    · obtain rfl : k = z := by omega
      have hk' : ¬ ((a + k : Nat) : Int) < (a : Int) + (k : Int) := by omega
      obtain ⟨A0, c0, hv0, -⟩ := own_parts HLD.out.rb
      subst hv0
      have hrb := HLD.out.rb
      rw [List.take_of_length_le (by unfold cellsB; rw [List.length_map, HBL.out]; omega)] at hrb
      have hof := rof_any A0 c0 (bytesP s a k) wr (by rw [HBL.out]; omega) HBB.out (Rd.of_row hrb)
      rw [HBL.out] at hof
      have HOF := Lib.hid hof
      clear hof hrb
      go_wp2_with (first
        | (go_at_call 39; refine HOF.out.mono ?_; rintro e w5 ⟨rfl, rfl⟩))
      go_ret2
      have hrt := HLD.out.rt
      rw [List.take_of_length_le (by unfold cellsI; rw [List.length_map, HTL.out]; omega)] at hrt
      refine ⟨_, rfl, ?_, HLD.out.bw⟩
      rw [HTL.out]
      exact hrt
end Go.Proofs.Yteoemjhhjnkkiaa
