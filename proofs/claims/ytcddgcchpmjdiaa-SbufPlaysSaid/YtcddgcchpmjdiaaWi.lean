/- The document's buffer in its blocks; together, May, Elder, Barrier, Overlaps, Find. -/
import Derived.Test.YtcddgcchpmjdiaaWh
import Derived.Test.YtcddgcchpmjdiaaHz
import Derived.Test.YtcddgcchpmjdiaaVx
import Derived.LoopTactic
import Derived.Deep.DeepCutAuto
import Derived.Deep.LoopGhost
set_option maxRecDepth 100000
set_option linter.unusedVariables false
namespace Go.Proofs.Ytcddgcchpmjdiaa
open Go.RowKit

def stoC (x : Sto) : Array Value := #[.int .i64 x.1.id, .int .i64 x.1.addr, .int .i64 x.1.size, .int .u64 x.1.data, .int .i64 x.2]
def cellsS (l : List Sto) : List Value := l.flatMap fun x => (stoC x).toList
theorem cellsS_append (l m : List Sto) : cellsS (l ++ m) = cellsS l ++ cellsS m := by unfold cellsS; simp
theorem cellsS_len (l : List Sto) : (cellsS l).length = l.length * 5 := flat_len (fun x : Sto => (stoC x).toList) 5 (fun _ => rfl) l
theorem cellsS_at {l : List Sto} {i t : Nat} (hi : i < l.length) (ht : t < 5) : (cellsS l)[i * 5 + t]? = (stoC l[i]).toList[t]? := by
  have e := flat_at (fun x : Sto => (stoC x).toList) 5 (fun _ => rfl) l i t ht
  rw [List.getElem?_eq_getElem hi] at e
  exact e
/-- The buffer lies at block q, its stores at vl. -/
structure DAt (D : Dbf) (q : Nat) (vl : Value) (w : World) : Prop where
  head : Blk #[vl, .int .i64 D.ep] 31 q w
  row : w.ownsRow 0 63 5 vl D.l.length (cellsS D.l)
  ne : ∀ k, vl.ownBlock = some k → k ≠ q
theorem DAt.fr {D : Dbf} {q : Nat} {vl : Value} {w w' : World} {F : List Nat} (h : DAt D q vl w) (k : Fr F w w') (h1 : q ∉ F) (h2 : ∀ i, vl.ownBlock = some i → i ∉ F) : DAt D q vl w' :=
  ⟨k.blk h.head h1, k.row h.row h2, h.ne⟩
theorem DAt.on {D : Dbf} {q : Nat} {vl : Value} {w w' : World} (h : DAt D q vl w) (k : BW w w') : DAt D q vl w' := h.fr (Fr.of [] k) (by simp) (by simp)
theorem own_at {w : World} {base e z n c g : Nat} {xs : List Value} (h : w.ownsRow base e z (.slice (some ⟨g, 0, none⟩) n c) n xs) {i : Nat} {v : Value} (hv : xs[i]? = some v) : w.cell? ⟨g, i, none⟩ = some v := by
  have := h.cells (g := g) rfl i v hv
  rw [show (⟨g, 0, none⟩ : Addr).add i = ⟨g, i, none⟩ by unfold Addr.add; split <;> simp_all] at this
  exact this
theorem row_at5 {w : World} {base n c : Nat} {A : Option Addr} {l : List Sto} (h : w.ownsRow base 63 5 (.slice A n c) n (cellsS l)) (hn : n = l.length) {i : Nat} (hi : i < l.length) :
    ∃ g, A = some ⟨g, 0, none⟩ ∧ ∀ t v, (stoC l[i]).toList[t]? = some v → w.cell? ⟨g, i * 5 + t, none⟩ = some v := by
  rcases h.2 with ⟨_, h2⟩ | ⟨g, cap, cur, hv, _⟩
  · omega
  · cases hv
    refine ⟨g, rfl, fun t v hv => own_at h ?_⟩
    have ht : t < 5 := by have := (List.getElem?_eq_some_iff.1 hv).1; exact this
    rw [cellsS_at hi ht]
    exact hv
theorem DAt.at_ {D : Dbf} {q c : Nat} {A : Option Addr} {w : World} (h : DAt D q (.slice A D.l.length c) w) {i : Nat} (hi : i < D.l.length) :
    ∃ g, A = some ⟨g, 0, none⟩ ∧ ∀ X, DAt D q (.slice A D.l.length c) X → ∀ t v, (stoC D.l[i]).toList[t]? = some v → X.cell? ⟨g, i * 5 + t, none⟩ = some v := by
  obtain ⟨g, hg, _⟩ := row_at5 h.row rfl hi
  refine ⟨g, hg, fun X hX t v hv => ?_⟩
  obtain ⟨g', hg', h2⟩ := row_at5 hX.row rfl hi
  have : g = g' := by rw [hg] at hg'; cases hg'; rfl
  rw [this]
  exact h2 t v hv
theorem tog_c (xi xa xz xd xe yi ya yz yd ye : Int) (hx : 0 ≤ xa ∧ xa ≤ 9223372036854775807) (hy : 0 ≤ ya ∧ ya ≤ 9223372036854775807) (w : World) :
    Calls Try.prog 34 #[.agg #[.int .i64 xi, .int .i64 xa, .int .i64 xz, .int .u64 xd, .int .i64 xe], .agg #[.int .i64 yi, .int .i64 ya, .int .i64 yz, .int .u64 yd, .int .i64 ye]] w
      fun e w' => e = .returned (.bool (decide (xe = ye ∧ xa / 8 = ya / 8))) ∧ BW w w' := by
  have HB := Lib.hid (BW.on (BW.new (Below.refl _ w) (.cells #[.int .i64 xi, .int .i64 xa, .int .i64 xz, .int .u64 xd, .int .i64 xe] 63)) (BW.new (Below.refl _ _) (.cells #[.int .i64 yi, .int .i64 ya, .int .i64 yz, .int .u64 yd, .int .i64 ye] 63)))
  have K1 := Lib.hid ((Blk.new #[.int .i64 xi, .int .i64 xa, .int .i64 xz, .int .u64 xd, .int .i64 xe] 63 w).alloc (.cells #[.int .i64 yi, .int .i64 ya, .int .i64 yz, .int .u64 yd, .int .i64 ye] 63))
  obtain ⟨hx0, hx1⟩ := hx
  obtain ⟨hy0, hy1⟩ := hy
  by_cases he : xe = ye
  · by_cases hb : xa / 8 = ya / 8
    · have HV : Hid (decide (xe = ye ∧ xa / 8 = ya / 8) = true) := by show _ = _; simp [he, hb]
      rw [HV.out]
      clear HV
      subst he
      go_enter Try.func34, Try.ntmps34
      have k1 : World.cell? _ ⟨w.heap.size, 1, none⟩ = some (.int .i64 xa) := K1.out.cell 1
      have k4 : World.cell? _ ⟨w.heap.size, 4, none⟩ = some (.int .i64 xe) := K1.out.cell 4
      go_wp2
      go_ret
      exact ⟨rfl, HB.out⟩
    · have HV : Hid (decide (xe = ye ∧ xa / 8 = ya / 8) = false) := by show _ = _; simp [hb]
      rw [HV.out]
      clear HV
      subst he
      have e8 : (xa / 8 == ya / 8) = false := by simpa using hb
      go_enter Try.func34, Try.ntmps34
      have k1 : World.cell? _ ⟨w.heap.size, 1, none⟩ = some (.int .i64 xa) := K1.out.cell 1
      have k4 : World.cell? _ ⟨w.heap.size, 4, none⟩ = some (.int .i64 xe) := K1.out.cell 4
      go_wp2
      go_ret
      exact ⟨rfl, HB.out⟩
  · have HV : Hid (decide (xe = ye ∧ xa / 8 = ya / 8) = false) := by show _ = _; simp [he]
    rw [HV.out]
    clear HV
    have ee : (xe == ye) = false := by simpa using he
    go_enter Try.func34, Try.ntmps34
    have k1 : World.cell? _ ⟨w.heap.size, 1, none⟩ = some (.int .i64 xa) := K1.out.cell 1
    have k4 : World.cell? _ ⟨w.heap.size, 4, none⟩ = some (.int .i64 xe) := K1.out.cell 4
    go_wp2
    go_ret
    exact ⟨rfl, HB.out⟩
theorem rmay_c (i a z d : Int) (ha : a ≤ 9223372036854775807) (w : World) :
    Calls Try.prog 32 #[.agg #[.int .i64 i, .int .i64 a, .int .i64 z, .int .u64 d]] w fun e w' => e = .returned (.bool (mayW ⟨i, a, z, d⟩)) ∧ BW w w' := by
  have HB := Lib.hid (BW.new (Below.refl _ w) (.cells #[.int .i64 i, .int .i64 a, .int .i64 z, .int .u64 d] 34))
  have HAL := Lib.hid (raligned_any a z ha)
  unfold mayW
  simp only
  by_cases hi : 0 ≤ i
  · have e1 : decide (0 ≤ i) = true := decide_eq_true hi
    rw [e1]
    cases hal : alg a z with
    | true =>
      rw [hal] at HAL
      by_cases h1 : a ≤ 1024
      · have e2 : decide (a ≤ 1024) = true := decide_eq_true h1
        rw [e2]
        clear e1 e2 hal
        go_enter Try.func32, Try.ntmps32
        go_wp2_with (first | (go_at_call 48; refine (HAL.out _).mono ?_; rintro e w2 ⟨rfl, rfl⟩))
        go_ret
        exact ⟨rfl, HB.out⟩
      · have e2 : decide (a ≤ 1024) = false := decide_eq_false h1
        have HE2 := Lib.hid e2
        clear e1 e2 hal
        go_enter Try.func32, Try.ntmps32
        go_wp2_with (first | (go_at_call 48; refine (HAL.out _).mono ?_; rintro e w2 ⟨rfl, rfl⟩))
        go_ret
        exact ⟨ret_bool (by show decide (a ≤ 1024) = _; rw [HE2.out]; rfl), HB.out⟩
    | false =>
      rw [hal] at HAL
      clear e1 hal
      go_enter Try.func32, Try.ntmps32
      go_wp2_with (first | (go_at_call 48; refine (HAL.out _).mono ?_; rintro e w2 ⟨rfl, rfl⟩))
      go_ret
      exact ⟨rfl, HB.out⟩
  · have e1 : decide (0 ≤ i) = false := decide_eq_false hi
    rw [e1]
    clear e1
    go_enter Try.func32, Try.ntmps32
    go_wp2_with (fail)
    go_ret
    exact ⟨rfl, HB.out⟩
/-- What a loop over the stores holds. -/
structure DL (D : Dbf) (q : Nat) (vl : Value) (w wx : World) : Prop where
  d : DAt D q vl wx
  low : BW w wx
theorem DL.on {D : Dbf} {q : Nat} {vl : Value} {w x y : World} (h : DL D q vl w x) (k : BW x y) : DL D q vl w y := ⟨h.d.on k, h.low.on k⟩
theorem DL.drewN {D : Dbf} {q : Nat} {vl : Value} {w x : World} (h : DL D q vl w x) (n : Nat) : DL D q vl w (x.drewN n) := h.on (below_drewN' (Below.refl _ _) n)
theorem el_no {D : Dbf} {p : Sto → Prop} {k : Nat} (hk : k < D.l.length) (h : ∀ j (hj : j < D.l.length), j < k → ¬ p D.l[j]) (hn : ¬ p D.l[k]) : ∀ j (hj : j < D.l.length), j < k + 1 → ¬ p D.l[j] := fun j hj hjk => by
  by_cases e : j = k
  · subst e; exact hn
  · exact h j hj (by omega)
theorem el_all {D : Dbf} {p : Sto → Prop} {k : Nat} (hk : k < D.l.length) (h : ∀ j (hj : j < D.l.length), j < k → p D.l[j]) (hn : p D.l[k]) : ∀ j (hj : j < D.l.length), j < k + 1 → p D.l[j] := fun j hj hjk => by
  by_cases e : j = k
  · subst e; exact hn
  · exact h j hj (by omega)
set_option maxHeartbeats 2000000 in
theorem relder_c {D : Dbf} {q : Nat} {vl : Value} {w : World} (h : DAt D q vl w) (hl : D.l.length ≤ 1000000) (b : Bool) (hb : b = true ↔ ∃ x ∈ D.l, x.2 < D.ep) :
    Calls Try.prog 43 #[.pointer (some ⟨q, 0, none⟩)] w fun e w' => e = .returned (.bool b) ∧ BW w w' := by
  obtain ⟨A, c, rfl⟩ := own_shape h.row
  have HYES : Hid (∀ k (hk : k < D.l.length), D.l[k].2 < D.ep → b = true) := fun k hk hx => hb.2 ⟨_, List.getElem_mem hk, hx⟩
  have HNO : Hid ((∀ j (hj : j < D.l.length), j < D.l.length → D.ep ≤ D.l[j].2) → b = false) := fun hn => by
    cases hbb : b with
    | false => rfl
    | true =>
      obtain ⟨x, hx, hlt⟩ := hb.1 hbb
      obtain ⟨j, hj, rfl⟩ := List.getElem_of_mem hx
      have := hn j hj hj; omega
  have HD : Hid (DL D q (.slice A D.l.length c) w w) := ⟨h, Below.refl _ _⟩
  clear h hb
  go_enter Try.func43, Try.ntmps43
  go_wp2
  go_loopw [3] (fun i wx => ∃ k : Nat, k ≤ D.l.length ∧ i = .int .i64 (k : Int) ∧ Hid (DL D q (.slice A D.l.length c) w wx) ∧ Hid (∀ j (hj : j < D.l.length), j < k → D.ep ≤ D.l[j].2)) (fun i _ => D.l.length - (intOf i).toNat)
  case atStart => exact ⟨0, by omega, rfl, HD.out, fun j hj h0 => by omega⟩
  case round =>
    obtain ⟨k, hk, rfl, HX, HP⟩ := hrel
    clear HD
    have c0 : wr.cell? ⟨q, 0, none⟩ = some (.slice A D.l.length c) := HX.out.d.head.cell 0
    have c1 : wr.cell? ⟨q, 1, none⟩ = some (.int .i64 D.ep) := HX.out.d.head.cell 1
    by_cases hlt : k < D.l.length
    · have hltI : (k : Int) < (D.l.length : Int) := by omega
      obtain ⟨g, rfl, hg⟩ := HX.out.d.at_ hlt
      have d4 : wr.cell? ⟨g, k * 5 + 4, none⟩ = some (.int .i64 D.l[k].2) := hg _ HX.out.d 4 _ rfl
      have HY := Lib.hid (HYES.out k hlt)
      have HN := Lib.hid (el_all (p := fun x => D.ep ≤ x.2) hlt HP.out)
      clear hg HP HYES
      generalize D.l[k] = x at *
      obtain ⟨x, xe⟩ := x
      simp only at d4 HY HN
      by_cases hx : xe < D.ep
      · obtain rfl := HY.out hx
        go_wp2_with (fail)
        go_quiet (fail)
        go_wp2
        go_ret
        exact ⟨rfl, (HX.out.drewN _).low⟩
      · have HN2 := Lib.hid (HN.out (by omega))
        go_wp2_with (fail)
        go_quiet (fail)
        go_wp2
        go_roundw
        case rel => exact ⟨k + 1, by omega, by first | rfl | go_num, HX.out.drewN _, HN2⟩
        case measure => simp [intOf]; omega
    · obtain rfl : k = D.l.length := by omega
      obtain rfl := HNO.out HP.out
      go_wp2
      go_ret
      exact ⟨rfl, HX.out.low⟩
/-- What a barrier leaves. -/
def barD (D : Dbf) : Dbf := if D.l.any (fun x => decide (x.2 = D.ep)) = true then ⟨D.l, D.ep + 1⟩ else D
theorem TI.barD {s : Bst} {D : Dbf} (h : TI s D) (hok : BsOk s) : TI (barB s) (barD D) := by
  unfold Go.Proofs.Ytcddgcchpmjdiaa.barD
  by_cases hx : D.l.any (fun x => decide (x.2 = D.ep)) = true
  · rw [if_pos hx]
    rw [List.any_eq_true] at hx
    obtain ⟨x, hx, e⟩ := hx
    exact h.barYes hok ⟨x, hx, of_decide_eq_true e⟩
  · rw [if_neg hx]
    exact h.barNo hok (fun x hm e => hx (List.any_eq_true.2 ⟨x, hm, decide_eq_true e⟩))
set_option maxHeartbeats 2000000 in
theorem rbarrier_c {D : Dbf} {q : Nat} {vl : Value} {w : World} (h : DAt D q vl w) (hl : D.l.length ≤ 1000000) (he : 0 ≤ D.ep ∧ D.ep ≤ 1000000) :
    Calls Try.prog 13 #[.pointer (some ⟨q, 0, none⟩)] w fun e w' => e = .returned (.tuple #[]) ∧ DAt (barD D) q vl w' ∧ Fr [q] w w' := by
  obtain ⟨A, c, rfl⟩ := own_shape h.row
  have HYES : Hid (∀ k (hk : k < D.l.length), D.l[k].2 = D.ep → barD D = ⟨D.l, D.ep + 1⟩) := fun k hk hx => by
    unfold barD
    rw [if_pos (List.any_eq_true.2 ⟨_, List.getElem_mem hk, decide_eq_true hx⟩)]
  have HNO : Hid ((∀ j (hj : j < D.l.length), j < D.l.length → ¬ D.l[j].2 = D.ep) → barD D = D) := fun hn => by
    unfold barD
    rw [if_neg (fun a => by
      obtain ⟨x, hx, e⟩ := List.any_eq_true.1 a
      obtain ⟨j, hj, rfl⟩ := List.getElem_of_mem hx
      exact hn j hj hj (of_decide_eq_true e))]
  have HD : Hid (DL D q (.slice A D.l.length c) w w) := ⟨h, Below.refl _ _⟩
  obtain ⟨he0, he1⟩ := he
  clear h
  go_enter Try.func13, Try.ntmps13
  go_wp2
  go_loopw [2] (fun i wx => ∃ k : Nat, k ≤ D.l.length ∧ i = .int .i64 (k : Int) ∧ Hid (DL D q (.slice A D.l.length c) w wx) ∧ Hid (∀ j (hj : j < D.l.length), j < k → ¬ D.l[j].2 = D.ep)) (fun i _ => D.l.length - (intOf i).toNat)
  case atStart => exact ⟨0, by omega, rfl, HD.out, fun j hj h0 => by omega⟩
  case round =>
    obtain ⟨k, hk, rfl, HX, HP⟩ := hrel
    clear HD
    have c0 : wr.cell? ⟨q, 0, none⟩ = some (.slice A D.l.length c) := HX.out.d.head.cell 0
    have c1 : wr.cell? ⟨q, 1, none⟩ = some (.int .i64 D.ep) := HX.out.d.head.cell 1
    have f1 : wr.frozen? ⟨q, 1, none⟩ = false := HX.out.d.head.free 1
    by_cases hlt : k < D.l.length
    · have hltI : (k : Int) < (D.l.length : Int) := by omega
      obtain ⟨g, rfl, hg⟩ := HX.out.d.at_ hlt
      have d4 : wr.cell? ⟨g, k * 5 + 4, none⟩ = some (.int .i64 D.l[k].2) := hg _ HX.out.d 4 _ rfl
      have HY := Lib.hid (HYES.out k hlt)
      have HN := Lib.hid (el_no (p := fun x => x.2 = D.ep) hlt HP.out)
      clear hg HP HYES
      generalize D.l[k] = x at *
      obtain ⟨x, xe⟩ := x
      simp only at d4 HY HN
      by_cases hx : xe = D.ep
      · have HYY := Lib.hid (HY.out hx)
        rw [hx] at d4
        clear hx HY HN
        have HEN : Hid (∀ n, DAt (barD D) q (.slice (some ⟨g, 0, none⟩) D.l.length c) ((wr.drewN n).setCell ⟨q, 1, none⟩ (.int .i64 (D.ep + 1))) ∧ Fr [q] w ((wr.drewN n).setCell ⟨q, 1, none⟩ (.int .i64 (D.ep + 1)))) := fun n => by
          have hn := HX.out.drewN n
          have hf : Fr [q] (wr.drewN n) ((wr.drewN n).setCell ⟨q, 1, none⟩ (.int .i64 (D.ep + 1))) := (Fr.refl _ _).setCell (.inl (by simp)) _
          rw [HYY.out]
          refine ⟨⟨hn.d.head.set 1 _, ?_, hn.d.ne⟩, (Fr.of [q] hn.low).trans hf (fun i hi => .inl hi)⟩
          exact hf.row hn.d.row (fun i hi hm => hn.d.ne i hi (by simpa using hm))
        generalize D.ep = E at *
        go_wp2_with (fail)
        go_quiet (fail)
        go_wp2
        refine bodyPost_ret (results_none rfl _ _ _) rfl ?_
        exact ⟨rfl, HEN.out _⟩
      · have HN2 := Lib.hid (HN.out hx)
        have ex : (xe == D.ep) = false := by simpa using hx
        go_wp2_with (fail)
        go_quiet (fail)
        go_wp2
        go_roundw
        case rel => exact ⟨k + 1, by omega, by first | rfl | go_num, HX.out.drewN _, HN2⟩
        case measure => simp [intOf]; omega
    · obtain rfl : k = D.l.length := by omega
      have HNN := Lib.hid (HNO.out HP.out)
      go_wp2
      go_end0
      exact ⟨rfl, by rw [HNN.out]; exact HX.out.d, Fr.of [q] HX.out.low⟩
set_option maxHeartbeats 2000000 in
theorem rover_c {D : Dbf} {q : Nat} {vl : Value} {w : World} (h : DAt D q vl w) (hl : D.l.length ≤ 1000000) (a z : Int) (b : Bool) (hb : b = true ↔ ∃ x ∈ D.l, ovl x.1.addr x.1.size a z = true) :
    Calls Try.prog 20 #[.pointer (some ⟨q, 0, none⟩), .int .i64 a, .int .i64 z] w fun e w' => e = .returned (.bool b) ∧ BW w w' := by
  obtain ⟨A, c, rfl⟩ := own_shape h.row
  have HOV := Lib.hid (fun xa xz x => roverlap_any xa xz a z x)
  have HYES : Hid (∀ k (hk : k < D.l.length), ovl D.l[k].1.addr D.l[k].1.size a z = true → b = true) := fun k hk hx => hb.2 ⟨_, List.getElem_mem hk, hx⟩
  have HNO : Hid ((∀ j (hj : j < D.l.length), j < D.l.length → ¬ ovl D.l[j].1.addr D.l[j].1.size a z = true) → b = false) := fun hn => by
    cases hbb : b with
    | false => rfl
    | true =>
      obtain ⟨x, hx, hlt⟩ := hb.1 hbb
      obtain ⟨j, hj, rfl⟩ := List.getElem_of_mem hx
      exact absurd hlt (hn j hj hj)
  have HD : Hid (DL D q (.slice A D.l.length c) w w) := ⟨h, Below.refl _ _⟩
  clear h hb
  go_enter Try.func20, Try.ntmps20
  go_wp2
  go_loopw [7] (fun i wx => ∃ k : Nat, k ≤ D.l.length ∧ i = .int .i64 (k : Int) ∧ Hid (DL D q (.slice A D.l.length c) w wx) ∧ Hid (∀ j (hj : j < D.l.length), j < k → ¬ ovl D.l[j].1.addr D.l[j].1.size a z = true)) (fun i _ => D.l.length - (intOf i).toNat)
  case atStart => exact ⟨0, by omega, rfl, HD.out, fun j hj h0 => by omega⟩
  case round =>
    obtain ⟨k, hk, rfl, HX, HP⟩ := hrel
    clear HD
    have c0 : wr.cell? ⟨q, 0, none⟩ = some (.slice A D.l.length c) := HX.out.d.head.cell 0
    by_cases hlt : k < D.l.length
    · have hltI : (k : Int) < (D.l.length : Int) := by omega
      obtain ⟨g, rfl, hg⟩ := HX.out.d.at_ hlt
      have d1 : wr.cell? ⟨g, k * 5 + 1, none⟩ = some (.int .i64 D.l[k].1.addr) := hg _ HX.out.d 1 _ rfl
      have d2 : wr.cell? ⟨g, k * 5 + 2, none⟩ = some (.int .i64 D.l[k].1.size) := hg _ HX.out.d 2 _ rfl
      have HY := Lib.hid (HYES.out k hlt)
      have HN := Lib.hid (el_no (p := fun x => ovl x.1.addr x.1.size a z = true) hlt HP.out)
      clear hg HP HYES
      generalize D.l[k] = x at *
      obtain ⟨⟨xi, xa, xz, xd⟩, xe⟩ := x
      simp only at d1 d2 HY HN
      have HOK := Lib.hid (fun X => HOV.out xa xz X)
      cases ho : ovl xa xz a z with
      | true =>
        obtain rfl := HY.out ho
        rw [ho] at HOK
        go_wp2_with (fail)
        go_quiet (first | (go_at_call 26; refine Calls.quiet_of_same ((HOK.out _).mono fun _ _ h => ⟨h.1, h.2.symm⟩)))
        go_wp2
        go_ret
        exact ⟨rfl, (HX.out.drewN _).low⟩
      | false =>
        have HN2 := Lib.hid (HN.out (by rw [ho]; decide))
        rw [ho] at HOK
        go_wp2_with (fail)
        go_quiet (first | (go_at_call 26; refine Calls.quiet_of_same ((HOK.out _).mono fun _ _ h => ⟨h.1, h.2.symm⟩)))
        go_wp2
        go_roundw
        case rel => exact ⟨k + 1, by omega, by first | rfl | go_num, HX.out.drewN _, HN2⟩
        case measure => simp [intOf]; omega
    · obtain rfl : k = D.l.length := by omega
      obtain rfl := HNO.out HP.out
      go_wp2
      go_ret
      exact ⟨rfl, HX.out.low⟩
theorem four5 {w : World} {b o : Nat} {v0 v1 v2 v3 v4 : Value} (h : ∀ t v, #[v0, v1, v2, v3, v4].toList[t]? = some v → w.cell? ⟨b, o + t, none⟩ = some v) : ∀ j v, [v0, v1, v2, v3][j]? = some v → w.cell? ⟨b, o + j, none⟩ = some v := by
  intro j v hv
  refine h j v ?_
  have : j < 4 := (List.getElem?_eq_some_iff.1 hv).1
  show ([v0, v1, v2, v3] ++ [v4])[j]? = some v
  rw [List.getElem?_append_left (by simpa using this)]
  exact hv
set_option maxHeartbeats 4000000 in
theorem rfind_c {D : Dbf} {q : Nat} {vl : Value} {w : World} (h : DAt D q vl w) (hl : D.l.length ≤ 1000000) (hok : ∀ x ∈ D.l, StOk x.1) (at0 : Int) (r : Int × Int × Bool)
    (hhit : ∀ i (hi : i < D.l.length), hasAt at0 D.l[i].1 = true → (∀ j (hj : j < D.l.length), i < j → hasAt at0 D.l[j].1 = false) → r = (byteAt D.l[i].1.data (at0 - D.l[i].1.addr).toNat, D.l[i].1.id, true))
    (hno : (∀ j (hj : j < D.l.length), hasAt at0 D.l[j].1 = false) → r = (0, 0, false)) :
    Calls Try.prog 18 #[.pointer (some ⟨q, 0, none⟩), .int .i64 at0] w fun e w' => e = .returned (findV r) ∧ BW w w' := by
  obtain ⟨A, c, rfl⟩ := own_shape h.row
  have HHIT := Lib.hid hhit
  have HNO := Lib.hid hno
  have HOK := Lib.hid hok
  have HD : Hid (DL D q (.slice A D.l.length c) w w) := ⟨h, Below.refl _ _⟩
  have c0 : w.cell? ⟨q, 0, none⟩ = some (.slice A D.l.length c) := h.head.cell 0
  clear h hhit hno hok
  go_enter Try.func18, Try.ntmps18
  go_wp2
  clear c0
  go_loopw [7] (fun i wx => ∃ n : Int, -1 ≤ n ∧ n < (D.l.length : Int) ∧ i = .int .i64 n ∧ Hid (DL D q (.slice A D.l.length c) w wx) ∧ Hid (∀ j (hj : j < D.l.length), n < (j : Int) → hasAt at0 D.l[j].1 = false)) (fun i _ => (intOf i + 1).toNat)
  case atStart => exact ⟨(D.l.length : Int) - 1, by omega, by omega, by first | rfl | go_num, HD.out, fun j hj h0 => by omega⟩
  case round =>
    obtain ⟨n, hn0, hn1, rfl, HX, HP⟩ := hrel
    clear HD
    have c0 : wr.cell? ⟨q, 0, none⟩ = some (.slice A D.l.length c) := HX.out.d.head.cell 0
    by_cases hge : 0 ≤ n
    · obtain ⟨k, rfl⟩ : ∃ k : Nat, n = (k : Int) := ⟨n.toNat, by omega⟩
      have hlt : k < D.l.length := by omega
      obtain ⟨g, rfl, hg⟩ := HX.out.d.at_ hlt
      have HCS := Lib.hid (hg _ HX.out.d)
      have HY : Hid (hasAt at0 D.l[k].1 = true → r = (byteAt D.l[k].1.data (at0 - D.l[k].1.addr).toNat, D.l[k].1.id, true)) := fun hf => HHIT.out k hlt hf (fun j hj hkj => HP.out j hj (by omega))
      have HN : Hid (hasAt at0 D.l[k].1 = false → ∀ j (hj : j < D.l.length), (k : Int) - 1 < (j : Int) → hasAt at0 D.l[j].1 = false) := fun hf j hj hkj => by
        by_cases e : j = k
        · subst e; exact hf
        · exact HP.out j hj (by omega)
      have hst := HOK.out _ (List.getElem_mem hlt)
      clear hg HP
      generalize D.l[k] = x at *
      obtain ⟨⟨yi, ya, yz, yd⟩, xe⟩ := x
      simp only [stoC] at HCS HY HN hst
      obtain ⟨hd0, hd1⟩ := hst.data
      obtain ⟨_, hz, ha0, _, ha1⟩ := mayW_out hst.may
      simp only at hd0 hd1 hz ha0 ha1
      have HX1 := Lib.hid (HX.out.on (BW.new (Below.refl _ _) (.cells #[.int .i64 yi, .int .i64 ya, .int .i64 yz, .int .u64 yd] 34)))
      have b4 := Blk.new #[.int .i64 yi, .int .i64 ya, .int .i64 yz, .int .u64 yd] 34 wr
      have hz1 : 1 ≤ yz := by omega
      have hz8 : yz ≤ 8 := by omega
      clear hz hst
      by_cases h1 : ya ≤ at0
      · by_cases h2 : at0 < ya + yz
        · have HR := Lib.hid (HY.out (by unfold hasAt; simp [h1, h2]))
          clear HY HN
          have h3 : at0 ≤ ya + yz - 1 := by omega
          go_wp2_with (first
            | (with_reducible refine Hz.val_arm (o := ⟨some 26, .load _ _, _, _, _, _⟩) (by kernel_rfl) (Hz.ex_load_cells [.int .i64 yi, .int .i64 ya, .int .i64 yz, .int .u64 yd] rfl rfl (four5 HCS.out) Try.underlying34 rfl (by kernel_rfl)) ?_))
          obtain ⟨W4, hW4⟩ : ∃ W4, wr.alloc (.cells #[.int .i64 yi, .int .i64 ya, .int .i64 yz, .int .u64 yd] 34) = W4 := ⟨_, rfl⟩
          rw [hW4] at b4 HX1 ⊢
          obtain ⟨B4, hB4⟩ : ∃ B4, wr.heap.size = B4 := ⟨_, rfl⟩
          rw [hB4] at b4 ⊢
          have e0 : W4.cell? ⟨B4, 0, none⟩ = some (.int .i64 yi) := b4.cell 0
          have e1 : W4.cell? ⟨B4, 1, none⟩ = some (.int .i64 ya) := b4.cell 1
          have e3 : W4.cell? ⟨B4, 3, none⟩ = some (.int .u64 yd) := b4.cell 3
          clear hW4 hB4 b4
          obtain ⟨DD, hD⟩ : ∃ DD, at0 - ya = DD := ⟨_, rfl⟩
          have hD0 : 0 ≤ DD := by omega
          have hD8 : DD < 8 := by omega
          have hw1 : IntKind.i64.wrap (at0 - ya) = DD := by rw [IntKind.wrap_i64]; omega
          have hw2 : IntKind.i64.wrap (8 * DD) = 8 * DD := by rw [IntKind.wrap_i64]; omega
          go_quiet (fail)
          go_wp2
          refine bodyPost_ret (results_tmp3 rfl _ _ _) rfl ?_
          refine ⟨?_, below_drewN' HX1.out.low _⟩
          show Ending.returned (.tuple #[.int .u8 (yd / 2 ^ (8 * DD).toNat % 256), .int .i64 yi, .bool true]) = _
          rw [show (8 * DD).toNat = 8 * DD.toNat by omega, byte_shift, ← hD, HR.out]
          rfl
        · have HN2 := Lib.hid (HN.out (by unfold hasAt; simp [h2]))
          clear HY HN b4
          have h3 : ¬ at0 ≤ ya + yz - 1 := by omega
          go_wp2_with (first
            | (with_reducible refine Hz.val_arm (o := ⟨some 26, .load _ _, _, _, _, _⟩) (by kernel_rfl) (Hz.ex_load_cells [.int .i64 yi, .int .i64 ya, .int .i64 yz, .int .u64 yd] rfl rfl (four5 HCS.out) Try.underlying34 rfl (by kernel_rfl)) ?_))
          go_roundw
          case rel => exact ⟨(k : Int) - 1, by omega, by omega, by first | rfl | go_num, HX1.out, HN2⟩
          case measure => simp [intOf]
      · have HN2 := Lib.hid (HN.out (by unfold hasAt; simp [h1]))
        clear HY HN b4
        go_wp2_with (first
          | (with_reducible refine Hz.val_arm (o := ⟨some 26, .load _ _, _, _, _, _⟩) (by kernel_rfl) (Hz.ex_load_cells [.int .i64 yi, .int .i64 ya, .int .i64 yz, .int .u64 yd] rfl rfl (four5 HCS.out) Try.underlying34 rfl (by kernel_rfl)) ?_))
        go_roundw
        case rel => exact ⟨(k : Int) - 1, by omega, by omega, by first | rfl | go_num, HX1.out, HN2⟩
        case measure => simp [intOf]
    · obtain rfl : n = -1 := by omega
      have HR := Lib.hid (HNO.out (fun j hj => HP.out j hj (by omega)))
      go_wp2
      refine bodyPost_ret (results_tmp3 rfl _ _ _) rfl ?_
      exact ⟨by rw [HR.out]; rfl, HX.out.low⟩
end Go.Proofs.Ytcddgcchpmjdiaa
