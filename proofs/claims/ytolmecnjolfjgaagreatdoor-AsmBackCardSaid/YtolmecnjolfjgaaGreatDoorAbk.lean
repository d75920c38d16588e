/- Layer 10, plain: the lines of bytes; joined by line feeds, and cut again. What Assemble does with the lines that Lines tells of bytes. What Lines tells of bytes assembles to them: plain, and Assemble upon it. -/
import Derived.Test.YtolmecnjolfjgaaGreatDoorAln
import Derived.Test.YtolmecnjolfjgaaGreatDoorAas
import Derived.Test.YtolmecnjolfjgaaGreatDoorArx
import Derived.Test.YtolmecnjolfjgaaGreatDoorAbm
set_option maxRecDepth 100000
namespace Go.Proofs.YtolmecnjolfjgaaGreatDoor
open Go.RowKit

/-! ### Lines joined, and cut -/
def joinT (l : List (List UInt8)) : List UInt8 := l.flatMap (fun x => x ++ [10])
theorem joinT_cons (x : List UInt8) (l : List (List UInt8)) : joinT (x :: l) = x ++ 10 :: joinT l := by unfold joinT; rw [List.flatMap_cons, List.append_assoc]; rfl
theorem joinT_snoc (l : List (List UInt8)) (x : List UInt8) : joinT (l ++ [x]) = joinT l ++ x ++ [10] := by unfold joinT; simp
theorem idx_line (x : List UInt8) (h : (10 : UInt8) ∉ x) (r : List UInt8) : Lib.indexByte (x ++ 10 :: r) 10 = (x.length : Int) := by
  induction x with
  | nil => simp [Lib.indexByte]
  | cons b x ih =>
    have hb : (b == 10) = false := by rw [beq_eq_false_iff_ne]; rintro rfl; exact h (by simp)
    have ih := ih (fun hx => h (by simp [hx]))
    rw [List.cons_append, Lib.indexByte, hb, ih]
    have h1 : ((x.length : Int) == -1) = false := by rw [beq_eq_false_iff_ne]; omega
    rw [h1]
    simp
theorem cut_line (x : List UInt8) (r : List UInt8) : (x ++ 10 :: r).drop (x.length + 1) = r := by
  rw [show x.length + 1 = x.length + 1 from rfl, ← List.drop_drop, List.drop_left]
  rfl
theorem count_join (l : List (List UInt8)) (h : ∀ x ∈ l, (10 : UInt8) ∉ x) : Lib.count (joinT l) [10] = l.length := by
  induction l with
  | nil => rfl
  | cons x l ih =>
    have hi : Lib.index (x ++ 10 :: joinT l) [10] = (x.length : Int) := by rw [Lib.index_one]; exact idx_line x (h x (by simp)) _
    rw [joinT_cons, Lib.count_hit (by decide) hi]
    show 1 + Lib.count ((x ++ 10 :: joinT l).drop (x.length + 1)) [10] = _
    rw [cut_line, ih (fun y hy => h y (by simp [hy])), List.length_cons]
    omega
theorem split_join (l : List (List UInt8)) (h : ∀ x ∈ l, (10 : UInt8) ∉ x) : Lib.splitK [10] 0 l.length (joinT l) = l ++ [[]] := by
  induction l with
  | nil => rfl
  | cons x l ih =>
    have hi : Lib.index (x ++ 10 :: joinT l) [10] = (x.length : Int) := by rw [Lib.index_one]; exact idx_line x (h x (by simp)) _
    have h1 : ((x.length : Int) == -1) = false := by rw [beq_eq_false_iff_ne]; omega
    rw [joinT_cons, List.length_cons, Lib.splitK, hi, h1]
    have e : ((x.length : Int).toNat + 0) = x.length := by simp
    rw [e]
    have e2 : ((x.length : Int).toNat + ([10] : List UInt8).length) = x.length + 1 := by simp
    rw [e2, cut_line, ih (fun y hy => h y (by simp [hy]))]
    simp
theorem lines_join (l : List (List UInt8)) (h : ∀ x ∈ l, (10 : UInt8) ∉ x) : linesT (joinT l) = l ++ [[]] := by
  unfold linesT linesB
  rw [Lib.splitB_data]
  have hc : Lib.countB (bs (joinT l)) ⟨#[10]⟩ = l.length := by
    show Lib.count (bs (joinT l)).data.toList [10] = _
    rw [show (bs (joinT l)).data.toList = joinT l from by simp [bs]]
    exact count_join l h
  rw [hc]
  show Lib.splitK [10] 0 l.length (bs (joinT l)).data.toList = _
  rw [show (bs (joinT l)).data.toList = joinT l from by simp [bs]]
  exact split_join l h

/-! ### Lines that stand as they are -/
structure LineOk (x : List UInt8) : Prop where
  chars : ∀ c ∈ x, isW c = true ∨ isMk c = true
  head : x.head? ≠ some 32
  last : x.getLast? ≠ some 32
  short : x.length ≤ 99
theorem LineOk.no {x : List UInt8} (h : LineOk x) {c : UInt8} (hc : isW c = false ∧ isMk c = false) : c ∉ x := fun hx => by
  rcases h.chars c hx with e | e
  · rw [hc.1] at e; cases e
  · rw [hc.2] at e; cases e
theorem tw_all {p : UInt8 → Bool} (x : List UInt8) (h : ∀ c ∈ x, p c = true) : x.takeWhile p = x := by
  induction x with
  | nil => rfl
  | cons d t ih => rw [List.takeWhile_cons, h d (by simp), if_pos rfl, ih (fun c hc => h c (by simp [hc]))]
theorem LineOk.bare {x : List UInt8} (h : LineOk x) : bareT x = x := by
  have h35 : (35 : UInt8) ∉ x := h.no (by decide)
  have e1 : befT 35 x = x := by
    unfold befT
    refine tw_all x (fun c hc => ?_)
    rw [bne_iff_ne]
    rintro rfl
    exact h35 hc
  unfold bareT trimT Lib.trimB Lib.trimLeftB Lib.trimRightB
  rw [e1]
  have e2 : (x.reverse.dropWhile (fun c => c == 32)).reverse = x := by
    have hl := h.last
    rw [← List.head?_reverse] at hl
    cases hx : x.reverse with
    | nil => rw [← List.reverse_reverse x, hx]; rfl
    | cons d t =>
      rw [hx] at hl
      have hd : (d == 32) = false := by rw [beq_eq_false_iff_ne]; rintro rfl; exact hl rfl
      rw [List.dropWhile_cons, hd, if_neg (by decide), ← hx, List.reverse_reverse]
  rw [e2]
  cases x with
  | nil => rfl
  | cons d t =>
    have hd : (d == 32) = false := by rw [beq_eq_false_iff_ne]; rintro rfl; exact h.head rfl
    rw [List.dropWhile_cons, hd, if_neg (by decide)]
theorem LineOk.suf {x : List UInt8} (h : LineOk x) : Lib.hasSuffix x [58] = false := by
  have h58 : (58 : UInt8) ∉ x := h.no (by decide)
  unfold Lib.hasSuffix
  cases hb : [58].isSuffixOf x
  · rfl
  · exact absurd ((List.isSuffixOf_iff_suffix.1 hb).subset (by simp)) h58
theorem allW_last {a : List UInt8} (h : AllW a) : a.getLast? ≠ some 32 := fun e => by
  have := h 32 (List.mem_of_getLast? e)
  revert this; decide
theorem allW_first {a : List UInt8} (h : AllW a) : a.head? ≠ some 32 := fun e => by
  have := h 32 (List.mem_of_head? e)
  revert this; decide
theorem last_app {a b : List UInt8} (hb : b ≠ []) : (a ++ b).getLast? = b.getLast? := by
  rw [List.getLast?_append]
  cases hc : b.getLast? with
  | none => exact absurd (List.getLast?_eq_none_iff.1 hc) hb
  | some x => rfl
theorem first_app {a b : List UInt8} (ha : a ≠ []) : (a ++ b).head? = a.head? := by
  cases a with
  | nil => exact absurd rfl ha
  | cons x a => rfl
theorem six_W {j : Ins} (h : Rgt j) {c : UInt8} (hc : c ∈ sixL) : AllW (partT j c) ∧ partT j c ≠ [] := by
  have ok := h.part
  have hne := digI_ne
  have hre : ∀ r : Int, regT r ≠ [] := fun r e => by unfold regT at e; cases e
  simp only [sixL, List.mem_cons, List.not_mem_nil, or_false] at hc
  rcases hc with rfl | rfl | rfl | rfl | rfl | rfl
  · exact ⟨allW_regT j.rd, hre _⟩
  · exact ⟨allW_regT j.rs1, hre _⟩
  · exact ⟨allW_regT j.rs2, hre _⟩
  · exact ⟨allW_digI j.imm, hne _⟩
  · exact allW_set ok.pred
  · exact allW_set ok.succ
theorem shapes_end : ∀ k : Fin 13, (shpL.getD k.val []).getLast? ≠ some 32 ∧ ((shpL.getD k.val []).map (fun c => if isMk c then 1 else 22)).sum ≤ 80 := by decide +kernel
theorem shp_end (op : Int) : (shpT op).getLast? ≠ some 32 ∧ ((shpT op).map (fun c => if isMk c then 1 else 22)).sum ≤ 80 := by
  have hs := srt_spec op
  unfold shpT
  by_cases h3 : op = 3
  · rw [if_pos h3]; decide
  rw [if_neg h3]
  by_cases h51 : op = 51
  · rw [if_pos h51]; decide
  rw [if_neg h51]
  exact shapes_end ⟨(srt op).toNat, by omega⟩
theorem flat_len (j : Ins) (l : List UInt8) : (l.flatMap (partT j)).length ≤ (l.map (fun c => if isMk c then 1 else 22)).sum := by
  induction l with
  | nil => simp
  | cons c l ih =>
    rw [List.flatMap_cons, List.length_append, List.map_cons, List.sum_cons]
    have h1 := part_len j c
    by_cases hm : isMk c = true
    · rw [if_pos hm]
      have := part_mark j c hm
      rw [this, List.length_singleton]
      omega
    · rw [if_neg hm]; omega
theorem text_ok10 {j : Ins} (h : Rgt j) : LineOk (textT j) := by
  obtain ⟨_, _, g3⟩ := shp_ok j.op
  obtain ⟨hW, hn⟩ := allW_head h.op j.aq j.rl
  have hpart : ∀ d ∈ shpT j.op, (∀ c ∈ partT j d, isW c = true ∨ isMk c = true) ∧ (d ≠ 32 → (partT j d).getLast? ≠ some 32) ∧ partT j d ≠ [] := fun d hd => by
    cases hm : isMk d with
    | true =>
      rw [part_mark j d hm]
      refine ⟨fun c hc => ?_, fun h32 e => h32 (by simpa using e), by simp⟩
      rw [List.mem_singleton.1 hc]; exact .inr hm
    | false =>
      have h6 := six_W h (g3 d hd (by unfold noMk; rw [hm]; rfl))
      exact ⟨fun c hc => .inl (h6.1 c hc), fun _ => allW_last h6.1, h6.2⟩
  rw [text_parts h.op]
  refine ⟨fun c hc => ?_, ?_, ?_, ?_⟩
  · rcases List.mem_append.1 hc with hc | hc
    · exact .inl (hW c hc)
    · obtain ⟨d, hd, hcd⟩ := List.mem_flatMap.1 hc
      exact (hpart d hd).1 c hcd
  · rw [first_app hn]; exact allW_first hW
  · have he := (shp_end j.op).1
    rcases List.eq_nil_or_concat (shpT j.op) with e | ⟨t, d, e⟩
    · rw [e]; simpa using allW_last hW
    · rw [e] at he hpart ⊢
      have hd : d ≠ 32 := by rintro rfl; exact he (by simp)
      rw [List.concat_eq_append] at *
      rw [List.flatMap_append, List.flatMap_cons, List.flatMap_nil, List.append_nil, ← List.append_assoc, last_app (hpart d (by simp)).2.2]
      exact (hpart d (by simp)).2.1 hd
  · have h1 := flat_len j (shpT j.op)
    have h2 := (shp_end j.op).2
    have h3 := nmO_len j.op
    have h4 := ann_len j.aq j.rl
    rw [List.length_append, List.length_append]
    omega
theorem num_ok10 (F : List UInt8) (hF : AllW F ∧ F ≠ [] ∧ F.length ≤ 10) (n : Nat) : LineOk (nlT F n) := by
  have hW := allW_digI n
  have hn := digI_ne n
  have hl : (digI (n : Int)).length ≤ 21 := by
    unfold digI
    split
    · have := digF_len 20 (n : Int).natAbs; unfold digU; simp; omega
    · have := digF_len 20 (n : Int).natAbs; unfold digU; omega
  unfold nlT
  refine ⟨fun c hc => ?_, ?_, ?_, ?_⟩
  · rcases List.mem_append.1 hc with hc | hc
    · exact .inl (hF.1 c hc)
    · rcases List.mem_cons.1 hc with rfl | hc
      · exact .inr rfl
      · exact .inl (hW c hc)
  · rw [first_app hF.2.1]; exact allW_first hF.1
  · rw [show F ++ 32 :: digI (n : Int) = (F ++ [32]) ++ digI n by simp, last_app hn]; exact allW_last hW
  · rw [List.length_append, List.length_cons]; have := hF.2.2; omega
theorem lineW_ok (B : List Int) (k : Nat) : LineOk (lineW B k) := by
  unfold lineW
  split
  · next he =>
    refine text_ok10 ((rgt_iff _).1 ?_)
    unfold ownB at he
    cases hr : rgtB (decI (word4 B (4 * k)))
    · rw [hr] at he; unfold hereB at he; cases he
    · rfl
  · exact num_ok10 dotW (by decide) _
theorem linesL_ok (B : List Int) : ∀ x ∈ linesL B, LineOk x := fun x hx => by
  unfold linesL linesR linesK at hx
  rcases List.mem_append.1 hx with hx | hx
  · obtain ⟨k, _, rfl⟩ := List.mem_map.1 hx
    exact lineW_ok B k
  · obtain ⟨k, _, rfl⟩ := List.mem_map.1 hx
    exact num_ok10 dotB (by decide) _
theorem join_len (l : List (List UInt8)) (h : ∀ x ∈ l, LineOk x) : (joinT l).length ≤ 100 * l.length := by
  induction l with
  | nil => simp [joinT]
  | cons x l ih =>
    rw [joinT_cons, List.length_append, List.length_cons, List.length_cons]
    have := (h x (by simp)).short
    have := ih (fun y hy => h y (by simp [hy]))
    omega
/-- The lines that Assemble finds of what Lines tells. -/
theorem lines_told (B : List Int) : linesT (joinT (linesL B)) = linesL B ++ [[]] := lines_join _ (fun x hx => (linesL_ok B x hx).no (by decide))
end Go.Proofs.YtolmecnjolfjgaaGreatDoor
namespace Go.Proofs.YtolmecnjolfjgaaGreatDoor
open Go.RowKit

theorem name_text {j : Ins} (h : Rgt j) : befT 32 (textT j) = nmO j.op ++ annT j.aq j.rl := by
  have hW := (allW_head h.op j.aq j.rl).1
  have hb : (shpT j.op).flatMap (partT j) = [] ∨ ∃ d t, (shpT j.op).flatMap (partT j) = d :: t ∧ no32 d = false := by
    rcases shp_head j.op with e | ⟨t, e⟩
    · rw [e]; exact .inl rfl
    · rw [e]; exact .inr ⟨32, t.flatMap (partT j), rfl, rfl⟩
  obtain ⟨t1, _⟩ := take_p (p := no32) (a := nmO j.op ++ annT j.aq j.rl) (b := (shpT j.op).flatMap (partT j)) (fun c hc => by
    have := of_decide_eq_true (hW c hc)
    unfold no32
    rw [bne_iff_ne]
    rintro rfl
    revert this
    decide) hb
  rw [text_parts h.op]
  exact t1
def keysT : List (List UInt8) := [[], [46, 111, 114, 103], [46, 98, 121, 116, 101], [46, 104, 97, 108, 102], [46, 119, 111, 114, 100], [46, 100, 119, 111, 114, 100], [46, 122, 101, 114, 111], [110, 111, 112], [104, 97, 108, 116], [108, 105], [106]]
theorem names_no : ∀ k : Fin 75, ∀ aq rl : Bool, nmO ((k.val : Int) + 1) ++ annT aq rl ∉ keysT := by decide +kernel
theorem text_key {j : Ins} (h : Rgt j) : ∀ K ∈ keysT, befT 32 (textT j) ≠ K := by
  rintro K hK rfl
  rw [name_text h] at hK
  have h1 := h.op
  have := names_no ⟨j.op.toNat - 1, by omega⟩ j.aq j.rl
  simp only [show ((j.op.toNat - 1 : Nat) : Int) + 1 = j.op by omega] at this
  exact this hK
theorem bef_num (F r : List UInt8) (h : (32 : UInt8) ∉ F) : befT 32 (F ++ 32 :: r) = F ∧ aftT 32 (F ++ 32 :: r) = r := by
  unfold befT aftT
  induction F with
  | nil => simp
  | cons d t ih =>
    have hd : (d != 32) = true := by rw [bne_iff_ne]; rintro rfl; exact h (by simp)
    have ih := ih (fun hx => h (by simp [hx]))
    rw [List.cons_append, List.takeWhile_cons, List.dropWhile_cons, hd, if_pos rfl, if_pos rfl]
    exact ⟨by rw [ih.1], ih.2⟩
/-- What the lines say. -/
def stW (B : List Int) (k : Nat) : Stm := if ownB (decI (word4 B (4 * k))) = hereB B k then instS (decI (word4 B (4 * k))) else numS 4 (word4 B (4 * k))
def stB (B : List Int) (k : Nat) : Stm := if k < B.length / 4 then stW B k else if k < B.length / 4 + B.length % 4 then numS 1 (B.getD (4 * (B.length / 4) + (k - B.length / 4)) 0) else noStm
def plB (B : List Int) (k : Nat) : Nat := if k ≤ B.length / 4 then 4 * k else if k ≤ B.length / 4 + B.length % 4 then 3 * (B.length / 4) + k else B.length
theorem told_len (B : List Int) : (linesL B).length = B.length / 4 + B.length % 4 := by unfold linesL; rw [linesR_len]
theorem told_W (B : List Int) {k : Nat} (h : k < B.length / 4) : (linesL B ++ [[]]).getD k [] = lineW B k := by
  rw [List.getD_eq_getElem?_getD, List.getElem?_append_left (by rw [told_len]; omega)]
  unfold linesL linesR
  rw [List.getElem?_append_left (by rw [linesK_len]; exact h)]
  unfold linesK
  rw [List.getElem?_map, List.getElem?_range h]
  rfl
theorem told_B (B : List Int) {k : Nat} (h : ¬ k < B.length / 4) (h2 : k < B.length / 4 + B.length % 4) : (linesL B ++ [[]]).getD k [] = lineB B (4 * (B.length / 4) + (k - B.length / 4)) := by
  rw [List.getD_eq_getElem?_getD, List.getElem?_append_left (by rw [told_len]; omega)]
  unfold linesL linesR
  rw [List.getElem?_append_right (by rw [linesK_len]; omega), linesK_len, List.getElem?_map, List.getElem?_range (by omega)]
  rfl
theorem told_E (B : List Int) : (linesL B ++ [[]]).getD (B.length / 4 + B.length % 4) [] = [] := by
  rw [List.getD_eq_getElem?_getD, List.getElem?_append_right (by rw [told_len]; exact Nat.le_refl _), told_len, Nat.sub_self]
  rfl
theorem own_rgt {d : Ins} {B : List Int} {k : Nat} (he : ownB d = hereB B k) : rgtB d = true := by
  unfold ownB at he
  cases hr : rgtB d
  · rw [hr] at he; unfold hereB at he; cases he
  · rfl
theorem word_u (B : List Int) (hb : ∀ j, 0 ≤ B.getD j 0 ∧ B.getD j 0 < 256) (k : Nat) : U32 (word4 B k) := by
  have h0 := hb k
  have h1 := hb (k + 1)
  have h2 := hb (k + 2)
  have h3 := hb (k + 3)
  unfold word4; constructor <;> omega
theorem read_told (B : List Int) (hb : ∀ j, 0 ≤ B.getD j 0 ∧ B.getD j 0 < 256) (w : World) (T : Tab9 w) (k : Nat) (hk : k < B.length / 4 + B.length % 4 + 1) (X : World) (hX : BW w X) :
    Calls Tryz.prog 83 #[tx (bareT ((linesL B ++ [[]]).getD k []))] X fun e X' => e = .returned (.tuple #[stV (stB B k), .bool true]) ∧ Below X.heap.size X X' := by
  by_cases h1 : k < B.length / 4
  · have hok := lineW_ok B k
    have hsh := hok.short
    rw [told_W B h1, hok.bare]
    unfold stB
    rw [if_pos h1]
    have hv := word_u B hb (4 * k)
    by_cases he : ownB (decI (word4 B (4 * k))) = hereB B k
    · have hR := (rgt_iff _).1 (own_rgt he)
      have e : lineW B k = textT (decI (word4 B (4 * k))) := by unfold lineW; rw [if_pos he]
      unfold stW
      rw [if_pos he]
      have hs := hok.suf
      rw [e] at hs hsh ⊢
      exact read_inst _ (by omega) (instS _) hs (text_key hR) X (fun x hx => readInst_c _ (by omega) _ (readC_text hR) x (T.below (hX.on hx)))
    · have e : lineW B k = nlT dotW (word4 B (4 * k)).toNat := by unfold lineW; rw [if_neg he]
      unfold stW
      rw [if_neg he]
      have hs := hok.suf
      rw [e] at hs hsh ⊢
      have hn : (((word4 B (4 * k)).toNat : Nat) : Int) = word4 B (4 * k) := Int.toNat_of_nonneg hv.1
      obtain ⟨f1, f2⟩ := bef_num dotW (digI ((word4 B (4 * k)).toNat : Nat)) (by decide)
      exact read_word _ (by omega) _ hs f1 (by
        unfold nlT
        rw [f2, hn]
        exact (num_iff _ _).2 ⟨by unfold I64; have := hv.1; have := hv.2; omega, rfl⟩) X
  · by_cases h2 : k < B.length / 4 + B.length % 4
    · have hok : LineOk (lineB B (4 * (B.length / 4) + (k - B.length / 4))) := num_ok10 dotB (by decide) _
      have hsh := hok.short
      have hs := hok.suf
      rw [told_B B h1 h2, hok.bare]
      unfold stB
      rw [if_neg h1, if_pos h2]
      have hv := hb (4 * (B.length / 4) + (k - B.length / 4))
      unfold lineB at hs hsh ⊢
      generalize B.getD (4 * (B.length / 4) + (k - B.length / 4)) 0 = y at *
      have hn : ((y.toNat : Nat) : Int) = y := Int.toNat_of_nonneg hv.1
      obtain ⟨f1, f2⟩ := bef_num dotB (digI (y.toNat : Nat)) (by decide)
      exact read_byte _ (by omega) _ hs f1 (by
        unfold nlT
        rw [f2, hn]
        exact (num_iff _ _).2 ⟨by unfold I64; omega, rfl⟩) X
    · obtain rfl : k = B.length / 4 + B.length % 4 := by omega
      rw [told_E]
      unfold stB
      rw [if_neg h1, if_neg h2]
      exact read_empty X
end Go.Proofs.YtolmecnjolfjgaaGreatDoor
namespace Go.Proofs.YtolmecnjolfjgaaGreatDoor
open Go.RowKit

theorem here_take (B : List Int) (k : Nat) (h : 4 * k + 4 ≤ B.length) : (B.drop (4 * k)).take 4 = hereB B k := by
  refine List.ext_getElem (by simp [hereB]; omega) (fun i h1 h2 => ?_)
  have hi : i = 0 ∨ i = 1 ∨ i = 2 ∨ i = 3 := by simp [hereB] at h2; omega
  rw [List.getElem_take, List.getElem_drop]
  rcases hi with rfl | rfl | rfl | rfl
  all_goals
    simp only [hereB, List.getElem_cons_zero, List.getElem_cons_succ]
    rw [List.getD_eq_getElem?_getD, List.getElem?_eq_getElem (by omega)]
    rfl
theorem bytes_here (B : List Int) (hb : ∀ j, 0 ≤ B.getD j 0 ∧ B.getD j 0 < 256) (k : Nat) : bytesL (word4 B (4 * k)) 4 = hereB B k := bytes_of4 _ _ _ _ (hb _) (hb _) (hb _) (hb _)
theorem putN_W (B : List Int) (hb : ∀ j, 0 ≤ B.getD j 0 ∧ B.getD j 0 < 256) (k : Nat) (p : Int) : Puts [] p (stW B k) ∧ putB [] p (stW B k) = hereB B k ∧ (stW B k).label = [] ∧ (stW B k).org = false ∧ (stW B k).count = 4 := by
  have hv := word_u B hb (4 * k)
  unfold stW
  by_cases he : ownB (decI (word4 B (4 * k))) = hereB B k
  · rw [if_pos he]
    have hr := own_rgt he
    have hR := (rgt_iff _).1 hr
    refine ⟨⟨(by show (0 : Int) ≤ 4; decide), .inr ⟨hR, rfl, .inl rfl⟩⟩, ?_, rfl, rfl, rfl⟩
    have h0 : (decI (word4 B (4 * k))).op ≠ 0 := by have := hR.op; omega
    unfold putB
    rw [if_neg (show ¬ (instS (decI (word4 B (4 * k)))).inst.op = 0 from h0)]
    unfold ownB at he
    rw [if_pos hr] at he
    exact he
  · rw [if_neg he]
    have hw : IntKind.u64.wrap (word4 B (4 * k)) = word4 B (4 * k) := by rw [IntKind.wrap_u64]; have := hv.1; have := hv.2; omega
    refine ⟨⟨(by show (0 : Int) ≤ 4; decide), .inl ⟨rfl, ?_, (by show (4 : Int) ≤ 1024; decide)⟩⟩, ?_, rfl, rfl, rfl⟩
    · show 0 ≤ IntKind.u64.wrap _
      rw [hw]; exact hv.1
    · unfold putB
      rw [if_pos (show (numS 4 (word4 B (4 * k))).inst.op = 0 from rfl)]
      show bytesL (IntKind.u64.wrap _) (cap8 4) ++ List.replicate 0 0 = _
      rw [hw, List.replicate_zero, List.append_nil]
      exact bytes_here B hb k
theorem putN_1 (L : Labs) (y : Int) (hy : 0 ≤ y ∧ y < 256) (p : Int) : Puts L p (numS 1 y) ∧ putB L p (numS 1 y) = [y] := by
  have hw : IntKind.u64.wrap y = y := by rw [IntKind.wrap_u64]; omega
  refine ⟨⟨by show (0 : Int) ≤ 1; decide, .inl ⟨rfl, ?_, by show (1 : Int) ≤ 1024; decide⟩⟩, ?_⟩
  · show 0 ≤ IntKind.u64.wrap _
    rw [hw]; exact hy.1
  · unfold putB
    rw [if_pos (show (numS 1 y).inst.op = 0 from rfl)]
    show bytesL (IntKind.u64.wrap _) (cap8 1) ++ List.replicate 0 0 = _
    rw [hw, List.replicate_zero, List.append_nil]
    show [byteAt y 0] = [y]
    unfold byteAt
    rw [show (256 : Int) ^ 0 = 1 from rfl]
    simp only [List.cons.injEq, and_true]
    omega
theorem putN_0 (L : Labs) (p : Int) : Puts L p noStm ∧ putB L p noStm = [] := ⟨⟨by decide, .inl ⟨rfl, by decide, by decide⟩⟩, rfl⟩
/-- Line by line: what is put, and where it goes on. -/
theorem told_step (B : List Int) (hb : ∀ j, 0 ≤ B.getD j 0 ∧ B.getD j 0 < 256) (k : Nat) (hk : k < B.length / 4 + B.length % 4 + 1) :
    Puts [] (plB B k) (stB B k) ∧ putB [] (plB B k) (stB B k) = (B.drop (plB B k)).take (plB B (k + 1) - plB B k) ∧ (stB B k).label = [] ∧ (stB B k).org = false ∧ plB B (k + 1) = plB B k + (stB B k).count.toNat ∧ 0 ≤ (stB B k).count ∧ plB B (k + 1) ≤ B.length ∧ ((stB B k).inst.op ≠ 0 → plB B k % 4 = 0) := by
  by_cases h1 : k < B.length / 4
  · obtain ⟨p1, p2, p3, p4, p5⟩ := putN_W B hb k (plB B k)
    have e1 : plB B k = 4 * k := by unfold plB; rw [if_pos (by omega)]
    have e2 : plB B (k + 1) = 4 * k + 4 := by unfold plB; rw [if_pos (by omega)]; omega
    unfold stB
    rw [if_pos h1]
    refine ⟨p1, ?_, p3, p4, ?_, ?_, ?_, ?_⟩
    · rw [p2, e1, e2, show 4 * k + 4 - 4 * k = 4 by omega, here_take B k (by omega)]
    · rw [p5, e1, e2]; rfl
    · rw [p5]; decide
    · omega
    · intro _; omega
  · by_cases h2 : k < B.length / 4 + B.length % 4
    · have e1 : plB B k = 3 * (B.length / 4) + k := by
        unfold plB
        by_cases h3 : k ≤ B.length / 4
        · rw [if_pos h3]; omega
        · rw [if_neg h3, if_pos (by omega)]
      have e2 : plB B (k + 1) = 3 * (B.length / 4) + k + 1 := by unfold plB; rw [if_neg (by omega), if_pos (by omega)]; omega
      obtain ⟨p1, p2⟩ := putN_1 [] _ (hb (4 * (B.length / 4) + (k - B.length / 4))) (plB B k)
      unfold stB
      rw [if_neg h1, if_pos h2]
      refine ⟨p1, ?_, rfl, rfl, ?_, by show (0 : Int) ≤ 1; decide, ?_, fun h => absurd rfl h⟩
      · rw [p2, e1, e2, show 3 * (B.length / 4) + k + 1 - (3 * (B.length / 4) + k) = 1 by omega]
        have hlt : 3 * (B.length / 4) + k < B.length := by omega
        rw [List.drop_eq_getElem_cons hlt, List.take_succ_cons, List.take_zero, List.getD_eq_getElem?_getD, show 4 * (B.length / 4) + (k - B.length / 4) = 3 * (B.length / 4) + k by omega, List.getElem?_eq_getElem hlt]
        rfl
      · rw [e1, e2]; rfl
      · omega
    · obtain rfl : k = B.length / 4 + B.length % 4 := by omega
      have e1 : plB B (B.length / 4 + B.length % 4) = B.length := by
        unfold plB
        by_cases h3 : B.length / 4 + B.length % 4 ≤ B.length / 4
        · rw [if_pos h3]; omega
        · rw [if_neg h3, if_pos (Nat.le_refl _)]; omega
      have e2 : plB B (B.length / 4 + B.length % 4 + 1) = B.length := by unfold plB; rw [if_neg (by omega), if_neg (by omega)]
      obtain ⟨p1, p2⟩ := putN_0 [] (plB B (B.length / 4 + B.length % 4))
      unfold stB
      rw [if_neg h1, if_neg h2]
      refine ⟨p1, ?_, rfl, rfl, ?_, by decide, by omega, fun h => absurd rfl h⟩
      · rw [p2, e1, e2, Nat.sub_self, List.take_zero]
      · rw [e1, e2]; rfl
theorem splice_next (B : List Int) (p q : Nat) (hq : p + q ≤ B.length) : splice (cellsB (B.take p) ++ zerosB (B.length - p)) p (cellsB ((B.drop p).take q)) = cellsB (B.take (p + q)) ++ zerosB (B.length - (p + q)) := by
  have l1 : (cellsB (B.take p)).length = p := by unfold cellsB; rw [List.length_map, List.length_take]; omega
  have l2 : (cellsB ((B.drop p).take q)).length = q := by unfold cellsB; rw [List.length_map, List.length_take, List.length_drop]; omega
  unfold splice
  rw [l2, List.take_left' l1, List.take_add]
  have e : (cellsB (B.take p) ++ zerosB (B.length - p)).drop (p + q) = zerosB (B.length - (p + q)) := by
    rw [List.drop_append, l1, List.drop_eq_nil_of_le (by omega), List.nil_append]
    unfold zerosB
    rw [List.drop_replicate]
    congr 1
    omega
  rw [e]
  unfold cellsB
  rw [List.map_append, List.append_assoc]
theorem image_told (B : List Int) (hb : ∀ j, 0 ≤ B.getD j 0 ∧ B.getD j 0 < 256) : ∀ k, k ≤ B.length / 4 + B.length % 4 + 1 → imgS B.length [] (stB B) (fun k => (plB B k : Int)) k = cellsB (B.take (plB B k)) ++ zerosB (B.length - plB B k)
  | 0, _ => by
    have e : plB B 0 = 0 := by unfold plB; rw [if_pos (by omega)]
    rw [e]
    rfl
  | k + 1, hk => by
    obtain ⟨_, p2, _, _, p5, p6, p7, _⟩ := told_step B hb k (by omega)
    rw [imgS, image_told B hb k (by omega)]
    show splice _ (plB B k) (cellsB (putB [] (plB B k) (stB B k))) = _
    rw [p2, show plB B (k + 1) - plB B k = (stB B k).count.toNat by omega, splice_next B _ _ (by omega), p5]
theorem image_all (B : List Int) (hb : ∀ j, 0 ≤ B.getD j 0 ∧ B.getD j 0 < 256) : imgS B.length [] (stB B) (fun k => (plB B k : Int)) (B.length / 4 + B.length % 4 + 1) = cellsB B := by
  have e : plB B (B.length / 4 + B.length % 4 + 1) = B.length := by unfold plB; rw [if_neg (by omega), if_neg (by omega)]
  rw [image_told B hb _ (Nat.le_refl _), e, List.take_length, Nat.sub_self]
  simp [zerosB]
theorem prog_told (B : List Int) (hb : ∀ j, 0 ≤ B.getD j 0 ∧ B.getD j 0 < 256) (hl : B.length ≤ 1024) (w : World) (T : Tab9 w) : Prog1 w (joinT (linesL B)) B.length (stB B) (fun k => (plB B k : Int)) (fun _ => []) := by
  have hN : (linesT (joinT (linesL B))).length = B.length / 4 + B.length % 4 + 1 := by rw [lines_told, List.length_append, told_len]; rfl
  have hj := join_len (linesL B) (linesL_ok B)
  rw [told_len] at hj
  refine ⟨by omega, by omega, ?_, ?_, ?_, ?_, ?_⟩
  · intro k X hk hX
    rw [hN] at hk
    rw [lines_told]
    exact read_told B hb w T k hk X hX
  · intro k hk
    rw [hN] at hk
    obtain ⟨_, _, p3, p4, p5, p6, p7, p8⟩ := told_step B hb k hk
    refine .inl ⟨p3, ⟨(by omega), (fun h => by have := p8 h; omega), (fun h => by rw [p4] at h; cases h), (by omega)⟩, rfl⟩
  · intro k hk
    rw [hN] at hk
    obtain ⟨_, _, p3, p4, p5, p6, p7, p8⟩ := told_step B hb k hk
    exact ⟨by omega, by omega, p6⟩
  · intro k hk
    rw [hN] at hk
    obtain ⟨_, _, p3, p4, p5, p6, p7, p8⟩ := told_step B hb k hk
    unfold behindS
    rw [p4, if_neg (by decide)]
    show ((plB B (k + 1) : Nat) : Int) = _
    rw [p5]
    omega
  · refine ⟨?_, rfl⟩
    show ((plB B 0 : Nat) : Int) = 0
    unfold plB
    rw [if_pos (by omega)]
    rfl
/-- Assemble upon what Lines tells. -/
theorem asm_told (B : List Int) (hb : ∀ j, 0 ≤ B.getD j 0 ∧ B.getD j 0 < 256) (hl : B.length ≤ 1024) (w : World) (T : Tab9 w) (T7 : Tab7 w) :
    Calls Tryz.prog 16 #[tx (joinT (linesL B)), .int .i64 B.length] w (RetAsm w B.length [] (cellsB B)) := by
  have hN : (linesT (joinT (linesL B))).length = B.length / 4 + B.length % 4 + 1 := by rw [lines_told, List.length_append, told_len]; rfl
  have h := asm_c (joinT (linesL B)) B.length (stB B) (fun k => (plB B k : Int)) (fun _ => []) w (prog_told B hb hl w T) (fun k hk => by
    rw [hN] at hk
    exact (told_step B hb k hk).1) T7
  rw [hN, image_all B hb] at h
  exact h
end Go.Proofs.YtolmecnjolfjgaaGreatDoor
