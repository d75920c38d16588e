/- The buffer: Drain. -/
import Derived.Test.YtcddgcchpmjdiaaVj
import Derived.Lib.Hide
set_option maxRecDepth 100000
set_option linter.unusedVariables false
namespace Go.Proofs.Ytcddgcchpmjdiaa
open Go.RowKit

theorem own_shape {w : World} {base n : Nat} {e : TypeId} {z : Nat} {v : Value} {xs : List Value} (h : w.ownsRow base e z v n xs) : ∃ A c, v = .slice A n c := by
  rcases h.2 with ⟨rfl, rfl⟩ | ⟨g, c, _, rfl, _⟩
  · exact ⟨none, 0, rfl⟩
  · exact ⟨_, c, rfl⟩
/-- What Drain leaves, and tells. -/
def RetDr (w : World) (s : Bst) (p : Bpl) (k : Int) (e : Ending) (w' : World) : Prop :=
  ∃ v, ∃ p' : Bpl, e = .returned v ∧ w'.ownsRow 0 34 4 v (outB s k).length (cellsW (outB s k)) ∧ BufAt (draB s k) p' w' ∧ p'.g = p.g ∧ (∀ i ∈ p'.foot, i ∈ p.foot) ∧ (∀ i, v.ownBlock = some i → i ∈ p.foot ∧ i ∉ p'.foot) ∧ Fr p.foot w w'
set_option maxHeartbeats 2000000 in
theorem drain_c {s : Bst} {p : Bpl} {w : World} (h : BufAt s p w) (hok : BsOk s) (q : Int) :
    Calls Try.prog 15 #[.pointer (some ⟨p.g, 0, none⟩), .int .i64 q] w (RetDr w s p q) := by
  have HR := Lib.hid (ready_c h hok)
  have hl := hok.len
  have HC := Lib.hid (fun (A : Option Addr) (cap : Nat) (X : World) (hr : Rd X X.heap.size A (cellsI (rdyI s s.es.length))) => contains_c A cap (rdyI s s.es.length) q X (by have := rdyI_len s s.es.length; omega) hr)
  have hm := mayGo_iff s q
  cases hgo : mayGo s q with
  | false =>
    have hd : decide (q ∈ rdyI s s.es.length) = false := decide_eq_false (by rw [hm, hgo]; decide)
    rw [hd] at HC
    have HE := Lib.hid (fun (w' : World) (hb : BW w w') => (show RetDr w s p q (.returned (.slice none 0 0)) w' from ⟨_, p, rfl, by unfold outB; rw [if_neg (by rw [hgo]; decide)]; exact World.ownsRow_nil _ _ _ _, by unfold draB; rw [if_neg (by rw [hgo]; decide)]; exact h.on hb, rfl, fun i hi => hi, fun i hi => (by cases hi), Fr.of _ hb⟩))
    clear hm hgo hd h hok hl
    generalize rdyI s s.es.length = l at *
    go_enter Try.func15, Try.ntmps15
    go_wp2_with (first
      | (go_at_call 22; refine HR.out.mono ?_; rintro e w1 ⟨v, rfl, ho, hb1⟩; obtain ⟨A1, c1, rfl⟩ := own_shape ho; have HO := Lib.hid ho; clear ho)
      | (go_at_call 36; refine (HC.out _ _ _ (Rd.of_own HO.out)).mono ?_; rintro e w2 ⟨rfl, hb2⟩))
    go_ret
    exact HE.out _ (hb1.on hb2)
  | true =>
    have hd : decide (q ∈ rdyI s s.es.length) = true := decide_eq_true (by rw [hm, hgo])
    rw [hd] at HC
    have hgo' := hgo
    unfold mayGo at hgo'
    simp only [Bool.and_eq_true, decide_eq_true_eq] at hgo'
    obtain ⟨k, rfl⟩ : ∃ k : Nat, q = (k : Int) := ⟨q.toNat, by omega⟩
    have hk : k < s.es.length := by omega
    obtain ⟨A, cap, hve, hA⟩ := h.reads
    obtain ⟨b, rfl, hbl, hcs⟩ := hA (by omega)
    obtain ⟨c, cp, hsv, hcl, _⟩ := h.stores hok k hk
    have d1 := (hcs k hk).2
    rw [hsv] at d1
    have hgb : p.g ≠ b := fun e => h.parts.1 b (by rw [hve]; rfl) e.symm
    have HE := Lib.hid (fun (w2 w3 : World) (hb : BW w w2) (hf : Fr [b] w2 w3) (ho : w3.ownsRow 0 60 2 (.slice (some ⟨b, 0, none⟩) (s.es.length - 1) cap) (s.es.length - 1) (cellsE (p.es.eraseIdx k))) => (show RetDr w s p k (.returned (.slice (some ⟨c, 0, none⟩) (mE s.es k) cp)) (w3.setCell ⟨p.g, 0, none⟩ (.slice (some ⟨b, 0, none⟩) (s.es.length - 1) cap)) from by
      obtain ⟨p', h1, h2, h3, h4, h5, h6⟩ := (h.on hb).drop hk hve hf ho
      refine ⟨_, p', rfl, ?_, ?_, h2, h3, fun i hi => h4 i (by rw [hsv]; exact hi), (Fr.of _ hb).trans h5 (fun i hi => .inl hi)⟩
      · unfold outB; rw [if_pos hgo]; rw [hsv] at h6; exact h6
      · unfold draB; rw [if_pos hgo]; exact h1))
    have HH := Lib.hid (fun (X : World) (hX : BW w X) => (h.on hX).head)
    have HD := Lib.hid (fun (X : World) (hX : BW w X) => delete_c (w := X) (b := b) (n := s.es.length) (cap := cap) (l := p.es) (by have := (h.on hX).row; rw [hve] at this; exact this) h.len h.one k hk hl)
    rw [hve] at HH
    clear hm hgo hgo' hd h hok hve hA hsv hcs
    have hkI : (k : Int) < (s.es.length : Int) ∧ (k : Int) < 4 := by omega
    obtain ⟨g, hg⟩ : ∃ g, p.g = g := ⟨_, rfl⟩
    rw [hg] at HR HE HH hgb ⊢
    generalize mE s.es k = m at *
    generalize rdyI s s.es.length = l at *
    obtain ⟨n, hn⟩ : ∃ n, s.es.length = n := ⟨_, rfl⟩
    rw [hn] at HE HH HD hk hl hkI
    go_enter Try.func15, Try.ntmps15
    go_wp2_with (first
      | (go_at_call 22; refine HR.out.mono ?_; rintro e w1 ⟨v, rfl, ho, hb1⟩; obtain ⟨A1, c1, rfl⟩ := own_shape ho; have HO := Lib.hid ho; clear ho)
      | (go_at_call 36; refine (HC.out _ _ _ (Rd.of_own HO.out)).mono ?_; rintro e w2 ⟨rfl, hb2⟩; have hb3 := hb1.on hb2; have q0 : w2.cell? ⟨g, 0, none⟩ = some (.slice (some ⟨b, 0, none⟩) n cap) := (HH.out _ hb3).cell 0; have q1 := (hb3.cell (p := ⟨b, k * 2 + 1, none⟩) hbl).trans d1)
      | (go_at_call 37; refine (HD.out _ hb3).mono ?_; rintro e w3 ⟨rfl, ho3, hf3⟩; have HH3 := (HH.out _ hb3); have hh3 := hf3.blk HH3 (by simp; exact hgb); have q2 : w3.cell? ⟨g, 0, none⟩ = some (.slice (some ⟨b, 0, none⟩) n cap) := hh3.cell 0; have q3 := hh3.free 0; have HO3 := Lib.hid ho3; have HF3 := Lib.hid hf3; clear ho3 hf3 HH3 hh3))
    go_ret
    exact HE.out _ _ hb3 HF3.out HO3.out
theorem drain_nil (q : Int) (w : World) : Calls Try.prog 15 #[.pointer none, .int .i64 q] w fun e w' => e = .returned (.slice none 0 0) ∧ BW w w' := by
  have HR := Lib.hid (ready_nil w)
  have HC := Lib.hid (fun (A : Option Addr) (cap : Nat) (X : World) => contains_c A cap [] q X (by simp) (.inl rfl))
  simp only [List.length_nil, List.not_mem_nil, decide_false] at HC
  go_enter Try.func15, Try.ntmps15
  go_wp2_with (first
    | (go_at_call 22; refine HR.out.mono ?_; rintro e w1 ⟨v, rfl, ho, hb1⟩; obtain ⟨A1, c1, rfl⟩ := own_shape ho)
    | (go_at_call 36; refine (HC.out _ _ _).mono ?_; rintro e w2 ⟨rfl, hb2⟩))
  go_ret
  exact ⟨rfl, hb1.on hb2⟩
end Go.Proofs.Ytcddgcchpmjdiaa
