import Derived.Test.YtkonobbhohfjlaaMarks
namespace Go.Proofs.Ytkonobbhohfjlaa
open Go.RowKit
set_option linter.unusedVariables false
attribute [local go_sem ↓] Go.wp_at_zero Go.wp_at_succ

/-- A list ahead of the appends: its own places are being written. -/
structure PreSt (own : Nat → Nat × Nat) (id : Nat) (w : World) (hb br be : Nat) (n : Int) (vI vR vE : Value) (nI nR nE : Nat) (lI lR lE : List Value) : Prop where
  blk : Blk w hb [vI, .slice none 0 0, vR, .slice none 0 0, vE, .slice none 0 0, .int .i64 n] 105
  bR : Blk w br (mR n) 64
  bE : Blk w be (mE n) 99
  rI : Row w vI 3 1 nI lI
  rR : Row w vR 64 4 nR lR
  rE : Row w vE 99 5 nE lE
  t0 : own hb = (id, 0)
  t7 : own br = (id, 7)
  t8 : own be = (id, 8)
  tI : Tg own vI (id, 1)
  tR : Tg own vR (id, 3)
  tE : Tg own vE (id, 5)

section
variable {own : Nat → Nat × Nat} {id : Nat} {w w' : World} {hb br be : Nat} {n : Int} {vI vR vE : Value} {nI nR nE : Nat} {lI lR lE : List Value}

theorem PreSt.drew (h : PreSt own id w hb br be n vI vR vE nI nR nE lI lR lE) : PreSt own id w.drew hb br be n vI vR vE nI nR nE lI lR lE := ⟨h.blk, h.bR, h.bE, h.rI, h.rR, h.rE, h.t0, h.t7, h.t8, h.tI, h.tR, h.tE⟩

theorem PreSt.setI {g cap j : Nat} {u : Value} (h : PreSt own id w hb br be n vI vR vE nI nR nE lI lR lE) (hv : vI = .slice (some ⟨g, 0, none⟩) nI cap) : PreSt own id (w.setCell ⟨g, j, none⟩ u) hb br be n vI vR vE nI nR nE (lI.set j u) lR lE := by
  have hg : own g = (id, 1) := h.tI g (by rw [hv]; rfl)
  refine ⟨h.blk.other _ (fun e => by have := h.t0; rw [e, hg] at this; simp at this), h.bR.other _ (fun e => by have := h.t7; rw [e, hg] at this; simp at this), h.bE.other _ (fun e => by have := h.t8; rw [e, hg] at this; simp at this), ?_,
    h.rR.other _ (fun e => by have := h.tR _ e; rw [hg] at this; simp at this), h.rE.other _ (fun e => by have := h.tE _ e; rw [hg] at this; simp at this), h.t0, h.t7, h.t8, h.tI, h.tR, h.tE⟩
  have := h.rI
  rw [hv] at this ⊢
  exact this.set _ _
theorem PreSt.setR {g cap j : Nat} {u : Value} (h : PreSt own id w hb br be n vI vR vE nI nR nE lI lR lE) (hv : vR = .slice (some ⟨g, 0, none⟩) nR cap) : PreSt own id (w.setCell ⟨g, j, none⟩ u) hb br be n vI vR vE nI nR nE lI (lR.set j u) lE := by
  have hg : own g = (id, 3) := h.tR g (by rw [hv]; rfl)
  refine ⟨h.blk.other _ (fun e => by have := h.t0; rw [e, hg] at this; simp at this), h.bR.other _ (fun e => by have := h.t7; rw [e, hg] at this; simp at this), h.bE.other _ (fun e => by have := h.t8; rw [e, hg] at this; simp at this),
    h.rI.other _ (fun e => by have := h.tI _ e; rw [hg] at this; simp at this), ?_, h.rE.other _ (fun e => by have := h.tE _ e; rw [hg] at this; simp at this), h.t0, h.t7, h.t8, h.tI, h.tR, h.tE⟩
  have := h.rR
  rw [hv] at this ⊢
  exact this.set _ _
theorem PreSt.setE {g cap j : Nat} {u : Value} (h : PreSt own id w hb br be n vI vR vE nI nR nE lI lR lE) (hv : vE = .slice (some ⟨g, 0, none⟩) nE cap) : PreSt own id (w.setCell ⟨g, j, none⟩ u) hb br be n vI vR vE nI nR nE lI lR (lE.set j u) := by
  have hg : own g = (id, 5) := h.tE g (by rw [hv]; rfl)
  refine ⟨h.blk.other _ (fun e => by have := h.t0; rw [e, hg] at this; simp at this), h.bR.other _ (fun e => by have := h.t7; rw [e, hg] at this; simp at this), h.bE.other _ (fun e => by have := h.t8; rw [e, hg] at this; simp at this),
    h.rI.other _ (fun e => by have := h.tI _ e; rw [hg] at this; simp at this), h.rR.other _ (fun e => by have := h.tR _ e; rw [hg] at this; simp at this), ?_, h.t0, h.t7, h.t8, h.tI, h.tR, h.tE⟩
  have := h.rE
  rw [hv] at this ⊢
  exact this.set _ _
end

/-- The first q elements are marked. -/
def mkTo (c : List Value) (k : Nat) (l : List Value) (q : Nat) : List Value := (List.replicate q c).flatten ++ l.drop (q * k)
theorem mkTo_zero (c : List Value) (k : Nat) (l : List Value) : mkTo c k l 0 = l := by simp [mkTo]
theorem mkTo_all (c : List Value) (k n : Nat) (l : List Value) (h : l.length = n * k) : mkTo c k l n = (List.replicate n c).flatten := by simp [mkTo, ← h]
theorem mkTo_len (c : List Value) (k q : Nat) (l : List Value) (hc : c.length = k) (h : q * k ≤ l.length) : (mkTo c k l q).length = l.length := by
  simp [mkTo, hc]; omega
theorem rep_len (c : List Value) (q : Nat) : (List.replicate q c).flatten.length = q * c.length := by simp
theorem mkTo1 (x : Value) (l : List Value) (q : Nat) (h : q < l.length) : (mkTo [x] 1 l q).set q x = mkTo [x] 1 l (q + 1) := by
  unfold mkTo
  rw [List.set_append_right _ _ (by rw [rep_len]; simp), List.replicate_succ', List.flatten_append, List.append_assoc, rep_len]
  congr 1
  simp only [List.length_singleton, Nat.mul_one, Nat.sub_self]
  rw [List.drop_eq_getElem_cons h]
  rfl
theorem drop4 {l : List Value} {q : Nat} (h : q * 4 + 4 ≤ l.length) : ∃ a b c d, l.drop (q * 4) = a :: b :: c :: d :: l.drop ((q + 1) * 4) := by
  refine ⟨l[q * 4], l[q * 4 + 1], l[q * 4 + 2], l[q * 4 + 3], ?_⟩
  rw [List.drop_eq_getElem_cons (by omega), List.drop_eq_getElem_cons (by omega), List.drop_eq_getElem_cons (by omega), List.drop_eq_getElem_cons (by omega)]
  rw [show (q + 1) * 4 = q * 4 + 1 + 1 + 1 + 1 by omega]
theorem drop5 {l : List Value} {q : Nat} (h : q * 5 + 5 ≤ l.length) : ∃ a b c d e, l.drop (q * 5) = a :: b :: c :: d :: e :: l.drop ((q + 1) * 5) := by
  refine ⟨l[q * 5], l[q * 5 + 1], l[q * 5 + 2], l[q * 5 + 3], l[q * 5 + 4], ?_⟩
  rw [List.drop_eq_getElem_cons (by omega), List.drop_eq_getElem_cons (by omega), List.drop_eq_getElem_cons (by omega), List.drop_eq_getElem_cons (by omega), List.drop_eq_getElem_cons (by omega)]
  rw [show (q + 1) * 5 = q * 5 + 1 + 1 + 1 + 1 + 1 by omega]
theorem mkTo4 (x0 x1 x2 x3 : Value) (l : List Value) (q : Nat) (h : q * 4 + 4 ≤ l.length) :
    ((((mkTo [x0, x1, x2, x3] 4 l q).set (q * 4) x0).set (q * 4 + 1) x1).set (q * 4 + 2) x2).set (q * 4 + 3) x3 = mkTo [x0, x1, x2, x3] 4 l (q + 1) := by
  unfold mkTo
  obtain ⟨a, b, c, d, hd⟩ := drop4 h
  rw [hd, List.replicate_succ', List.flatten_append]
  have hl := rep_len [x0, x1, x2, x3] q
  simp only [List.length_cons, List.length_nil, Nat.zero_add, Nat.reduceAdd] at hl
  rw [List.set_append_right _ _ (by omega), List.set_append_right _ _ (by omega), List.set_append_right _ _ (by omega), List.set_append_right _ _ (by omega), hl]
  simp
theorem mkTo5 (x0 x1 x2 x3 x4 : Value) (l : List Value) (q : Nat) (h : q * 5 + 5 ≤ l.length) :
    (((((mkTo [x0, x1, x2, x3, x4] 5 l q).set (q * 5) x0).set (q * 5 + 1) x1).set (q * 5 + 2) x2).set (q * 5 + 3) x3).set (q * 5 + 4) x4 = mkTo [x0, x1, x2, x3, x4] 5 l (q + 1) := by
  unfold mkTo
  obtain ⟨a, b, c, d, e, hd⟩ := drop5 h
  rw [hd, List.replicate_succ', List.flatten_append]
  have hl := rep_len [x0, x1, x2, x3, x4] q
  simp only [List.length_cons, List.length_nil, Nat.zero_add, Nat.reduceAdd] at hl
  rw [List.set_append_right _ _ (by omega), List.set_append_right _ _ (by omega), List.set_append_right _ _ (by omega), List.set_append_right _ _ (by omega), List.set_append_right _ _ (by omega), hl]
  simp

/-- Ahead of the appends: all places are marked. -/
theorem PreSt.start {own : Nat → Nat × Nat} {id : Nat} {w : World} {hb br be : Nat} {n : Int} {vI vR vE : Value} {nI nR nE : Nat}
    (h : PreSt own id w hb br be n vI vR vE nI nR nE (List.replicate nI (mI n)).flatten (List.replicate nR (mR n)).flatten (List.replicate nE (mE n)).flatten) :
    MarkSt own id w hb br be n vI (.slice none 0 0) vR (.slice none 0 0) vE (.slice none 0 0) vI vR vE nI nR nE 0 0 0 [] [] [] := by
  have hsa : ∀ {v : Value} {t : Nat × Nat} {e k m : Nat} {c : List Value}, Row w v e k m (List.replicate m c).flatten → Tg own v t → c.length = k → SA own t w c k m v := by
    intro v t e k m c hr ht hc
    obtain ⟨ao, cap, g, hv, hao, hcell, _⟩ := hr.view
    refine ⟨ao, m, cap, g, hv, Nat.le_refl _, ?_⟩
    rcases Nat.eq_zero_or_pos m with h0 | h0
    · exact .inl h0
    · have hob : v.ownBlock = some g := by rw [hv, hao h0]; rfl
      refine .inr ⟨hao h0, ht g hob, hr.lt g hob, fun i j hi hj => ?_⟩
      have hlt : i * k + j < m * k := by
        have : (i + 1) * k ≤ m * k := Nat.mul_le_mul_right k (by omega)
        rw [Nat.add_mul] at this; omega
      rw [hcell _ hlt, ← hc, rep_flat m c i j hi (by omega)]
  exact ⟨h.blk, h.bR, h.bE, ⟨h.rI, h.tI, hsa h.rI h.tI rfl, Row.nil _ _ _, Tg.nil _ _, fun x hx => by simp at hx⟩, ⟨h.rR, h.tR, hsa h.rR h.tR rfl, Row.nil _ _ _, Tg.nil _ _, fun x hx => by simp at hx⟩, ⟨h.rE, h.tE, hsa h.rE h.tE rfl, Row.nil _ _ _, Tg.nil _ _, fun x hx => by simp at hx⟩, h.t0, h.t7, h.t8⟩
end Go.Proofs.Ytkonobbhohfjlaa
