/-
  The invariant of Grants and Listed.
-/
import Derived.Test.YtkonobbhohfjlaaWList
import Derived.Test.YtkonobbhohfjlaaNews
namespace Go.Proofs.Ytkonobbhohfjlaa
open Go.RowKit
set_option linter.unusedVariables false

theorem Row.whole {w : World} {b n e k : Nat} {cs : List Value} (h : Blk w b cs e) (hl : cs.length = n * k) (hn : n ≤ maxLen) : Row w (.slice (some ⟨b, 0, none⟩) n n) e k n cs :=
  ⟨hl, .inr ⟨b, n, cs.toArray, rfl, Nat.zero_le _, h, Nat.le_refl _, hn, by simp [hl], by simp [← hl]⟩⟩

theorem envCells_eq (c : Nat) : envCells c c = (List.replicate c true).flatMap ecells := by
  apply List.ext_getElem?
  intro j
  by_cases hj : j < c * 2
  · have h2 : (List.replicate c true)[j / 2]? = some true := by rw [List.getElem?_replicate, if_pos (by omega)]
    have := flat_get ecells 2 (fun _ => rfl) (List.replicate c true) (j / 2) (j % 2) true h2 (Nat.mod_lt _ (by omega))
    rw [show j / 2 * 2 + j % 2 = j by omega] at this
    rw [this]
    simp only [envCells, List.getElem?_map, List.getElem?_range hj, Option.map_some]
    rcases Nat.mod_two_eq_zero_or_one j with h | h <;> simp [h, ecells]
    omega
  · rw [List.getElem?_eq_none (by simp [envCells]; omega), List.getElem?_eq_none (by rw [flat_length ecells 2 (fun _ => rfl)]; simp; omega)]

def PSt.fresh (a c : Nat) : PSt := ⟨List.replicate c true, a, [], 0⟩

theorem sim_fresh (a b c : Nat) : Sim (RSt.fresh a b c) (PSt.fresh a c) :=
  ⟨⟨fun i r h => by simp [RSt.fresh] at h, fun i r h => by simp [RSt.fresh] at h, fun i r h => by simp [RSt.fresh] at h, fun i r h => by simp [RSt.fresh] at h⟩, rfl, by simp [RSt.fresh], rfl, rfl, rfl⟩
theorem rfix_fresh {a b c : Nat} (ha : a ≤ 16) (hb : b ≤ 8) (hc : c ≤ 4) : RFix (RSt.fresh a b c) c := ⟨by simp [RSt.fresh], hc, ha, by simp [RSt.fresh], by simpa [RSt.fresh] using hb, rfl⟩

theorem prep_fresh {own : Nat → Nat × Nat} {id : Nat} {w' : World} {p a c e f : Nat} (h1 : Blk w' p (machCells e f c a) 80) (h2 : Blk w' e (envCells c c) 82) (h3 : Blk w' f (frameCells a) 126)
    (ha : a ≤ 16) (hc : c ≤ 4) (t0 : own p = (id, 0)) (t1 : own e = (id, 1)) (t2 : own f = (id, 2)) : PRep own id w' p (PSt.fresh a c) (.slice (some ⟨e, 0, none⟩) c c) (.slice (some ⟨f, 0, none⟩) a a) (.slice none 0 0) := by
  refine ⟨⟨h1, rfl, rfl, Row.nil _ _ _, Tg.nil _ _, by rw [t0]; simp⟩, ?_, ⟨frameCells a, Row.whole h3 (by simp [frameCells]) (by unfold maxLen; omega)⟩, t0, Tg.mk t1, Tg.mk t2⟩
  have := Row.whole (n := c) (k := 2) h2 (by simp [envCells]) (by unfold maxLen; omega)
  rw [envCells_eq] at this
  simpa [PSt.fresh] using this

section
variable {own own' : Nat → Nat × Nat} {w w' : World}
theorem PairAt.of {ip ir p r N N' : Nat} (h : PairAt own ip ir w p r N) (ho : ∀ b, b < w.heap.size → own' b = own b) (hb : ∀ b, b < w.heap.size → (own b).1 = ip ∨ (own b).1 = ir → w'.heap[b]? = w.heap[b]?) (hN : N ≤ N') : PairAt own' ip ir w' p r N' := by
  obtain ⟨rs, ps, nk, vE, vF, vL, vR, vB, vS, vA, vK, bs, h1, h2, h3, h4, h5⟩ := h
  exact ⟨rs, ps, nk, vE, vF, vL, vR, vB, vS, vA, vK, bs, h1.of ho (fun b hl ht => hb b hl (.inl ht)), h2.of ho (fun b hl ht => hb b hl (.inr ht)), h3, h4, by omega⟩
end

/-- The world's struct and its two rows bear 1; machine k of the program 3k + 2, the document's 3k + 3; the list j that came out 3j + 4; nobody's is 0. -/
structure GI (bw i : Nat) (w : World) (own : Nat → Nat × Nat) (ps : List (Nat × Nat)) (hbs : List Nat) (vP vH : Value) : Prop where
  blk : Blk w bw [vP, vH] 47
  rP : Row w vP 71 2 ps.length (ps.flatMap pairCells)
  rH : Row w vH 73 1 hbs.length (hbs.map hptr)
  tw : own bw = (1, 0)
  tP : Tg own vP (1, 1)
  tH : Tg own vH (1, 2)
  pr : ∀ (k p r : Nat), ps[k]? = some (p, r) → PairAt own (3 * k + 2) (3 * k + 3) w p r i
  hd : ∀ (j hb : Nat), hbs[j]? = some hb → ∃ n a, HoldOK own (3 * j + 4) w hb n a
  l2 : ps.length ≤ i + 1
  l3 : hbs.length ≤ i
  top : ∀ b, w.heap.size ≤ b → (own b).1 = 0
  bot : ∀ b, b < bw → (own b).1 = 0
  ids : ∀ b, (own b).1 ≤ 1 ∨ (∃ k, k < ps.length ∧ ((own b).1 = 3 * k + 2 ∨ (own b).1 = 3 * k + 3)) ∨ ∃ j, j < hbs.length ∧ (own b).1 = 3 * j + 4

section
variable {bw i : Nat} {w w' : World} {own : Nat → Nat × Nat} {ps : List (Nat × Nat)} {hbs : List Nat} {vP vH : Value}

theorem GI.below (h : GI bw i w own ps hbs vP vH) (hb : Below w.heap.size w w') : GI bw i w' own ps hbs vP vH :=
  ⟨h.blk.below hb h.blk.lt, h.rP.below hb, h.rH.below hb, h.tw, h.tP, h.tH, fun k p r hk => (h.pr k p r hk).of (fun _ _ => rfl) (fun b hl _ => hb.block b hl) (Nat.le_refl _), fun j hb' hj => by
    obtain ⟨n, a, hh⟩ := h.hd j hb' hj
    exact ⟨n, a, hh.of (fun _ _ => rfl) hb.size (fun b hl _ => hb.block b hl)⟩, h.l2, h.l3, fun b hl => h.top b (Nat.le_trans hb.size hl), h.bot, h.ids⟩
theorem GI.mono (h : GI bw i w own ps hbs vP vH) : GI bw (i + 1) w own ps hbs vP vH :=
  ⟨h.blk, h.rP, h.rH, h.tw, h.tP, h.tH, fun k p r hk => (h.pr k p r hk).of (fun _ _ => rfl) (fun _ _ _ => rfl) (by omega), h.hd, by have := h.l2; omega, by have := h.l3; omega, h.top, h.bot, h.ids⟩
end

def GInv (bw i : Nat) (w : World) (S : Nat → Prop) : Prop := ∃ own ps hbs vP vH, GI bw i w own ps hbs vP vH ∧ 1 ≤ ps.length ∧ S = fun b => (own b).1 ≠ 0

/-- What a step leaves. -/
def GNext (bw i : Nat) (S : Nat → Prop) (w w' : World) : Prop := ∃ S', GInv bw (i + 1) w' S' ∧ Touch w.heap.size S w w' ∧ ∀ k, S' k → S k ∨ w.heap.size ≤ k

section
variable {bw i : Nat} {w w' : World} {own : Nat → Nat × Nat} {ps : List (Nat × Nat)} {hbs : List Nat} {vP vH : Value}

theorem GI.lt (h : GI bw i w own ps hbs vP vH) (k : Nat) (hk : (own k).1 ≠ 0) : k < w.heap.size := by
  by_cases hl : k < w.heap.size
  · exact hl
  · exact absurd (h.top k (by omega)) hk

/-- One pair has turned. -/
theorem GI.pair (h : GI bw i w own ps hbs vP vH) {k p r nk : Nat} (hk : ps[k]? = some (p, r)) {rs : RSt} {pss : PSt} (hn : PairRes own (3 * k + 2) (3 * k + 3) w w' p r rs pss nk) (hs : Sim rs pss) (hf : RFix rs nk) (hl : rs.rights.length ≤ i + 1) :
    GNext bw i (fun b => (own b).1 ≠ 0) w w' := by
  obtain ⟨own1, vE, vF, vL, vR, vB, vS, vA, vK, bs, h1, h2, h3, h4, h5⟩ := hn
  have hsz := h5.size
  have hkl := (List.getElem?_eq_some_iff.1 hk).1
  obtain ⟨own2, g1, g2, g3⟩ : ∃ own2 : Nat → Nat × Nat, (∀ b, b < w'.heap.size → own2 b = own1 b) ∧ (∀ b, w'.heap.size ≤ b → own2 b = (0, 0)) ∧ ∀ b, b < w.heap.size → own2 b = own b :=
    ⟨fun b => if b < w'.heap.size then own1 b else (0, 0), fun b hb => if_pos hb, fun b hb => if_neg (by omega), fun b hb => (if_pos (show b < w'.heap.size by omega)).trans (h3 b hb)⟩
  have hblk : ∀ b, b < w.heap.size → (own b).1 ≠ 3 * k + 2 → (own b).1 ≠ 3 * k + 3 → w'.heap[b]? = w.heap[b]? := fun b hb e1 e2 => h5.block b hb (fun e => e.elim e1 e2)
  have hbwl := h.blk.lt
  refine ⟨_, ⟨own2, ps, hbs, vP, vH, ⟨h.blk.of (hblk bw hbwl (by rw [h.tw]; simp) (by rw [h.tw]; simp)), h.rP.kept h.tP (fun b hb ht => hblk b hb (by rw [ht]; simp) (by rw [ht]; simp)), h.rH.kept h.tH (fun b hb ht => hblk b hb (by rw [ht]; simp) (by rw [ht]; simp)),
    (g3 bw hbwl).trans h.tw, h.tP.congr h.rP g3, h.tH.congr h.rH g3, ?_, ?_, by have := h.l2; omega, by have := h.l3; omega, fun b hb => by rw [g2 b hb], ?_, ?_⟩, by omega, rfl⟩, ?_, ?_⟩
  · intro k' p' r' hk'
    by_cases e : k' = k
    · subst e
      rw [hk] at hk'
      simp at hk'
      obtain ⟨rfl, rfl⟩ := hk'
      exact ⟨rs, pss, nk, vE, vF, vL, vR, vB, vS, vA, vK, bs, h1.retag (fun b hb _ => g1 b hb), h2.retag (fun b hb _ => g1 b hb), hs, hf, hl⟩
    · exact (h.pr k' p' r' hk').of g3 (fun b hb ht => hblk b hb (by omega) (by omega)) (by omega)
  · intro j hb hj
    obtain ⟨n, a, hh⟩ := h.hd j hb hj
    exact ⟨n, a, hh.of g3 hsz (fun b hl ht => hblk b hl (by omega) (by omega))⟩
  · intro b hb
    rw [g3 b (by omega)]
    exact h.bot b hb
  · intro b
    by_cases hb : b < w.heap.size
    · rw [g3 b hb]; exact h.ids b
    · by_cases hb' : b < w'.heap.size
      · rw [g1 b hb']
        rcases h4 b (by omega) with e | e | e
        · left; omega
        · exact .inr (.inl ⟨k, hkl, .inl e⟩)
        · exact .inr (.inl ⟨k, hkl, .inr e⟩)
      · rw [g2 b (by omega)]; left; simp
  · exact h5.mono (Nat.le_refl _) (fun b _ e => by rcases e with e | e <;> omega)
  · intro b hb
    by_cases hl : b < w.heap.size
    · rw [g3 b hl] at hb; exact .inl hb
    · exact .inr (by omega)

/-- A list more. -/
theorem GI.list (h : GI bw i w own ps hbs vP vH) (hl1 : 1 ≤ ps.length) (hn : ListRes own (3 * hbs.length + 4) bw w w' vP vH hbs) : GNext bw i (fun b => (own b).1 ≠ 0) w w' := by
  obtain ⟨own1, g, cap, hb, a, m, h1, h2, h3, h4, h5, h6, h7⟩ := hn
  have hsz := h3.size
  obtain ⟨own2, g1, g2, g3⟩ : ∃ own2 : Nat → Nat × Nat, (∀ b, b < w'.heap.size → own2 b = own1 b) ∧ (∀ b, w'.heap.size ≤ b → own2 b = (0, 0)) ∧ ∀ b, b < w.heap.size → own2 b = own b :=
    ⟨fun b => if b < w'.heap.size then own1 b else (0, 0), fun b hb => if_pos hb, fun b hb => if_neg (by omega), fun b hb => (if_pos (show b < w'.heap.size by omega)).trans (h1 b hb)⟩
  have hblk : ∀ b, b < w.heap.size → own b ≠ (1, 0) → own b ≠ (1, 2) → w'.heap[b]? = w.heap[b]? := fun b hb e1 e2 => h3.block b hb (fun e => e.elim (fun e => e1 (by rw [e]; exact h.tw)) (fun e => e2 (h.tH b e)))
  have hid : ∀ b, b < w.heap.size → 2 ≤ (own b).1 → w'.heap[b]? = w.heap[b]? := fun b hb e => hblk b hb (fun e1 => by rw [e1] at e; simp at e) (fun e1 => by rw [e1] at e; simp at e)
  have hbwl := h.blk.lt
  have hgl : g < w'.heap.size := h5.lt g rfl
  refine ⟨_, ⟨own2, ps, hbs ++ [hb], vP, _, ⟨h4, h.rP.kept h.tP (fun b hb ht => hblk b hb (by rw [ht]; simp) (by rw [ht]; simp)), by simpa using h5,
    (g3 bw hbwl).trans h.tw, h.tP.congr h.rP g3, Tg.mk ((g1 g hgl).trans h6), ?_, ?_, by have := h.l2; omega, by have := h.l3; simp; omega, fun b hb => by rw [g2 b hb], ?_, ?_⟩, hl1, rfl⟩, ?_, ?_⟩
  · intro k' p' r' hk'
    exact (h.pr k' p' r' hk').of g3 (fun b hb ht => hid b hb (by omega)) (by omega)
  · intro j hb' hj
    by_cases hjl : j < hbs.length
    · rw [List.getElem?_append_left hjl] at hj
      obtain ⟨n, a, hh⟩ := h.hd j hb' hj
      exact ⟨n, a, hh.of g3 hsz (fun b hl ht => hid b hl (by omega))⟩
    · rw [List.getElem?_append_right (by omega)] at hj
      have hj0 : j - hbs.length = 0 := by have := (List.getElem?_eq_some_iff.1 hj).1; simp at this; omega
      rw [hj0] at hj
      simp at hj
      subst hj
      obtain rfl : j = hbs.length := by omega
      exact ⟨m, a, h7.retag (fun b hb _ => g1 b hb)⟩
  · intro b hb
    rw [g3 b (by omega)]
    exact h.bot b hb
  · intro b
    by_cases hb : b < w.heap.size
    · rw [g3 b hb]
      rcases h.ids b with e | e | ⟨j, hj, e⟩
      · exact .inl e
      · exact .inr (.inl e)
      · exact .inr (.inr ⟨j, by simp; omega, e⟩)
    · by_cases hb' : b < w'.heap.size
      · rw [g1 b hb']
        rcases h2 b (by omega) with e | e | e
        · left; omega
        · left; omega
        · exact .inr (.inr ⟨hbs.length, by simp, e⟩)
      · rw [g2 b (by omega)]; left; simp
  · exact h3.mono (Nat.le_refl _) (fun b _ e => by
      rcases e with e | e
      · rw [e, h.tw]; simp
      · rw [h.tH b e]; simp)
  · intro b hb
    by_cases hl : b < w.heap.size
    · rw [g3 b hl] at hb; exact .inl hb
    · exact .inr (by omega)

/-- A pair more. -/
theorem GI.begin (h : GI bw i w own ps hbs vP vH) {i' : Nat} (hi : i ≤ i') (hl : ps.length ≤ i') {own1 : Nat → Nat × Nat} {g cap p r a b c : Nat} {vR vB vS vA vK : Value} {bs : List Nat} (ha : a ≤ 16) (hb : b ≤ 8) (hc : c ≤ 4) (h1 : ∀ b, b < w.heap.size → own1 b = own b)
    (h2 : Touch w.heap.size (fun x => x = bw ∨ vP.ownBlock = some x) w w') (h3 : Blk w' bw [.slice (some ⟨g, 0, none⟩) (ps.length + 1) cap, vH] 47)
    (h4 : Row w' (.slice (some ⟨g, 0, none⟩) (ps.length + 1) cap) 71 2 (ps.length + 1) ((ps ++ [(p, r)]).flatMap pairCells)) (h5 : vP.ownBlock = some g ∨ w.heap.size ≤ g)
    (h6 : RefRep own1 (3 * ps.length + 3) w' r (RSt.fresh a b c) c vR vB vS vA vK bs) (h7 : ∃ B, NewMachB w w' B p a c ∧ ∀ k, w.heap.size ≤ k → k < B → (own1 k).1 ≠ 3 * ps.length + 3 ∧ k ≠ g) (h8 : vP.ownBlock = some g ∨ (own1 g).1 ≠ 3 * ps.length + 3) :
    ∃ S', GInv bw i' w' S' ∧ Touch w.heap.size (fun b => (own b).1 ≠ 0) w w' ∧ ∀ k, S' k → (own k).1 ≠ 0 ∨ w.heap.size ≤ k := by
  obtain ⟨B, ⟨e, f, m1, m2, m3, n1, n2, n3, n4, n5, n6, n7, n8, n9⟩, hB⟩ := h7
  have hsz := h2.size
  have q1 := hB p n4 n7
  have q2 := hB e n5 n8
  have q3 := hB f n6 n9
  have hgl : g < w'.heap.size := h4.lt g rfl
  have hno : ∀ b, (own b).1 ≠ 3 * ps.length + 3 := fun b e => by
    rcases h.ids b with h | ⟨k, hk, h⟩ | ⟨j, hj, h⟩ <;> omega
  obtain ⟨own2, hw⟩ : ∃ own2 : Nat → Nat × Nat, own2 = fun x => if x < w.heap.size then own x else if w'.heap.size ≤ x then (0, 0) else if x = g then (1, 1) else if x = p then (3 * ps.length + 2, 0) else if x = e then (3 * ps.length + 2, 1) else if x = f then (3 * ps.length + 2, 2) else if (own1 x).1 = 3 * ps.length + 3 then own1 x else (0, 0) := ⟨_, rfl⟩
  have g3 : ∀ x, x < w.heap.size → own2 x = own x := fun x hx => by rw [hw]; exact if_pos hx
  have l1 := m1.lt
  have l2 := m2.lt
  have l3 := m3.lt
  have gp : own2 p = (3 * ps.length + 2, 0) := by
    rw [hw]
    simp only [if_neg (show ¬ p < w.heap.size by omega), if_neg (show ¬ w'.heap.size ≤ p by omega), if_neg q1.2, if_true]
  have ge : own2 e = (3 * ps.length + 2, 1) := by
    rw [hw]
    simp only [if_neg (show ¬ e < w.heap.size by omega), if_neg (show ¬ w'.heap.size ≤ e by omega), if_neg q2.2, if_neg (show ¬ e = p from fun x => n2 x.symm), if_true]
  have gf : own2 f = (3 * ps.length + 2, 2) := by
    rw [hw]
    simp only [if_neg (show ¬ f < w.heap.size by omega), if_neg (show ¬ w'.heap.size ≤ f by omega), if_neg q3.2, if_neg (show ¬ f = p from fun x => n3 x.symm), if_neg (show ¬ f = e from fun x => n1 x.symm), if_true]
  have gg : own2 g = (1, 1) := by
    rcases h5 with h5 | h5
    · rw [g3 g (h.rP.lt g h5)]; exact h.tP g h5
    · rw [hw]
      simp only [if_neg (show ¬ g < w.heap.size by omega), if_neg (show ¬ w'.heap.size ≤ g by omega), if_true]
  have gr : ∀ x, x < w'.heap.size → (own1 x).1 = 3 * ps.length + 3 → own2 x = own1 x := fun x hx ht => by
    by_cases hl : x < w.heap.size
    · rw [h1 x hl] at ht; exact absurd ht (hno x)
    · have e1 : x ≠ g := fun ee => by
        subst ee
        rcases h8 with h8 | h8
        · have := h.rP.lt x h8; omega
        · exact h8 ht
      have e2 : x ≠ p := fun ee => by rw [ee] at ht; exact q1.1 ht
      have e3 : x ≠ e := fun ee => by rw [ee] at ht; exact q2.1 ht
      have e4 : x ≠ f := fun ee => by rw [ee] at ht; exact q3.1 ht
      rw [hw]
      simp only [if_neg hl, if_neg (show ¬ w'.heap.size ≤ x by omega), if_neg e1, if_neg e2, if_neg e3, if_neg e4, if_pos ht]
  have g2 : ∀ x, w'.heap.size ≤ x → (own2 x).1 = 0 := fun x hx => by
    rw [hw]
    simp only [if_neg (show ¬ x < w.heap.size by omega), if_pos hx]
  have gid : ∀ x, w.heap.size ≤ x → (own2 x).1 ≤ 1 ∨ (own2 x).1 = 3 * ps.length + 2 ∨ (own2 x).1 = 3 * ps.length + 3 := fun x hx => by
    rw [hw]
    simp only [if_neg (show ¬ x < w.heap.size by omega)]
    repeat' split
    all_goals first | (left; simp; done) | (right; left; rfl) | (right; right; assumption)
  clear hw
  have hblk : ∀ x, x < w.heap.size → own x ≠ (1, 0) → own x ≠ (1, 1) → w'.heap[x]? = w.heap[x]? := fun x hx e1 e2 => h2.block x hx (fun e => e.elim (fun e => e1 (by rw [e]; exact h.tw)) (fun e => e2 (h.tP x e)))
  have hid : ∀ x, x < w.heap.size → 2 ≤ (own x).1 → w'.heap[x]? = w.heap[x]? := fun x hx e => hblk x hx (fun e1 => by rw [e1] at e; simp at e) (fun e1 => by rw [e1] at e; simp at e)
  have hbwl := h.blk.lt
  refine ⟨_, ⟨own2, ps ++ [(p, r)], hbs, _, vH, ⟨h3, by simpa using h4, h.rH.kept h.tH (fun b hb ht => hblk b hb (by rw [ht]; simp) (by rw [ht]; simp)),
    (g3 bw hbwl).trans h.tw, Tg.mk gg, h.tH.congr h.rH g3, ?_, ?_, by simp; omega, by have := h.l3; omega, g2, ?_, ?_⟩, by simp, rfl⟩, ?_, ?_⟩
  · intro k' p' r' hk'
    by_cases hjl : k' < ps.length
    · rw [List.getElem?_append_left hjl] at hk'
      exact (h.pr k' p' r' hk').of g3 (fun b hb ht => hid b hb (by omega)) hi
    · rw [List.getElem?_append_right (by omega)] at hk'
      have hj0 : k' - ps.length = 0 := by have := (List.getElem?_eq_some_iff.1 hk').1; simp at this; omega
      rw [hj0] at hk'
      simp at hk'
      obtain ⟨rfl, rfl⟩ := hk'
      obtain rfl : k' = ps.length := by omega
      exact ⟨RSt.fresh a b c, PSt.fresh a c, c, _, _, _, vR, vB, vS, vA, vK, bs, prep_fresh m1 m2 m3 ha hc gp ge gf, h6.retag gr, sim_fresh a b c, rfix_fresh ha hb hc, by simp [RSt.fresh]⟩
  · intro j hb' hj
    obtain ⟨n, a, hh⟩ := h.hd j hb' hj
    exact ⟨n, a, hh.of g3 hsz (fun b hl ht => hid b hl (by omega))⟩
  · intro x hx
    rw [g3 x (by omega)]
    exact h.bot x hx
  · intro x
    by_cases hx : x < w.heap.size
    · rw [g3 x hx]
      rcases h.ids x with e | ⟨k, hk, e⟩ | e
      · exact .inl e
      · exact .inr (.inl ⟨k, by simp; omega, e⟩)
      · exact .inr (.inr e)
    · rcases gid x (by omega) with e | e | e
      · exact .inl e
      · exact .inr (.inl ⟨ps.length, by simp, .inl e⟩)
      · exact .inr (.inl ⟨ps.length, by simp, .inr e⟩)
  · exact h2.mono (Nat.le_refl _) (fun x _ e => by
      rcases e with e | e
      · rw [e, h.tw]; simp
      · rw [h.tP x e]; simp)
  · intro x hx
    by_cases hl : x < w.heap.size
    · rw [g3 x hl] at hx; exact .inl hx
    · exact .inr (by omega)
end
end Go.Proofs.Ytkonobbhohfjlaa
