import Derived.Test.YtkonobbhohfjlaaRefD
namespace Go.Proofs.Ytkonobbhohfjlaa
open Go.RowKit
set_option linter.unusedVariables false

/-- An entry that has lost its backing is gone. -/
def swE (s : RSt) (e : Ent) : Ent := if e.used && !owned s.rights e.env e.fr e.wr then Ent.empty else e
/-- The first q slots swept. -/
def swTo (s : RSt) (q : Nat) : List Ent := (s.slots.take q).map (swE s) ++ s.slots.drop q
theorem swTo_len (s : RSt) (q : Nat) : (swTo s q).length = s.slots.length := by simp [swTo]; omega
theorem swTo_at (s : RSt) (q : Nat) : (swTo s q)[q]? = s.slots[q]? := by
  unfold swTo
  by_cases h : q < s.slots.length
  · rw [List.getElem?_append_right (by simp; omega)]
    simp only [List.length_map, List.length_take, List.getElem?_drop]
    rw [show q + (q - min q s.slots.length) = q by omega]
  · rw [List.getElem?_eq_none (by simp; omega), List.getElem?_eq_none (by omega)]
theorem swTo_succ (s : RSt) (q : Nat) (e : Ent) (h : s.slots[q]? = some e) : swTo s (q + 1) = (swTo s q).set q (swE s e) := by
  have hq := (List.getElem?_eq_some_iff.1 h).1
  have he : s.slots[q] = e := (List.getElem?_eq_some_iff.1 h).2
  unfold swTo
  rw [List.take_succ_eq_append_getElem hq, List.set_append_right _ _ (by simp; omega)]
  simp only [List.map_append, List.map_cons, List.map_nil, List.length_map, List.length_take, List.append_assoc]
  rw [show q - min q s.slots.length = 0 by omega, List.drop_eq_getElem_cons hq, he]
  rfl
theorem swTo_all (s : RSt) : { s with slots := swTo s s.slots.length } = sweepS s := by
  simp [swTo, sweepS, swE]
theorem swTo_same (s : RSt) (q : Nat) (e : Ent) (h : s.slots[q]? = some e) (he : swE s e = e) : swTo s (q + 1) = swTo s q := by
  rw [swTo_succ s q e h, he]
  have hg := (swTo_at s q).trans h
  obtain ⟨hlt, hx⟩ := List.getElem?_eq_some_iff.1 hg
  conv => lhs; rw [← hx]
  exact List.set_getElem_self hlt

section
variable {own : Nat → Nat × Nat} {id : Nat} {w : World} {m : Nat} {s : RSt} {nk : Nat} {vR vB vS vA vK : Value} {bs : List Nat}

theorem RefRep.slot (h : RefRep own id w m s nk vR vB vS vA vK bs) {i : Nat} {e : Ent} (hr : s.slots[i]? = some e) :
    ∃ g cap, vS = .slice (some ⟨g, 0, none⟩) s.slots.length cap ∧ own g = (id, 3) ∧ w.cell? ⟨g, i * 5, none⟩ = some (.bool e.used) ∧ w.cell? ⟨g, i * 5 + 1, none⟩ = some (.int .i64 e.env) ∧ w.cell? ⟨g, i * 5 + 2, none⟩ = some (.int .i64 e.page) ∧
      w.cell? ⟨g, i * 5 + 3, none⟩ = some (.int .i64 e.fr) ∧ w.cell? ⟨g, i * 5 + 4, none⟩ = some (.bool e.wr) ∧ ∀ j, w.frozen? ⟨g, j, none⟩ = false := by
  have hi := (List.getElem?_eq_some_iff.1 hr).1
  obtain ⟨g, cap, hv, hc, hf⟩ := h.rS.form (by omega)
  have hx : ∀ j, j < 5 → w.cell? ⟨g, i * 5 + j, none⟩ = e.cells[j]? := fun j hj => by
    rw [hc _ (by omega), flat_get Ent.cells 5 (fun _ => rfl) _ _ j _ hr hj]
  exact ⟨g, cap, hv, h.tS g (by rw [hv]; rfl), hx 0 (by omega), hx 1 (by omega), hx 2 (by omega), hx 3 (by omega), hx 4 (by omega), hf⟩

theorem flat_set5 (xs : List Ent) (i : Nat) (e : Ent) (hi : i < xs.length) :
    (xs.set i e).flatMap Ent.cells = (((((xs.flatMap Ent.cells).set (i * 5) (.bool e.used)).set (i * 5 + 1) (.int .i64 e.env)).set (i * 5 + 2) (.int .i64 e.page)).set (i * 5 + 3) (.int .i64 e.fr)).set (i * 5 + 4) (.bool e.wr) := by
  apply List.ext_getElem?
  intro p
  have hl := flat_length Ent.cells 5 (fun _ => rfl) xs
  rw [flat_at Ent.cells 5 (by omega) (fun _ => rfl)]
  simp only [List.getElem?_set, List.length_set, hl]
  by_cases hp : p / 5 = i
  · have h5 : p % 5 = 0 ∨ p % 5 = 1 ∨ p % 5 = 2 ∨ p % 5 = 3 ∨ p % 5 = 4 := by omega
    rw [if_pos hp.symm, if_pos (by omega)]
    rcases h5 with h | h | h | h | h
    · rw [if_neg (by omega), if_neg (by omega), if_neg (by omega), if_neg (by omega), if_pos (by omega), if_pos (by omega), h]; rfl
    · rw [if_neg (by omega), if_neg (by omega), if_neg (by omega), if_pos (by omega), if_pos (by omega), h]; rfl
    · rw [if_neg (by omega), if_neg (by omega), if_pos (by omega), if_pos (by omega), h]; rfl
    · rw [if_neg (by omega), if_pos (by omega), if_pos (by omega), h]; rfl
    · rw [if_pos (by omega), if_pos (by omega), h]; rfl
  · rw [if_neg (fun e => hp e.symm), if_neg (by omega), if_neg (by omega), if_neg (by omega), if_neg (by omega), if_neg (by omega), flat_at Ent.cells 5 (by omega) (fun _ => rfl)]

/-- A slot is written. -/
theorem RefRep.setS {g cap : Nat} (h : RefRep own id w m s nk vR vB vS vA vK bs) (hv : vS = .slice (some ⟨g, 0, none⟩) s.slots.length cap) (i : Nat) (hi : i < s.slots.length) (e : Ent) :
    RefRep own id (((((w.setCell ⟨g, i * 5, none⟩ (.bool e.used)).setCell ⟨g, i * 5 + 1, none⟩ (.int .i64 e.env)).setCell ⟨g, i * 5 + 2, none⟩ (.int .i64 e.page)).setCell ⟨g, i * 5 + 3, none⟩ (.int .i64 e.fr)).setCell ⟨g, i * 5 + 4, none⟩ (.bool e.wr)) m
      { s with slots := s.slots.set i e } nk vR vB vS vA vK bs := by
  have hg : own g = (id, 3) := h.tS g (by rw [hv]; rfl)
  have hW : ∀ b, b < w.heap.size → own b ≠ (id, 3) → (((((w.setCell ⟨g, i * 5, none⟩ (.bool e.used)).setCell ⟨g, i * 5 + 1, none⟩ (.int .i64 e.env)).setCell ⟨g, i * 5 + 2, none⟩ (.int .i64 e.page)).setCell ⟨g, i * 5 + 3, none⟩ (.int .i64 e.fr)).setCell ⟨g, i * 5 + 4, none⟩ (.bool e.wr)).heap[b]? = w.heap[b]? := by
    intro b hb h3
    have hn : b ≠ g := fun e => h3 (by rw [e]; exact hg)
    rw [Below.heap_setCell _ _ _ _ hn, Below.heap_setCell _ _ _ _ hn, Below.heap_setCell _ _ _ _ hn, Below.heap_setCell _ _ _ _ hn, Below.heap_setCell _ _ _ _ hn]
  refine h.putS (fun _ _ => rfl) (fun b hb _ h3 => hW b hb h3) (h.blk.of (hW m h.blk.lt (by rw [h.tm]; simp))) ?_ h.tS
  have h1 := h.rS
  rw [hv] at h1 ⊢
  rw [List.length_set, flat_set5 _ _ _ hi]
  exact ((((h1.set _ _).set _ _).set _ _).set _ _).set _ _

set_option maxHeartbeats 4000000 in
set_option maxRecDepth 100000 in
theorem sweep_any (h : RefRep own id w m s nk vR vB vS vA vK bs) (hs : s.slots.length ≤ 8) (ho : Ordered s.rights) (hm : s.rights.length ≤ 4611686018427387904) :
    Calls Try.prog 94 #[.pointer (some ⟨m, 0, none⟩)] w fun e w' => e = .returned (.tuple #[]) ∧ RefNext own id w m nk w' (sweepS s) := by
  go_enter Try.func94, Try.ntmps94
  go_wp2_with fail
  go_loopg [2] s.slots.length (fun k x wr => ∃ q : Nat, x = .int .i64 q ∧ q + k = s.slots.length ∧ RefRep own id wr m { s with slots := swTo s q } nk vR vB vS vA vK bs ∧ Touch w.heap.size (fun b => (own b).1 = id) w wr)
  case atStart => exact ⟨0, rfl, by omega, by simpa [swTo] using h, Touch.refl _ _ _⟩
  case round =>
    obtain ⟨q, rfl, hk, h', ht⟩ := hrel
    have HK : Hid (q + gk = s.slots.length) := hk
    have hq : q ≤ s.slots.length := by omega
    have hsl := swTo_len s q
    have hsz := ht.size
    have k5 := h'.blk.cell 5
    simp at k5
    clear hk
    by_cases hlt : q < s.slots.length
    · obtain ⟨e, he⟩ : ∃ e, s.slots[q]? = some e := ⟨s.slots[q], by simp⟩
      obtain ⟨g, cap, hv, hgt, c0, c1, c2, c3, c4, hfz⟩ := h'.slot (i := q) (e := e) (by rw [← he]; exact swTo_at s q)
      have HS : Hid (swTo s (q + 1) = (swTo s q).set q (swE s e)) := swTo_succ s q e he
      have HQ : Hid (swE s e = e → swTo s (q + 1) = swTo s q) := swTo_same s q e he
      simp only [hsl] at hv
      rw [hv] at k5
      have hglt : g < wr.heap.size := h'.rS.lt g (by rw [hv]; rfl)
      have z0 := hfz (q * 5)
      have z1 := hfz (q * 5 + 1)
      have z2 := hfz (q * 5 + 2)
      have z3 := hfz (q * 5 + 3)
      have z4 := hfz (q * 5 + 4)
      have hst := fun x => h'.setS (g := g) (cap := cap) (by rw [hv]; simp only [hsl]) q (by simp only [hsl]; exact hlt) x
      have HSL : Hid ((swTo s q).length = s.slots.length) := hsl
      have HV : Hid (vS = .slice (some ⟨g, 0, none⟩) s.slots.length cap) := hv
      clear hsl hfz hv he
      cases hu : e.used
      · have hsw : swE s e = e := by simp [swE, hu]
        have HW : Hid (swTo s (q + 1) = swTo s q) := HQ.out hsw
        rw [hu] at c0
        clear hsw hu
        go_wp2_with fail
        go_roundg (gk - 1)
        case measure => have := HK.out; omega
        case rel => exact ⟨q + 1, by go_num, by have := HK.out; omega, by rw [HW.out]; exact h'.below ((Below.refl _ _).alloc (Nat.le_refl _) _), ht.alloc hsz _⟩
      · rw [hu] at c0
        go_wp2_with fail
        refine (owned_any (h'.below ((Below.refl _ _).alloc (Nat.le_refl _) _)) ho hm _ _ _).mono ?_
        rintro en w2 ⟨rfl, hb2⟩
        have hbw : Below wr.heap.size wr w2 := ((Below.refl _ _).alloc (Nat.le_refl _) _).trans (hb2.mono (by simp))
        have h2 := h'.below hbw
        have ht2 : Touch w.heap.size (fun b => (own b).1 = id) w w2 := ht.trans (Touch.of_below (hbw.mono hsz) _)
        cases hw : owned s.rights e.env e.fr e.wr
        · have hsw : swE s e = Ent.empty := by simp [swE, hu, hw]
          have HW : Hid (swTo s (q + 1) = (swTo s q).set q Ent.empty) := by rw [← hsw]; exact HS.out
          have hst2 := h2.setS (g := g) (cap := cap) (by rw [HV.out]; simp only [HSL.out]) q (by simp only [HSL.out]; exact hlt) Ent.empty
          have d0 := (hbw.cell (p := ⟨g, q * 5, none⟩) hglt).trans c0
          have d1 := (hbw.cell (p := ⟨g, q * 5 + 1, none⟩) hglt).trans c1
          have d2 := (hbw.cell (p := ⟨g, q * 5 + 2, none⟩) hglt).trans c2
          have d3 := (hbw.cell (p := ⟨g, q * 5 + 3, none⟩) hglt).trans c3
          have d4 := (hbw.cell (p := ⟨g, q * 5 + 4, none⟩) hglt).trans c4
          have y0 := (hbw.frozen (p := ⟨g, q * 5, none⟩) hglt).trans z0
          have y1 := (hbw.frozen (p := ⟨g, q * 5 + 1, none⟩) hglt).trans z1
          have y2 := (hbw.frozen (p := ⟨g, q * 5 + 2, none⟩) hglt).trans z2
          have y3 := (hbw.frozen (p := ⟨g, q * 5 + 3, none⟩) hglt).trans z3
          have y4 := (hbw.frozen (p := ⟨g, q * 5 + 4, none⟩) hglt).trans z4
          have x5 := h2.blk.cell 5
          simp at x5
          rw [HV.out] at x5
          clear hst hsw hw hu
          go_wp2_with fail
          go_roundg (gk - 1)
          case measure => have := HK.out; omega
          case rel =>
            refine ⟨q + 1, by go_num, by have := HK.out; omega, by rw [HW.out]; exact hst2, ?_⟩
            have hin : (own g).1 = id := by rw [hgt]
            exact ((((ht2.setCell (.inl hin) _).setCell (.inl hin) _).setCell (.inl hin) _).setCell (.inl hin) _).setCell (.inl hin) _
        · have hsw : swE s e = e := by simp [swE, hw]
          have HW : Hid (swTo s (q + 1) = swTo s q) := HQ.out hsw
          clear hst hsw hw hu
          go_wp2_with fail
          go_roundg (gk - 1)
          case measure => have := HK.out; omega
          case rel => exact ⟨q + 1, by go_num, by have := HK.out; omega, by rw [HW.out]; exact h2, ht2⟩
    · obtain rfl : q = s.slots.length := by omega
      obtain ⟨ao, cap, g, hv, _⟩ := h'.rS.view
      simp only [hsl] at hv
      rw [hv] at k5
      have HSL : Hid ((swTo s s.slots.length).length = s.slots.length) := hsl
      clear hsl hv
      go_wp2_with fail
      go_end0
      exact ⟨rfl, own, _, _, _, _, _, _, by rw [← swTo_all]; exact h', fun _ _ => rfl, ht⟩
end
end Go.Proofs.Ytkonobbhohfjlaa
