import Derived.Test.YtinlkcmdbjcofaaGreatM02
namespace Go.Proofs.YtinlkcmdbjcofaaGreat
open Go.RowKit
set_option linter.unusedVariables false

/-- An entry that has lost its backing is gone. -/
def swE (s : RSt) (e : Ent) : Ent := if e.used && !owned s.rights e.env e.fr e.wr then Ent.empty else e
/-- The first q slots swept. -/
def swTo (s : RSt) (q : Nat) : List Ent := (s.slots.take q).map (swE s) ++ s.slots.drop q
theorem swTo_len (s : RSt) (q : Nat) : (swTo s q).length = s.slots.length := by simp [swTo]; omega
theorem swTo_at (s : RSt) (q : Nat) : (swTo s q)[q]? = s.slots[q]? := by
  unfold swTo
  by_cases h : q < s.slots.length
  · rw [List.getElem?_append_right (by simp; omega)]
    simp only [List.length_map, List.length_take, List.getElem?_drop]
    rw [show q + (q - min q s.slots.length) = q by omega]
  · rw [List.getElem?_eq_none (by simp; omega), List.getElem?_eq_none (by omega)]
theorem swTo_succ (s : RSt) (q : Nat) (e : Ent) (h : s.slots[q]? = some e) : swTo s (q + 1) = (swTo s q).set q (swE s e) := by
  have hq := (List.getElem?_eq_some_iff.1 h).1
  have he : s.slots[q] = e := (List.getElem?_eq_some_iff.1 h).2
  unfold swTo
  rw [List.take_succ_eq_append_getElem hq, List.set_append_right _ _ (by simp; omega)]
  simp only [List.map_append, List.map_cons, List.map_nil, List.length_map, List.length_take, List.append_assoc]
  rw [show q - min q s.slots.length = 0 by omega, List.drop_eq_getElem_cons hq, he]
  rfl
theorem swTo_all (s : RSt) : { s with slots := swTo s s.slots.length } = sweepS s := by
  simp [swTo, sweepS, swE]
theorem swTo_same (s : RSt) (q : Nat) (e : Ent) (h : s.slots[q]? = some e) (he : swE s e = e) : swTo s (q + 1) = swTo s q := by
  rw [swTo_succ s q e h, he]
  have hg := (swTo_at s q).trans h
  obtain ⟨hlt, hx⟩ := List.getElem?_eq_some_iff.1 hg
  conv => lhs; rw [← hx]
  exact List.set_getElem_self hlt

section
variable {own : Nat → Nat × Nat} {id : Nat} {w : World} {m : Nat} {s : RSt} {nk : Nat} {vR vB vS vA vK : Value} {bs : List Nat}

theorem RefRep.slot (h : RefRep own id w m s nk vR vB vS vA vK bs) {i : Nat} {e : Ent} (hr : s.slots[i]? = some e) :
    ∃ g cap, vS = .slice (some ⟨g, 0, none⟩) s.slots.length cap ∧ own g = (id, 3) ∧ w.cell? ⟨g, i * 5, none⟩ = some (.bool e.used) ∧ w.cell? ⟨g, i * 5 + 1, none⟩ = some (.int .i64 e.env) ∧ w.cell? ⟨g, i * 5 + 2, none⟩ = some (.int .i64 e.page) ∧
      w.cell? ⟨g, i * 5 + 3, none⟩ = some (.int .i64 e.fr) ∧ w.cell? ⟨g, i * 5 + 4, none⟩ = some (.bool e.wr) ∧ ∀ j, w.frozen? ⟨g, j, none⟩ = false := by
  have hi := (List.getElem?_eq_some_iff.1 hr).1
  obtain ⟨g, cap, hv, hc, hf⟩ := h.rS.form (by omega)
  have hx : ∀ j, j < 5 → w.cell? ⟨g, i * 5 + j, none⟩ = e.cells[j]? := fun j hj => by
    rw [hc _ (by omega), flat_get Ent.cells 5 (fun _ => rfl) _ _ j _ hr hj]
  exact ⟨g, cap, hv, h.tS g (by rw [hv]; rfl), hx 0 (by omega), hx 1 (by omega), hx 2 (by omega), hx 3 (by omega), hx 4 (by omega), hf⟩

theorem flat_set5 (xs : List Ent) (i : Nat) (e : Ent) (hi : i < xs.length) :
    (xs.set i e).flatMap Ent.cells = (((((xs.flatMap Ent.cells).set (i * 5) (.bool e.used)).set (i * 5 + 1) (.int .i64 e.env)).set (i * 5 + 2) (.int .i64 e.page)).set (i * 5 + 3) (.int .i64 e.fr)).set (i * 5 + 4) (.bool e.wr) := by
  apply List.ext_getElem?
  intro p
  have hl := flat_length Ent.cells 5 (fun _ => rfl) xs
  rw [flat_at Ent.cells 5 (by omega) (fun _ => rfl)]
  simp only [List.getElem?_set, List.length_set, hl]
  by_cases hp : p / 5 = i
  · have h5 : p % 5 = 0 ∨ p % 5 = 1 ∨ p % 5 = 2 ∨ p % 5 = 3 ∨ p % 5 = 4 := by omega
    rw [if_pos hp.symm, if_pos (by omega)]
    rcases h5 with h | h | h | h | h
    · rw [if_neg (by omega), if_neg (by omega), if_neg (by omega), if_neg (by omega), if_pos (by omega), if_pos (by omega), h]; rfl
    · rw [if_neg (by omega), if_neg (by omega), if_neg (by omega), if_pos (by omega), if_pos (by omega), h]; rfl
    · rw [if_neg (by omega), if_neg (by omega), if_pos (by omega), if_pos (by omega), h]; rfl
    · rw [if_neg (by omega), if_pos (by omega), if_pos (by omega), h]; rfl
    · rw [if_pos (by omega), if_pos (by omega), h]; rfl
  · rw [if_neg (fun e => hp e.symm), if_neg (by omega), if_neg (by omega), if_neg (by omega), if_neg (by omega), if_neg (by omega), flat_at Ent.cells 5 (by omega) (fun _ => rfl)]

/-- A slot is written. -/
theorem RefRep.setS {g cap : Nat} (h : RefRep own id w m s nk vR vB vS vA vK bs) (hv : vS = .slice (some ⟨g, 0, none⟩) s.slots.length cap) (i : Nat) (hi : i < s.slots.length) (e : Ent) :
    RefRep own id (((((w.setCell ⟨g, i * 5, none⟩ (.bool e.used)).setCell ⟨g, i * 5 + 1, none⟩ (.int .i64 e.env)).setCell ⟨g, i * 5 + 2, none⟩ (.int .i64 e.page)).setCell ⟨g, i * 5 + 3, none⟩ (.int .i64 e.fr)).setCell ⟨g, i * 5 + 4, none⟩ (.bool e.wr)) m
      { s with slots := s.slots.set i e } nk vR vB vS vA vK bs := by
  have hg : own g = (id, 3) := h.tS g (by rw [hv]; rfl)
  have hW : ∀ b, b < w.heap.size → own b ≠ (id, 3) → (((((w.setCell ⟨g, i * 5, none⟩ (.bool e.used)).setCell ⟨g, i * 5 + 1, none⟩ (.int .i64 e.env)).setCell ⟨g, i * 5 + 2, none⟩ (.int .i64 e.page)).setCell ⟨g, i * 5 + 3, none⟩ (.int .i64 e.fr)).setCell ⟨g, i * 5 + 4, none⟩ (.bool e.wr)).heap[b]? = w.heap[b]? := by
    intro b hb h3
    have hn : b ≠ g := fun e => h3 (by rw [e]; exact hg)
    rw [Below.heap_setCell _ _ _ _ hn, Below.heap_setCell _ _ _ _ hn, Below.heap_setCell _ _ _ _ hn, Below.heap_setCell _ _ _ _ hn, Below.heap_setCell _ _ _ _ hn]
  refine h.putS (fun _ _ => rfl) (fun b hb _ h3 => hW b hb h3) (h.blk.of (hW m h.blk.lt (by rw [h.tm]; simp))) ?_ h.tS
  have h1 := h.rS
  rw [hv] at h1 ⊢
  rw [List.length_set, flat_set5 _ _ _ hi]
  exact ((((h1.set _ _).set _ _).set _ _).set _ _).set _ _

set_option maxHeartbeats 4000000 in
set_option maxRecDepth 100000 in
theorem sweep_any (h : RefRep own id w m s nk vR vB vS vA vK bs) (hs : s.slots.length ≤ 8) (ho : Ordered s.rights) (hm : s.rights.length ≤ 4611686018427387904) :
    Calls Tryz.prog 83 #[.pointer (some ⟨m, 0, none⟩)] w fun e w' => e = .returned (.tuple #[]) ∧ RefNext own id w m nk w' (sweepS s) := by
  go_enter Tryz.func83, Tryz.ntmps83
  go_wp2_with fail
  go_loopg [2] s.slots.length (fun k x wr => ∃ q : Nat, x = .int .i64 q ∧ q + k = s.slots.length ∧ RefRep own id wr m { s with slots := swTo s q } nk vR vB vS vA vK bs ∧ Touch w.heap.size (fun b => (own b).1 = id) w wr)
  case atStart => exact ⟨0, rfl, by omega, by simpa [swTo] using h, Touch.refl _ _ _⟩
  case round =>
    obtain ⟨q, rfl, hk, h', ht⟩ := hrel
    have HK : Hid (q + gk = s.slots.length) := hk
    have hq : q ≤ s.slots.length := by omega
    have hsl := swTo_len s q
    have hsz := ht.size
    have k5 := h'.blk.cell 5
    simp at k5
    clear hk
    by_cases hlt : q < s.slots.length
    · obtain ⟨e, he⟩ : ∃ e, s.slots[q]? = some e := ⟨s.slots[q], by simp⟩
      obtain ⟨g, cap, hv, hgt, c0, c1, c2, c3, c4, hfz⟩ := h'.slot (i := q) (e := e) (by rw [← he]; exact swTo_at s q)
      have HS : Hid (swTo s (q + 1) = (swTo s q).set q (swE s e)) := swTo_succ s q e he
      have HQ : Hid (swE s e = e → swTo s (q + 1) = swTo s q) := swTo_same s q e he
      simp only [hsl] at hv
      rw [hv] at k5
      have hglt : g < wr.heap.size := h'.rS.lt g (by rw [hv]; rfl)
      have z0 := hfz (q * 5)
      have z1 := hfz (q * 5 + 1)
      have z2 := hfz (q * 5 + 2)
      have z3 := hfz (q * 5 + 3)
      have z4 := hfz (q * 5 + 4)
      have hst := fun x => h'.setS (g := g) (cap := cap) (by rw [hv]; simp only [hsl]) q (by simp only [hsl]; exact hlt) x
      have HSL : Hid ((swTo s q).length = s.slots.length) := hsl
      have HV : Hid (vS = .slice (some ⟨g, 0, none⟩) s.slots.length cap) := hv
      clear hsl hfz hv he
      cases hu : e.used
      · have hsw : swE s e = e := by simp [swE, hu]
        have HW : Hid (swTo s (q + 1) = swTo s q) := HQ.out hsw
        rw [hu] at c0
        clear hsw hu
        go_wp2_with fail
        go_roundg (gk - 1)
        case measure => have := HK.out; omega
        case rel => exact ⟨q + 1, by go_num, by have := HK.out; omega, by rw [HW.out]; exact h'.below ((Below.refl _ _).alloc (Nat.le_refl _) _), ht.alloc hsz _⟩
      · rw [hu] at c0
        go_wp2_with fail
        refine (owned_any (h'.below ((Below.refl _ _).alloc (Nat.le_refl _) _)) ho hm _ _ _).mono ?_
        rintro en w2 ⟨rfl, hb2⟩
        have hbw : Below wr.heap.size wr w2 := ((Below.refl _ _).alloc (Nat.le_refl _) _).trans (hb2.mono (by simp))
        have h2 := h'.below hbw
        have ht2 : Touch w.heap.size (fun b => (own b).1 = id) w w2 := ht.trans (Touch.of_below (hbw.mono hsz) _)
        cases hw : owned s.rights e.env e.fr e.wr
        · have hsw : swE s e = Ent.empty := by simp [swE, hu, hw]
          have HW : Hid (swTo s (q + 1) = (swTo s q).set q Ent.empty) := by rw [← hsw]; exact HS.out
          have hst2 := h2.setS (g := g) (cap := cap) (by rw [HV.out]; simp only [HSL.out]) q (by simp only [HSL.out]; exact hlt) Ent.empty
          have d0 := (hbw.cell (p := ⟨g, q * 5, none⟩) hglt).trans c0
          have d1 := (hbw.cell (p := ⟨g, q * 5 + 1, none⟩) hglt).trans c1
          have d2 := (hbw.cell (p := ⟨g, q * 5 + 2, none⟩) hglt).trans c2
          have d3 := (hbw.cell (p := ⟨g, q * 5 + 3, none⟩) hglt).trans c3
          have d4 := (hbw.cell (p := ⟨g, q * 5 + 4, none⟩) hglt).trans c4
          have y0 := (hbw.frozen (p := ⟨g, q * 5, none⟩) hglt).trans z0
          have y1 := (hbw.frozen (p := ⟨g, q * 5 + 1, none⟩) hglt).trans z1
          have y2 := (hbw.frozen (p := ⟨g, q * 5 + 2, none⟩) hglt).trans z2
          have y3 := (hbw.frozen (p := ⟨g, q * 5 + 3, none⟩) hglt).trans z3
          have y4 := (hbw.frozen (p := ⟨g, q * 5 + 4, none⟩) hglt).trans z4
          have x5 := h2.blk.cell 5
          simp at x5
          rw [HV.out] at x5
          clear hst hsw hw hu
          go_wp2_with fail
          go_roundg (gk - 1)
          case measure => have := HK.out; omega
          case rel =>
            refine ⟨q + 1, by go_num, by have := HK.out; omega, by rw [HW.out]; exact hst2, ?_⟩
            have hin : (own g).1 = id := by rw [hgt]
            exact ((((ht2.setCell (.inl hin) _).setCell (.inl hin) _).setCell (.inl hin) _).setCell (.inl hin) _).setCell (.inl hin) _
        · have hsw : swE s e = e := by simp [swE, hw]
          have HW : Hid (swTo s (q + 1) = swTo s q) := HQ.out hsw
          clear hst hsw hw hu
          go_wp2_with fail
          go_roundg (gk - 1)
          case measure => have := HK.out; omega
          case rel => exact ⟨q + 1, by go_num, by have := HK.out; omega, by rw [HW.out]; exact h2, ht2⟩
    · obtain rfl : q = s.slots.length := by omega
      obtain ⟨ao, cap, g, hv, _⟩ := h'.rS.view
      simp only [hsl] at hv
      rw [hv] at k5
      have HSL : Hid ((swTo s s.slots.length).length = s.slots.length) := hsl
      clear hsl hv
      go_wp2_with fail
      go_end0
      exact ⟨rfl, own, _, _, _, _, _, _, by rw [← swTo_all]; exact h', fun _ _ => rfl, ht⟩
end
end Go.Proofs.YtinlkcmdbjcofaaGreat

namespace Go.Proofs.YtinlkcmdbjcofaaGreat
open Go.RowKit
set_option linter.unusedVariables false

def mapTo {α : Type} (f : α → α) (xs : List α) (q : Nat) : List α := (xs.take q).map f ++ xs.drop q
section
variable {α : Type} (f : α → α) (xs : List α) (q : Nat)
theorem mapTo_zero : mapTo f xs 0 = xs := by simp [mapTo]
theorem mapTo_len : (mapTo f xs q).length = xs.length := by simp [mapTo]; omega
theorem mapTo_at : (mapTo f xs q)[q]? = xs[q]? := by
  unfold mapTo
  by_cases h : q < xs.length
  · rw [List.getElem?_append_right (by simp; omega)]
    simp only [List.length_map, List.length_take, List.getElem?_drop]
    rw [show q + (q - min q xs.length) = q by omega]
  · rw [List.getElem?_eq_none (by simp; omega), List.getElem?_eq_none (by omega)]
theorem mapTo_succ (e : α) (h : xs[q]? = some e) : mapTo f xs (q + 1) = (mapTo f xs q).set q (f e) := by
  have hq := (List.getElem?_eq_some_iff.1 h).1
  have he : xs[q] = e := (List.getElem?_eq_some_iff.1 h).2
  unfold mapTo
  rw [List.take_succ_eq_append_getElem hq, List.set_append_right _ _ (by simp; omega)]
  simp only [List.map_append, List.map_cons, List.map_nil, List.length_map, List.length_take, List.append_assoc]
  rw [show q - min q xs.length = 0 by omega, List.drop_eq_getElem_cons hq, he]
  rfl
theorem mapTo_same (e : α) (h : xs[q]? = some e) (he : f e = e) : mapTo f xs (q + 1) = mapTo f xs q := by
  rw [mapTo_succ f xs q e h, he]
  have hg := (mapTo_at f xs q).trans h
  obtain ⟨hlt, hx⟩ := List.getElem?_eq_some_iff.1 hg
  conv => lhs; rw [← hx]
  exact List.set_getElem_self hlt
theorem mapTo_all : mapTo f xs xs.length = xs.map f := by simp [mapTo]
end

def RR.end (r : RR) : RR := { r with ended := true }
def markIf (p : RR → Bool) (r : RR) : RR := if p r then r.end else r
def endIf (p : RR → Bool) (s : RSt) : RSt := { s with rights := s.rights.map (markIf p) }

theorem Ordered.map {rs : List RR} (h : Ordered rs) (p : RR → Bool) : Ordered (rs.map (markIf p)) := by
  intro i r hr
  rw [List.getElem?_map] at hr
  cases hx : rs[i]? with
  | none => rw [hx] at hr; simp at hr
  | some x =>
    rw [hx] at hr
    simp at hr
    have := h i x hx
    subst hr
    unfold markIf RR.end
    split <;> exact this

theorem Ordered.set {rs : List RR} (h : Ordered rs) {i : Nat} {r : RR} (hr : rs[i]? = some r) : Ordered (rs.set i r.end) := by
  intro j x hx
  by_cases e : i = j
  · subst e
    rw [List.getElem?_set_self (List.getElem?_eq_some_iff.1 hr).1] at hx
    simp at hx
    subst hx
    exact h i r hr
  · rw [List.getElem?_set_ne e] at hx
    exact h j x hx

theorem flat_setEnd (xs : List RR) (i : Nat) (r : RR) (hr : xs[i]? = some r) : (xs.set i r.end).flatMap RR.cells = (xs.flatMap RR.cells).set (i * 6 + 5) (.bool true) := by
  have hi := (List.getElem?_eq_some_iff.1 hr).1
  apply List.ext_getElem?
  intro p
  have hl := flat_length RR.cells 6 (fun _ => rfl) xs
  rw [flat_at RR.cells 6 (by omega) (fun _ => rfl)]
  simp only [List.getElem?_set, hl]
  by_cases hp : p / 6 = i
  · rw [if_pos hp.symm, if_pos (by omega)]
    by_cases h5 : p % 6 = 5
    · rw [if_pos (by omega), if_pos (by omega), h5]; rfl
    · rw [if_neg (by omega), flat_at RR.cells 6 (by omega) (fun _ => rfl), hp, hr]
      have : p % 6 = 0 ∨ p % 6 = 1 ∨ p % 6 = 2 ∨ p % 6 = 3 ∨ p % 6 = 4 := by omega
      rcases this with h | h | h | h | h <;> rw [h] <;> rfl
  · rw [if_neg (fun e => hp e.symm), if_neg (by omega), flat_at RR.cells 6 (by omega) (fun _ => rfl)]

section
variable {own : Nat → Nat × Nat} {id : Nat} {w : World} {m : Nat} {s : RSt} {nk : Nat} {vR vB vS vA vK : Value} {bs : List Nat}

/-- A right ends. -/
theorem RefRep.endR {g cap : Nat} (h : RefRep own id w m s nk vR vB vS vA vK bs) (hv : vR = .slice (some ⟨g, 0, none⟩) s.rights.length cap) (i : Nat) (r : RR) (hr : s.rights[i]? = some r) :
    RefRep own id (w.setCell ⟨g, i * 6 + 5, none⟩ (.bool true)) m { s with rights := s.rights.set i r.end } nk vR vB vS vA vK bs := by
  have hg : own g = (id, 1) := h.tR g (by rw [hv]; rfl)
  have hW : ∀ b, b < w.heap.size → own b ≠ (id, 1) → (w.setCell ⟨g, i * 6 + 5, none⟩ (.bool true)).heap[b]? = w.heap[b]? := by
    intro b hb h3
    exact Below.heap_setCell _ _ _ _ (fun e => h3 (by simp at e; rw [e]; exact hg))
  refine h.putR (fun _ _ => rfl) (fun b hb _ h3 => hW b hb h3) (h.blk.of (hW m h.blk.lt (by rw [h.tm]; simp))) ?_ h.tR
  have h1 := h.rR
  rw [hv] at h1 ⊢
  rw [List.length_set, flat_setEnd _ _ _ hr]
  exact h1.set _ _

/-- The standing facts of a machine. -/
structure RWf (s : RSt) (nk : Nat) : Prop where
  ord : Ordered s.rights
  al : s.alive.length = s.ne
  ne : s.ne ≤ 4
  nf : s.nf ≤ 16
  by_ : s.bytes.length = s.nf
  sl : s.slots.length ≤ 8
  nk : nk = s.ne
  size : (s.rights.length + 1) * 48 ≤ 140737488355328

def allocR (s : RSt) (env : Int) : (Int × Int) × RSt :=
  if rawE s env ≠ 0 then ((0, rawE s env), s) else match firstS s env with
    | some s' => ((s.rights.length + 1, 0), s')
    | none => ((0, 12), s)

set_option maxHeartbeats 2000000 in
set_option maxRecDepth 100000 in
theorem ralloc_any (h : RefRep own id w m s nk vR vB vS vA vK bs) (hw : RWf s nk) (env : Int) :
    Calls Tryz.prog 27 #[.pointer (some ⟨m, 0, none⟩), .int .i64 env] w fun e w' => e = .returned (.tuple #[.int .i64 (allocR s env).1.1, .int .i64 (allocR s env).1.2]) ∧ RefNext own id w m nk w' (allocR s env).2 := by
  rcases rawE_cases s env with ⟨y, hr, hy⟩ | ⟨hr, -⟩
  · have hy0 : (y != 0) = true := by rcases hy with rfl | rfl <;> rfl
    have HA : Hid (allocR s env = ((0, y), s)) := by rcases hy with rfl | rfl <;> simp [Hid, allocR, hr]
    clear hy
    go_enter Tryz.func27, Tryz.ntmps27
    go_wp2_with fail
    refine (raw_any h hw.al hw.ne hw.nk env).mono ?_
    rintro e w2 ⟨rfl, rfl⟩
    rw [hr]
    clear hr
    go_wp2_with fail
    go_ret2
    exact ⟨ret_int2 (by rw [HA.out]) (by rw [HA.out]), by rw [HA.out]; exact RefNext.refl h⟩
  · have HA : Hid (allocR s env = match firstS s env with | some s' => ((s.rights.length + 1, 0), s') | none => ((0, 12), s)) := by simp [Hid, allocR, hr]
    go_enter Tryz.func27, Tryz.ntmps27
    go_wp2_with fail
    refine (raw_any h hw.al hw.ne hw.nk env).mono ?_
    rintro e w2 ⟨rfl, rfl⟩
    rw [hr]
    clear hr
    go_wp2_with fail
    refine (first_any h hw.ne hw.nf hw.by_ hw.ord hw.size env).mono ?_
    rintro e w3 (⟨hf, rfl, hn⟩ | ⟨s', hf, rfl, hn⟩)
    · rw [hf] at HA
      clear hf
      go_wp2_with fail
      go_ret2
      exact ⟨ret_int2 (by rw [HA.out]) (by rw [HA.out]), by rw [HA.out]; exact hn⟩
    · rw [hf] at HA
      have hne : ((s.rights.length : Int) + 1 == 0) = false := beq_eq_false_iff_ne.2 (by omega)
      clear hf
      go_wp2_with fail
      go_ret2
      exact ⟨ret_int2 (by rw [HA.out]) (by rw [HA.out]), by rw [HA.out]; exact hn⟩

def deriveR (s : RSt) (env hd te : Int) (wt : Bool) : (Int × Int) × RSt :=
  if (rightE s env hd).2 ≠ 0 then ((0, (rightE s env hd).2), s)
  else if rawE s te ≠ 0 then ((0, rawE s te), s)
  else match s.rights[(rightE s env hd).1.toNat]? with
    | none => ((0, 0), s)
    | some r => if wt && !r.wr then ((0, 10), s) else if 32 ≤ cnt s.rights then ((0, 12), s) else ((s.rights.length + 1, 0), addR s te r.fr wt (rightE s env hd).1)

/-- What 'right' answers: an error, or the place of a right that is alive. -/
theorem rightE_cases (s : RSt) (env hd : Int) : (∃ x, rightE s env hd = (-1, x) ∧ (x = 2 ∨ x = 9 ∨ x = 4)) ∨ ∃ (j : Nat) (r : RR), rightE s env hd = ((j : Int), 0) ∧ s.rights[j]? = some r ∧ hd = j + 1 ∧ r.env = env ∧ lv s.rights j = true ∧ aliveB s env = true := by
  unfold rightE
  rcases rawE_cases s env with ⟨y, hr, hy⟩ | ⟨hr, ha⟩
  · exact .inl ⟨y, by rw [hr]; rcases hy with rfl | rfl <;> simp, by omega⟩
  · simp only [hr]
    by_cases h1 : 1 ≤ hd ∧ hd ≤ s.rights.length
    · simp only [if_pos h1]
      cases hx : s.rights[(hd - 1).toNat]? with
      | none => exact .inl ⟨9, by simp, .inr (.inl rfl)⟩
      | some r =>
        by_cases he : r.env = env
        · cases hl : lv s.rights (hd - 1)
          · exact .inl ⟨9, by simp [he], .inr (.inl rfl)⟩
          · refine .inr ⟨(hd - 1).toNat, r, ?_, hx, by omega, he, ?_, ha⟩
            · rw [show (((hd - 1).toNat : Nat) : Int) = hd - 1 by omega]; simp [he]
            · rw [show (((hd - 1).toNat : Nat) : Int) = hd - 1 by omega]; exact hl
        · exact .inl ⟨9, by simp [he], .inr (.inl rfl)⟩
    · simp only [if_neg h1]
      exact .inl ⟨9, by simp, .inr (.inl rfl)⟩

set_option maxHeartbeats 2000000 in
set_option maxRecDepth 100000 in
theorem rderive_any (h : RefRep own id w m s nk vR vB vS vA vK bs) (hw : RWf s nk) (env hd te : Int) (wt : Bool) (hd0 : -9223372036854775808 ≤ hd) :
    Calls Tryz.prog 29 #[.pointer (some ⟨m, 0, none⟩), .int .i64 env, .int .i64 hd, .int .i64 te, .bool wt] w fun e w' => e = .returned (.tuple #[.int .i64 (deriveR s env hd te wt).1.1, .int .i64 (deriveR s env hd te wt).1.2]) ∧ RefNext own id w m nk w' (deriveR s env hd te wt).2 := by
  have hm : s.rights.length ≤ 4611686018427387904 := by have := hw.size; omega
  rcases rightE_cases s env hd with ⟨x, hx, hx2⟩ | ⟨j, r, hx, hr, -, -, -, -⟩
  · have hx0 : (x != 0) = true := by rcases hx2 with rfl | rfl | rfl <;> rfl
    have HA : Hid (deriveR s env hd te wt = ((0, x), s)) := by rcases hx2 with rfl | rfl | rfl <;> simp [Hid, deriveR, hx]
    clear hx2
    go_enter Tryz.func29, Tryz.ntmps29
    go_wp2_with fail
    refine (right_any h hw.al hw.ne hw.nk hw.ord hm env hd hd0).mono ?_
    rintro e w2 ⟨rfl, rfl⟩
    rw [hx]
    clear hx
    go_wp2_with fail
    go_ret2
    exact ⟨ret_int2 (by rw [HA.out]) (by rw [HA.out]), by rw [HA.out]; exact RefNext.refl h⟩
  · have hj := (List.getElem?_eq_some_iff.1 hr).1
    rcases rawE_cases s te with ⟨y, ht, hy⟩ | ⟨ht, -⟩
    · have hy0 : (y != 0) = true := by rcases hy with rfl | rfl <;> rfl
      have HA : Hid (deriveR s env hd te wt = ((0, y), s)) := by rcases hy with rfl | rfl <;> simp [Hid, deriveR, hx, ht]
      clear hy
      go_enter Tryz.func29, Tryz.ntmps29
      go_wp2_with fail
      refine (right_any h hw.al hw.ne hw.nk hw.ord hm env hd hd0).mono ?_
      rintro e w2 ⟨rfl, rfl⟩
      rw [hx]
      clear hx
      go_wp2_with fail
      refine (raw_any h hw.al hw.ne hw.nk te).mono ?_
      rintro e w3 ⟨rfl, rfl⟩
      rw [ht]
      clear ht
      go_wp2_with fail
      go_ret2
      exact ⟨ret_int2 (by rw [HA.out]) (by rw [HA.out]), by rw [HA.out]; exact RefNext.refl h⟩
    · have HA : Hid (deriveR s env hd te wt = if wt && !r.wr then (((0 : Int), (10 : Int)), s) else if 32 ≤ cnt s.rights then ((0, 12), s) else (((s.rights.length : Int) + 1, 0), addR s te r.fr wt j)) := by simp [Hid, deriveR, hx, ht, hr]
      obtain ⟨g, cap, hv, _, c0, c1, c2, c3, _, _, _⟩ := h.right hr
      have k3 := h.blk.cell 3
      simp at k3
      rw [hv] at k3
      have hi2 : (j : Int) < (s.rights.length : Int) := by omega
      clear hv
      go_enter Tryz.func29, Tryz.ntmps29
      go_wp2_with fail
      refine (right_any h hw.al hw.ne hw.nk hw.ord hm env hd hd0).mono ?_
      rintro e w2 ⟨rfl, rfl⟩
      rw [hx]
      clear hx
      go_wp2_with fail
      refine (raw_any h hw.al hw.ne hw.nk te).mono ?_
      rintro e w3 ⟨rfl, rfl⟩
      rw [ht]
      clear ht hr
      have hbx := h.below ((Below.refl _ _).alloc (Nat.le_refl _) (.cells [.int .i64 r.h, .int .i64 r.env, .int .i64 r.fr, .bool r.wr].toArray 111))
      cases hq : (wt && !r.wr)
      · rw [hq] at HA
        simp only [Bool.false_eq_true, if_false] at HA
        have hcase : wt = false ∨ (wt = true ∧ r.wr = true) := by
          cases hwt : wt <;> cases hrw : r.wr <;> simp_all
        clear hq
        by_cases hc : 32 ≤ cnt s.rights
        · rw [if_pos hc] at HA
          have hci : (32 : Int) ≤ (cnt s.rights : Int) := by omega
          rcases hcase with rfl | ⟨rfl, hrw⟩
          · go_wp2_with fail
            refine (count_any hbx hw.ord hm).mono ?_
            rintro e w4 ⟨rfl, rfl⟩
            clear hc
            go_wp2_with fail
            go_ret2
            exact ⟨ret_int2 (by rw [HA.out]) (by rw [HA.out]), by rw [HA.out]; exact RefNext.of_below h ((Below.refl _ _).alloc (Nat.le_refl _) _)⟩
          · rw [hrw] at c3 hbx
            go_wp2_with fail
            refine (count_any hbx hw.ord hm).mono ?_
            rintro e w4 ⟨rfl, rfl⟩
            clear hc
            go_wp2_with fail
            go_ret2
            exact ⟨ret_int2 (by rw [HA.out]) (by rw [HA.out]), by rw [HA.out]; exact RefNext.of_below h ((Below.refl _ _).alloc (Nat.le_refl _) _)⟩
        · rw [if_neg hc] at HA
          have hci : ¬ (32 : Int) ≤ (cnt s.rights : Int) := by omega
          rcases hcase with rfl | ⟨rfl, hrw⟩
          · go_wp2_with fail
            refine (count_any hbx hw.ord hm).mono ?_
            rintro e w4 ⟨rfl, rfl⟩
            clear hc
            go_wp2_with fail
            refine (made_any hbx hw.size te r.fr false j).mono ?_
            rintro e w5 ⟨rfl, hn⟩
            go_wp2_with fail
            go_ret2
            refine ⟨ret_int2 (by rw [HA.out]) (by rw [HA.out]), ?_⟩
            rw [HA.out]
            obtain ⟨own', vR', vB', vS', vA', vK', bs', hr', ho', ht'⟩ := hn
            exact ⟨own', vR', vB', vS', vA', vK', bs', hr', fun b hb => ho' b (by simp; omega), (Touch.of_below ((Below.refl _ _).alloc (Nat.le_refl _) _) _).next (fun _ _ => rfl) ht'⟩
          · rw [hrw] at c3 hbx
            go_wp2_with fail
            refine (count_any hbx hw.ord hm).mono ?_
            rintro e w4 ⟨rfl, rfl⟩
            clear hc
            go_wp2_with fail
            refine (made_any hbx hw.size te r.fr true j).mono ?_
            rintro e w5 ⟨rfl, hn⟩
            go_wp2_with fail
            go_ret2
            refine ⟨ret_int2 (by rw [HA.out]) (by rw [HA.out]), ?_⟩
            rw [HA.out]
            obtain ⟨own', vR', vB', vS', vA', vK', bs', hr', ho', ht'⟩ := hn
            exact ⟨own', vR', vB', vS', vA', vK', bs', hr', fun b hb => ho' b (by simp; omega), (Touch.of_below ((Below.refl _ _).alloc (Nat.le_refl _) _) _).next (fun _ _ => rfl) ht'⟩
      · rw [hq] at HA
        simp only [if_true] at HA
        obtain ⟨rfl, hrw⟩ : wt = true ∧ r.wr = false := by cases hwt : wt <;> cases hrw : r.wr <;> simp_all
        rw [hrw] at c3
        clear hq
        go_wp2_with fail
        go_ret2
        exact ⟨ret_int2 (by rw [HA.out]) (by rw [HA.out]), by rw [HA.out]; exact RefNext.of_below h ((Below.refl _ _).alloc (Nat.le_refl _) _)⟩
end
end Go.Proofs.YtinlkcmdbjcofaaGreat

namespace Go.Proofs.YtinlkcmdbjcofaaGreat
open Go.RowKit
set_option linter.unusedVariables false

section
variable {own : Nat → Nat × Nat} {id : Nat} {w : World} {m : Nat} {s : RSt} {nk : Nat} {vR vB vS vA vK : Value} {bs : List Nat}

def revokeR (s : RSt) (env hd : Int) : Int × RSt :=
  if (rightE s env hd).2 ≠ 0 then ((rightE s env hd).2, s) else (0, sweepS (endIf (fun r => r.frm == (rightE s env hd).1) s))
def dropR (s : RSt) (env hd : Int) : Int × RSt :=
  if (rightE s env hd).2 ≠ 0 then ((rightE s env hd).2, s) else match s.rights[(rightE s env hd).1.toNat]? with
    | none => (0, s)
    | some r => (0, sweepS { s with rights := s.rights.set (rightE s env hd).1.toNat r.end })
def killR (s : RSt) (env : Int) : Int × RSt :=
  if aliveB s env then (0, sweepS { endIf (fun r => r.env == env) s with alive := s.alive.set env.toNat false, kept := s.kept.set env.toNat none }) else (2, s)
def spawnR (s : RSt) (env : Int) : Int × RSt :=
  if env < 0 ∨ s.ne ≤ env then (2, s) else if aliveB s env then (3, s) else (0, { s with alive := s.alive.set env.toNat true })

theorem ret_int' {a b : Int} (h : a = b) : Ending.returned (.int .i64 a) = .returned (.int .i64 b) := by rw [h]

/-- One call behind other steps. -/
theorem RefNext.after {w1 w2 : World} {s2 : RSt} (ht : Touch w.heap.size (fun b => (own b).1 = id) w w1) (h2 : RefNext own id w1 m nk w2 s2) : RefNext own id w m nk w2 s2 := by
  obtain ⟨own2, vR2, vB2, vS2, vA2, vK2, bs2, hr2, ho2, ht2⟩ := h2
  exact ⟨own2, vR2, vB2, vS2, vA2, vK2, bs2, hr2, fun b hb => ho2 b (Nat.lt_of_lt_of_le hb ht.size), ht.next (fun _ _ => rfl) ht2⟩

set_option maxHeartbeats 2000000 in
set_option maxRecDepth 100000 in
theorem rrevoke_any (h : RefRep own id w m s nk vR vB vS vA vK bs) (hw : RWf s nk) (env hd : Int) (hd0 : -9223372036854775808 ≤ hd) :
    Calls Tryz.prog 31 #[.pointer (some ⟨m, 0, none⟩), .int .i64 env, .int .i64 hd] w fun e w' => e = .returned (.int .i64 (revokeR s env hd).1) ∧ RefNext own id w m nk w' (revokeR s env hd).2 := by
  have hm : s.rights.length ≤ 4611686018427387904 := by have := hw.size; omega
  rcases rightE_cases s env hd with ⟨x, hx, hx2⟩ | ⟨j, r, hx, hr, -, -, -, -⟩
  · have hx0 : (x != 0) = true := by rcases hx2 with rfl | rfl | rfl <;> rfl
    have HA : Hid (revokeR s env hd = (x, s)) := by rcases hx2 with rfl | rfl | rfl <;> simp [Hid, revokeR, hx]
    clear hx2
    go_enter Tryz.func31, Tryz.ntmps31
    go_wp2_with fail
    refine (right_any h hw.al hw.ne hw.nk hw.ord hm env hd hd0).mono ?_
    rintro e w2 ⟨rfl, rfl⟩
    rw [hx]
    clear hx
    go_wp2_with fail
    go_ret
    exact ⟨ret_int' (by rw [HA.out]), by rw [HA.out]; exact RefNext.refl h⟩
  · have hj := (List.getElem?_eq_some_iff.1 hr).1
    have HA : Hid (revokeR s env hd = (0, sweepS (endIf (fun r => r.frm == (j : Int)) s))) := by simp [Hid, revokeR, hx]
    clear hr
    go_enter Tryz.func31, Tryz.ntmps31
    go_wp2_with fail
    refine (right_any h hw.al hw.ne hw.nk hw.ord hm env hd hd0).mono ?_
    rintro e w2 ⟨rfl, rfl⟩
    rw [hx]
    clear hx
    go_wp2_with fail
    go_loopg [9] s.rights.length (fun k x wr => ∃ q : Nat, x = .int .i64 q ∧ q + k = s.rights.length ∧ RefRep own id wr m { s with rights := mapTo (markIf fun r => r.frm == (j : Int)) s.rights q } nk vR vB vS vA vK bs ∧ Touch w2.heap.size (fun b => (own b).1 = id) w2 wr)
    case atStart => exact ⟨0, rfl, by omega, by rw [mapTo_zero]; exact h, Touch.refl _ _ _⟩
    case round =>
      obtain ⟨q, rfl, hk, h', ht⟩ := hrel
      have HK : Hid (q + gk = s.rights.length) := hk
      have hq : q ≤ s.rights.length := by omega
      have hsl := mapTo_len (markIf fun r => r.frm == (j : Int)) s.rights q
      have k3 := h'.blk.cell 3
      simp at k3
      clear hk
      by_cases hlt : q < s.rights.length
      · obtain ⟨r, hr⟩ : ∃ r, s.rights[q]? = some r := ⟨s.rights[q], by simp⟩
        have hr' : (mapTo (markIf fun r => r.frm == (j : Int)) s.rights q)[q]? = some r := (mapTo_at _ _ _).trans hr
        obtain ⟨g, cap, hv, hgt, _, _, _, _, c4, c5, hfz⟩ := h'.right (i := q) (r := r) hr'
        have HS : Hid (mapTo (markIf fun r => r.frm == (j : Int)) s.rights (q + 1) = (mapTo (markIf fun r => r.frm == (j : Int)) s.rights q).set q (markIf (fun r => r.frm == (j : Int)) r)) := mapTo_succ _ _ _ _ hr
        have HQ : Hid (markIf (fun r => r.frm == (j : Int)) r = r → mapTo (markIf fun r => r.frm == (j : Int)) s.rights (q + 1) = mapTo (markIf fun r => r.frm == (j : Int)) s.rights q) := mapTo_same _ _ _ _ hr
        have hst := h'.endR (g := g) (cap := cap) hv q r hr'
        simp only [hsl] at hv
        rw [hv] at k3
        have z5 := hfz (q * 6 + 5)
        clear hv hsl hfz hr hr'
        cases he : (r.frm == (j : Int))
        · have HW := HQ.out (by simp [markIf, he])
          have HW : Hid (mapTo (markIf fun r => r.frm == (j : Int)) s.rights (q + 1) = mapTo (markIf fun r => r.frm == (j : Int)) s.rights q) := HW
          go_wp2_with fail
          go_roundg (gk - 1)
          case measure => have := HK.out; omega
          case rel => exact ⟨q + 1, by go_num, by have := HK.out; omega, by rw [HW.out]; exact h', ht⟩
        · have HW : Hid (mapTo (markIf fun r => r.frm == (j : Int)) s.rights (q + 1) = (mapTo (markIf fun r => r.frm == (j : Int)) s.rights q).set q r.end) := by
            have := HS.out
            rw [show markIf (fun r => r.frm == (j : Int)) r = r.end by simp [markIf, he]] at this
            exact this
          go_wp2_with fail
          go_roundg (gk - 1)
          case measure => have := HK.out; omega
          case rel => exact ⟨q + 1, by go_num, by have := HK.out; omega, by rw [HW.out]; exact hst, ht.setCell (.inl (by rw [hgt])) _⟩
      · obtain rfl : q = s.rights.length := by omega
        obtain ⟨ao, cap, g, hv, _⟩ := h'.rR.view
        simp only [hsl] at hv
        rw [hv] at k3
        rw [mapTo_all] at h'
        clear hv hsl
        go_wp2_with fail
        refine (sweep_any h' hw.sl (hw.ord.map _) (by simpa using hm)).mono ?_
        rintro e w4 ⟨rfl, hn⟩
        go_wp2_with fail
        go_ret
        exact ⟨ret_int' (by rw [HA.out]), by rw [HA.out]; exact RefNext.after ht hn⟩

set_option maxHeartbeats 2000000 in
set_option maxRecDepth 100000 in
theorem rdrop_any (h : RefRep own id w m s nk vR vB vS vA vK bs) (hw : RWf s nk) (env hd : Int) (hd0 : -9223372036854775808 ≤ hd) :
    Calls Tryz.prog 33 #[.pointer (some ⟨m, 0, none⟩), .int .i64 env, .int .i64 hd] w fun e w' => e = .returned (.int .i64 (dropR s env hd).1) ∧ RefNext own id w m nk w' (dropR s env hd).2 := by
  have hm : s.rights.length ≤ 4611686018427387904 := by have := hw.size; omega
  rcases rightE_cases s env hd with ⟨x, hx, hx2⟩ | ⟨j, r, hx, hr, -, -, -, -⟩
  · have hx0 : (x != 0) = true := by rcases hx2 with rfl | rfl | rfl <;> rfl
    have HA : Hid (dropR s env hd = (x, s)) := by rcases hx2 with rfl | rfl | rfl <;> simp [Hid, dropR, hx]
    clear hx2
    go_enter Tryz.func33, Tryz.ntmps33
    go_wp2_with fail
    refine (right_any h hw.al hw.ne hw.nk hw.ord hm env hd hd0).mono ?_
    rintro e w2 ⟨rfl, rfl⟩
    rw [hx]
    clear hx
    go_wp2_with fail
    go_ret
    exact ⟨ret_int' (by rw [HA.out]), by rw [HA.out]; exact RefNext.refl h⟩
  · have hj := (List.getElem?_eq_some_iff.1 hr).1
    have HA : Hid (dropR s env hd = (0, sweepS { s with rights := s.rights.set j r.end })) := by simp [Hid, dropR, hx, hr]
    obtain ⟨g, cap, hv, hgt, _, _, _, _, _, c5, hfz⟩ := h.right hr
    have hst := h.endR (g := g) (cap := cap) hv j r hr
    have hord := hw.ord.set hr
    have k3 := h.blk.cell 3
    simp at k3
    rw [hv] at k3
    have z5 := hfz (j * 6 + 5)
    have hi2 : (j : Int) < (s.rights.length : Int) := by omega
    clear hr hv hfz
    go_enter Tryz.func33, Tryz.ntmps33
    go_wp2_with fail
    refine (right_any h hw.al hw.ne hw.nk hw.ord hm env hd hd0).mono ?_
    rintro e w2 ⟨rfl, rfl⟩
    rw [hx]
    clear hx
    go_wp2_with fail
    refine (sweep_any hst hw.sl hord (by simpa using hm)).mono ?_
    rintro e w4 ⟨rfl, hn⟩
    go_wp2_with fail
    go_ret
    exact ⟨ret_int' (by rw [HA.out]), by rw [HA.out]; exact RefNext.after ((Touch.refl _ _ _).setCell (.inl (by rw [hgt])) _) hn⟩

/-- An environment's mark is written. -/
theorem RefRep.setA {g cap : Nat} (h : RefRep own id w m s nk vR vB vS vA vK bs) (hv : vA = .slice (some ⟨g, 0, none⟩) s.alive.length cap) (i : Nat) (b : Bool) :
    RefRep own id (w.setCell ⟨g, i, none⟩ (.bool b)) m { s with alive := s.alive.set i b } nk vR vB vS vA vK bs := by
  have hg : own g = (id, 4) := h.tA g (by rw [hv]; rfl)
  have hW : ∀ b', b' < w.heap.size → own b' ≠ (id, 4) → (w.setCell ⟨g, i, none⟩ (.bool b)).heap[b']? = w.heap[b']? := by
    intro b' hb h3
    exact Below.heap_setCell _ _ _ _ (fun e => h3 (by simp at e; rw [e]; exact hg))
  refine h.putA (fun _ _ => rfl) (fun b hb _ h3 => hW b hb h3) (h.blk.of (hW m h.blk.lt (by rw [h.tm]; simp))) ?_ h.tA
  have h1 := h.rA
  rw [hv] at h1 ⊢
  rw [List.length_set, List.map_set]
  exact h1.set _ _
/-- The pointer to a kept memory is written: none. -/
theorem RefRep.setK {g cap : Nat} (h : RefRep own id w m s nk vR vB vS vA vK bs) (hv : vK = .slice (some ⟨g, 0, none⟩) nk cap) (i : Nat) (hi : i < nk) :
    RefRep own id (w.setCell ⟨g, i, none⟩ (.pointer none)) m { s with kept := s.kept.set i none } nk vR vB vS vA vK bs := by
  have hg : own g = (id, 5) := h.tK g (by rw [hv]; rfl)
  have hW : ∀ b', b' < w.heap.size → own b' ≠ (id, 5) → (w.setCell ⟨g, i, none⟩ (.pointer none)).heap[b']? = w.heap[b']? := by
    intro b' hb h3
    exact Below.heap_setCell _ _ _ _ (fun e => h3 (by simp at e; rw [e]; exact hg))
  refine h.putK (fun _ _ => rfl) (fun b hb _ h3 _ => hW b hb h3) (h.blk.of (hW m h.blk.lt (by rw [h.tm]; simp))) ?_ h.tK
  obtain ⟨ks, hK⟩ := h.rK
  have hl := hK.row.len
  simp at hl
  refine ⟨ks.set i none, ?_, by rw [List.length_set]; exact hK.len, fun q hq => ?_, fun q k hq => ?_⟩
  · have h1 := hK.row
    rw [hv] at h1 ⊢
    rw [List.map_set]
    exact h1.set _ _
  · by_cases e : i = q
    · subst e
      rw [List.getElem?_set_self (by omega)]
    · rw [List.getElem?_set_ne e] at hq ⊢
      exact hK.no q hq
  · by_cases e : i = q
    · subst e
      rw [List.getElem?_set_self (by rw [hK.len]; exact hi)] at hq
      simp at hq
    · rw [List.getElem?_set_ne e] at hq ⊢
      obtain ⟨b, h1, h2⟩ := hK.yes q k hq
      exact ⟨b, h1, h2.of (fun _ _ _ => rfl) (fun x hx t _ e2 => hW x hx (by rw [e2]; simp [kt]; omega))⟩

set_option maxHeartbeats 2000000 in
set_option maxRecDepth 100000 in
theorem rspawn_any (h : RefRep own id w m s nk vR vB vS vA vK bs) (hw : RWf s nk) (env : Int) :
    Calls Tryz.prog 37 #[.pointer (some ⟨m, 0, none⟩), .int .i64 env] w fun e w' => e = .returned (.int .i64 (spawnR s env).1) ∧ RefNext own id w m nk w' (spawnR s env).2 := by
  have k2 := h.blk.cell 2
  have k7 := h.blk.cell 7
  simp at k2 k7
  by_cases h1 : env < 0 ∨ s.ne ≤ env
  · have HA : Hid (spawnR s env = (2, s)) := by simp only [Hid, spawnR, if_pos h1]
    rcases h1 with h1 | h1
    · go_enter Tryz.func37, Tryz.ntmps37
      go_wp2_with fail
      go_ret
      exact ⟨ret_int' (by rw [HA.out]), by rw [HA.out]; exact RefNext.refl h⟩
    · by_cases h0 : env < 0
      · go_enter Tryz.func37, Tryz.ntmps37
        go_wp2_with fail
        go_ret
        exact ⟨ret_int' (by rw [HA.out]), by rw [HA.out]; exact RefNext.refl h⟩
      · go_enter Tryz.func37, Tryz.ntmps37
        go_wp2_with fail
        go_ret
        exact ⟨ret_int' (by rw [HA.out]), by rw [HA.out]; exact RefNext.refl h⟩
  · obtain ⟨j, rfl⟩ := Int.eq_ofNat_of_zero_le (show 0 ≤ env by omega)
    have hal := hw.al
    have hj : j < s.alive.length := by omega
    have hj2 : (j : Int) < (s.alive.length : Int) := by omega
    have hj3 : ¬ (s.ne : Int) ≤ (j : Int) := by omega
    have hj4 : ¬ (j : Int) < 0 := by omega
    obtain ⟨g, cap, hv, hc, hfz⟩ := h.rA.form (by omega)
    obtain ⟨b, hb⟩ : ∃ b, s.alive[j]? = some b := ⟨s.alive[j], by simp⟩
    have c0 : w.cell? ⟨g, j, none⟩ = some (.bool b) := by rw [hc _ (by omega), List.getElem?_map, hb]; rfl
    have hab : aliveB s j = b := by simp [aliveB, hb]; omega
    have hst := h.setA hv j true
    have hgt : own g = (id, 4) := h.tA g (by rw [hv]; rfl)
    rw [hv] at k7
    have z0 := hfz j
    cases b
    · have HA : Hid (spawnR s j = (0, { s with alive := s.alive.set j true })) := by simp only [Hid, spawnR, if_neg h1, hab]; simp
      clear h1 hv hab hb hc hfz hal
      go_enter Tryz.func37, Tryz.ntmps37
      go_wp2_with fail
      go_ret
      exact ⟨ret_int' (by rw [HA.out]), by rw [HA.out]; exact ⟨own, _, _, _, _, _, _, hst, fun _ _ => rfl, (Touch.refl _ _ _).setCell (.inl (by rw [hgt])) _⟩⟩
    · have HA : Hid (spawnR s j = (3, s)) := by simp only [Hid, spawnR, if_neg h1, hab]; simp
      clear h1 hv hab hb hc hfz hal
      go_enter Tryz.func37, Tryz.ntmps37
      go_wp2_with fail
      go_ret
      exact ⟨ret_int' (by rw [HA.out]), by rw [HA.out]; exact RefNext.refl h⟩

set_option maxHeartbeats 4000000 in
set_option maxRecDepth 100000 in
theorem rkill_any (h : RefRep own id w m s nk vR vB vS vA vK bs) (hw : RWf s nk) (env : Int) :
    Calls Tryz.prog 35 #[.pointer (some ⟨m, 0, none⟩), .int .i64 env] w fun e w' => e = .returned (.int .i64 (killR s env).1) ∧ RefNext own id w m nk w' (killR s env).2 := by
  have hm : s.rights.length ≤ 4611686018427387904 := by have := hw.size; omega
  cases hal : aliveB s env
  · have HA : Hid (killR s env = (2, s)) := by simp [Hid, killR, hal]
    go_enter Tryz.func35, Tryz.ntmps35
    go_wp2_with fail
    refine (alive_any h hw.al hw.ne env).mono ?_
    rintro e w2 ⟨rfl, rfl⟩
    rw [hal]
    clear hal
    go_wp2_with fail
    go_ret
    exact ⟨ret_int' (by rw [HA.out]), by rw [HA.out]; exact RefNext.refl h⟩
  · have HA : Hid (killR s env = (0, sweepS { endIf (fun r => r.env == env) s with alive := s.alive.set env.toNat false, kept := s.kept.set env.toNat none })) := by simp [Hid, killR, hal]
    obtain ⟨j0, rfl, hj0⟩ := aliveB_nat hal
    go_enter Tryz.func35, Tryz.ntmps35
    go_wp2_with fail
    refine (alive_any h hw.al hw.ne j0).mono ?_
    rintro e w2 ⟨rfl, rfl⟩
    rw [hal]
    clear hal
    go_wp2_with fail
    go_loopg [6] s.rights.length (fun k x wr => ∃ q : Nat, x = .int .i64 q ∧ q + k = s.rights.length ∧ RefRep own id wr m { s with rights := mapTo (markIf fun r => r.env == (j0 : Int)) s.rights q } nk vR vB vS vA vK bs ∧ Touch w2.heap.size (fun b => (own b).1 = id) w2 wr)
    case atStart => exact ⟨0, rfl, by omega, by rw [mapTo_zero]; exact h, Touch.refl _ _ _⟩
    case round =>
      obtain ⟨q, rfl, hk, h', ht⟩ := hrel
      have HK : Hid (q + gk = s.rights.length) := hk
      have hq : q ≤ s.rights.length := by omega
      have hsl := mapTo_len (markIf fun r => r.env == (j0 : Int)) s.rights q
      have k3 := h'.blk.cell 3
      simp at k3
      clear hk
      by_cases hlt : q < s.rights.length
      · obtain ⟨r, hr⟩ : ∃ r, s.rights[q]? = some r := ⟨s.rights[q], by simp⟩
        have hr' : (mapTo (markIf fun r => r.env == (j0 : Int)) s.rights q)[q]? = some r := (mapTo_at _ _ _).trans hr
        obtain ⟨g, cap, hv, hgt, _, c1, _, _, _, c5, hfz⟩ := h'.right (i := q) (r := r) hr'
        have HS : Hid (mapTo (markIf fun r => r.env == (j0 : Int)) s.rights (q + 1) = (mapTo (markIf fun r => r.env == (j0 : Int)) s.rights q).set q (markIf (fun r => r.env == (j0 : Int)) r)) := mapTo_succ _ _ _ _ hr
        have HQ : Hid (markIf (fun r => r.env == (j0 : Int)) r = r → mapTo (markIf fun r => r.env == (j0 : Int)) s.rights (q + 1) = mapTo (markIf fun r => r.env == (j0 : Int)) s.rights q) := mapTo_same _ _ _ _ hr
        have hst := h'.endR (g := g) (cap := cap) hv q r hr'
        simp only [hsl] at hv
        rw [hv] at k3
        have z5 := hfz (q * 6 + 5)
        clear hv hsl hfz hr hr'
        cases he : (r.env == (j0 : Int))
        · have HW := HQ.out (by simp [markIf, he])
          have HW : Hid (mapTo (markIf fun r => r.env == (j0 : Int)) s.rights (q + 1) = mapTo (markIf fun r => r.env == (j0 : Int)) s.rights q) := HW
          go_wp2_with fail
          go_roundg (gk - 1)
          case measure => have := HK.out; omega
          case rel => exact ⟨q + 1, by go_num, by have := HK.out; omega, by rw [HW.out]; exact h', ht⟩
        · have HW : Hid (mapTo (markIf fun r => r.env == (j0 : Int)) s.rights (q + 1) = (mapTo (markIf fun r => r.env == (j0 : Int)) s.rights q).set q r.end) := by
            have := HS.out
            rw [show markIf (fun r => r.env == (j0 : Int)) r = r.end by simp [markIf, he]] at this
            exact this
          go_wp2_with fail
          go_roundg (gk - 1)
          case measure => have := HK.out; omega
          case rel => exact ⟨q + 1, by go_num, by have := HK.out; omega, by rw [HW.out]; exact hst, ht.setCell (.inl (by rw [hgt])) _⟩
      · obtain rfl : q = s.rights.length := by omega
        obtain ⟨ao, cap, g, hv, _⟩ := h'.rR.view
        simp only [hsl] at hv
        rw [hv] at k3
        rw [mapTo_all] at h'
        have hwal := hw.al
        obtain ⟨ga, capa, hva, hca, hfza⟩ := h'.rA.form (by simp only; omega)
        have k7 := h'.blk.cell 7
        simp at k7
        rw [hva] at k7
        obtain ⟨b, hb⟩ : ∃ b, s.alive[j0]? = some b := ⟨s.alive[j0]'(by omega), by simp⟩
        have c0 : wr.cell? ⟨ga, j0, none⟩ = some (.bool b) := by rw [hca _ (by simp only; omega), List.getElem?_map]; simp only; rw [hb]; rfl
        have z0 := hfza j0
        have hl7 : (j0 : Int) < (s.alive.length : Int) := by omega
        have hnk := hw.nk
        obtain ⟨gk', capk, vk8, hvk, hfzk, c8, -⟩ := h'.keptAt (j := j0) (by omega)
        have k8 := h'.blk.cell 8
        simp at k8
        rw [hvk] at k8
        have z8 := hfzk j0
        have hl8 : (j0 : Int) < (nk : Int) := by omega
        have hga : own ga = (id, 4) := h'.tA ga (by rw [hva]; rfl)
        have hgk : own gk' = (id, 5) := h'.tK gk' (by rw [hvk]; rfl)
        have hgm : own m = (id, 0) := h'.tm
        have nam : ga ≠ m := fun e => by rw [e, hgm] at hga; simp at hga
        have nak : ga ≠ gk' := fun e => by rw [e, hgk] at hga; simp at hga
        have hst := (h'.setA hva j0 false).setK hvk j0 (by omega)
        have hg := hw.ord.map (fun r => r.env == (j0 : Int))
        clear hv hsl hva hca hfza hvk hfzk hb hnk hwal
        go_wp2_with fail
        refine (sweep_any hst hw.sl hg (by simpa using hm)).mono ?_
        rintro e w4 ⟨rfl, hn⟩
        go_wp2_with fail
        go_ret
        refine ⟨ret_int' (by rw [HA.out]), ?_⟩
        rw [HA.out]
        exact RefNext.after ((ht.setCell (.inl (by rw [hga])) _).setCell (.inl (by rw [hgk])) _) hn

/-- The rights of env among the first q that are alive. -/
def listTo (s : RSt) (env : Int) (q : Nat) : List RR := ((List.range q).filterMap fun i : Nat => s.rights[i]?.bind fun r => if lv s.rights i && r.env == env then some r else none)
def listR (s : RSt) (env : Int) : List RR := listTo s env s.rights.length
def rcells (r : RR) : List Value := [.int .i64 r.h, .int .i64 r.env, .int .i64 r.fr, .bool r.wr]
theorem listTo_succ (s : RSt) (env : Int) (q : Nat) (r : RR) (hr : s.rights[q]? = some r) : listTo s env (q + 1) = listTo s env q ++ (if lv s.rights q && r.env == env then [r] else []) := by
  unfold listTo
  rw [List.range_succ, List.filterMap_append]
  congr 1
  simp only [List.filterMap_cons, List.filterMap_nil, hr, Option.bind_some]
  cases (lv s.rights q && r.env == env) <;> rfl
theorem listTo_le (s : RSt) (env : Int) (q : Nat) : (listTo s env q).length ≤ q := by
  unfold listTo
  have := List.length_filterMap_le (fun i : Nat => s.rights[i]?.bind fun r => if lv s.rights i && r.env == env then some r else none) (List.range q)
  simpa using this

theorem Tryz.infoRt : (Tryz.prog.info? 111).map (fun i => (i.zero, i.size, i.bytes)) = some (some (.agg #[.int .i64 0, .int .i64 0, .int .i64 0, .bool false]), 4, 32) := by kernel_rfl
theorem oneCell_rt (r : RR) : ∀ u ∈ rcells r, u.oneCell' = true := by
  intro u hu; simp [rcells] at hu; rcases hu with rfl | rfl | rfl | rfl <;> rfl

set_option maxHeartbeats 4000000 in
set_option maxRecDepth 100000 in
theorem rlist_any (h : RefRep own id w m s nk vR vB vS vA vK bs) (hw : RWf s nk) (env : Int) :
    Calls Tryz.prog 39 #[.pointer (some ⟨m, 0, none⟩), .int .i64 env] w fun e w' => ∃ v, Below w.heap.size w w' ∧ (∀ b, v.ownBlock = some b → w.heap.size ≤ b) ∧
      ((aliveB s env = false ∧ v = .slice none 0 0 ∧ e = .returned (.tuple #[v, .int .i64 2])) ∨ (aliveB s env = true ∧ Row w' v 111 4 (listR s env).length ((listR s env).flatMap rcells) ∧ e = .returned (.tuple #[v, .int .i64 0]))) := by
  have hm : s.rights.length ≤ 4611686018427387904 := by have := hw.size; omega
  have hsz := hw.size
  obtain ⟨i0, hi, hz0, hz1, hz2⟩ := info_parts Tryz.infoRt
  cases hal : aliveB s env
  · have HAL : Hid (aliveB s env = false) := hal
    clear hal
    go_enter Tryz.func39, Tryz.ntmps39
    go_wp2_with fail
    refine (alive_any h hw.al hw.ne env).mono ?_
    rintro e w2 ⟨rfl, rfl⟩
    rw [HAL.out]
    go_wp2_with fail
    go_ret2
    exact ⟨_, Below.refl _ _, by simp [Value.ownBlock], .inl ⟨trivial, rfl, rfl⟩⟩
  · have HAL : Hid (aliveB s env = true) := hal
    clear hal
    go_enter Tryz.func39, Tryz.ntmps39
    go_wp2_with fail
    refine (alive_any h hw.al hw.ne env).mono ?_
    rintro e w2 ⟨rfl, rfl⟩
    rw [HAL.out]
    go_wp2_with fail
    go_loopg [7, 8] s.rights.length (fun k v x wr => ∃ q : Nat, x = .int .i64 q ∧ q + k = s.rights.length ∧ Below w2.heap.size w2 wr ∧ Row wr v 111 4 (listTo s env q).length ((listTo s env q).flatMap rcells) ∧ ∀ b, v.ownBlock = some b → w2.heap.size ≤ b)
    case atStart => exact ⟨0, rfl, by omega, Below.refl _ _, Row.nil _ _ _, by simp [Value.ownBlock]⟩
    case round =>
      obtain ⟨q, rfl, hk, hbl, hrow, hnew⟩ := hrel
      have HK : Hid (q + gk = s.rights.length) := hk
      have hq : q ≤ s.rights.length := by omega
      have hle := listTo_le s env q
      have h' := h.below hbl
      have k3 := h'.blk.cell 3
      simp at k3
      clear hk
      obtain ⟨ao, cap, g0, hv, _⟩ := hrow.view
      subst hv
      by_cases hlt : q < s.rights.length
      · obtain ⟨r, hr⟩ : ∃ r, s.rights[q]? = some r := ⟨s.rights[q], by simp⟩
        obtain ⟨g, capr, hvr, hgt, c0, c1, c2, c3, _, _, _⟩ := h'.right hr
        have HS : Hid (listTo s env (q + 1) = listTo s env q ++ (if lv s.rights q && r.env == env then [r] else [])) := listTo_succ s env q r hr
        rw [hvr] at k3
        clear hvr hr
        have hns : w2.heap.size ≤ wr.heap.size := hbl.size
        go_wp2_with fail
        refine (living_any h' hw.ord hm q (by omega) (by omega)).mono ?_
        rintro e w3 ⟨rfl, rfl⟩
        cases hl : lv s.rights q
        · have HW : Hid (listTo s env (q + 1) = listTo s env q) := by have := HS.out; rw [hl] at this; simpa [Hid] using this
          clear hl HS
          go_wp2_with fail
          go_roundg (gk - 1)
          case measure => have := HK.out; omega
          case rel => exact ⟨q + 1, by go_num, by have := HK.out; omega, hbl, by rw [HW.out]; exact hrow, hnew⟩
        · cases he : (r.env == env)
          · have HW : Hid (listTo s env (q + 1) = listTo s env q) := by have := HS.out; rw [hl, he] at this; simpa [Hid] using this
            clear hl HS
            go_wp2_with fail
            go_roundg (gk - 1)
            case measure => have := HK.out; omega
            case rel => exact ⟨q + 1, by go_num, by have := HK.out; omega, hbl, by rw [HW.out]; exact hrow, hnew⟩
          · have HW : Hid (listTo s env (q + 1) = listTo s env q ++ [r]) := by have := HS.out; rw [hl, he] at this; simpa [Hid] using this
            have hR' := hrow.alloc (.cells (rcells r).toArray 111)
            clear hl HS hrow
            go_wp2_with (at_builtin; refine wpList_append_lies _ rfl (.tmp 41) (.tmp 50) 80 rfl 0 111 i0 _ 4 32 Tryz.underlying80 hi hz0 hz1 hz2 rfl (by decide) (.slice ao (listTo s env q).length cap) (listTo s env q).length _ rfl hR' ⟨w3.heap.size, 0, none⟩ 1 1 (rcells r) rfl rfl ?c1 ?c2 (by omega) ?b1 ?b2 (by omega) (w3.heap.size + 1) (by simp) ?nx)
            case c1 => exact World.news_of_block (B := w3.heap.size) (cs := (rcells r).toArray) (t := 111) (fr := (0, 0)) (Blk.new _ _ _)
            case c2 => exact oneCell_rt _
            case b1 => unfold maxLen; omega
            case b2 => omega
            case nx =>
              intro g1 cap1 w4 hown hgrow hat hlt1
              go_wp2
              go_roundg (gk - 1)
              case measure => have := HK.out; omega
              case rel =>
                refine ⟨q + 1, by go_num, by have := HK.out; omega, (hbl.alloc hns _).grown hgrow (by simp; omega) hnew, ?_, ?_⟩
                · rw [HW.out]
                  simp only [List.length_append, List.flatMap_append, List.length_cons, List.length_nil, List.flatMap_cons, List.flatMap_nil, List.append_nil]
                  exact hown
                · intro b hb
                  simp [Value.ownBlock] at hb
                  subst hb
                  rcases hat with h | h
                  · exact hnew _ h
                  · omega
      · obtain rfl : q = s.rights.length := by omega
        obtain ⟨ao2, cap2, g2, hv2, _⟩ := h'.rR.view
        rw [hv2] at k3
        clear hv2
        go_wp2_with fail
        go_ret2
        exact ⟨_, hbl, hnew, .inr ⟨trivial, hrow, rfl⟩⟩
end
end Go.Proofs.YtinlkcmdbjcofaaGreat
