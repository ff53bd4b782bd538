import Derived.Test.YtkonobbhohfjlaaRefE
namespace Go.Proofs.Ytkonobbhohfjlaa
open Go.RowKit
set_option linter.unusedVariables false

def mapTo {α : Type} (f : α → α) (xs : List α) (q : Nat) : List α := (xs.take q).map f ++ xs.drop q
section
variable {α : Type} (f : α → α) (xs : List α) (q : Nat)
theorem mapTo_zero : mapTo f xs 0 = xs := by simp [mapTo]
theorem mapTo_len : (mapTo f xs q).length = xs.length := by simp [mapTo]; omega
theorem mapTo_at : (mapTo f xs q)[q]? = xs[q]? := by
  unfold mapTo
  by_cases h : q < xs.length
  · rw [List.getElem?_append_right (by simp; omega)]
    simp only [List.length_map, List.length_take, List.getElem?_drop]
    rw [show q + (q - min q xs.length) = q by omega]
  · rw [List.getElem?_eq_none (by simp; omega), List.getElem?_eq_none (by omega)]
theorem mapTo_succ (e : α) (h : xs[q]? = some e) : mapTo f xs (q + 1) = (mapTo f xs q).set q (f e) := by
  have hq := (List.getElem?_eq_some_iff.1 h).1
  have he : xs[q] = e := (List.getElem?_eq_some_iff.1 h).2
  unfold mapTo
  rw [List.take_succ_eq_append_getElem hq, List.set_append_right _ _ (by simp; omega)]
  simp only [List.map_append, List.map_cons, List.map_nil, List.length_map, List.length_take, List.append_assoc]
  rw [show q - min q xs.length = 0 by omega, List.drop_eq_getElem_cons hq, he]
  rfl
theorem mapTo_same (e : α) (h : xs[q]? = some e) (he : f e = e) : mapTo f xs (q + 1) = mapTo f xs q := by
  rw [mapTo_succ f xs q e h, he]
  have hg := (mapTo_at f xs q).trans h
  obtain ⟨hlt, hx⟩ := List.getElem?_eq_some_iff.1 hg
  conv => lhs; rw [← hx]
  exact List.set_getElem_self hlt
theorem mapTo_all : mapTo f xs xs.length = xs.map f := by simp [mapTo]
end

def RR.end (r : RR) : RR := { r with ended := true }
def markIf (p : RR → Bool) (r : RR) : RR := if p r then r.end else r
def endIf (p : RR → Bool) (s : RSt) : RSt := { s with rights := s.rights.map (markIf p) }

theorem Ordered.map {rs : List RR} (h : Ordered rs) (p : RR → Bool) : Ordered (rs.map (markIf p)) := by
  intro i r hr
  rw [List.getElem?_map] at hr
  cases hx : rs[i]? with
  | none => rw [hx] at hr; simp at hr
  | some x =>
    rw [hx] at hr
    simp at hr
    have := h i x hx
    subst hr
    unfold markIf RR.end
    split <;> exact this

theorem Ordered.set {rs : List RR} (h : Ordered rs) {i : Nat} {r : RR} (hr : rs[i]? = some r) : Ordered (rs.set i r.end) := by
  intro j x hx
  by_cases e : i = j
  · subst e
    rw [List.getElem?_set_self (List.getElem?_eq_some_iff.1 hr).1] at hx
    simp at hx
    subst hx
    exact h i r hr
  · rw [List.getElem?_set_ne e] at hx
    exact h j x hx

theorem flat_setEnd (xs : List RR) (i : Nat) (r : RR) (hr : xs[i]? = some r) : (xs.set i r.end).flatMap RR.cells = (xs.flatMap RR.cells).set (i * 6 + 5) (.bool true) := by
  have hi := (List.getElem?_eq_some_iff.1 hr).1
  apply List.ext_getElem?
  intro p
  have hl := flat_length RR.cells 6 (fun _ => rfl) xs
  rw [flat_at RR.cells 6 (by omega) (fun _ => rfl)]
  simp only [List.getElem?_set, hl]
  by_cases hp : p / 6 = i
  · rw [if_pos hp.symm, if_pos (by omega)]
    by_cases h5 : p % 6 = 5
    · rw [if_pos (by omega), if_pos (by omega), h5]; rfl
    · rw [if_neg (by omega), flat_at RR.cells 6 (by omega) (fun _ => rfl), hp, hr]
      have : p % 6 = 0 ∨ p % 6 = 1 ∨ p % 6 = 2 ∨ p % 6 = 3 ∨ p % 6 = 4 := by omega
      rcases this with h | h | h | h | h <;> rw [h] <;> rfl
  · rw [if_neg (fun e => hp e.symm), if_neg (by omega), flat_at RR.cells 6 (by omega) (fun _ => rfl)]

section
variable {own : Nat → Nat × Nat} {id : Nat} {w : World} {m : Nat} {s : RSt} {nk : Nat} {vR vB vS vA vK : Value} {bs : List Nat}

/-- A right ends. -/
theorem RefRep.endR {g cap : Nat} (h : RefRep own id w m s nk vR vB vS vA vK bs) (hv : vR = .slice (some ⟨g, 0, none⟩) s.rights.length cap) (i : Nat) (r : RR) (hr : s.rights[i]? = some r) :
    RefRep own id (w.setCell ⟨g, i * 6 + 5, none⟩ (.bool true)) m { s with rights := s.rights.set i r.end } nk vR vB vS vA vK bs := by
  have hg : own g = (id, 1) := h.tR g (by rw [hv]; rfl)
  have hW : ∀ b, b < w.heap.size → own b ≠ (id, 1) → (w.setCell ⟨g, i * 6 + 5, none⟩ (.bool true)).heap[b]? = w.heap[b]? := by
    intro b hb h3
    exact Below.heap_setCell _ _ _ _ (fun e => h3 (by simp at e; rw [e]; exact hg))
  refine h.putR (fun _ _ => rfl) (fun b hb _ h3 => hW b hb h3) (h.blk.of (hW m h.blk.lt (by rw [h.tm]; simp))) ?_ h.tR
  have h1 := h.rR
  rw [hv] at h1 ⊢
  rw [List.length_set, flat_setEnd _ _ _ hr]
  exact h1.set _ _

/-- The standing facts of a machine. -/
structure RWf (s : RSt) (nk : Nat) : Prop where
  ord : Ordered s.rights
  al : s.alive.length = s.ne
  ne : s.ne ≤ 4
  nf : s.nf ≤ 16
  by_ : s.bytes.length = s.nf
  sl : s.slots.length ≤ 8
  nk : nk = s.ne
  size : (s.rights.length + 1) * 48 ≤ 140737488355328

def allocR (s : RSt) (env : Int) : (Int × Int) × RSt :=
  if rawE s env ≠ 0 then ((0, rawE s env), s) else match firstS s env with
    | some s' => ((s.rights.length + 1, 0), s')
    | none => ((0, 12), s)

theorem rawE_cases (s : RSt) (env : Int) : (rawE s env = 2 ∧ aliveB s env = false) ∨ (rawE s env = 0 ∧ aliveB s env = true) := by
  unfold rawE
  cases aliveB s env <;> simp

set_option maxHeartbeats 2000000 in
set_option maxRecDepth 100000 in
theorem ralloc_any (h : RefRep own id w m s nk vR vB vS vA vK bs) (hw : RWf s nk) (env : Int) :
    Calls Try.prog 42 #[.pointer (some ⟨m, 0, none⟩), .int .i64 env] w fun e w' => e = .returned (.tuple #[.int .i64 (allocR s env).1.1, .int .i64 (allocR s env).1.2]) ∧ RefNext own id w m nk w' (allocR s env).2 := by
  rcases rawE_cases s env with ⟨hr, -⟩ | ⟨hr, -⟩
  · have HA : Hid (allocR s env = ((0, 2), s)) := by simp [Hid, allocR, hr]
    go_enter Try.func42, Try.ntmps42
    go_wp2_with fail
    refine (raw_any h hw.al hw.ne hw.nk env).mono ?_
    rintro e w2 ⟨rfl, rfl⟩
    rw [hr]
    clear hr
    go_wp2_with fail
    go_ret2
    exact ⟨ret_int2 (by rw [HA.out]) (by rw [HA.out]), by rw [HA.out]; exact RefNext.refl h⟩
  · have HA : Hid (allocR s env = match firstS s env with | some s' => ((s.rights.length + 1, 0), s') | none => ((0, 12), s)) := by simp [Hid, allocR, hr]
    go_enter Try.func42, Try.ntmps42
    go_wp2_with fail
    refine (raw_any h hw.al hw.ne hw.nk env).mono ?_
    rintro e w2 ⟨rfl, rfl⟩
    rw [hr]
    clear hr
    go_wp2_with fail
    refine (first_any h hw.ne hw.nf hw.by_ hw.ord hw.size env).mono ?_
    rintro e w3 (⟨hf, rfl, hn⟩ | ⟨s', hf, rfl, hn⟩)
    · rw [hf] at HA
      clear hf
      go_wp2_with fail
      go_ret2
      exact ⟨ret_int2 (by rw [HA.out]) (by rw [HA.out]), by rw [HA.out]; exact hn⟩
    · rw [hf] at HA
      have hne : ((s.rights.length : Int) + 1 == 0) = false := beq_eq_false_iff_ne.2 (by omega)
      clear hf
      go_wp2_with fail
      go_ret2
      exact ⟨ret_int2 (by rw [HA.out]) (by rw [HA.out]), by rw [HA.out]; exact hn⟩

def deriveR (s : RSt) (env hd te : Int) (wt : Bool) : (Int × Int) × RSt :=
  if (rightE s env hd).2 ≠ 0 then ((0, (rightE s env hd).2), s)
  else if rawE s te ≠ 0 then ((0, rawE s te), s)
  else match s.rights[(rightE s env hd).1.toNat]? with
    | none => ((0, 0), s)
    | some r => if wt && !r.wr then ((0, 10), s) else if 32 ≤ cnt s.rights then ((0, 12), s) else ((s.rights.length + 1, 0), addR s te r.fr wt (rightE s env hd).1)

/-- What 'right' answers: an error, or the place of a right that is alive. -/
theorem rightE_cases (s : RSt) (env hd : Int) : (∃ x, rightE s env hd = (-1, x) ∧ (x = 2 ∨ x = 9)) ∨ ∃ (j : Nat) (r : RR), rightE s env hd = ((j : Int), 0) ∧ s.rights[j]? = some r ∧ hd = j + 1 ∧ r.env = env ∧ lv s.rights j = true ∧ aliveB s env = true := by
  unfold rightE
  rcases rawE_cases s env with ⟨hr, _⟩ | ⟨hr, ha⟩
  · exact .inl ⟨2, by simp [hr], .inl rfl⟩
  · simp only [hr]
    by_cases h1 : 1 ≤ hd ∧ hd ≤ s.rights.length
    · simp only [if_pos h1]
      cases hx : s.rights[(hd - 1).toNat]? with
      | none => exact .inl ⟨9, by simp, .inr rfl⟩
      | some r =>
        by_cases he : r.env = env
        · cases hl : lv s.rights (hd - 1)
          · exact .inl ⟨9, by simp [he], .inr rfl⟩
          · refine .inr ⟨(hd - 1).toNat, r, ?_, hx, by omega, he, ?_, ha⟩
            · rw [show (((hd - 1).toNat : Nat) : Int) = hd - 1 by omega]; simp [he]
            · rw [show (((hd - 1).toNat : Nat) : Int) = hd - 1 by omega]; exact hl
        · exact .inl ⟨9, by simp [he], .inr rfl⟩
    · simp only [if_neg h1]
      exact .inl ⟨9, by simp, .inr rfl⟩

set_option maxHeartbeats 2000000 in
set_option maxRecDepth 100000 in
theorem rderive_any (h : RefRep own id w m s nk vR vB vS vA vK bs) (hw : RWf s nk) (env hd te : Int) (wt : Bool) (hd0 : -9223372036854775808 ≤ hd) :
    Calls Try.prog 43 #[.pointer (some ⟨m, 0, none⟩), .int .i64 env, .int .i64 hd, .int .i64 te, .bool wt] w fun e w' => e = .returned (.tuple #[.int .i64 (deriveR s env hd te wt).1.1, .int .i64 (deriveR s env hd te wt).1.2]) ∧ RefNext own id w m nk w' (deriveR s env hd te wt).2 := by
  have hm : s.rights.length ≤ 4611686018427387904 := by have := hw.size; omega
  rcases rightE_cases s env hd with ⟨x, hx, hx2⟩ | ⟨j, r, hx, hr, -, -, -, -⟩
  · have hx0 : (x != 0) = true := by rcases hx2 with rfl | rfl <;> rfl
    have HA : Hid (deriveR s env hd te wt = ((0, x), s)) := by rcases hx2 with rfl | rfl <;> simp [Hid, deriveR, hx]
    clear hx2
    go_enter Try.func43, Try.ntmps43
    go_wp2_with fail
    refine (right_any h hw.al hw.ne hw.nk hw.ord hm env hd hd0).mono ?_
    rintro e w2 ⟨rfl, rfl⟩
    rw [hx]
    clear hx
    go_wp2_with fail
    go_ret2
    exact ⟨ret_int2 (by rw [HA.out]) (by rw [HA.out]), by rw [HA.out]; exact RefNext.refl h⟩
  · have hj := (List.getElem?_eq_some_iff.1 hr).1
    rcases rawE_cases s te with ⟨ht, -⟩ | ⟨ht, -⟩
    · have HA : Hid (deriveR s env hd te wt = ((0, 2), s)) := by simp [Hid, deriveR, hx, ht]
      go_enter Try.func43, Try.ntmps43
      go_wp2_with fail
      refine (right_any h hw.al hw.ne hw.nk hw.ord hm env hd hd0).mono ?_
      rintro e w2 ⟨rfl, rfl⟩
      rw [hx]
      clear hx
      go_wp2_with fail
      refine (raw_any h hw.al hw.ne hw.nk te).mono ?_
      rintro e w3 ⟨rfl, rfl⟩
      rw [ht]
      clear ht
      go_wp2_with fail
      go_ret2
      exact ⟨ret_int2 (by rw [HA.out]) (by rw [HA.out]), by rw [HA.out]; exact RefNext.refl h⟩
    · have HA : Hid (deriveR s env hd te wt = if wt && !r.wr then (((0 : Int), (10 : Int)), s) else if 32 ≤ cnt s.rights then ((0, 12), s) else (((s.rights.length : Int) + 1, 0), addR s te r.fr wt j)) := by simp [Hid, deriveR, hx, ht, hr]
      obtain ⟨g, cap, hv, _, c0, c1, c2, c3, _, _, _⟩ := h.right hr
      have k3 := h.blk.cell 3
      simp at k3
      rw [hv] at k3
      have hi2 : (j : Int) < (s.rights.length : Int) := by omega
      clear hv
      go_enter Try.func43, Try.ntmps43
      go_wp2_with fail
      refine (right_any h hw.al hw.ne hw.nk hw.ord hm env hd hd0).mono ?_
      rintro e w2 ⟨rfl, rfl⟩
      rw [hx]
      clear hx
      go_wp2_with fail
      refine (raw_any h hw.al hw.ne hw.nk te).mono ?_
      rintro e w3 ⟨rfl, rfl⟩
      rw [ht]
      clear ht hr
      have hbx := h.below ((Below.refl _ _).alloc (Nat.le_refl _) (.cells [.int .i64 r.h, .int .i64 r.env, .int .i64 r.fr, .bool r.wr].toArray 64))
      cases hq : (wt && !r.wr)
      · rw [hq] at HA
        simp only [Bool.false_eq_true, if_false] at HA
        have hcase : wt = false ∨ (wt = true ∧ r.wr = true) := by
          cases hwt : wt <;> cases hrw : r.wr <;> simp_all
        clear hq
        by_cases hc : 32 ≤ cnt s.rights
        · rw [if_pos hc] at HA
          have hci : (32 : Int) ≤ (cnt s.rights : Int) := by omega
          rcases hcase with rfl | ⟨rfl, hrw⟩
          · go_wp2_with fail
            refine (count_any hbx hw.ord hm).mono ?_
            rintro e w4 ⟨rfl, rfl⟩
            clear hc
            go_wp2_with fail
            go_ret2
            exact ⟨ret_int2 (by rw [HA.out]) (by rw [HA.out]), by rw [HA.out]; exact RefNext.of_below h ((Below.refl _ _).alloc (Nat.le_refl _) _)⟩
          · rw [hrw] at c3 hbx
            go_wp2_with fail
            refine (count_any hbx hw.ord hm).mono ?_
            rintro e w4 ⟨rfl, rfl⟩
            clear hc
            go_wp2_with fail
            go_ret2
            exact ⟨ret_int2 (by rw [HA.out]) (by rw [HA.out]), by rw [HA.out]; exact RefNext.of_below h ((Below.refl _ _).alloc (Nat.le_refl _) _)⟩
        · rw [if_neg hc] at HA
          have hci : ¬ (32 : Int) ≤ (cnt s.rights : Int) := by omega
          rcases hcase with rfl | ⟨rfl, hrw⟩
          · go_wp2_with fail
            refine (count_any hbx hw.ord hm).mono ?_
            rintro e w4 ⟨rfl, rfl⟩
            clear hc
            go_wp2_with fail
            refine (made_any hbx hw.size te r.fr false j).mono ?_
            rintro e w5 ⟨rfl, hn⟩
            go_wp2_with fail
            go_ret2
            refine ⟨ret_int2 (by rw [HA.out]) (by rw [HA.out]), ?_⟩
            rw [HA.out]
            obtain ⟨own', vR', vB', vS', vA', vK', bs', hr', ho', ht'⟩ := hn
            exact ⟨own', vR', vB', vS', vA', vK', bs', hr', fun b hb => ho' b (by simp; omega), (Touch.of_below ((Below.refl _ _).alloc (Nat.le_refl _) _) _).next (fun _ _ => rfl) ht'⟩
          · rw [hrw] at c3 hbx
            go_wp2_with fail
            refine (count_any hbx hw.ord hm).mono ?_
            rintro e w4 ⟨rfl, rfl⟩
            clear hc
            go_wp2_with fail
            refine (made_any hbx hw.size te r.fr true j).mono ?_
            rintro e w5 ⟨rfl, hn⟩
            go_wp2_with fail
            go_ret2
            refine ⟨ret_int2 (by rw [HA.out]) (by rw [HA.out]), ?_⟩
            rw [HA.out]
            obtain ⟨own', vR', vB', vS', vA', vK', bs', hr', ho', ht'⟩ := hn
            exact ⟨own', vR', vB', vS', vA', vK', bs', hr', fun b hb => ho' b (by simp; omega), (Touch.of_below ((Below.refl _ _).alloc (Nat.le_refl _) _) _).next (fun _ _ => rfl) ht'⟩
      · rw [hq] at HA
        simp only [if_true] at HA
        obtain ⟨rfl, hrw⟩ : wt = true ∧ r.wr = false := by cases hwt : wt <;> cases hrw : r.wr <;> simp_all
        rw [hrw] at c3
        clear hq
        go_wp2_with fail
        go_ret2
        exact ⟨ret_int2 (by rw [HA.out]) (by rw [HA.out]), by rw [HA.out]; exact RefNext.of_below h ((Below.refl _ _).alloc (Nat.le_refl _) _)⟩
end
end Go.Proofs.Ytkonobbhohfjlaa
