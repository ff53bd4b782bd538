import Derived.Test.YtinlkcmdbjcofabM01
/-
  What the document's machine keeps to where nobody is kept: its rights, its bytes, its table; each call keeps it.
-/
namespace Go.Proofs.Ytinlkcmdbjcofab
open Go.RowKit
set_option linter.unusedVariables false

structure SOk0 (s : RSt) : Prop where
  inv : RInv s
  fix : RFix s s.ne
  ns : s.slots.length = s.ns
  bys : ∀ (i : Nat) (l : List Int), s.bytes[i]? = some l → l.length = 4 ∧ ∀ (j : Nat) (x : Int), l[j]? = some x → 0 ≤ x ∧ x ≤ 255
  ent : ∀ (i : Nat) (e : Ent), s.slots[i]? = some e → e.used = true → 0 ≤ e.page ∧ e.page ≤ 15 ∧ owned s.rights e.env e.fr e.wr = true
  emp : ∀ (i : Nat) (e : Ent), s.slots[i]? = some e → e.used = false → e = Ent.empty
  uni : ∀ (i j : Nat) (e f : Ent), s.slots[i]? = some e → s.slots[j]? = some f → e.used = true → f.used = true → e.env = f.env → e.page = f.page → i = j

theorem owned_ex {rs : List RR} {env fr : Int} {wt : Bool} : owned rs env fr wt = true ↔ ∃ (i : Nat) (r : RR), rs[i]? = some r ∧ lv rs i = true ∧ r.env = env ∧ r.fr = fr ∧ (wt = true → r.wr = true) := by
  unfold owned
  rw [List.any_eq_true]
  constructor
  · rintro ⟨i, _, h⟩
    unfold ownsB at h
    cases hr : rs[i]? with
    | none => rw [hr] at h; simp at h
    | some r =>
      rw [hr] at h
      simp at h
      refine ⟨i, r, hr, h.1, h.2.1, h.2.2.1, fun hw => ?_⟩
      rcases h.2.2.2 with h | h
      · exact h
      · rw [hw] at h; simp at h
  · rintro ⟨i, r, hr, hl, he, hf, hw⟩
    refine ⟨i, List.mem_range.2 (List.getElem?_eq_some_iff.1 hr).1, ?_⟩
    unfold ownsB
    rw [hr]
    simp only [hl, he, hf, beq_self_eq_true, Bool.true_and]
    cases wt
    · simp
    · simp [hw rfl]
theorem owned_append {rs : List RR} (ho : Ordered rs) (x : RR) {env fr : Int} {wt : Bool} (h : owned rs env fr wt = true) : owned (rs ++ [x]) env fr wt = true := by
  obtain ⟨i, r, hr, hl, h1⟩ := owned_ex.1 h
  have hi := (List.getElem?_eq_some_iff.1 hr).1
  exact owned_ex.2 ⟨i, r, by rw [List.getElem?_append_left hi]; exact hr, by rw [lv_append ho x (by omega)]; exact hl, h1⟩

theorem sok0_fresh {a b c : Nat} (ha : a ≤ 16) (hb : b ≤ 8) (hc : c ≤ 4) : SOk0 (RSt.fresh a b c) := by
  refine ⟨⟨fun i r h => by simp [RSt.fresh] at h, fun i r h => by simp [RSt.fresh] at h, fun i r h => by simp [RSt.fresh] at h, fun i r h => by simp [RSt.fresh] at h⟩,
    ⟨by simp [RSt.fresh], hc, ha, by simp [RSt.fresh], by simpa [RSt.fresh] using hb, rfl⟩, by simp [RSt.fresh], ?_, ?_, ?_, ?_⟩
  · intro i l hl
    simp [RSt.fresh, List.getElem?_replicate] at hl
    obtain ⟨-, rfl⟩ := hl
    refine ⟨rfl, fun j x hx => ?_⟩
    match j, hx with
    | 0, hx => simp at hx; omega
    | 1, hx => simp at hx; omega
    | 2, hx => simp at hx; omega
    | 3, hx => simp at hx; omega
  · intro i e he hu
    simp [RSt.fresh, List.getElem?_replicate] at he
    obtain ⟨-, rfl⟩ := he
    simp [Ent.empty] at hu
  · intro i e he hu
    simp [RSt.fresh, List.getElem?_replicate] at he
    exact he.2.symm
  · intro i j e f he hf hu
    simp [RSt.fresh, List.getElem?_replicate] at he
    obtain ⟨-, rfl⟩ := he
    simp [Ent.empty] at hu

section
variable {s t : RSt}

theorem SOk0.sfr (h : SOk0 s) : SlotFr s := fun i e he hu => by
  obtain ⟨j, r, hr, -, -, hf, -⟩ := owned_ex.1 (h.ent i e he hu).2.2
  have := h.inv.fr j r hr
  omega
theorem SOk0.rwf (h : SOk0 s) (hN : (s.rights.length + 1) * 48 ≤ 140737488355328) : RWf s s.ne := ⟨h.inv.ord, h.fix.al, h.fix.ne, h.fix.nf, h.fix.by_, h.fix.sl, rfl, hN⟩

/-- More rights; the table as it was. -/
theorem SOk0.more (h : SOk0 s) (hI : RInv t) (hg : Grows s t) (hns : t.ns = s.ns) (hs : t.slots = s.slots) (ho : ∀ env fr wt, owned s.rights env fr wt = true → owned t.rights env fr wt = true)
    (hb : ∀ (i : Nat) (l : List Int), t.bytes[i]? = some l → l.length = 4 ∧ ∀ (j : Nat) (x : Int), l[j]? = some x → 0 ≤ x ∧ x ≤ 255) : SOk0 t := by
  obtain ⟨g1, g2, g3, g4, g5, g6⟩ := hg
  refine ⟨hI, by rw [g2]; exact h.fix.of g1 g2 g3 g4 g5, by rw [hs, hns]; exact h.ns, hb, ?_, ?_, ?_⟩
  · intro i e he hu
    rw [hs] at he
    obtain ⟨a, b, c⟩ := h.ent i e he hu
    exact ⟨a, b, ho _ _ _ c⟩
  · intro i e he hu
    rw [hs] at he
    exact h.emp i e he hu
  · intro i j e f he hf
    rw [hs] at he hf
    exact h.uni i j e f he hf

/-- Rights have ended, and the table is swept. -/
theorem SOk0.swept (h : SOk0 s) (hI : RInv (sweepS t)) (hg : Grows s (sweepS t)) (e1 : t.slots = s.slots) (e2 : t.bytes = s.bytes) (e3 : t.ns = s.ns) : SOk0 (sweepS t) := by
  obtain ⟨g1, g2, g3, g4, g5, g6⟩ := hg
  have key : ∀ (i : Nat) (e : Ent), (sweepS t).slots[i]? = some e → (e.used = true → s.slots[i]? = some e ∧ owned t.rights e.env e.fr e.wr = true) ∧ (e.used = false → e = Ent.empty) := by
    intro i e he
    simp only [sweepS, e1, List.getElem?_map] at he
    cases hx : s.slots[i]? with
    | none => rw [hx] at he; simp at he
    | some x =>
      rw [hx] at he
      simp only [Option.map_some, Option.some.injEq] at he
      cases hc : (x.used && !owned t.rights x.env x.fr x.wr)
      · rw [hc] at he
        simp only [Bool.false_eq_true, if_false] at he
        subst he
        refine ⟨fun hu => ⟨rfl, ?_⟩, fun hu => h.emp i x hx hu⟩
        rw [hu] at hc
        simpa using hc
      · rw [hc] at he
        simp only [if_true] at he
        subst he
        exact ⟨fun hu => by simp [Ent.empty] at hu, fun _ => rfl⟩
  refine ⟨hI, by rw [g2]; exact h.fix.of g1 g2 g3 g4 g5, ?_, ?_, ?_, ?_, ?_⟩
  · rw [g5]; show s.slots.length = t.ns; rw [e3]; exact h.ns
  · show ∀ (i : Nat) (l : List Int), t.bytes[i]? = some l → _
    rw [e2]; exact h.bys
  · intro i e he hu
    obtain ⟨a, b⟩ := (key i e he).1 hu
    obtain ⟨c, d, _⟩ := h.ent i e a hu
    exact ⟨c, d, b⟩
  · intro i e he hu
    exact (key i e he).2 hu
  · intro i j e f he hf hu hv
    exact h.uni i j e f ((key i e he).1 hu).1 ((key j f hf).1 hv).1 hu hv

theorem SOk0.alloc (h : SOk0 s) (env : Int) : SOk0 (allocR s env).2 := by
  have hg := allocR_grows (s := s) env
  unfold allocR at hg ⊢
  rcases rawE_cases s env with ⟨y, hr, hy⟩ | ⟨hr, ha⟩
  · rw [hr, if_pos (by omega)]; exact h
  · rw [hr] at hg ⊢
    simp only [ne_eq, not_true_eq_false, if_false] at hg ⊢
    unfold firstS at hg ⊢
    cases hl : leastFree s with
    | none => exact h
    | some f =>
      rw [hl] at hg
      simp only at hg ⊢
      by_cases hc : cnt s.rights < 32
      · rw [if_pos hc] at hg ⊢
        have hfl := leastFree_lt hl
        refine h.more (RInv.add (s := { s with bytes := s.bytes.set f [0, 0, 0, 0] }) ⟨h.inv.ord, h.inv.hnd, h.inv.env, h.inv.fr⟩ (aliveB_range ha) ⟨by omega, by show (f : Int) < s.nf; omega⟩ (by omega) (by show (-1 : Int) < s.rights.length; omega)) hg rfl rfl (fun _ _ _ => owned_append h.inv.ord _) ?_
        intro i l hli
        simp only [addR] at hli
        rw [List.getElem?_set] at hli
        split at hli
        · split at hli
          · simp at hli
            subst hli
            refine ⟨rfl, fun j x hx => ?_⟩
            match j, hx with
            | 0, hx => simp at hx; omega
            | 1, hx => simp at hx; omega
            | 2, hx => simp at hx; omega
            | 3, hx => simp at hx; omega
          · simp at hli
        · exact h.bys i l hli
      · rw [if_neg hc]; exact h

theorem SOk0.derive (h : SOk0 s) (env hd te : Int) (wt : Bool) : SOk0 (deriveR s env hd te wt).2 := by
  have hg := deriveR_grows (s := s) env hd te wt
  unfold deriveR at hg ⊢
  rcases rightE_cases s env hd with ⟨x, h1, h3⟩ | ⟨j, r, h1, hrr, hd1, he, hl, hal⟩
  · have : x ≠ 0 := by omega
    rw [h1]
    simpa [this] using h
  · have hj := (List.getElem?_eq_some_iff.1 hrr).1
    rw [h1] at hg ⊢
    simp only [ne_eq, not_true_eq_false, if_false, Int.toNat_natCast, hrr] at hg ⊢
    rcases rawE_cases s te with ⟨y, ht, hy⟩ | ⟨ht, hat⟩
    · rw [ht, if_pos (by omega)]; exact h
    · rw [ht] at hg ⊢
      simp only [not_true_eq_false, if_false] at hg ⊢
      cases hq : (wt && !r.wr) with
      | true => exact h
      | false =>
        rw [hq] at hg
        simp only [Bool.false_eq_true, if_false] at hg ⊢
        by_cases hc : 32 ≤ cnt s.rights
        · rw [if_pos hc]; exact h
        · rw [if_neg hc] at hg ⊢
          exact h.more (h.inv.add (aliveB_range hat) (h.inv.fr j r hrr) (by omega) (by omega)) hg rfl rfl (fun _ _ _ => owned_append h.inv.ord _) h.bys

theorem SOk0.revoke (h : SOk0 s) (env hd : Int) : SOk0 (revokeR s env hd).2 := by
  have hg := revokeR_grows (s := s) env hd
  unfold revokeR at hg ⊢
  split
  · exact h
  · rename_i hx
    rw [if_neg hx] at hg
    refine h.swept ?_ hg rfl rfl rfl
    have := h.inv.mark (fun i => (s.rights[i]?.map fun r => r.frm == (rightE s env hd).1).getD false)
    rw [← mark_map] at this
    exact ⟨this.ord, this.hnd, this.env, this.fr⟩
theorem SOk0.drop (h : SOk0 s) (env hd : Int) : SOk0 (dropR s env hd).2 := by
  have hg := dropR_grows (s := s) env hd
  unfold dropR at hg ⊢
  split
  · exact h
  · rename_i hx
    rw [if_neg hx] at hg
    split
    · exact h
    · rename_i r hr
      rw [hr] at hg
      refine h.swept ?_ hg rfl rfl rfl
      have := h.inv.mark (fun i => i == (rightE s env hd).1.toNat)
      rw [← mark_set _ _ _ hr] at this
      exact ⟨this.ord, this.hnd, this.env, this.fr⟩
theorem SOk0.kill (h : SOk0 s) (env : Int) : SOk0 (killR s env).2 := by
  have hg := killR_grows (s := s) env
  unfold killR at hg ⊢
  split
  · rename_i hx
    rw [if_pos hx] at hg
    refine h.swept ?_ hg rfl rfl rfl
    have := h.inv.mark (fun i => (s.rights[i]?.map fun r => r.env == env).getD false)
    rw [← mark_map] at this
    exact ⟨this.ord, this.hnd, this.env, this.fr⟩
  · exact h
theorem SOk0.spawn (h : SOk0 s) (env : Int) : SOk0 (spawnR s env).2 := by
  have hg := spawnR_grows (s := s) env
  unfold spawnR at hg ⊢
  split
  · exact h
  · rename_i h1
    rw [if_neg h1] at hg
    split
    · exact h
    · rename_i h2
      rw [if_neg h2] at hg
      exact h.more ⟨h.inv.ord, h.inv.hnd, h.inv.env, h.inv.fr⟩ hg rfl rfl (fun _ _ _ h => h) h.bys
end
end Go.Proofs.Ytinlkcmdbjcofab

/-
  The table's calls keep what the machine keeps to.
-/
namespace Go.Proofs.Ytinlkcmdbjcofab
open Go.RowKit
set_option linter.unusedVariables false

section
variable {s t : RSt}

theorem goneS_get (s : RSt) (env page : Int) (i : Nat) : (goneS s env page).slots[i]? = s.slots[i]?.map (goneE env page) := by simp [goneS]
theorem gone_key (h : SOk0 s) (env page : Int) {i : Nat} {e : Ent} (he : (goneS s env page).slots[i]? = some e) : (e.used = true → s.slots[i]? = some e ∧ ¬ (e.env = env ∧ e.page = page)) ∧ (e.used = false → e = Ent.empty) := by
  rw [goneS_get] at he
  cases hx : s.slots[i]? with
  | none => rw [hx] at he; simp at he
  | some x =>
    rw [hx] at he
    simp only [Option.map_some, Option.some.injEq] at he
    unfold goneE at he
    cases hc : (x.env == env && x.page == page)
    · rw [hc] at he
      simp only [Bool.false_eq_true, if_false] at he
      subst he
      refine ⟨fun _ => ⟨rfl, fun ⟨a, b⟩ => ?_⟩, fun hu => h.emp i x hx hu⟩
      rw [a, b] at hc
      simp at hc
    · rw [hc] at he
      simp only [if_true] at he
      subst he
      exact ⟨fun hu => by simp [Ent.empty] at hu, fun _ => rfl⟩

theorem SOk0.gone (h : SOk0 s) (env page : Int) : SOk0 (goneS s env page) := by
  refine ⟨⟨h.inv.ord, h.inv.hnd, h.inv.env, h.inv.fr⟩, h.fix.of rfl rfl rfl rfl (by simp [goneS]), by simpa [goneS] using h.ns, h.bys, ?_, ?_, ?_⟩
  · intro i e he hu
    exact h.ent i e ((gone_key h env page he).1 hu).1 hu
  · intro i e he hu
    exact (gone_key h env page he).2 hu
  · intro i j e f he hf hu hv
    exact h.uni i j e f ((gone_key h env page he).1 hu).1 ((gone_key h env page hf).1 hv).1 hu hv

theorem unmapR_grows (env page : Int) : Grows s (unmapR s env page).2 := by
  unfold unmapR
  split
  · exact Grows.refl s
  · split
    · exact Grows.refl s
    · exact ⟨rfl, rfl, rfl, rfl, by simp [goneS], by simp [goneS]⟩
theorem SOk0.unmap (h : SOk0 s) (env page : Int) : SOk0 (unmapR s env page).2 := by
  unfold unmapR
  split
  · exact h
  · split
    · exact h
    · exact h.gone env page

theorem mapR_grows (env page hd : Int) (wt : Bool) (slot : Int) : Grows s (mapR s env page hd wt slot).2 := by
  unfold mapR
  split
  · exact Grows.refl s
  · split
    · exact Grows.refl s
    · split
      · exact Grows.refl s
      · split
        · exact Grows.refl s
        · split
          · exact Grows.refl s
          · split
            · exact Grows.refl s
            · exact ⟨rfl, rfl, rfl, rfl, by simp [goneS], by simp [goneS]⟩
theorem SOk0.map (h : SOk0 s) (env page hd : Int) (wt : Bool) (slot : Int) : SOk0 (mapR s env page hd wt slot).2 := by
  unfold mapR
  split
  · exact h
  · split
    · exact h
    · rename_i hp
      rcases rightE_cases s env hd with ⟨x, h1, h3⟩ | ⟨j, r, h1, hrr, hd1, he, hl, hal⟩
      · have : x ≠ 0 := by omega
        rw [h1]
        simpa [this] using h
      · rw [h1]
        simp only [ne_eq, not_true_eq_false, if_false, Int.toNat_natCast, hrr]
        cases hq : (wt && !r.wr) with
        | true => exact h
        | false =>
          simp only [Bool.false_eq_true, if_false]
          split
          · exact h
          · rename_i hsl
            have hg := h.gone env page
            obtain ⟨q, rfl⟩ : ∃ q : Nat, slot = q := ⟨slot.toNat, by omega⟩
            simp only [Int.toNat_natCast]
            have hqs : q < (goneS s env page).slots.length := by have := hg.ns; have : (goneS s env page).ns = s.ns := rfl; omega
            have hget : ∀ (i : Nat) (e : Ent), ((goneS s env page).slots.set q ⟨true, env, page, r.fr, wt⟩)[i]? = some e → (i = q ∧ e = ⟨true, env, page, r.fr, wt⟩) ∨ (i ≠ q ∧ (goneS s env page).slots[i]? = some e) := by
              intro i e hx
              rw [List.getElem?_set] at hx
              split at hx
              · rename_i hqi
                simp at hx; exact .inl ⟨hqi.symm, hx.symm⟩
              · rename_i hqi
                exact .inr ⟨fun e => hqi e.symm, hx⟩
            refine ⟨⟨h.inv.ord, h.inv.hnd, h.inv.env, h.inv.fr⟩, hg.fix.of rfl rfl rfl rfl (by simp), by rw [List.length_set]; exact hg.ns, h.bys, ?_, ?_, ?_⟩
            · intro i e hx hu
              rcases hget i e hx with ⟨-, rfl⟩ | ⟨-, hx⟩
              · refine ⟨by show 0 ≤ page; omega, by show page ≤ 15; omega, owned_ex.2 ⟨j, r, hrr, hl, he, rfl, fun hw => ?_⟩⟩
                have hw' : wt = true := hw
                rw [hw'] at hq
                simpa using hq
              · exact hg.ent i e hx hu
            · intro i e hx hu
              rcases hget i e hx with ⟨-, rfl⟩ | ⟨-, hx⟩
              · simp at hu
              · exact hg.emp i e hx hu
            · intro i i2 e f hx hy hu hv e1 e2
              rcases hget i e hx with ⟨hi, rfl⟩ | ⟨hi, hx⟩ <;> rcases hget i2 f hy with ⟨hi2, rfl⟩ | ⟨hi2, hy⟩
              · omega
              · exact absurd ⟨e1.symm, e2.symm⟩ ((gone_key h env page hy).1 hv).2
              · exact absurd ⟨e1, e2⟩ ((gone_key h env page hx).1 hu).2
              · exact hg.uni i i2 e f hx hy hu hv e1 e2

theorem storeR_grows (env page a v : Int) : Grows s (storeR s env page a v).2 := by
  unfold storeR
  split
  · exact Grows.refl s
  · split
    · exact Grows.refl s
    · split
      · exact Grows.refl s
      · split
        · exact Grows.refl s
        · split
          · exact Grows.refl s
          · split
            · exact Grows.refl s
            · split
              · exact Grows.refl s
              · exact ⟨rfl, rfl, rfl, by simp [putByte], rfl, by simp [putByte]⟩
theorem SOk0.store (h : SOk0 s) (env page a v : Int) : SOk0 (storeR s env page a v).2 := by
  have hg := storeR_grows (s := s) env page a v
  unfold storeR at hg ⊢
  split
  · exact h
  · rename_i c1
    rw [if_neg c1] at hg
    split
    · exact h
    · rename_i c2
      rw [if_neg c2] at hg
      split
      · exact h
      · rename_i c3
        rw [if_neg c3] at hg
        split
        · exact h
        · rename_i c4
          rw [if_neg c4] at hg
          split
          · exact h
          · rename_i c5
            rw [if_neg c5] at hg
            split
            · exact h
            · rename_i e he
              rw [he] at hg
              simp only at hg
              split
              · exact h
              · rename_i c6
                rw [if_neg c6] at hg
                refine h.more ⟨h.inv.ord, h.inv.hnd, h.inv.env, h.inv.fr⟩ hg rfl rfl (fun _ _ _ h => h) ?_
                intro i l hl
                simp only [putByte] at hl
                rw [List.getElem?_set] at hl
                split at hl
                · rename_i hi
                  split at hl
                  · rename_i hlt
                    simp at hl
                    subst hl
                    obtain ⟨l0, hl0⟩ : ∃ l0, s.bytes[e.fr.toNat]? = some l0 := ⟨s.bytes[e.fr.toNat], by simp⟩
                    rw [hl0]
                    simp only [Option.getD_some, List.length_set]
                    refine ⟨(h.bys _ l0 hl0).1, fun j x hx => ?_⟩
                    rw [List.getElem?_set] at hx
                    split at hx
                    · split at hx
                      · simp at hx; omega
                      · simp at hx
                    · exact (h.bys _ l0 hl0).2 j x hx
                  · simp at hl
                · exact h.bys i l hl
end
end Go.Proofs.Ytinlkcmdbjcofab

/-
  What the statement's own list of rights needs: of the rights that are alive, whose frame is whose.
-/
namespace Go.Proofs.Ytinlkcmdbjcofab
set_option linter.unusedVariables false

structure HInv0 (s : RSt) : Prop where
  one : ∀ (i j : Nat) (ri rj : RR), s.rights[i]? = some ri → s.rights[j]? = some rj → lv s.rights i = true → lv s.rights j = true → ri.frm < 0 → rj.frm < 0 → ri.fr = rj.fr → i = j
  same : ∀ (i : Nat) (r : RR), s.rights[i]? = some r → 0 ≤ r.frm → ∃ r', s.rights[r.frm.toNat]? = some r' ∧ r'.fr = r.fr
  alv : ∀ (i : Nat) (r : RR), s.rights[i]? = some r → lv s.rights i = true → aliveB s r.env = true

theorem hinv0_fresh (a b c : Nat) : HInv0 (RSt.fresh a b c) := ⟨fun i j ri rj h => by simp [RSt.fresh] at h, fun i r h => by simp [RSt.fresh] at h, fun i r h => by simp [RSt.fresh] at h⟩

theorem getApp {α : Type} {l : List α} {x r : α} {i : Nat} (h : (l ++ [x])[i]? = some r) : l[i]? = some r ∨ (i = l.length ∧ r = x) := by
  rcases Nat.lt_or_ge i l.length with hl | hl
  · rw [List.getElem?_append_left hl] at h; exact .inl h
  · rw [List.getElem?_append_right hl] at h
    have hz : i - l.length = 0 := by have := (List.getElem?_eq_some_iff.1 h).1; simp at this; omega
    rw [hz] at h
    simp at h
    exact .inr ⟨by omega, h.symm⟩

/-- Which rights are alive comes of the rights alone; who is alive of the environments. -/
theorem HInv0.add {s s' : RSt} (h : HInv0 s) (hI : RInv s) {x : RR} (hr : s'.rights = s.rights ++ [x]) (ha : s'.alive = s.alive) (hn : s'.ne = s.ne) (hx : aliveB s x.env = true) (h1 : -1 ≤ x.frm) (h2 : x.frm < s.rights.length)
    (hf : x.frm < 0 → ∀ (i : Nat) (r : RR), s.rights[i]? = some r → lv s.rights i = true → r.fr ≠ x.fr) (hp : 0 ≤ x.frm → ∃ r', s.rights[x.frm.toNat]? = some r' ∧ r'.fr = x.fr) : HInv0 s' := by
  have hal : ∀ e, aliveB s' e = aliveB s e := fun e => by unfold aliveB; rw [ha, hn]
  have hlv : ∀ (i : Nat) (r : RR), s.rights[i]? = some r → lv s'.rights i = lv s.rights i := fun i r hr' => by
    have := (List.getElem?_eq_some_iff.1 hr').1
    rw [hr]; exact lv_append hI.ord x (by omega)
  refine ⟨fun i j ri rj hi hj li lj fi fj e => ?_, fun i r hi h0 => ?_, fun i r hi li => ?_⟩
  · rw [hr] at hi hj
    rcases getApp hi with ai | ⟨ei, ri'⟩ <;> rcases getApp hj with aj | ⟨ej, rj'⟩
    · rw [hlv i ri ai] at li; rw [hlv j rj aj] at lj; exact h.one i j ri rj ai aj li lj fi fj e
    · rw [hlv i ri ai] at li; rw [rj'] at fj e; exact absurd e (hf fj i ri ai li)
    · rw [hlv j rj aj] at lj; rw [ri'] at fi e; exact absurd e.symm (hf fi j rj aj lj)
    · omega
  · rw [hr] at hi ⊢
    have aux : ∀ {k : Nat} {q : RR}, s.rights[k]? = some q → (s.rights ++ [x])[k]? = some q := fun {k q} hk => by
      rw [List.getElem?_append_left (List.getElem?_eq_some_iff.1 hk).1]; exact hk
    rcases getApp hi with hi | ⟨ei, rfl⟩
    · obtain ⟨r', h1, h2⟩ := h.same i r hi h0; exact ⟨r', aux h1, h2⟩
    · obtain ⟨r', h1, h2⟩ := hp h0; exact ⟨r', aux h1, h2⟩
  · rw [hal]
    rw [hr] at hi
    rcases getApp hi with hi | ⟨ei, rfl⟩
    · rw [hlv i r hi] at li; exact h.alv i r hi li
    · exact hx

theorem HInv0.mark {s s' : RSt} (h : HInv0 s) (hI : RInv s) (P : Nat → Bool) (hr : s'.rights = markAt P s.rights) (ha : ∀ (i : Nat) (r : RR), s.rights[i]? = some r → lv (markAt P s.rights) i = true → aliveB s r.env = true → aliveB s' r.env = true) : HInv0 s' := by
  have hget : ∀ (i : Nat) (r : RR), s'.rights[i]? = some r → ∃ x, s.rights[i]? = some x ∧ r.frm = x.frm ∧ r.env = x.env ∧ r.fr = x.fr := by
    intro i r hi
    rw [hr, markAt_get] at hi
    cases hx : s.rights[i]? with
    | none => rw [hx] at hi; simp at hi
    | some x =>
      rw [hx] at hi
      simp at hi
      refine ⟨x, rfl, ?_⟩
      subst hi
      split <;> exact ⟨rfl, rfl, rfl⟩
  have hle : ∀ (i : Nat) (r : RR), s.rights[i]? = some r → lv s'.rights i = true → lv s.rights i = true := fun i r hi hl => by
    have := (List.getElem?_eq_some_iff.1 hi).1
    rw [hr] at hl
    exact lv_mark_le hI.ord P (i + 1) i (by omega) (by omega) hl
  refine ⟨fun i j ri rj hi hj li lj fi fj e => ?_, fun i r hi h0 => ?_, fun i r hi li => ?_⟩
  · obtain ⟨x, a1, a2, a3, a4⟩ := hget i ri hi
    obtain ⟨y, b1, b2, b3, b4⟩ := hget j rj hj
    exact h.one i j x y a1 b1 (hle i x a1 li) (hle j y b1 lj) (by omega) (by omega) (by omega)
  · obtain ⟨x, a1, a2, a3, a4⟩ := hget i r hi
    obtain ⟨r', b1, b2⟩ := h.same i x a1 (by omega)
    rw [a2, hr, markAt_get, b1]
    refine ⟨_, rfl, ?_⟩
    rw [a4, ← b2]
    split <;> rfl
  · obtain ⟨x, a1, a2, a3, a4⟩ := hget i r hi
    rw [a3]
    have hl := li
    rw [hr] at li
    exact ha i x a1 li (h.alv i x a1 (hle i x a1 hl))

section
variable {rs : RSt}

theorem freeB_no {s : RSt} (hI : RInv s) {f : Nat} (h : freeB s f = true) : ∀ (i : Nat) (r : RR), s.rights[i]? = some r → lv s.rights i = true → r.fr ≠ f := fun i r hr hl e => by
  have he := hI.env i r hr
  simp [freeB] at h
  have := h r.env.toNat (by omega)
  rw [Int.toNat_of_nonneg he.1] at this
  have h2 := owned_iff.2 ⟨i, r, hr, hl, rfl, e⟩
  rw [h2] at this
  simp at this

theorem HInv0.alloc (h : HInv0 rs) (hI : RInv rs) (env : Int) : HInv0 (allocR rs env).2 := by
  unfold allocR
  rcases rawE_cases rs env with ⟨y, h2, hy⟩ | ⟨h0, ha⟩
  · rw [h2, if_pos (by omega)]; exact h
  · rw [h0]
    simp only [ne_eq, not_true_eq_false, if_false]
    unfold firstS
    cases hl : leastFree rs with
    | none => exact h
    | some f =>
      simp only
      by_cases hc : cnt rs.rights < 32
      · rw [if_pos hc]
        have hfree : freeB rs f = true := List.find?_some hl
        exact h.add hI (x := ⟨rs.rights.length + 1, env, f, true, -1, false⟩) rfl rfl rfl ha (by simp) (by simp; omega) (fun _ => freeB_no hI hfree) (fun h => by simp at h)
      · rw [if_neg hc]; exact h

theorem HInv0.derive (h : HInv0 rs) (hI : RInv rs) (env hd te : Int) (wt : Bool) : HInv0 (deriveR rs env hd te wt).2 := by
  rcases rightE_cases rs env hd with ⟨x, h1, h3⟩ | ⟨j, r, h1, hrr, hd1, he, hl, hal⟩
  · have : x ≠ 0 := by omega
    unfold deriveR
    rw [h1]
    simpa [this] using h
  · have hj := (List.getElem?_eq_some_iff.1 hrr).1
    unfold deriveR
    rw [h1]
    simp only [ne_eq, not_true_eq_false, if_false, Int.toNat_natCast, hrr]
    rcases rawE_cases rs te with ⟨y, ht, hy⟩ | ⟨ht, hat⟩
    · rw [ht, if_pos (by omega)]; exact h
    · rw [ht]
      simp only [not_true_eq_false, if_false]
      cases (wt && !r.wr) with
      | true => exact h
      | false =>
        simp only [Bool.false_eq_true, if_false]
        by_cases hc : 32 ≤ cnt rs.rights
        · rw [if_pos hc]; exact h
        · rw [if_neg hc]
          exact h.add hI (x := ⟨rs.rights.length + 1, te, r.fr, wt, j, false⟩) rfl rfl rfl hat (by show (-1 : Int) ≤ (j : Int); omega) (by show (j : Int) < _; omega) (fun h => absurd h (by show ¬ (j : Int) < 0; omega)) (fun _ => ⟨r, by simpa using hrr, rfl⟩)

theorem HInv0.revoke (h : HInv0 rs) (hI : RInv rs) (env hd : Int) : HInv0 (revokeR rs env hd).2 := by
  unfold revokeR
  split
  · exact h
  · exact h.mark hI _ (by simp only [sweepS, endIf]; exact mark_map _ _) (fun _ _ _ _ h => h)
theorem HInv0.drop (h : HInv0 rs) (hI : RInv rs) (env hd : Int) : HInv0 (dropR rs env hd).2 := by
  unfold dropR
  split
  · exact h
  · split
    · exact h
    · rename_i r hr
      exact h.mark hI _ (by simp only [sweepS]; exact mark_set _ _ _ hr) (fun _ _ _ _ h => h)
theorem HInv0.kill (h : HInv0 rs) (hI : RInv rs) (env : Int) : HInv0 (killR rs env).2 := by
  unfold killR
  split
  · rename_i hal
    have hrg := aliveB_range hal
    refine h.mark hI _ (by simp only [sweepS, endIf]; exact mark_map _ _) (fun i r hr hl ha => ?_)
    have hne : r.env ≠ env := fun e => by
      rw [lv_mark hI.ord _ hr] at hl
      simp [hr, e] at hl
    have hg := hI.env i r hr
    simp only [aliveB, sweepS, endIf] at ha ⊢
    rw [List.getElem?_set_ne (by omega)]
    exact ha
  · exact h
theorem HInv0.spawn (h : HInv0 rs) (env : Int) : HInv0 (spawnR rs env).2 := by
  unfold spawnR
  split
  · exact h
  · split
    · exact h
    · rename_i h1 h2
      refine ⟨h.one, h.same, fun i r hi hl => ?_⟩
      have ha := h.alv i r hi hl
      have hne : r.env.toNat ≠ env.toNat := fun e => by
        have := aliveB_range ha
        have e' : r.env = env := by omega
        rw [e'] at ha; exact h2 ha
      simp only [aliveB] at ha ⊢
      rw [List.getElem?_set_ne (fun e => hne e.symm)]
      exact ha

/-! ### How many first rights are alive -/
def firstB (rs : List RR) (i : Nat) : Bool := lv rs i && (rs[i]?.map fun r => decide (r.frm < 0)).getD false
def fstL (rs : List RR) (q : Nat) : List Nat := (List.range q).filter (firstB rs)
def fstTo (rs : List RR) (q : Nat) : Nat := (fstL rs q).length
theorem fstTo_succ {rs : List RR} {q : Nat} {r : RR} (hr : rs[q]? = some r) : fstTo rs (q + 1) = fstTo rs q + if lv rs q && decide (r.frm < 0) then 1 else 0 := by
  unfold fstTo fstL
  rw [List.range_succ, List.filter_append, List.length_append]
  congr 1
  simp only [List.filter_cons, List.filter_nil, firstB, hr, Option.map_some, Option.getD_some]
  split <;> rfl

theorem pigeon : ∀ (l m : List Nat), l.Nodup → (∀ x, x ∈ l → x ∈ m) → l.length ≤ m.length := by
  intro l
  induction l with
  | nil => intro m _ _; simp
  | cons x xs ih =>
    intro m hn hs
    have hx : x ∈ m := hs x (by simp)
    rw [List.nodup_cons] at hn
    have := ih (m.erase x) hn.2 (fun y hy => by
      have hne : y ≠ x := fun e => hn.1 (e ▸ hy)
      exact (List.mem_erase_of_ne hne).2 (hs y (by simp [hy])))
    rw [List.length_erase_of_mem hx] at this
    have hpos := List.length_pos_of_mem hx
    simp
    omega

theorem root {s : RSt} (h : HInv0 s) (hI : RInv s) : ∀ (n i : Nat) (r : RR), i < n → s.rights[i]? = some r → lv s.rights i = true → ∃ (j : Nat) (q : RR), s.rights[j]? = some q ∧ lv s.rights j = true ∧ q.frm < 0 ∧ q.fr = r.fr := by
  intro n
  induction n with
  | zero => intro i r hi; omega
  | succ n ih =>
    intro i r hi hr hl
    by_cases h0 : r.frm < 0
    · exact ⟨i, r, hr, hl, h0, rfl⟩
    · obtain ⟨q, hq, hf⟩ := h.same i r hr (by omega)
      have ho := hI.ord i r hr
      rw [lv_step hI.ord hr] at hl
      simp at hl
      obtain ⟨j, x, a1, a2, a3, a4⟩ := ih r.frm.toNat q (by omega) hq (by rw [Int.toNat_of_nonneg (by omega)]; exact hl.2)
      exact ⟨j, x, a1, a2, a3, by rw [a4, hf]⟩

theorem mem_fst {s : RSt} {i : Nat} : i ∈ fstL s.rights s.rights.length ↔ ∃ r, s.rights[i]? = some r ∧ lv s.rights i = true ∧ r.frm < 0 := by
  unfold fstL firstB
  rw [List.mem_filter, List.mem_range]
  constructor
  · rintro ⟨h1, h2⟩
    refine ⟨s.rights[i], by simp, ?_⟩
    simpa [h1] using h2
  · rintro ⟨r, hr, hl, hf⟩
    exact ⟨(List.getElem?_eq_some_iff.1 hr).1, by simp [hr, hl, hf]⟩

/-- There is a frame that is free just if fewer first rights are alive than there are frames. -/
theorem least_none {s : RSt} (h : HInv0 s) (hI : RInv s) : leastFree s = none ↔ s.nf ≤ fstTo s.rights s.rights.length := by
  classical
  obtain ⟨fr, hfr⟩ : ∃ fr : Nat → Nat, ∀ (i : Nat) (r : RR), s.rights[i]? = some r → fr i = r.fr.toNat := ⟨fun i => (s.rights[i]?.map fun r => r.fr.toNat).getD 0, fun i r hr => by simp [hr]⟩
  have hmem : ∀ f, (∃ i, i ∈ fstL s.rights s.rights.length ∧ fr i = f) → f < s.nf ∧ freeB s f = false := by
    rintro f ⟨i, hi, rfl⟩
    obtain ⟨r, hr, hl, hf⟩ := mem_fst.1 hi
    have hb := hI.fr i r hr
    rw [hfr i r hr]
    refine ⟨by omega, ?_⟩
    cases hx : freeB s r.fr.toNat with
    | false => rfl
    | true => exact absurd (by omega) (freeB_no hI hx i r hr hl)
  have hnd : ((fstL s.rights s.rights.length).map fr).Nodup := by
    rw [List.nodup_iff_pairwise_ne, List.pairwise_map]
    have hp : (fstL s.rights s.rights.length).Nodup := (List.nodup_range).filter _
    refine List.Pairwise.imp_of_mem ?_ hp
    intro a b ha hb hne e
    obtain ⟨r, hr, hl, hf⟩ := mem_fst.1 ha
    obtain ⟨q, hq, ql, qf⟩ := mem_fst.1 hb
    rw [hfr a r hr, hfr b q hq] at e
    have h1 := hI.fr a r hr
    have h2 := hI.fr b q hq
    exact hne (h.one a b r q hr hq hl ql hf qf (by omega))
  constructor
  · intro hn
    have hall : ∀ f, f < s.nf → freeB s f = false := fun f hf => by
      have := List.find?_eq_none.1 hn f (List.mem_range.2 hf)
      simpa using this
    have := pigeon (List.range s.nf) ((fstL s.rights s.rights.length).map fr) List.nodup_range (fun f hf => by
      have hff := hall f (List.mem_range.1 hf)
      simp only [freeB, Bool.not_eq_false'] at hff
      rw [List.any_eq_true] at hff
      obtain ⟨e, _, ho⟩ := hff
      obtain ⟨i, r, hr, hl, _, hrf⟩ := owned_iff.1 ho
      obtain ⟨j, q, a1, a2, a3, a4⟩ := root h hI (i + 1) i r (by omega) hr hl
      exact List.mem_map.2 ⟨j, mem_fst.2 ⟨q, a1, a2, a3⟩, by rw [hfr j q a1, a4, hrf]; simp⟩)
    simpa [fstTo] using this
  · intro hle
    cases hl : leastFree s with
    | none => rfl
    | some f =>
      exfalso
      have hfree : freeB s f = true := List.find?_some hl
      have hflt := leastFree_lt hl
      have := pigeon (f :: (fstL s.rights s.rights.length).map fr) (List.range s.nf) (by
        rw [List.nodup_cons]
        refine ⟨fun hm => ?_, hnd⟩
        obtain ⟨i, hi, e⟩ := List.mem_map.1 hm
        have := (hmem f ⟨i, hi, e⟩).2
        rw [hfree] at this; simp at this) (fun x hx => by
        rcases List.mem_cons.1 hx with rfl | hx
        · exact List.mem_range.2 hflt
        · obtain ⟨i, hi, e⟩ := List.mem_map.1 hx
          exact List.mem_range.2 (hmem x ⟨i, hi, e⟩).1)
      simp [fstTo] at this hle
      omega
end

/-- Nobody is kept. -/
def NoK (s : RSt) : Prop := ∀ env : Int, keptB s env = false
theorem NoK.of {s t : RSt} (h : NoK s) (e : t.kept = s.kept) : NoK t := fun env => by
  have := h env
  unfold keptB keptO at this ⊢
  rw [e]
  exact this
theorem nok_fresh (a b c : Nat) : NoK (RSt.fresh a b c) := fun env => by
  unfold keptB keptO RSt.fresh
  simp only [List.getElem?_replicate]
  split <;> rfl
theorem NoK.alloc {s : RSt} (h : NoK s) (env : Int) : NoK (allocR s env).2 := by
  unfold allocR
  split
  · exact h
  · split
    · rename_i s' hs
      unfold firstS at hs
      split at hs
      · split at hs
        · simp only [Option.some.injEq] at hs
          subst hs
          exact h.of rfl
        · simp at hs
      · simp at hs
    · exact h
theorem NoK.derive {s : RSt} (h : NoK s) (env hd te : Int) (wt : Bool) : NoK (deriveR s env hd te wt).2 := by
  unfold deriveR
  repeat' split
  all_goals first | exact h | exact h.of rfl
theorem NoK.revoke {s : RSt} (h : NoK s) (env hd : Int) : NoK (revokeR s env hd).2 := by
  unfold revokeR
  split
  · exact h
  · exact h.of rfl
theorem NoK.drop {s : RSt} (h : NoK s) (env hd : Int) : NoK (dropR s env hd).2 := by
  unfold dropR
  repeat' split
  all_goals first | exact h | exact h.of rfl
theorem NoK.kill {s : RSt} (h : NoK s) (env : Int) : NoK (killR s env).2 := by
  unfold killR
  split
  · intro e
    have := h e
    unfold keptB keptO at this ⊢
    show (((s.kept.set env.toNat none)[e.toNat]?).getD none).isSome = false
    rw [List.getElem?_set]
    split
    · split <;> rfl
    · exact this
  · exact h
theorem NoK.spawn {s : RSt} (h : NoK s) (env : Int) : NoK (spawnR s env).2 := by
  unfold spawnR
  repeat' split
  all_goals first | exact h | exact h.of rfl

theorem rightE_cases2 {s : RSt} (hk : NoK s) (env hd : Int) : (∃ x, rightE s env hd = (-1, x) ∧ (x = 2 ∨ x = 9)) ∨ ∃ (j : Nat) (r : RR), rightE s env hd = ((j : Int), 0) ∧ s.rights[j]? = some r ∧ hd = j + 1 ∧ r.env = env ∧ lv s.rights j = true ∧ aliveB s env = true := by
  rcases rightE_cases s env hd with ⟨x, hx, h⟩ | h
  · left
    refine ⟨x, hx, ?_⟩
    rcases h with h | h | h
    · exact .inl h
    · exact .inr h
    · exfalso
      subst h
      unfold rightE at hx
      rw [rawE_nok (hk env)] at hx
      rcases liveE_cases s env with ⟨h2, -⟩ | ⟨h0, -⟩
      · rw [h2] at hx; simp at hx
      · rw [h0] at hx
        simp only [ne_eq, not_true_eq_false, if_false] at hx
        split at hx
        · simp at hx
        · split at hx
          · simp at hx
          · split at hx
            · simp at hx
            · simp at hx
  · exact .inr h

/-- The same, where nobody is kept. -/
structure HInv (s : RSt) : Prop extends HInv0 s where
  nok : NoK s
theorem hinv_fresh (a b c : Nat) : HInv (RSt.fresh a b c) := ⟨hinv0_fresh a b c, nok_fresh a b c⟩
section
variable {rs : RSt}
theorem HInv.alloc (h : HInv rs) (hI : RInv rs) (env : Int) : HInv (allocR rs env).2 := ⟨h.toHInv0.alloc hI env, h.nok.alloc env⟩
theorem HInv.derive (h : HInv rs) (hI : RInv rs) (env hd te : Int) (wt : Bool) : HInv (deriveR rs env hd te wt).2 := ⟨h.toHInv0.derive hI env hd te wt, h.nok.derive env hd te wt⟩
theorem HInv.revoke (h : HInv rs) (hI : RInv rs) (env hd : Int) : HInv (revokeR rs env hd).2 := ⟨h.toHInv0.revoke hI env hd, h.nok.revoke env hd⟩
theorem HInv.drop (h : HInv rs) (hI : RInv rs) (env hd : Int) : HInv (dropR rs env hd).2 := ⟨h.toHInv0.drop hI env hd, h.nok.drop env hd⟩
theorem HInv.kill (h : HInv rs) (hI : RInv rs) (env : Int) : HInv (killR rs env).2 := ⟨h.toHInv0.kill hI env, h.nok.kill env⟩
theorem HInv.spawn (h : HInv rs) (env : Int) : HInv (spawnR rs env).2 := ⟨h.toHInv0.spawn env, h.nok.spawn env⟩
theorem HInv.live (h : HInv rs) (env : Int) : rawE rs env = liveE rs env := rawE_nok (h.nok env)
end
end Go.Proofs.Ytinlkcmdbjcofab

/-
  The document's kept memories: how one lies in memory, and who may turn it.
-/
namespace Go.Proofs.Ytinlkcmdbjcofab
open Go.RowKit
set_option linter.unusedVariables false
attribute [local go_sem ↓] Go.wp_at_zero Go.wp_at_succ

theorem Row.shapeK {w : World} {v : Value} {e k n : Nat} {xs : List Value} (h : Row w v e k n xs) : ∃ ao cap, v = .slice ao n cap ∧ (n = 0 ∨ ∃ g, ao = some ⟨g, 0, none⟩) := by
  obtain ⟨ao, cap, g, hv, hao, _⟩ := h.view
  refine ⟨ao, cap, hv, ?_⟩
  rcases Nat.eq_zero_or_pos n with h0 | h0
  · exact .inl h0
  · exact .inr ⟨g, hao h0⟩
theorem Row.cellK {w : World} {e k n g cap : Nat} {xs : List Value} (h : Row w (.slice (some ⟨g, 0, none⟩) n cap) e k n xs) (j : Nat) (hj : j < n * k) : w.cell? ⟨g, j, none⟩ = xs[j]? := World.ownsRow.cellAt h j hj
theorem kt_inj {i j t u : Nat} (ht : t < 16) (hu : u < 16) (h : kt i t = kt j u) : i = j ∧ t = u := by unfold kt at h; omega
theorem kt_odd (i t : Nat) : ∃ n, kt i t = 7 + 2 * n := ⟨16 * i + t, rfl⟩

/-- The kept memory of environment j lies at b. -/
def KPtr (vK : Value) (nk : Nat) (w : World) (j b : Nat) : Prop := ∃ g cap, vK = .slice (some ⟨g, 0, none⟩) nk cap ∧ w.cell? ⟨g, j, none⟩ = some (.pointer (some ⟨b, 0, none⟩))
theorem KPtr.uniq {vK : Value} {nk : Nat} {w : World} {j b b' : Nat} (h : KPtr vK nk w j b) (h' : KPtr vK nk w j b') : b = b' := by
  obtain ⟨g, cap, hv, hc⟩ := h
  obtain ⟨g', cap', hv', hc'⟩ := h'
  rw [hv] at hv'
  simp at hv'
  obtain ⟨rfl, rfl⟩ := hv'
  rw [hc] at hc'
  simpa using hc'
theorem KPtr.of {own : Nat → Nat × Nat} {id : Nat} {vK : Value} {nk : Nat} {w w' : World} {j b : Nat} (h : KPtr vK nk w j b) (ht : Tg own vK (id, 5)) (hlt : ∀ x, vK.ownBlock = some x → x < w.heap.size) (hW : ∀ x, x < w.heap.size → own x = (id, 5) → w'.heap[x]? = w.heap[x]?) : KPtr vK nk w' j b := by
  obtain ⟨g, cap, hv, hc⟩ := h
  have e : vK.ownBlock = some g := by rw [hv]; rfl
  exact ⟨g, cap, hv, by rw [← hc]; exact World.cell?_of_block (a := ⟨g, j, none⟩) (hW g (hlt g e) (ht g e))⟩

section
variable {own : Nat → Nat × Nat} {id : Nat} {w : World} {m : Nat} {s : RSt} {nk : Nat} {vR vB vS vA vK : Value} {bs : List Nat}

end

/-- A new kept memory. -/
def KSt.new (quota policy : Int) : KSt := ⟨quota, policy, List.replicate 64 0, [], [], List.replicate 16 0, List.replicate 16 false, List.replicate 16 false, List.replicate 16 false, 0, 0, 0⟩
def hasK (k : KSt) (page : Int) : Bool := k.inp.any fun x => x == page

section
variable {own : Nat → Nat × Nat} {id i : Nat} {w : World} {b : Nat} {k : KSt} {vB vU vI vY vC vD vO : Value}

end
end Go.Proofs.Ytinlkcmdbjcofab

/-
  The document's choice of the page that goes out.
-/
namespace Go.Proofs.Ytinlkcmdbjcofab
open Go.RowKit
set_option linter.unusedVariables false
attribute [local go_sem ↓] Go.wp_at_zero Go.wp_at_succ

def anyI (l : List Int) (p : Int) : Bool := l.any fun x => x == p
def metStep (k : KSt) (met : List Int) (p : Int) : List Int := if hasK k p && !anyI met p then met ++ [p] else met
/-- The pages that are in, met going back through the accesses from the end to place q. -/
def metFrom (k : KSt) (q : Nat) : List Int := ((k.uses.drop q).reverse.map Prod.fst).foldl (metStep k) []
def pickK (k : KSt) : Int := if k.policy == 0 then (k.inp[0]?).getD 0 else if k.policy == 2 then ((metFrom k 0)[0]?).getD 0 else ((metFrom k 0)[(metFrom k 0).length - 1]?).getD 0
theorem metFrom_end (k : KSt) : metFrom k k.uses.length = [] := by unfold metFrom; rw [List.drop_length]; rfl
theorem metFrom_step {k : KSt} {q : Nat} {u : Int × Bool} (h : k.uses[q]? = some u) : metFrom k q = metStep k (metFrom k (q + 1)) u.1 := by
  obtain ⟨hq, he⟩ := List.getElem?_eq_some_iff.1 h
  unfold metFrom
  rw [List.drop_eq_getElem_cons hq, he, List.reverse_cons, List.map_append, List.foldl_append]
  rfl
theorem metFrom_len (k : KSt) : ∀ n q, q + n = k.uses.length → (metFrom k q).length ≤ n := by
  intro n
  induction n with
  | zero => intro q hq; rw [show q = k.uses.length by omega, metFrom_end]; exact Nat.le_refl _
  | succ n ih =>
    intro q hq
    obtain ⟨u, hu⟩ : ∃ u, k.uses[q]? = some u := ⟨k.uses[q], by simp⟩
    rw [metFrom_step hu]
    have := ih (q + 1) (by omega)
    unfold metStep
    split
    · simp; omega
    · omega

theorem Try.infoIntK : (Try.prog.info? 3).map (fun i => (i.zero, i.size, i.bytes)) = some (some (.int .i64 0), 1, 8) := by kernel_rfl
theorem oneCell_intK (n : Int) : ∀ u ∈ [Value.int .i64 n], u.oneCell' = true := by
  intro u hu; simp at hu; subst hu; rfl

section
variable {own : Nat → Nat × Nat} {id i : Nat} {w w' : World} {b : Nat} {k : KSt} {vB vU vI vY vC vD vO : Value}
end
end Go.Proofs.Ytinlkcmdbjcofab

/-
  A kept memory is turned: its fields and rows.
-/
namespace Go.Proofs.Ytinlkcmdbjcofab
open Go.RowKit
set_option linter.unusedVariables false

section
variable {own own' : Nat → Nat × Nat} {id i : Nat} {w W : World} {b : Nat} {k : KSt} {vB vU vI vY vC vD vO : Value}

theorem kt_ne {i j t : Nat} (h : j ≠ t) : kt i j ≠ kt i t := by unfold kt; omega
/-- Only the block with the mark j has turned: the rows with other marks stand. -/
theorem Row.mark {v : Value} {e c n j t : Nat} {xs : List Value} (h : Row w v e c n xs) (ht : Tg own v (id, kt i t)) (hW : ∀ x, x < w.heap.size → own x ≠ (id, kt i j) → W.heap[x]? = w.heap[x]?) (hne : t ≠ j) : Row W v e c n xs :=
  h.kept ht (fun x hx e => hW x hx (by rw [e]; intro e2; simp only [Prod.mk.injEq, true_and] at e2; exact kt_ne hne e2))

end
end Go.Proofs.Ytinlkcmdbjcofab

/-
  A page goes out.
-/
namespace Go.Proofs.Ytinlkcmdbjcofab
open Go.RowKit
set_option linter.unusedVariables false
attribute [local go_sem ↓] Go.wp_at_zero Go.wp_at_succ

/-- The lengths and bounds of a kept memory. -/
structure KLen (k : KSt) : Prop where
  by_ : k.bytes.length = 64
  inp : k.inp.length ≤ 16
  hnd : k.hnd.length = 16
  chg : k.chg.length = 16
  dty : k.dty.length = 16
  out : k.out.length = 16
  uses : (k.uses.length + 2) * 48 ≤ 140737488355328
  r0 : 0 ≤ k.refills
  r1 : k.refills ≤ k.uses.length
  i0 : 0 ≤ k.ins
  i1 : k.ins ≤ k.uses.length
  o0 : 0 ≤ k.outs
  o1 : k.outs ≤ k.uses.length

def chgB (k : KSt) (page : Nat) : Bool := (k.chg[page]?).getD false
def leaveK (k : KSt) (page : Nat) : KSt :=
  { k with inp := k.inp.filter (fun x => !(x == (page : Int))), outs := if chgB k page then k.outs + 1 else k.outs, out := if chgB k page then k.out.set page true else k.out, chg := k.chg.set page false }
def putK (s : RSt) (env : Nat) (k : KSt) : RSt := { s with kept := s.kept.set env (some k) }
def leavesS (s : RSt) (k : KSt) (env page : Nat) : RSt := goneS (putK s env (leaveK k page)) env page
def leftTo (k : KSt) (page : Nat) (q : Nat) : List Int := (k.inp.take q).filter (fun x => !(x == (page : Int)))
theorem leftTo_succ {k : KSt} {page q : Nat} {x : Int} (h : k.inp[q]? = some x) : leftTo k page (q + 1) = leftTo k page q ++ if x == (page : Int) then [] else [x] := by
  obtain ⟨hq, he⟩ := List.getElem?_eq_some_iff.1 h
  unfold leftTo
  rw [List.take_succ_eq_append_getElem hq, List.filter_append, he]
  cases hx : (x == (page : Int)) <;> simp [hx]
theorem leftTo_le (k : KSt) (page q : Nat) : (leftTo k page q).length ≤ q := by
  unfold leftTo
  have := List.length_filter_le (fun x => !(x == (page : Int))) (k.inp.take q)
  simp at this ⊢
  omega

section
variable {own : Nat → Nat × Nat} {id : Nat} {w : World} {m : Nat} {s : RSt} {nk : Nat} {vR vB vS vA vK : Value} {bs : List Nat} {k : KSt}

/-- Marks for a new list. -/
theorem mark_new {w0 w1 : World} {v : Value} {t : Nat × Nat} {n : Nat} (own : Nat → Nat × Nat) (hn : ∀ x, v.ownBlock = some x → n ≤ x) : ∃ own' : Nat → Nat × Nat, (∀ x, x < n → own' x = own x) ∧ Tg own' v t :=
  ⟨fun x => if v.ownBlock = some x then t else own x, fun x hx => if_neg (fun e => by have := hn x e; omega), fun x hx => if_pos hx⟩

end
end Go.Proofs.Ytinlkcmdbjcofab

/-
  Counts, Dirty, Clean.
-/
namespace Go.Proofs.Ytinlkcmdbjcofab
open Go.RowKit
set_option linter.unusedVariables false
attribute [local go_sem ↓] Go.wp_at_zero Go.wp_at_succ

/-- The kept memory that a call names; its error. -/
theorem heldE_cases (s : RSt) (env : Int) : (∃ y, heldE s env = y ∧ (y = 2 ∨ y = 5)) ∨ (∃ (j : Nat) (k : KSt), heldE s env = 0 ∧ env = j ∧ j < s.ne ∧ keptO s j = some k) := by
  unfold heldE
  cases ha : aliveB s env with
  | false => exact .inl ⟨2, by simp, .inl rfl⟩
  | true =>
    cases hk : keptB s env with
    | false => exact .inl ⟨5, by simp, .inr rfl⟩
    | true =>
      obtain ⟨j, rfl, hj⟩ := aliveB_nat ha
      obtain ⟨k, hk2⟩ := Option.isSome_iff_exists.1 hk
      exact .inr ⟨j, k, by simp, rfl, hj, hk2⟩
def countsR (s : RSt) (env : Int) : (Int × Int × Int × Int) × Int := if heldE s env ≠ 0 then ((0, 0, 0, 0), heldE s env) else match keptO s env with
  | none => ((0, 0, 0, 0), 0)
  | some k => ((k.refills, k.ins, k.outs, (k.inp.length : Int)), 0)

section
variable {own : Nat → Nat × Nat} {id : Nat} {w : World} {m : Nat} {s : RSt} {nk : Nat} {vR vB vS vA vK : Value} {bs : List Nat} {k : KSt}

def cleanR (s : RSt) (env : Int) : Int × RSt := if heldE s env ≠ 0 then (heldE s env, s) else match keptO s env with
  | none => (0, s)
  | some k => (0, putK s env.toNat { k with dty := List.replicate 16 false })
def clTo (k : KSt) (q : Nat) : List Bool := List.replicate q false ++ k.dty.drop q
theorem clTo_len (k : KSt) (hl : k.dty.length = 16) {q : Nat} (hq : q ≤ 16) : (clTo k q).length = 16 := by simp [clTo]; omega
theorem clTo_set (k : KSt) (hl : k.dty.length = 16) {q : Nat} (hq : q < 16) : (clTo k q).set q false = clTo k (q + 1) := by
  apply List.ext_getElem?
  intro i
  unfold clTo
  rw [List.getElem?_set]
  simp only [List.getElem?_append, List.length_replicate, List.getElem?_replicate, List.getElem?_drop, List.length_append, List.length_drop, hl]
  by_cases h1 : q = i
  · subst h1
    rw [if_pos rfl, if_pos (by omega), if_pos (by omega), if_pos (by omega)]
  · rw [if_neg h1]
    by_cases h2 : i < q
    · rw [if_pos h2, if_pos h2, if_pos (by omega), if_pos (by omega)]
    · rw [if_neg h2, if_neg (by omega)]
      congr 1; omega

end
end Go.Proofs.Ytinlkcmdbjcofab

/-
  A page comes in.
-/
namespace Go.Proofs.Ytinlkcmdbjcofab
open Go.RowKit
set_option linter.unusedVariables false
attribute [local go_sem ↓] Go.wp_at_zero Go.wp_at_succ

section
variable {own own' : Nat → Nat × Nat} {id i : Nat} {w w1 : World} {b g cap : Nat} {k : KSt} {vB vU vI vY vC vD vO : Value}

end

theorem keptO_put {s : RSt} {env : Nat} {k k' : KSt} (h : keptO s env = some k) : keptO (putK s env k') env = some k' := by
  unfold keptO putK at *
  simp only [Int.toNat_natCast] at *
  cases hx : s.kept[env]? with
  | none => rw [hx] at h; simp at h
  | some x =>
    have := (List.getElem?_eq_some_iff.1 hx).1
    rw [List.getElem?_set_self this]
    rfl

/-- A page that comes in by the right h. -/
def inK (k : KSt) (page : Nat) (h : Int) : KSt := { k with inp := k.inp ++ [(page : Int)], hnd := k.hnd.set page h, ins := if (k.out[page]?).getD false then k.ins + 1 else k.ins }
def comesS (s : RSt) (k : KSt) (env page : Nat) : Option RSt :=
  match (if (k.inp.length : Int) < k.quota then firstS s env else none) with
  | some s1 => some (putK s1 env (inK k page ((s.rights.length : Int) + 1)))
  | none => if 0 < k.inp.length then some (putK (leavesS s k env (pickK k).toNat) env (inK (leaveK k (pickK k).toNat) page ((k.hnd[(pickK k).toNat]?).getD 0))) else none
section
variable {own : Nat → Nat × Nat} {id : Nat} {w : World} {m : Nat} {s : RSt} {nk : Nat} {vR vB vS vA vK : Value} {bs : List Nat} {k : KSt}

end
end Go.Proofs.Ytinlkcmdbjcofab

/-
  Dirty.
-/
namespace Go.Proofs.Ytinlkcmdbjcofab
open Go.RowKit
set_option linter.unusedVariables false
attribute [local go_sem ↓] Go.wp_at_zero Go.wp_at_succ

def dirtyTo (k : KSt) (q : Nat) : List Int := (List.range q).filterMap fun p : Nat => if (k.dty[p]?).getD false then some (p : Int) else none
theorem dirtyTo_succ (k : KSt) (q : Nat) : dirtyTo k (q + 1) = dirtyTo k q ++ if (k.dty[q]?).getD false then [(q : Int)] else [] := by
  unfold dirtyTo
  rw [List.range_succ, List.filterMap_append]
  congr 1
  simp only [List.filterMap_cons, List.filterMap_nil]
  cases (k.dty[q]?).getD false <;> rfl
theorem dirtyTo_le (k : KSt) (q : Nat) : (dirtyTo k q).length ≤ q := by
  unfold dirtyTo
  have := List.length_filterMap_le (fun p : Nat => if (k.dty[p]?).getD false then some (p : Int) else none) (List.range q)
  simpa using this
def dirtyR (s : RSt) (env : Int) : List Int × Int := if heldE s env ≠ 0 then ([], heldE s env) else match keptO s env with
  | none => ([], 0)
  | some k => (dirtyTo k 16, 0)

section
variable {own : Nat → Nat × Nat} {id : Nat} {w : World} {m : Nat} {s : RSt} {nk : Nat} {vR vB vS vA vK : Value} {bs : List Nat} {k : KSt}

end
end Go.Proofs.Ytinlkcmdbjcofab

/-
  An access, Read, Write, Keep, Squeeze: what they do, as plain functions (their walks are still to be written).
-/
namespace Go.Proofs.Ytinlkcmdbjcofab
open Go.RowKit
set_option linter.unusedVariables false

def useK (k : KSt) (page : Nat) (wt : Bool) : KSt := { k with uses := k.uses ++ [((page : Int), wt)] }
/-- The empty slot with the least number; -1, if there is none. -/
def leastEmpty (es : List Ent) : Int := match es.findIdx? (fun e => !e.used) with
  | some i => i
  | none => -1
/-- The slot that an entry goes to, where i is the slot of the one that is there, or -1. -/
def slotFor (s : RSt) (i : Int) : Int × RSt :=
  if 0 ≤ i then (i, s) else if 0 ≤ leastEmpty s.slots then (leastEmpty s.slots, s) else (s.turn, { s with turn := if s.turn + 1 = s.ns then 0 else s.turn + 1 })
def frameOf (s : RSt) (k : KSt) (page : Nat) : Int := ((s.rights[((k.hnd[page]?).getD 0 - 1).toNat]?).map RR.fr).getD 0
def refillS (s : RSt) (k : KSt) (env page : Nat) (wt : Bool) : RSt :=
  putK { (slotFor s (entI s env page)).2 with slots := s.slots.set (slotFor s (entI s env page)).1.toNat ⟨true, env, page, frameOf s k page, wt || chgB k page⟩ } env { k with refills := k.refills + 1 }
def dtyB (k : KSt) (page : Nat) : Bool := (k.dty[page]?).getD false
def markK (k : KSt) (page : Nat) (wt : Bool) : KSt := { k with chg := k.chg.set page (chgB k page || wt), dty := k.dty.set page (dtyB k page || wt) }
/-- Must an entry be put in? -/
def needB (s : RSt) (env page : Nat) (wt : Bool) : Bool := decide (entI s env page < 0) || (wt && !(((s.slots[(entI s env page).toNat]?).map Ent.wr).getD false))
/-- Behind the page has come in (or was in). -/
def touchS (s : RSt) (k : KSt) (env page : Nat) (wt : Bool) : RSt :=
  if needB s env page wt then putK (refillS (putK s env (useK k page wt)) (useK k page wt) env page wt) env (markK { useK k page wt with refills := k.refills + 1 } page wt)
  else putK s env (markK (useK k page wt) page wt)
def accessS (s : RSt) (k : KSt) (env page : Nat) (wt : Bool) : Option RSt :=
  if hasK k page then some (touchS s k env page wt) else match comesS s k env page with
    | none => none
    | some s1 => match keptO s1 env with
      | none => none
      | some k1 => some (touchS s1 k1 env page wt)
def readR (s : RSt) (env a : Int) : (Int × Int) × RSt :=
  if heldE s env ≠ 0 then ((0, heldE s env), s) else if a < 0 ∨ 63 < a then ((0, 6), s) else match keptO s env with
    | none => ((0, 0), s)
    | some k => match accessS s k env.toNat (a / 4).toNat false with
      | none => ((0, 12), s)
      | some s1 => ((((k.bytes[a.toNat]?).getD 0), 0), s1)
def writeR (s : RSt) (env a v : Int) : Int × RSt :=
  if heldE s env ≠ 0 then (heldE s env, s) else if a < 0 ∨ 63 < a ∨ v < 0 ∨ 255 < v then (6, s) else match keptO s env with
    | none => (0, s)
    | some k => match accessS s k env.toNat (a / 4).toNat true with
      | none => (12, s)
      | some s1 => match keptO s1 env with
        | none => (0, s1)
        | some k1 => (0, putK s1 env.toNat { k1 with bytes := k1.bytes.set a.toNat v })
def keepR (s : RSt) (env quota policy : Int) : Int × RSt :=
  if rawE s env ≠ 0 then (rawE s env, s) else if quota < 1 ∨ 16 < quota ∨ policy < 0 ∨ 2 < policy then (6, s) else if 0 < (listR s env).length then (15, s)
  else (0, putK s env.toNat (KSt.new quota policy))
end Go.Proofs.Ytinlkcmdbjcofab
