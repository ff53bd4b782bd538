import Derived.Deep.RegionLaw
import Derived.Test.YtnolplmpanbmhabM01
/-
  What the document's machine keeps to where nobody is kept: its rights, its bytes, its table; each call keeps it.
-/
namespace Go.Proofs.Ytnolplmpanbmhab
open Go.RowKit
set_option linter.unusedVariables false

structure SOk (s : RSt) : Prop where
  inv : RInv s
  fix : RFix s s.ne
  ns : s.slots.length = s.ns
  bys : ∀ (i : Nat) (l : List Int), s.bytes[i]? = some l → l.length = 4 ∧ ∀ (j : Nat) (x : Int), l[j]? = some x → 0 ≤ x ∧ x ≤ 255
  ent : ∀ (i : Nat) (e : Ent), s.slots[i]? = some e → e.used = true → 0 ≤ e.page ∧ e.page ≤ 15 ∧ owned s.rights e.env e.fr e.wr = true
  emp : ∀ (i : Nat) (e : Ent), s.slots[i]? = some e → e.used = false → e = Ent.empty
  uni : ∀ (i j : Nat) (e f : Ent), s.slots[i]? = some e → s.slots[j]? = some f → e.used = true → f.used = true → e.env = f.env → e.page = f.page → i = j

theorem owned_ex {rs : List RR} {env fr : Int} {wt : Bool} : owned rs env fr wt = true ↔ ∃ (i : Nat) (r : RR), rs[i]? = some r ∧ lv rs i = true ∧ r.env = env ∧ r.fr = fr ∧ (wt = true → r.wr = true) := by
  unfold owned
  rw [List.any_eq_true]
  constructor
  · rintro ⟨i, _, h⟩
    unfold ownsB at h
    cases hr : rs[i]? with
    | none => rw [hr] at h; simp at h
    | some r =>
      rw [hr] at h
      simp at h
      refine ⟨i, r, hr, h.1, h.2.1, h.2.2.1, fun hw => ?_⟩
      rcases h.2.2.2 with h | h
      · exact h
      · rw [hw] at h; simp at h
  · rintro ⟨i, r, hr, hl, he, hf, hw⟩
    refine ⟨i, List.mem_range.2 (List.getElem?_eq_some_iff.1 hr).1, ?_⟩
    unfold ownsB
    rw [hr]
    simp only [hl, he, hf, beq_self_eq_true, Bool.true_and]
    cases wt
    · simp
    · simp [hw rfl]
theorem owned_append {rs : List RR} (ho : Ordered rs) (x : RR) {env fr : Int} {wt : Bool} (h : owned rs env fr wt = true) : owned (rs ++ [x]) env fr wt = true := by
  obtain ⟨i, r, hr, hl, h1⟩ := owned_ex.1 h
  have hi := (List.getElem?_eq_some_iff.1 hr).1
  exact owned_ex.2 ⟨i, r, by rw [List.getElem?_append_left hi]; exact hr, by rw [lv_append ho x (by omega)]; exact hl, h1⟩

theorem sok_fresh {a b c : Nat} (ha : a ≤ 16) (hb : b ≤ 8) (hc : c ≤ 4) : SOk (RSt.fresh a b c) := by
  refine ⟨⟨fun i r h => by simp [RSt.fresh] at h, fun i r h => by simp [RSt.fresh] at h, fun i r h => by simp [RSt.fresh] at h, fun i r h => by simp [RSt.fresh] at h⟩,
    ⟨by simp [RSt.fresh], hc, ha, by simp [RSt.fresh], by simpa [RSt.fresh] using hb, rfl⟩, by simp [RSt.fresh], ?_, ?_, ?_, ?_⟩
  · intro i l hl
    simp [RSt.fresh, List.getElem?_replicate] at hl
    obtain ⟨-, rfl⟩ := hl
    refine ⟨rfl, fun j x hx => ?_⟩
    match j, hx with
    | 0, hx => simp at hx; omega
    | 1, hx => simp at hx; omega
    | 2, hx => simp at hx; omega
    | 3, hx => simp at hx; omega
  · intro i e he hu
    simp [RSt.fresh, List.getElem?_replicate] at he
    obtain ⟨-, rfl⟩ := he
    simp [Ent.empty] at hu
  · intro i e he hu
    simp [RSt.fresh, List.getElem?_replicate] at he
    exact he.2.symm
  · intro i j e f he hf hu
    simp [RSt.fresh, List.getElem?_replicate] at he
    obtain ⟨-, rfl⟩ := he
    simp [Ent.empty] at hu

section
variable {s t : RSt}

theorem SOk.sfr (h : SOk s) : SlotFr s := fun i e he hu => by
  obtain ⟨j, r, hr, -, -, hf, -⟩ := owned_ex.1 (h.ent i e he hu).2.2
  have := h.inv.fr j r hr
  omega
theorem SOk.rwf (h : SOk s) (hN : (s.rights.length + 1) * 48 ≤ 140737488355328) : RWf s s.ne := ⟨h.inv.ord, h.fix.al, h.fix.ne, h.fix.nf, h.fix.by_, h.fix.sl, rfl, hN⟩

/-- More rights; the table as it was. -/
theorem SOk.more (h : SOk s) (hI : RInv t) (hg : Grows s t) (hns : t.ns = s.ns) (hs : t.slots = s.slots) (ho : ∀ env fr wt, owned s.rights env fr wt = true → owned t.rights env fr wt = true)
    (hb : ∀ (i : Nat) (l : List Int), t.bytes[i]? = some l → l.length = 4 ∧ ∀ (j : Nat) (x : Int), l[j]? = some x → 0 ≤ x ∧ x ≤ 255) : SOk t := by
  obtain ⟨g1, g2, g3, g4, g5, g6⟩ := hg
  refine ⟨hI, by rw [g2]; exact h.fix.of g1 g2 g3 g4 g5, by rw [hs, hns]; exact h.ns, hb, ?_, ?_, ?_⟩
  · intro i e he hu
    rw [hs] at he
    obtain ⟨a, b, c⟩ := h.ent i e he hu
    exact ⟨a, b, ho _ _ _ c⟩
  · intro i e he hu
    rw [hs] at he
    exact h.emp i e he hu
  · intro i j e f he hf
    rw [hs] at he hf
    exact h.uni i j e f he hf

/-- Rights have ended, and the table is swept. -/
theorem SOk.swept (h : SOk s) (hI : RInv (sweepS t)) (hg : Grows s (sweepS t)) (e1 : t.slots = s.slots) (e2 : t.bytes = s.bytes) (e3 : t.ns = s.ns) : SOk (sweepS t) := by
  obtain ⟨g1, g2, g3, g4, g5, g6⟩ := hg
  have key : ∀ (i : Nat) (e : Ent), (sweepS t).slots[i]? = some e → (e.used = true → s.slots[i]? = some e ∧ owned t.rights e.env e.fr e.wr = true) ∧ (e.used = false → e = Ent.empty) := by
    intro i e he
    simp only [sweepS, e1, List.getElem?_map] at he
    cases hx : s.slots[i]? with
    | none => rw [hx] at he; simp at he
    | some x =>
      rw [hx] at he
      simp only [Option.map_some, Option.some.injEq] at he
      cases hc : (x.used && !owned t.rights x.env x.fr x.wr)
      · rw [hc] at he
        simp only [Bool.false_eq_true, if_false] at he
        subst he
        refine ⟨fun hu => ⟨rfl, ?_⟩, fun hu => h.emp i x hx hu⟩
        rw [hu] at hc
        simpa using hc
      · rw [hc] at he
        simp only [if_true] at he
        subst he
        exact ⟨fun hu => by simp [Ent.empty] at hu, fun _ => rfl⟩
  refine ⟨hI, by rw [g2]; exact h.fix.of g1 g2 g3 g4 g5, ?_, ?_, ?_, ?_, ?_⟩
  · rw [g5]; show s.slots.length = t.ns; rw [e3]; exact h.ns
  · show ∀ (i : Nat) (l : List Int), t.bytes[i]? = some l → _
    rw [e2]; exact h.bys
  · intro i e he hu
    obtain ⟨a, b⟩ := (key i e he).1 hu
    obtain ⟨c, d, _⟩ := h.ent i e a hu
    exact ⟨c, d, b⟩
  · intro i e he hu
    exact (key i e he).2 hu
  · intro i j e f he hf hu hv
    exact h.uni i j e f ((key i e he).1 hu).1 ((key j f hf).1 hv).1 hu hv

theorem SOk.alloc (h : SOk s) (env : Int) : SOk (allocR s env).2 := by
  have hg := allocR_grows (s := s) env
  unfold allocR at hg ⊢
  rcases rawE_cases s env with ⟨hr, ha⟩ | ⟨hr, ha⟩
  · rw [hr]; exact h
  · rw [hr] at hg ⊢
    simp only [ne_eq, not_true_eq_false, if_false] at hg ⊢
    unfold firstS at hg ⊢
    cases hl : leastFree s with
    | none => exact h
    | some f =>
      rw [hl] at hg
      simp only at hg ⊢
      by_cases hc : cnt s.rights < 32
      · rw [if_pos hc] at hg ⊢
        have hfl := leastFree_lt hl
        refine h.more (RInv.add (s := { s with bytes := s.bytes.set f [0, 0, 0, 0] }) ⟨h.inv.ord, h.inv.hnd, h.inv.env, h.inv.fr⟩ (aliveB_range ha) ⟨by omega, by show (f : Int) < s.nf; omega⟩ (by omega) (by show (-1 : Int) < s.rights.length; omega)) hg rfl rfl (fun _ _ _ => owned_append h.inv.ord _) ?_
        intro i l hli
        simp only [addR] at hli
        rw [List.getElem?_set] at hli
        split at hli
        · split at hli
          · simp at hli
            subst hli
            refine ⟨rfl, fun j x hx => ?_⟩
            match j, hx with
            | 0, hx => simp at hx; omega
            | 1, hx => simp at hx; omega
            | 2, hx => simp at hx; omega
            | 3, hx => simp at hx; omega
          · simp at hli
        · exact h.bys i l hli
      · rw [if_neg hc]; exact h

theorem SOk.derive (h : SOk s) (env hd te : Int) (wt : Bool) : SOk (deriveR s env hd te wt).2 := by
  have hg := deriveR_grows (s := s) env hd te wt
  unfold deriveR at hg ⊢
  rcases rightE_cases s env hd with ⟨x, h1, h3⟩ | ⟨j, r, h1, hrr, hd1, he, hl, hal⟩
  · have : x ≠ 0 := by omega
    rw [h1]
    simpa [this] using h
  · have hj := (List.getElem?_eq_some_iff.1 hrr).1
    rw [h1] at hg ⊢
    simp only [ne_eq, not_true_eq_false, if_false, Int.toNat_natCast, hrr] at hg ⊢
    rcases rawE_cases s te with ⟨ht, _⟩ | ⟨ht, hat⟩
    · rw [ht]; simpa using h
    · rw [ht] at hg ⊢
      simp only [not_true_eq_false, if_false] at hg ⊢
      cases hq : (wt && !r.wr) with
      | true => exact h
      | false =>
        rw [hq] at hg
        simp only [Bool.false_eq_true, if_false] at hg ⊢
        by_cases hc : 32 ≤ cnt s.rights
        · rw [if_pos hc]; exact h
        · rw [if_neg hc] at hg ⊢
          exact h.more (h.inv.add (aliveB_range hat) (h.inv.fr j r hrr) (by omega) (by omega)) hg rfl rfl (fun _ _ _ => owned_append h.inv.ord _) h.bys

theorem SOk.revoke (h : SOk s) (env hd : Int) : SOk (revokeR s env hd).2 := by
  have hg := revokeR_grows (s := s) env hd
  unfold revokeR at hg ⊢
  split
  · exact h
  · rename_i hx
    rw [if_neg hx] at hg
    refine h.swept ?_ hg rfl rfl rfl
    have := h.inv.mark (fun i => (s.rights[i]?.map fun r => r.frm == (rightE s env hd).1).getD false)
    rw [← mark_map] at this
    exact ⟨this.ord, this.hnd, this.env, this.fr⟩
theorem SOk.drop (h : SOk s) (env hd : Int) : SOk (dropR s env hd).2 := by
  have hg := dropR_grows (s := s) env hd
  unfold dropR at hg ⊢
  split
  · exact h
  · rename_i hx
    rw [if_neg hx] at hg
    split
    · exact h
    · rename_i r hr
      rw [hr] at hg
      refine h.swept ?_ hg rfl rfl rfl
      have := h.inv.mark (fun i => i == (rightE s env hd).1.toNat)
      rw [← mark_set _ _ _ hr] at this
      exact ⟨this.ord, this.hnd, this.env, this.fr⟩
theorem SOk.kill (h : SOk s) (env : Int) : SOk (killR s env).2 := by
  have hg := killR_grows (s := s) env
  unfold killR at hg ⊢
  split
  · rename_i hx
    rw [if_pos hx] at hg
    refine h.swept ?_ hg rfl rfl rfl
    have := h.inv.mark (fun i => (s.rights[i]?.map fun r => r.env == env).getD false)
    rw [← mark_map] at this
    exact ⟨this.ord, this.hnd, this.env, this.fr⟩
  · exact h
theorem SOk.spawn (h : SOk s) (env : Int) : SOk (spawnR s env).2 := by
  have hg := spawnR_grows (s := s) env
  unfold spawnR at hg ⊢
  split
  · exact h
  · rename_i h1
    rw [if_neg h1] at hg
    split
    · exact h
    · rename_i h2
      rw [if_neg h2] at hg
      exact h.more ⟨h.inv.ord, h.inv.hnd, h.inv.env, h.inv.fr⟩ hg rfl rfl (fun _ _ _ h => h) h.bys
end
end Go.Proofs.Ytnolplmpanbmhab

/-
  The table's calls keep what the machine keeps to.
-/
namespace Go.Proofs.Ytnolplmpanbmhab
open Go.RowKit
set_option linter.unusedVariables false

section
variable {s t : RSt}

theorem goneS_get (s : RSt) (env page : Int) (i : Nat) : (goneS s env page).slots[i]? = s.slots[i]?.map (goneE env page) := by simp [goneS]
theorem gone_key (h : SOk s) (env page : Int) {i : Nat} {e : Ent} (he : (goneS s env page).slots[i]? = some e) : (e.used = true → s.slots[i]? = some e ∧ ¬ (e.env = env ∧ e.page = page)) ∧ (e.used = false → e = Ent.empty) := by
  rw [goneS_get] at he
  cases hx : s.slots[i]? with
  | none => rw [hx] at he; simp at he
  | some x =>
    rw [hx] at he
    simp only [Option.map_some, Option.some.injEq] at he
    unfold goneE at he
    cases hc : (x.env == env && x.page == page)
    · rw [hc] at he
      simp only [Bool.false_eq_true, if_false] at he
      subst he
      refine ⟨fun _ => ⟨rfl, fun ⟨a, b⟩ => ?_⟩, fun hu => h.emp i x hx hu⟩
      rw [a, b] at hc
      simp at hc
    · rw [hc] at he
      simp only [if_true] at he
      subst he
      exact ⟨fun hu => by simp [Ent.empty] at hu, fun _ => rfl⟩

theorem SOk.gone (h : SOk s) (env page : Int) : SOk (goneS s env page) := by
  refine ⟨⟨h.inv.ord, h.inv.hnd, h.inv.env, h.inv.fr⟩, h.fix.of rfl rfl rfl rfl (by simp [goneS]), by simpa [goneS] using h.ns, h.bys, ?_, ?_, ?_⟩
  · intro i e he hu
    exact h.ent i e ((gone_key h env page he).1 hu).1 hu
  · intro i e he hu
    exact (gone_key h env page he).2 hu
  · intro i j e f he hf hu hv
    exact h.uni i j e f ((gone_key h env page he).1 hu).1 ((gone_key h env page hf).1 hv).1 hu hv

theorem unmapR_grows (env page : Int) : Grows s (unmapR s env page).2 := by
  unfold unmapR
  split
  · exact Grows.refl s
  · split
    · exact Grows.refl s
    · exact ⟨rfl, rfl, rfl, rfl, by simp [goneS], by simp [goneS]⟩
theorem SOk.unmap (h : SOk s) (env page : Int) : SOk (unmapR s env page).2 := by
  unfold unmapR
  split
  · exact h
  · split
    · exact h
    · exact h.gone env page

theorem mapR_grows (env page hd : Int) (wt : Bool) (slot : Int) : Grows s (mapR s env page hd wt slot).2 := by
  unfold mapR
  split
  · exact Grows.refl s
  · split
    · exact Grows.refl s
    · split
      · exact Grows.refl s
      · split
        · exact Grows.refl s
        · split
          · exact Grows.refl s
          · split
            · exact Grows.refl s
            · exact ⟨rfl, rfl, rfl, rfl, by simp [goneS], by simp [goneS]⟩
theorem SOk.map (h : SOk s) (env page hd : Int) (wt : Bool) (slot : Int) : SOk (mapR s env page hd wt slot).2 := by
  unfold mapR
  split
  · exact h
  · split
    · exact h
    · rename_i hp
      rcases rightE_cases s env hd with ⟨x, h1, h3⟩ | ⟨j, r, h1, hrr, hd1, he, hl, hal⟩
      · have : x ≠ 0 := by omega
        rw [h1]
        simpa [this] using h
      · rw [h1]
        simp only [ne_eq, not_true_eq_false, if_false, Int.toNat_natCast, hrr]
        cases hq : (wt && !r.wr) with
        | true => exact h
        | false =>
          simp only [Bool.false_eq_true, if_false]
          split
          · exact h
          · rename_i hsl
            have hg := h.gone env page
            obtain ⟨q, rfl⟩ : ∃ q : Nat, slot = q := ⟨slot.toNat, by omega⟩
            simp only [Int.toNat_natCast]
            have hqs : q < (goneS s env page).slots.length := by have := hg.ns; have : (goneS s env page).ns = s.ns := rfl; omega
            have hget : ∀ (i : Nat) (e : Ent), ((goneS s env page).slots.set q ⟨true, env, page, r.fr, wt⟩)[i]? = some e → (i = q ∧ e = ⟨true, env, page, r.fr, wt⟩) ∨ (i ≠ q ∧ (goneS s env page).slots[i]? = some e) := by
              intro i e hx
              rw [List.getElem?_set] at hx
              split at hx
              · rename_i hqi
                simp at hx; exact .inl ⟨hqi.symm, hx.symm⟩
              · rename_i hqi
                exact .inr ⟨fun e => hqi e.symm, hx⟩
            refine ⟨⟨h.inv.ord, h.inv.hnd, h.inv.env, h.inv.fr⟩, hg.fix.of rfl rfl rfl rfl (by simp), by rw [List.length_set]; exact hg.ns, h.bys, ?_, ?_, ?_⟩
            · intro i e hx hu
              rcases hget i e hx with ⟨-, rfl⟩ | ⟨-, hx⟩
              · refine ⟨by show 0 ≤ page; omega, by show page ≤ 15; omega, owned_ex.2 ⟨j, r, hrr, hl, he, rfl, fun hw => ?_⟩⟩
                have hw' : wt = true := hw
                rw [hw'] at hq
                simpa using hq
              · exact hg.ent i e hx hu
            · intro i e hx hu
              rcases hget i e hx with ⟨-, rfl⟩ | ⟨-, hx⟩
              · simp at hu
              · exact hg.emp i e hx hu
            · intro i i2 e f hx hy hu hv e1 e2
              rcases hget i e hx with ⟨hi, rfl⟩ | ⟨hi, hx⟩ <;> rcases hget i2 f hy with ⟨hi2, rfl⟩ | ⟨hi2, hy⟩
              · omega
              · exact absurd ⟨e1.symm, e2.symm⟩ ((gone_key h env page hy).1 hv).2
              · exact absurd ⟨e1, e2⟩ ((gone_key h env page hx).1 hu).2
              · exact hg.uni i i2 e f hx hy hu hv e1 e2

theorem storeR_grows (env page a v : Int) : Grows s (storeR s env page a v).2 := by
  unfold storeR
  split
  · exact Grows.refl s
  · split
    · exact Grows.refl s
    · split
      · exact Grows.refl s
      · split
        · exact Grows.refl s
        · split
          · exact Grows.refl s
          · split
            · exact Grows.refl s
            · split
              · exact Grows.refl s
              · exact ⟨rfl, rfl, rfl, by simp [putByte], rfl, by simp [putByte]⟩
theorem SOk.store (h : SOk s) (env page a v : Int) : SOk (storeR s env page a v).2 := by
  have hg := storeR_grows (s := s) env page a v
  unfold storeR at hg ⊢
  split
  · exact h
  · rename_i c1
    rw [if_neg c1] at hg
    split
    · exact h
    · rename_i c2
      rw [if_neg c2] at hg
      split
      · exact h
      · rename_i c3
        rw [if_neg c3] at hg
        split
        · exact h
        · rename_i c4
          rw [if_neg c4] at hg
          split
          · exact h
          · rename_i c5
            rw [if_neg c5] at hg
            split
            · exact h
            · rename_i e he
              rw [he] at hg
              simp only at hg
              split
              · exact h
              · rename_i c6
                rw [if_neg c6] at hg
                refine h.more ⟨h.inv.ord, h.inv.hnd, h.inv.env, h.inv.fr⟩ hg rfl rfl (fun _ _ _ h => h) ?_
                intro i l hl
                simp only [putByte] at hl
                rw [List.getElem?_set] at hl
                split at hl
                · rename_i hi
                  split at hl
                  · rename_i hlt
                    simp at hl
                    subst hl
                    obtain ⟨l0, hl0⟩ : ∃ l0, s.bytes[e.fr.toNat]? = some l0 := ⟨s.bytes[e.fr.toNat], by simp⟩
                    rw [hl0]
                    simp only [Option.getD_some, List.length_set]
                    refine ⟨(h.bys _ l0 hl0).1, fun j x hx => ?_⟩
                    rw [List.getElem?_set] at hx
                    split at hx
                    · split at hx
                      · simp at hx; omega
                      · simp at hx
                    · exact (h.bys _ l0 hl0).2 j x hx
                  · simp at hl
                · exact h.bys i l hl
end
end Go.Proofs.Ytnolplmpanbmhab

/-
  What a machine of the program must answer, said of a document's machine that it stands for: M own id w p s: the machine at p stands for s; its blocks bear id.
-/
namespace Go.Proofs.Ytnolplmpanbmhab
open Go.RowKit
set_option linter.unusedVariables false

def MT : Type := (Nat → Nat × Nat) → Nat → World → Nat → RSt → Prop
def MNext (M : MT) (own : Nat → Nat × Nat) (id : Nat) (w : World) (p : Nat) (w' : World) (s' : RSt) : Prop :=
  ∃ own' : Nat → Nat × Nat, M own' id w' p s' ∧ (∀ b, b < w.heap.size → own' b = own b) ∧ Touch w.heap.size (fun b => (own b).1 = id) w w'
def I64 (n : Int) : Prop := -9223372036854775808 ≤ n ∧ n ≤ 9223372036854775807
def Few (s : RSt) : Prop := (s.rights.length + 2) * 48 ≤ 140737488355328

structure Api (M : MT) : Prop where
  of : ∀ {own own' : Nat → Nat × Nat} {id : Nat} {w w' : World} {p : Nat} {s : RSt}, M own id w p s → (∀ b, b < w.heap.size → own' b = own b) → (∀ b, b < w.heap.size → (own b).1 = id → w'.heap[b]? = w.heap[b]?) → M own' id w' p s
  retag : ∀ {own own' : Nat → Nat × Nat} {id : Nat} {w : World} {p : Nat} {s : RSt}, M own id w p s → (∀ b, b < w.heap.size → (own b).1 = id → own' b = own b) → M own' id w p s
  new_no : ∀ (a b c : Int) (w : World), mayB a b c = false →
    Calls Try.prog 18 #[.agg #[.int .i64 a, .int .i64 b, .int .i64 c]] w fun e w' => e = .returned (.tuple #[.pointer none, .int .i64 1]) ∧ Below w.heap.size w w'
  new_yes : ∀ (a b c : Nat) (w : World), mayB a b c = true →
    Calls Try.prog 18 #[.agg #[.int .i64 a, .int .i64 b, .int .i64 c]] w fun e w' => ∃ (p : Nat) (f : Nat → Option Nat), e = .returned (.tuple #[.pointer (some ⟨p, 0, none⟩), .int .i64 0]) ∧ Below w.heap.size w w' ∧
      (∀ b j, f b = some j → w.heap.size ≤ b ∧ b < w'.heap.size) ∧ ∀ (own : Nat → Nat × Nat) (id : Nat), (∀ b j, f b = some j → own b = (id, j)) → M own id w' p (RSt.fresh a b c)
  alloc : ∀ {own : Nat → Nat × Nat} {id : Nat} {w : World} {p : Nat} {s : RSt}, M own id w p s → SOk s → Few s → ∀ (env : Int), I64 env →
    Calls Try.prog 10 #[.pointer (some ⟨p, 0, none⟩), .int .i64 env] w fun e w' => e = .returned (.tuple #[.int .i64 (allocR s env).1.1, .int .i64 (allocR s env).1.2]) ∧ MNext M own id w p w' (allocR s env).2
  derive : ∀ {own : Nat → Nat × Nat} {id : Nat} {w : World} {p : Nat} {s : RSt}, M own id w p s → SOk s → Few s → ∀ (env hd te : Int) (wt : Bool), I64 env → I64 hd → I64 te →
    Calls Try.prog 16 #[.pointer (some ⟨p, 0, none⟩), .int .i64 env, .int .i64 hd, .int .i64 te, .bool wt] w fun e w' => e = .returned (.tuple #[.int .i64 (deriveR s env hd te wt).1.1, .int .i64 (deriveR s env hd te wt).1.2]) ∧ MNext M own id w p w' (deriveR s env hd te wt).2
  revoke : ∀ {own : Nat → Nat × Nat} {id : Nat} {w : World} {p : Nat} {s : RSt}, M own id w p s → SOk s → Few s → ∀ (env hd : Int), I64 env → I64 hd →
    Calls Try.prog 17 #[.pointer (some ⟨p, 0, none⟩), .int .i64 env, .int .i64 hd] w fun e w' => e = .returned (.int .i64 (revokeR s env hd).1) ∧ MNext M own id w p w' (revokeR s env hd).2
  drop : ∀ {own : Nat → Nat × Nat} {id : Nat} {w : World} {p : Nat} {s : RSt}, M own id w p s → SOk s → Few s → ∀ (env hd : Int), I64 env → I64 hd →
    Calls Try.prog 43 #[.pointer (some ⟨p, 0, none⟩), .int .i64 env, .int .i64 hd] w fun e w' => e = .returned (.int .i64 (dropR s env hd).1) ∧ MNext M own id w p w' (dropR s env hd).2
  kill : ∀ {own : Nat → Nat × Nat} {id : Nat} {w : World} {p : Nat} {s : RSt}, M own id w p s → SOk s → Few s → ∀ (env : Int), I64 env →
    Calls Try.prog 45 #[.pointer (some ⟨p, 0, none⟩), .int .i64 env] w fun e w' => e = .returned (.int .i64 (killR s env).1) ∧ MNext M own id w p w' (killR s env).2
  spawn : ∀ {own : Nat → Nat × Nat} {id : Nat} {w : World} {p : Nat} {s : RSt}, M own id w p s → SOk s → Few s → ∀ (env : Int), I64 env →
    Calls Try.prog 46 #[.pointer (some ⟨p, 0, none⟩), .int .i64 env] w fun e w' => e = .returned (.int .i64 (spawnR s env).1) ∧ MNext M own id w p w' (spawnR s env).2
  map : ∀ {own : Nat → Nat × Nat} {id : Nat} {w : World} {p : Nat} {s : RSt}, M own id w p s → SOk s → Few s → ∀ (env page hd : Int) (wt : Bool) (slot : Int), I64 env → I64 page → I64 hd → I64 slot →
    Calls Try.prog 13 #[.pointer (some ⟨p, 0, none⟩), .int .i64 env, .int .i64 page, .int .i64 hd, .bool wt, .int .i64 slot] w fun e w' => e = .returned (.int .i64 (mapR s env page hd wt slot).1) ∧ MNext M own id w p w' (mapR s env page hd wt slot).2
  unmap : ∀ {own : Nat → Nat × Nat} {id : Nat} {w : World} {p : Nat} {s : RSt}, M own id w p s → SOk s → Few s → ∀ (env page : Int), I64 env → I64 page →
    Calls Try.prog 21 #[.pointer (some ⟨p, 0, none⟩), .int .i64 env, .int .i64 page] w fun e w' => e = .returned (.int .i64 (unmapR s env page).1) ∧ MNext M own id w p w' (unmapR s env page).2
  load : ∀ {own : Nat → Nat × Nat} {id : Nat} {w : World} {p : Nat} {s : RSt}, M own id w p s → SOk s → Few s → ∀ (env page a : Int), I64 env → I64 page → I64 a →
    Calls Try.prog 14 #[.pointer (some ⟨p, 0, none⟩), .int .i64 env, .int .i64 page, .int .i64 a] w fun e w' => e = .returned (.tuple #[.int .i64 (loadR s env page a).1, .int .i64 (loadR s env page a).2]) ∧ MNext M own id w p w' s
  store : ∀ {own : Nat → Nat × Nat} {id : Nat} {w : World} {p : Nat} {s : RSt}, M own id w p s → SOk s → Few s → ∀ (env page a v : Int), I64 env → I64 page → I64 a → I64 v →
    Calls Try.prog 15 #[.pointer (some ⟨p, 0, none⟩), .int .i64 env, .int .i64 page, .int .i64 a, .int .i64 v] w fun e w' => e = .returned (.int .i64 (storeR s env page a v).1) ∧ MNext M own id w p w' (storeR s env page a v).2

section
variable {M : MT} {own own' : Nat → Nat × Nat} {id : Nat} {w w' : World} {p : Nat} {s s' : RSt}
theorem Api.below (A : Api M) (h : M own id w p s) (hb : Below w.heap.size w w') : M own id w' p s := A.of h (fun _ _ => rfl) (fun b hl _ => hb.block b hl)
theorem MNext.of_below (A : Api M) (h : M own id w p s) (hb : Below w.heap.size w w') : MNext M own id w p w' s := ⟨own, A.below h hb, fun _ _ => rfl, Touch.of_below hb _⟩
end
end Go.Proofs.Ytnolplmpanbmhab

/-
  The program's store of rights: package rights.
-/
namespace Go.Proofs.Ytnolplmpanbmhab
open Go.RowKit
set_option linter.unusedVariables false

/-- A right that is alive. -/
structure PH where
  h : Int
  env : Int
  fr : Int
  wr : Bool
  par : Int

def PH.cells (x : PH) : List Value := [.int .i64 x.h, .int .i64 x.env, .int .i64 x.fr, .bool x.wr, .int .i64 x.par]
def PH.rc (x : PH) : List Value := [.int .i64 x.h, .int .i64 x.env, .int .i64 x.fr, .bool x.wr]

/-- The store at ⟨b, o⟩ of a block whose cells are cs: its list of rights, the last handle. -/
structure StoreAt (own : Nat → Nat × Nat) (t : Nat × Nat) (w : World) (b o : Nat) (T : TypeId) (cs : List Value) (vL : Value) (hs : List PH) (last : Int) : Prop where
  blk : Blk w b cs T
  c0 : cs[o]? = some vL
  c1 : cs[o + 1]? = some (.int .i64 last)
  row : Row w vL 89 5 hs.length (hs.flatMap PH.cells)
  tag : Tg own vL t
  ne : own b ≠ t

section
variable {own : Nat → Nat × Nat} {t : Nat × Nat} {w : World} {b o : Nat} {T : TypeId} {cs : List Value} {vL : Value} {hs : List PH} {last : Int}

theorem StoreAt.of {own' : Nat → Nat × Nat} {w' : World} (h : StoreAt own t w b o T cs vL hs last) (ho : ∀ x, x < w.heap.size → own' x = own x) (hb : w'.heap[b]? = w.heap[b]?) (hr : ∀ x, x < w.heap.size → own x = t → w'.heap[x]? = w.heap[x]?) : StoreAt own' t w' b o T cs vL hs last :=
  ⟨h.blk.of hb, h.c0, h.c1, h.row.kept h.tag hr, h.tag.congr h.row ho, by rw [ho b h.blk.lt]; exact h.ne⟩
theorem StoreAt.below {w' : World} (h : StoreAt own t w b o T cs vL hs last) (hb : Below w.heap.size w w') : StoreAt own t w' b o T cs vL hs last :=
  h.of (fun _ _ => rfl) (hb.block b h.blk.lt) (fun x hx _ => hb.block x hx)

theorem StoreAt.held (h : StoreAt own t w b o T cs vL hs last) {i : Nat} {x : PH} (hx : hs[i]? = some x) :
    ∃ g cap, vL = .slice (some ⟨g, 0, none⟩) hs.length cap ∧ own g = t ∧ w.cell? ⟨g, i * 5, none⟩ = some (.int .i64 x.h) ∧ w.cell? ⟨g, i * 5 + 1, none⟩ = some (.int .i64 x.env) ∧ w.cell? ⟨g, i * 5 + 2, none⟩ = some (.int .i64 x.fr) ∧
      w.cell? ⟨g, i * 5 + 3, none⟩ = some (.bool x.wr) ∧ w.cell? ⟨g, i * 5 + 4, none⟩ = some (.int .i64 x.par) := by
  have hi := (List.getElem?_eq_some_iff.1 hx).1
  obtain ⟨g, cap, hv, hc, hf⟩ := h.row.form (by omega)
  have hy : ∀ j, j < 5 → w.cell? ⟨g, i * 5 + j, none⟩ = x.cells[j]? := fun j hj => by
    rw [hc _ (by omega), flat_get PH.cells 5 (fun _ => rfl) _ _ j _ hx hj]
  exact ⟨g, cap, hv, h.tag g (by rw [hv]; rfl), hy 0 (by omega), hy 1 (by omega), hy 2 (by omega), hy 3 (by omega), hy 4 (by omega)⟩

/-- The list's shape: empty, or somewhere. -/
theorem StoreAt.shape (h : StoreAt own t w b o T cs vL hs last) : ∃ ao cap, vL = .slice ao hs.length cap ∧ (hs.length = 0 ∨ ∃ g, ao = some ⟨g, 0, none⟩) := by
  obtain ⟨ao, cap, g, hv, hao, _⟩ := h.row.view
  refine ⟨ao, cap, hv, ?_⟩
  rcases Nat.eq_zero_or_pos hs.length with h0 | h0
  · exact .inl h0
  · exact .inr ⟨g, hao h0⟩
theorem StoreAt.heldAt {g cap : Nat} (h : StoreAt own t w b o T cs vL hs last) (hv : vL = .slice (some ⟨g, 0, none⟩) hs.length cap) {i : Nat} {x : PH} (hx : hs[i]? = some x) :
    w.cell? ⟨g, i * 5, none⟩ = some (.int .i64 x.h) ∧ w.cell? ⟨g, i * 5 + 1, none⟩ = some (.int .i64 x.env) ∧ w.cell? ⟨g, i * 5 + 2, none⟩ = some (.int .i64 x.fr) ∧
      w.cell? ⟨g, i * 5 + 3, none⟩ = some (.bool x.wr) ∧ w.cell? ⟨g, i * 5 + 4, none⟩ = some (.int .i64 x.par) := by
  obtain ⟨g', cap', hv', _, h0, h1, h2, h3, h4⟩ := h.held hx
  rw [hv] at hv'
  simp at hv'
  obtain ⟨rfl, _⟩ := hv'
  exact ⟨h0, h1, h2, h3, h4⟩

set_option maxHeartbeats 1000000 in
set_option maxRecDepth 100000 in
theorem full_any (h : StoreAt own t w b o T cs vL hs last) (hm : hs.length ≤ 4611686018427387904) :
    Calls Try.prog 25 #[.pointer (some ⟨b, o, none⟩)] w fun e w' => e = .returned (.bool (decide (32 ≤ hs.length))) ∧ w' = w := by
  have k0 := (h.blk.cell o).trans h.c0
  obtain ⟨ao, cap, g, hv, _⟩ := h.row.view
  rw [hv] at k0
  clear hv
  go_enter Try.func25, Try.ntmps25
  go_wp2_with fail
  go_ret
  exact ⟨ret_bool (by rw [Bool.eq_iff_iff]; simp; omega), rfl⟩

def freeP (hs : List PH) (f : Int) : Bool := hs.all fun x => !(x.fr == f)

set_option maxHeartbeats 1000000 in
set_option maxRecDepth 100000 in
theorem pfree_any (h : StoreAt own t w b o T cs vL hs last) (hm : hs.length ≤ 4611686018427387904) (f : Int) :
    Calls Try.prog 48 #[.pointer (some ⟨b, o, none⟩), .int .i64 f] w fun e w' => e = .returned (.bool (freeP hs f)) ∧ Below w.heap.size w w' := by
  have k0 := (h.blk.cell o).trans h.c0
  obtain ⟨ao, cap, hv, hcase⟩ := h.shape
  rw [hv] at k0
  have Hv : Hid (vL = .slice ao hs.length cap) := hv
  clear hv
  rcases hcase with h0 | ⟨g, rfl⟩
  all_goals
    go_enter Try.func48, Try.ntmps48
    go_wp2_with fail
    go_loopg [12] hs.length (fun k x wr => ∃ q : Nat, x = .int .i64 q ∧ q + k = hs.length ∧ (∀ i y, i < q → hs[i]? = some y → (y.fr == f) = false) ∧ Below w.heap.size w wr)
    case atStart => exact ⟨0, rfl, by omega, fun i y hi _ => by omega, Below.refl _ _⟩
    case round =>
      obtain ⟨q, rfl, hk, hno, hbl⟩ := hrel
      have HK : Hid (q + gk = hs.length) := hk
      have HN : Hid (∀ i y, i < q → hs[i]? = some y → (y.fr == f) = false) := hno
      have hq : q ≤ hs.length := by omega
      clear hk hno
      by_cases hlt : q < hs.length
      · first
        | (exfalso; omega; done)
        | (obtain ⟨x, hx⟩ : ∃ x, hs[q]? = some x := ⟨hs[q], by simp⟩
           obtain ⟨c0, c1, c2, c3, c4⟩ := (h.below hbl).heldAt Hv.out hx
           cases he : (x.fr == f)
           · have HX : Hid (hs[q]? = some x) := hx
             clear hx
             go_wp2_with fail
             go_roundg (gk - 1)
             case measure => have := HK.out; omega
             case rel => exact ⟨q + 1, by go_num, by have := HK.out; omega, fun i y hi hy => by
               rcases Nat.lt_or_ge i q with h1 | h1
               · exact HN.out i y h1 hy
               · obtain rfl : i = q := by omega
                 rw [HX.out] at hy
                 simp at hy
                 subst hy
                 exact he, hbl.alloc hbl.size _⟩
           · have HF : Hid (freeP hs f = false) := by
               unfold Hid freeP
               rw [List.all_eq_false]
               exact ⟨x, List.mem_of_getElem? hx, by simp [he]⟩
             clear hx
             go_wp2_with fail
             go_ret
             exact ⟨ret_bool HF.out.symm, hbl.alloc hbl.size _⟩)
      · go_wp2_with fail
        go_ret
        exact ⟨ret_bool (by
          unfold freeP
          rw [eq_comm, List.all_eq_true]
          intro x hx
          obtain ⟨i, hi, rfl⟩ := List.getElem_of_mem hx
          rw [HN.out i hs[i] (by omega) (by simp)]; rfl), hbl⟩
end
end Go.Proofs.Ytnolplmpanbmhab

namespace Go.Proofs.Ytnolplmpanbmhab
open Go.RowKit
set_option linter.unusedVariables false

theorem Row.shape {w : World} {v : Value} {e k n : Nat} {xs : List Value} (h : Row w v e k n xs) : ∃ ao cap, v = .slice ao n cap ∧ (n = 0 ∨ ∃ g, ao = some ⟨g, 0, none⟩) := by
  obtain ⟨ao, cap, g, hv, hao, _⟩ := h.view
  refine ⟨ao, cap, hv, ?_⟩
  rcases Nat.eq_zero_or_pos n with h0 | h0
  · exact .inl h0
  · exact .inr ⟨g, hao h0⟩
theorem Row.cellAt {w : World} {e k n g cap : Nat} {xs : List Value} (h : Row w (.slice (some ⟨g, 0, none⟩) n cap) e k n xs) (j : Nat) (hj : j < n * k) : w.cell? ⟨g, j, none⟩ = xs[j]? := World.ownsRow.cellAt h j hj

def hasI (l : List Int) (n : Int) : Bool := l.any fun x => x == n

set_option maxHeartbeats 1000000 in
set_option maxRecDepth 100000 in
theorem has_any {w : World} {v : Value} {l : List Int} (h : Row w v 3 1 l.length (l.map (.int .i64))) (hm : l.length ≤ 4611686018427387904) (n : Int) :
    Calls Try.prog 57 #[v, .int .i64 n] w fun e w' => e = .returned (.bool (hasI l n)) ∧ w' = w := by
  obtain ⟨ao, cap, hv, hcase⟩ := h.shape
  subst hv
  rcases hcase with h0 | ⟨g, rfl⟩
  all_goals
    go_enter Try.func57, Try.ntmps57
    go_wp2_with fail
    go_loopg [9] l.length (fun k x wr => ∃ q : Nat, x = .int .i64 q ∧ q + k = l.length ∧ (∀ i y, i < q → l[i]? = some y → (y == n) = false) ∧ wr = w)
    case atStart => exact ⟨0, rfl, by omega, fun i y hi _ => by omega, rfl⟩
    case round =>
      obtain ⟨q, rfl, hk, hno, rfl⟩ := hrel
      have HK : Hid (q + gk = l.length) := hk
      have HN : Hid (∀ i y, i < q → l[i]? = some y → (y == n) = false) := hno
      have hq : q ≤ l.length := by omega
      clear hk hno
      by_cases hlt : q < l.length
      · first
        | (exfalso; omega; done)
        | (obtain ⟨x, hx⟩ : ∃ x, l[q]? = some x := ⟨l[q], by simp⟩
           have c0 : wr.cell? ⟨g, q, none⟩ = some (.int .i64 x) := by rw [h.cellAt q (by omega), List.getElem?_map, hx]; rfl
           have HX : Hid (l[q]? = some x) := hx
           clear hx
           cases he : (x == n)
           · go_wp2_with fail
             go_roundg (gk - 1)
             case measure => have := HK.out; omega
             case rel => exact ⟨q + 1, by go_num, by have := HK.out; omega, fun i y hi hy => by
               rcases Nat.lt_or_ge i q with h1 | h1
               · exact HN.out i y h1 hy
               · obtain rfl : i = q := by omega
                 rw [HX.out] at hy
                 simp at hy
                 subst hy
                 exact he, rfl⟩
           · have HF : Hid (hasI l n = true) := by
               unfold Hid hasI
               rw [List.any_eq_true]
               exact ⟨x, List.mem_of_getElem? HX.out, he⟩
             go_wp2_with fail
             go_ret
             exact ⟨ret_bool HF.out.symm, rfl⟩)
      · go_wp2_with fail
        go_ret
        exact ⟨ret_bool (by
          unfold hasI
          rw [eq_comm, List.any_eq_false]
          intro x hx
          obtain ⟨i, hi, rfl⟩ := List.getElem_of_mem hx
          rw [HN.out i l[i] (by omega) (by simp)]; simp), rfl⟩

section
variable {own : Nat → Nat × Nat} {t : Nat × Nat} {w : World} {b o : Nat} {T : TypeId} {cs : List Value} {vL : Value} {hs : List PH} {last : Int}

/-- The right that a handle names. -/
def findP (hs : List PH) (env hd : Int) : Option PH := hs.find? fun x => x.h == hd && x.env == env
def findV (x : Option PH) : Value := match x with
  | some x => .tuple #[.agg #[.int .i64 x.h, .int .i64 x.env, .int .i64 x.fr, .bool x.wr], .bool true]
  | none => .tuple #[.agg #[.int .i64 0, .int .i64 0, .int .i64 0, .bool false], .bool false]

theorem findP_take_none {hs : List PH} {env hd : Int} (hno : ∀ i y, i < hs.length → hs[i]? = some y → (y.h == hd && y.env == env) = false) : findP hs env hd = none := by
  unfold findP
  rw [List.find?_eq_none]
  intro x hx
  obtain ⟨i, hi, rfl⟩ := List.getElem_of_mem hx
  rw [hno i hs[i] hi (by simp)]; simp
theorem findP_hit {hs : List PH} {env hd : Int} {q : Nat} {x : PH} (hx : hs[q]? = some x) (hno : ∀ i y, i < q → hs[i]? = some y → (y.h == hd && y.env == env) = false) (hy : (x.h == hd && x.env == env) = true) : findP hs env hd = some x := by
  obtain ⟨hq, he⟩ := List.getElem?_eq_some_iff.1 hx
  unfold findP
  rw [List.find?_eq_some_iff_append]
  refine ⟨hy, hs.take q, hs.drop (q + 1), ?_, ?_⟩
  · conv => lhs; rw [← List.take_append_drop q hs, List.drop_eq_getElem_cons hq, he]
  · intro y hy'
    obtain ⟨i, hi, rfl⟩ := List.getElem_of_mem hy'
    rw [List.length_take] at hi
    rw [List.getElem_take]
    rw [hno i _ (by omega) (List.getElem?_eq_getElem (by omega))]; rfl

set_option maxHeartbeats 2000000 in
set_option maxRecDepth 100000 in
theorem find_any (h : StoreAt own t w b o T cs vL hs last) (hm : hs.length ≤ 4611686018427387904) (env hd : Int) :
    Calls Try.prog 31 #[.pointer (some ⟨b, o, none⟩), .int .i64 env, .int .i64 hd] w fun e w' => e = .returned (findV (findP hs env hd)) ∧ Below w.heap.size w w' := by
  have k0 := (h.blk.cell o).trans h.c0
  obtain ⟨ao, cap, hv, hcase⟩ := h.shape
  rw [hv] at k0
  have hbl0 := h.blk.lt
  have Hv : Hid (vL = .slice ao hs.length cap) := hv
  clear hv
  rcases hcase with h0 | ⟨g, rfl⟩
  all_goals
    go_enter Try.func31, Try.ntmps31
    go_wp2_with fail
    go_loopg [15] hs.length (fun k x wr => ∃ q : Nat, x = .int .i64 q ∧ q + k = hs.length ∧ (∀ i y, i < q → hs[i]? = some y → (y.h == hd && y.env == env) = false) ∧ Below w.heap.size w wr ∧ Blk wr w.heap.size [.int .i64 0, .int .i64 0, .int .i64 0, .bool false] 68)
    case atStart => exact ⟨0, rfl, by omega, fun i y hi _ => by omega, (Below.refl _ _).alloc (Nat.le_refl _) _, Blk.new _ _ _⟩
    case round =>
      obtain ⟨q, rfl, hk, hno, hbl, hrb⟩ := hrel
      have HK : Hid (q + gk = hs.length) := hk
      have HN : Hid (∀ i y, i < q → hs[i]? = some y → (y.h == hd && y.env == env) = false) := hno
      have hq : q ≤ hs.length := by omega
      have hrl := hrb.lt
      have r0 := hrb.cell 0
      have r1 := hrb.cell 1
      have r2 := hrb.cell 2
      have r3 := hrb.cell 3
      simp at r0 r1 r2 r3
      have s0 := hrb.frozen 0
      have s1 := hrb.frozen 1
      have s2 := hrb.frozen 2
      have s3 := hrb.frozen 3
      clear hk hno
      by_cases hlt : q < hs.length
      · first
        | (exfalso; omega; done)
        | (obtain ⟨x, hx⟩ : ∃ x, hs[q]? = some x := ⟨hs[q], by simp⟩
           obtain ⟨c0, c1, c2, c3, c4⟩ := (h.below hbl).heldAt Hv.out hx
           have HX : Hid (hs[q]? = some x) := hx
           clear hx
           have hnext : (x.h == hd && x.env == env) = false → ∀ i y, i < q + 1 → hs[i]? = some y → (y.h == hd && y.env == env) = false := fun hf i y hi hy => by
             rcases Nat.lt_or_ge i q with h1 | h1
             · exact HN.out i y h1 hy
             · obtain rfl : i = q := by omega
               rw [HX.out] at hy
               simp at hy
               subst hy
               exact hf
           have HNX : Hid ((x.h == hd && x.env == env) = false → ∀ i y, i < q + 1 → hs[i]? = some y → (y.h == hd && y.env == env) = false) := hnext
           clear hnext
           cases he : (x.h == hd)
           · go_wp2_with fail
             go_roundg (gk - 1)
             case measure => have := HK.out; omega
             case rel => exact ⟨q + 1, by go_num, by have := HK.out; omega, HNX.out (by simp [he]), hbl.alloc hbl.size _, hrb.alloc _⟩
           · cases hf : (x.env == env)
             · go_wp2_with fail
               go_roundg (gk - 1)
               case measure => have := HK.out; omega
               case rel => exact ⟨q + 1, by go_num, by have := HK.out; omega, HNX.out (by simp [hf]), hbl.alloc hbl.size _, hrb.alloc _⟩
             · have HF : Hid (findP hs env hd = some x) := findP_hit HX.out HN.out (by simp [he, hf])
               clear HNX HN
               go_wp2_with fail
               exact bodyPost_ret (v := .tuple #[.agg #[.int .i64 x.h, .int .i64 x.env, .int .i64 x.fr, .bool x.wr], .bool true]) (by simp [results, Try.results31, go_sem, r0, r1, r2, r3, hrl]) rfl ⟨by rw [HF.out]; rfl, ((((hbl.setCell (by simp) _).setCell (by simp) _).setCell (by simp) _).setCell (by simp) _).alloc (by simpa using hbl.size) _⟩)
      · have HF : Hid (findP hs env hd = none) := findP_take_none (fun i y hi => HN.out i y (by omega))
        go_wp2_with fail
        exact bodyPost_ret (v := .tuple #[.agg #[.int .i64 0, .int .i64 0, .int .i64 0, .bool false], .bool false]) (by simp [results, Try.results31, go_sem, r0, r1, r2, r3]) rfl ⟨by rw [HF.out]; rfl, (((hbl.setCell (by simp) _).setCell (by simp) _).setCell (by simp) _).setCell (by simp) _⟩
end
end Go.Proofs.Ytnolplmpanbmhab

namespace Go.Proofs.Ytnolplmpanbmhab
open Go.RowKit
set_option linter.unusedVariables false
attribute [local go_sem ↓] Go.wp_at_zero Go.wp_at_succ

theorem Try.infoHeld : (Try.prog.info? 89).map (fun i => (i.zero, i.size, i.bytes)) = some (some (.agg #[.int .i64 0, .int .i64 0, .int .i64 0, .bool false, .int .i64 0]), 5, 40) := by kernel_rfl
theorem Try.infoInt : (Try.prog.info? 3).map (fun i => (i.zero, i.size, i.bytes)) = some (some (.int .i64 0), 1, 8) := by kernel_rfl
theorem oneCell_ph (x : PH) : ∀ u ∈ x.cells, u.oneCell' = true := by
  intro u hu; simp [PH.cells] at hu; rcases hu with rfl | rfl | rfl | rfl | rfl <;> rfl
theorem oneCell_rc (x : PH) : ∀ u ∈ x.rc, u.oneCell' = true := by
  intro u hu; simp [PH.rc] at hu; rcases hu with rfl | rfl | rfl | rfl <;> rfl
theorem oneCell_int (n : Int) : ∀ u ∈ [Value.int .i64 n], u.oneCell' = true := by
  intro u hu; simp at hu; subst hu; rfl

section
variable {own : Nat → Nat × Nat} {t : Nat × Nat} {w : World} {b o : Nat} {T : TypeId} {cs : List Value} {vL : Value} {hs : List PH} {last : Int}

/-- The rights of env. -/
def ofP (hs : List PH) (env : Int) : List PH := hs.filter fun x => x.env == env

def ofTo (hs : List PH) (env : Int) (q : Nat) : List PH := (hs.take q).filter fun x => x.env == env

theorem take_filter_succ {hs : List PH} {p : PH → Bool} {q : Nat} {x : PH} (hx : hs[q]? = some x) : (hs.take (q + 1)).filter p = (hs.take q).filter p ++ if p x then [x] else [] := by
  obtain ⟨hq, he⟩ := List.getElem?_eq_some_iff.1 hx
  rw [List.take_succ_eq_append_getElem hq, List.filter_append, he]
  cases hp : p x <;> simp [hp]

/-- A right more. -/
def addP (hs : List PH) (last : Int) (env fr : Int) (wt : Bool) (par : Int) : List PH := hs ++ [⟨last + 1, env, fr, wt, par⟩]

/-- What a call that turns the store leaves. -/
def StoreNext (own : Nat → Nat × Nat) (t : Nat × Nat) (w : World) (b o : Nat) (T : TypeId) (cs : List Value) (vL : Value) (w' : World) (hs' : List PH) (last' : Int) : Prop :=
  ∃ (own' : Nat → Nat × Nat) (vL' : Value), StoreAt own' t w' b o T ((cs.set o vL').set (o + 1) (.int .i64 last')) vL' hs' last' ∧ (∀ x, x < w.heap.size → own' x = own x) ∧ Touch w.heap.size (fun x => x = b ∨ vL.ownBlock = some x) w w'

theorem add_end {W0 w4 : World} {g1 cap1 : Nat} {vL0 : Value} {x : PH} {last' : Int} {o1 : Obj} (h : StoreAt own t w b o T cs vL hs last) (Hv : vL = vL0) (hblk2 : Blk W0 b (cs.set (o + 1) (.int .i64 last')) T) (ht2 : Touch w.heap.size (fun x => x = b ∨ vL.ownBlock = some x) w W0)
    (hown : w4.ownsRow 0 89 5 (.slice (some ⟨g1, 0, none⟩) (hs.length + 1) cap1) (hs.length + 1) (hs.flatMap PH.cells ++ x.cells)) (hgrow : (W0.alloc o1).drew.grownBy w4 vL0.ownBlock) (hat : vL0.ownBlock = some g1 ∨ g1 = W0.heap.size + 1)
    (hw4 : Blk w4 b (cs.set (o + 1) (.int .i64 last')) T) : StoreNext own t w b o T cs vL (w4.setCell ⟨b, o, none⟩ (.slice (some ⟨g1, 0, none⟩) (hs.length + 1) cap1)) (hs ++ [x]) last' := by
  subst Hv
  have hs0 := ht2.size
  have hblt := h.blk.lt
  obtain ⟨ho0, _⟩ := List.getElem?_eq_some_iff.1 h.c0
  obtain ⟨ho1, _⟩ := List.getElem?_eq_some_iff.1 h.c1
  refine ⟨set1 own (W0.heap.size + 1) t, .slice (some ⟨g1, 0, none⟩) (hs.length + 1) cap1, ⟨?_, ?_, ?_, ?_, ?_, ?_⟩, set1_old (by omega), ?_⟩
  · have := hw4.set o (.slice (some ⟨g1, 0, none⟩) (hs.length + 1) cap1)
    rwa [List.set_comm _ _ (by omega)] at this
  · rw [List.getElem?_set_ne (by omega), List.getElem?_set_self ho0]
  · rw [List.getElem?_set_self (by simpa using ho1)]
  · refine Row.other ?_ _ (fun e => ?_)
    · show w4.ownsRow 0 _ _ _ _ _
      simpa using hown
    · simp [Value.ownBlock] at e
      rcases hat with h1 | h1
      · exact h.ne (h.tag b (by rw [h1, e]))
      · omega
  · exact h.tag.app (fun x hx => by have := h.row.lt x hx; omega) hat
  · rw [set1_old (n := w.heap.size) (by omega) b hblt]; exact h.ne
  · exact (((ht2.alloc (by omega) _).drew.grown hgrow (by show w.heap.size ≤ (W0.alloc o1).heap.size; simp; omega) (fun k hk => .inl (.inr hk))).setCell (.inl (.inl rfl)) _)

set_option maxHeartbeats 4000000 in
set_option maxRecDepth 100000 in
theorem add_any (h : StoreAt own t w b o T cs vL hs last) (hm : (hs.length + 1) * 48 ≤ 140737488355328) (hl0 : 0 ≤ last) (hl1 : last ≤ 4611686018427387904) (x0 env fr : Int) (wt : Bool) (par : Int) :
    Calls Try.prog 49 #[.pointer (some ⟨b, o, none⟩), .agg #[.int .i64 x0, .int .i64 env, .int .i64 fr, .bool wt], .int .i64 par] w fun e w' => e = .returned (.int .i64 (last + 1)) ∧ StoreNext own t w b o T cs vL w' (addP hs last env fr wt par) (last + 1) := by
  obtain ⟨i0, hi, hz0, hz1, hz2⟩ := info_parts Try.infoHeld
  have k0 := (h.blk.cell o).trans h.c0
  have k1 := (h.blk.cell (o + 1)).trans h.c1
  have f0 := h.blk.frozen o
  have f1 := h.blk.frozen (o + 1)
  have hblt := h.blk.lt
  obtain ⟨ao, cap, hv, _⟩ := h.shape
  rw [hv] at k0
  have Hv : Hid (vL = .slice ao hs.length cap) := hv
  clear hv
  go_enter Try.func49, Try.ntmps49
  go_wp2_with fail
  have hrow2 : Row ((w.setCell ⟨b, o + 1, none⟩ (.int .i64 (last + 1))).alloc (.cells #[.int .i64 (last + 1), .int .i64 env, .int .i64 fr, .bool wt] 68)) (.slice ao hs.length cap) 89 5 hs.length (hs.flatMap PH.cells) := by
    rw [← Hv.out]
    exact (h.row.other _ (fun e => h.ne (h.tag b e))).alloc _
  have hblk2 : Blk ((w.setCell ⟨b, o + 1, none⟩ (.int .i64 (last + 1))).alloc (.cells #[.int .i64 (last + 1), .int .i64 env, .int .i64 fr, .bool wt] 68)) b (cs.set (o + 1) (.int .i64 (last + 1))) T := (h.blk.set _ _).alloc _
  have hne2 : (Value.slice ao hs.length cap).ownBlock ≠ some b := by rw [← Hv.out]; exact fun e => h.ne (h.tag b e)
  have hlt2 : ∀ x, (Value.slice ao hs.length cap).ownBlock = some x → x < w.heap.size := by rw [← Hv.out]; exact h.row.lt
  have htg2 : Tg own (.slice ao hs.length cap) t := by rw [← Hv.out]; exact h.tag
  have ht2 : Touch w.heap.size (fun x => x = b ∨ vL.ownBlock = some x) w ((w.setCell ⟨b, o + 1, none⟩ (.int .i64 (last + 1))).alloc (.cells #[.int .i64 (last + 1), .int .i64 env, .int .i64 fr, .bool wt] 68)) := ((Touch.refl _ _ _).setCell (.inl (.inl rfl)) _).alloc (by simp) _
  have hbox := Blk.at (w.setCell ⟨b, o + 1, none⟩ (.int .i64 (last + 1))) [.int .i64 (last + 1), .int .i64 env, .int .i64 fr, .bool wt] 68 w.heap.size (by simp)
  have hsz2 : ((w.setCell ⟨b, o + 1, none⟩ (.int .i64 (last + 1))).alloc (.cells #[.int .i64 (last + 1), .int .i64 env, .int .i64 fr, .bool wt] 68)).heap.size = w.heap.size + 1 := by simp
  obtain ⟨W0, hW0⟩ : ∃ W0, (w.setCell ⟨b, o + 1, none⟩ (.int .i64 (last + 1))).alloc (.cells #[.int .i64 (last + 1), .int .i64 env, .int .i64 fr, .bool wt] 68) = W0 := ⟨_, rfl⟩
  have hbox0 : Blk ((w.setCell ⟨b, o + 1, none⟩ (.int .i64 (last + 1))).alloc (.cells #[.int .i64 (last + 1), .int .i64 env, .int .i64 fr, .bool wt] 68)) w.heap.size [.int .i64 (last + 1), .int .i64 env, .int .i64 fr, .bool wt] 68 := hbox
  rw [hW0] at hrow2 hblk2 ht2 hsz2 hbox0 ⊢
  clear hbox hW0
  have c0 : W0.cell? ⟨b, o, none⟩ = some (.slice ao hs.length cap) := by rw [hblk2.cell o, List.getElem?_set_ne (by omega), h.c0, Hv.out]
  have d0 := hbox0.cell 0
  have d1 := hbox0.cell 1
  have d2 := hbox0.cell 2
  have d3 := hbox0.cell 3
  simp at d0 d1 d2 d3
  have e0 := hblk2.frozen o
  have hR3 := (hrow2.alloc (.cells (PH.cells ⟨last + 1, env, fr, wt, par⟩).toArray 89)).drew
  have hN3 := (Blk.new W0 (PH.cells ⟨last + 1, env, fr, wt, par⟩) 89).drew
  have hbW : b < W0.heap.size := by omega
  have hxW : w.heap.size < W0.heap.size := by omega
  have Hsz2 : Hid (W0.heap.size = w.heap.size + 1) := hsz2
  clear k0 k1 f0 f1 hsz2
  go_region_law
    ((refine step_append_lies _ (by rfl) (.tmp 23) (.tmp 27) 54 (by rfl) 0 89 i0 _ 5 40 Try.underlying54 hi hz0 hz1 hz2 rfl (by decide) (.slice ao hs.length cap) hs.length _ (by rfl) hR3 ⟨W0.heap.size, 0, none⟩ 1 1 (PH.cells ⟨last + 1, env, fr, wt, par⟩) (by rfl) rfl (World.news_of_block hN3) (oneCell_ph _) (by omega) (by unfold maxLen; omega) (by omega) (by omega) (W0.heap.size + 1) (by simp) ?_
      intro g1 cap1 w4 hown hgrow hat hlt
      have hw4 := (hblk2.alloc (.cells (PH.cells ⟨last + 1, env, fr, wt, par⟩).toArray 89)).drew.grown hgrow hne2
      have u0 := (hw4.cell o)
      rw [List.getElem?_set_ne (by omega), h.c0, Hv.out] at u0
      have u1 := hw4.frozen o
      have hx4 := (hbox0.alloc (.cells (PH.cells ⟨last + 1, env, fr, wt, par⟩).toArray 89)).drew.grown hgrow (fun e => by have := hlt2 _ e; omega)
      have v0 := hx4.cell 0
      simp at v0))
  all_goals
    go_wp2
    go_ret
    exact ⟨rfl, add_end h Hv.out hblk2 ht2 hown hgrow hat hw4⟩
end
end Go.Proofs.Ytnolplmpanbmhab
