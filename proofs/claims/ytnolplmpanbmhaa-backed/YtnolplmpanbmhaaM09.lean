import Derived.Test.YtnolplmpanbmhaaM08
/-
  What the statements without the document's answer need, as plain data.
-/
namespace Go.Proofs.Ytnolplmpanbmhaa
open Go.RowKit
set_option linter.unusedVariables false

section
variable {s t : RSt}

theorem rawE_alive {env : Int} (h : aliveB s env = true) : rawE s env = 0 := by unfold rawE; rw [h]; rfl
/-- An environment of which a right is alive is alive. -/
theorem HInv.raw (hH : HInv s) {i : Nat} {r : RR} (hr : s.rights[i]? = some r) (hl : lv s.rights i = true) : rawE s r.env = 0 := rawE_alive (hH.alv i r hr hl)
/-- A right that is alive, named by its environment. -/
theorem rightE_ok (hI : RInv s) (hH : HInv s) {i : Nat} {r : RR} (hr : s.rights[i]? = some r) (hl : lv s.rights i = true) : rightE s r.env (i + 1) = ((i : Int), (0 : Int)) := by
  have hi := (List.getElem?_eq_some_iff.1 hr).1
  have hx := hH.raw hr hl
  unfold rightE
  rw [hx]
  have h1 : (1 : Int) ≤ (i : Int) + 1 ∧ (i : Int) + 1 ≤ s.rights.length := by omega
  have h2 : ((i : Int) + 1 - 1) = i := by omega
  simp only [ne_eq, not_true_eq_false, if_false, if_pos h1, h2, Int.toNat_natCast, hr, hl, if_true]

theorem entI_at (hok : SOk s) {q : Nat} {e : Ent} (he : s.slots[q]? = some e) (hu : e.used = true) : entI s e.env e.page = q := by
  rcases entI_cases s e.env e.page with h | ⟨q2, e2, h, he2, hp2⟩
  · exfalso
    have : s.slots.findIdx? (entP e.env e.page) = none := by
      unfold entI at h
      cases hx : s.slots.findIdx? (entP e.env e.page) with
      | none => rfl
      | some i => rw [hx] at h; simp at h
    rw [List.findIdx?_eq_none_iff] at this
    have := this e (List.mem_of_getElem? he)
    simp [entP, hu] at this
  · simp [entP] at hp2
    have := hok.uni q2 q e2 e he2 he hp2.1 hu hp2.2.1 hp2.2.2
    rw [h, this]

theorem load_at (hok : SOk s) {q : Nat} {e : Ent} (he : s.slots[q]? = some e) (hu : e.used = true) (hr : rawE s e.env = 0) {a : Int} (a0 : 0 ≤ a) (a3 : a ≤ 3) : loadR s e.env e.page a = (byteAt s e.fr a, 0) := by
  obtain ⟨p0, p1, _⟩ := hok.ent q e he hu
  unfold loadR
  rw [hr, if_neg (by simp), if_neg (by omega), if_neg (by omega), entI_at hok he hu, if_neg (by omega)]
  simp only [Int.toNat_natCast, he]
theorem store_at (hok : SOk s) {q : Nat} {e : Ent} (he : s.slots[q]? = some e) (hu : e.used = true) (hw : e.wr = true) (hr : rawE s e.env = 0) {a v : Int} (a0 : 0 ≤ a) (a3 : a ≤ 3) (v0 : 0 ≤ v) (v1 : v ≤ 255) : storeR s e.env e.page a v = (0, putByte s e.fr a v) := by
  obtain ⟨p0, p1, _⟩ := hok.ent q e he hu
  unfold storeR
  rw [hr, if_neg (by simp), if_neg (by omega), if_neg (by omega), if_neg (by omega), entI_at hok he hu, if_neg (by omega)]
  simp only [Int.toNat_natCast, he, hw, Bool.not_true, Bool.false_eq_true, if_false]

theorem byte_put (hok : SOk s) {f : Int} (f0 : 0 ≤ f) (f1 : f < s.nf) {a b v : Int} (a0 : 0 ≤ a) (a3 : a ≤ 3) (b0 : 0 ≤ b) : byteAt (putByte s f a v) f b = if b = a then v else byteAt s f b := by
  have hfl : f.toNat < s.bytes.length := by rw [hok.fix.by_]; omega
  obtain ⟨l, hl⟩ : ∃ l, s.bytes[f.toNat]? = some l := ⟨s.bytes[f.toNat], by simp⟩
  have hl4 := (hok.bys _ l hl).1
  unfold byteAt putByte
  simp only [hl, Option.getD_some, List.getElem?_set_self hfl]
  by_cases hb : b = a
  · subst hb
    rw [if_pos rfl, List.getElem?_set_self (by omega)]
    rfl
  · rw [if_neg hb, List.getElem?_set_ne (by omega)]

/-- Map, where it is done. -/
theorem map_done {env page hd slot : Int} {wt : Bool} {j : Nat} {r : RR} (h0 : rawE s env = 0) (hx : rightE s env hd = ((j : Int), (0 : Int))) (hr : s.rights[j]? = some r) (hw : wt = true → r.wr = true) (p0 : 0 ≤ page) (p1 : page ≤ 15) (q0 : 0 ≤ slot) (q1 : slot < s.ns) (hok : SOk s) :
    ∃ s1, mapR s env page hd wt slot = (0, s1) ∧ s1.slots[slot.toNat]? = some ⟨true, env, page, r.fr, wt⟩ ∧ s1.rights = s.rights ∧ s1.bytes = s.bytes ∧ s1.alive = s.alive ∧ s1.ne = s.ne ∧ s1.nf = s.nf ∧ s1.ns = s.ns := by
  have hq : (wt && !r.wr) = false := by
    cases wt
    · rfl
    · simp [hw rfl]
  refine ⟨{ goneS s env page with slots := (goneS s env page).slots.set slot.toNat ⟨true, env, page, r.fr, wt⟩ }, ?_, ?_, rfl, rfl, rfl, rfl, rfl, rfl⟩
  · unfold mapR
    rw [h0, hx]
    simp only [ne_eq, not_true_eq_false, if_false, Int.toNat_natCast, hr, hq, Bool.false_eq_true]
    rw [if_neg (by omega), if_neg (by omega)]
  · have hl : slot.toNat < (goneS s env page).slots.length := by have := (hok.gone env page).ns; have h3 : (goneS s env page).ns = s.ns := rfl; omega
    simp only [List.getElem?_set_self hl]
end
end Go.Proofs.Ytnolplmpanbmhaa
