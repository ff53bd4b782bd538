import Derived.Test.YtkonobbhohfjlaaKeep
import Derived.Test.YtkonobbhohfjlaaSim
namespace Go.Proofs.Ytkonobbhohfjlaa
open Go.RowKit
set_option linter.unusedVariables false

/-- What never changes of a document's machine. -/
structure RFix (s : RSt) (nk : Nat) : Prop where
  al : s.alive.length = s.ne
  ne : s.ne ≤ 4
  nf : s.nf ≤ 16
  by_ : s.bytes.length = s.nf
  sl : s.slots.length ≤ 8
  nk : nk = s.ne

section
variable {s s' : RSt} {nk : Nat}

theorem RFix.of (h : RFix s nk) (e1 : s'.nf = s.nf) (e2 : s'.ne = s.ne) (e3 : s'.alive.length = s.alive.length) (e4 : s'.bytes.length = s.bytes.length) (e5 : s'.slots.length = s.slots.length) : RFix s' nk :=
  ⟨by rw [e3, e2]; exact h.al, by rw [e2]; exact h.ne, by rw [e1]; exact h.nf, by rw [e4, e1]; exact h.by_, by rw [e5]; exact h.sl, by rw [e2]; exact h.nk⟩

/-- A step of the document's machine: at most one right more. -/
def Grows (s s' : RSt) : Prop := s'.nf = s.nf ∧ s'.ne = s.ne ∧ s'.alive.length = s.alive.length ∧ s'.bytes.length = s.bytes.length ∧ s'.slots.length = s.slots.length ∧ s'.rights.length ≤ s.rights.length + 1

theorem Grows.refl (s : RSt) : Grows s s := ⟨rfl, rfl, rfl, rfl, rfl, by omega⟩

theorem allocR_grows (env : Int) : Grows s (allocR s env).2 := by
  unfold allocR
  split
  · exact Grows.refl s
  · unfold firstS
    split
    · rename_i h
      split at h
      · split at h
        · injection h with h
          subst h
          exact ⟨rfl, rfl, rfl, by simp [addR], rfl, by simp [addR]⟩
        · exact absurd h (by simp)
      · exact absurd h (by simp)
    · exact Grows.refl s
theorem deriveR_grows (env hd te : Int) (wt : Bool) : Grows s (deriveR s env hd te wt).2 := by
  unfold deriveR
  split
  · exact Grows.refl s
  · split
    · exact Grows.refl s
    · split
      · exact Grows.refl s
      · split
        · exact Grows.refl s
        · split
          · exact Grows.refl s
          · exact ⟨rfl, rfl, rfl, rfl, rfl, by simp [addR]⟩
theorem revokeR_grows (env hd : Int) : Grows s (revokeR s env hd).2 := by
  unfold revokeR
  split
  · exact Grows.refl s
  · exact ⟨rfl, rfl, rfl, rfl, by simp [sweepS, endIf], by simp [sweepS, endIf]⟩
theorem dropR_grows (env hd : Int) : Grows s (dropR s env hd).2 := by
  unfold dropR
  split
  · exact Grows.refl s
  · split
    · exact Grows.refl s
    · exact ⟨rfl, rfl, rfl, rfl, by simp [sweepS], by simp [sweepS]⟩
theorem killR_grows (env : Int) : Grows s (killR s env).2 := by
  unfold killR
  split
  · exact ⟨rfl, rfl, by simp [sweepS, endIf], rfl, by simp [sweepS, endIf], by simp [sweepS, endIf]⟩
  · exact Grows.refl s
theorem spawnR_grows (env : Int) : Grows s (spawnR s env).2 := by
  unfold spawnR
  split
  · exact Grows.refl s
  · split
    · exact Grows.refl s
    · exact ⟨rfl, rfl, by simp, rfl, rfl, by simp⟩
end

theorem live_le (rs : List RR) : (live rs).length ≤ rs.length := by
  rw [live_len]
  unfold cnt cntTo
  have := List.length_filter_le (fun i : Nat => lv rs i) (List.range rs.length)
  simpa using this

/-- A machine of the program and one of the document that are alike. -/
def PairAt (own : Nat → Nat × Nat) (ip ir : Nat) (w : World) (p r N : Nat) : Prop :=
  ∃ (rs : RSt) (ps : PSt) (nk : Nat) (vE vF vL vR vB vS vA vK : Value) (bs : List Nat), PRep own ip w p ps vE vF vL ∧ RefRep own ir w r rs nk vR vB vS vA vK bs ∧ Sim rs ps ∧ RFix rs nk ∧ rs.rights.length ≤ N

section
variable {rs : RSt} {ps : PSt} {nk N : Nat}
theorem RFix.rwf (h : RFix rs nk) (hs : Sim rs ps) (hN : rs.rights.length ≤ N) (hm : (N + 1) * 48 ≤ 140737488355328) : RWf rs nk := ⟨hs.inv.ord, h.al, h.ne, h.nf, h.by_, h.sl, h.nk, by omega⟩
theorem RFix.pwf (h : RFix rs nk) (hs : Sim rs ps) (hN : rs.rights.length ≤ N) (hm : (N + 1) * 48 ≤ 140737488355328) : PWf ps := by
  have h1 := live_le rs.rights
  have h2 := h.ne
  have h3 := h.nf
  refine ⟨?_, ?_, ?_, ?_, ?_⟩
  · rw [hs.al, h.al]; exact h2
  · rw [hs.nf]; exact h3
  · rw [hs.last]; omega
  · rw [hs.last]; omega
  · rw [hs.hs]; omega
end

theorem PRep.retag {own own' : Nat → Nat × Nat} {id : Nat} {w : World} {p : Nat} {s : PSt} {vE vF vL : Value} (h : PRep own id w p s vE vF vL) (ho : ∀ b, b < w.heap.size → (own b).1 = id → own' b = own b) : PRep own' id w p s vE vF vL := by
  have ht : ∀ {v : Value} {e k n : Nat} {xs : List Value} {j : Nat}, Row w v e k n xs → Tg own v (id, j) → Tg own' v (id, j) := fun hr ht b hb => (ho b (hr.lt b hb) (by rw [ht b hb])).trans (ht b hb)
  have hp := ho p h.st.blk.lt (by rw [h.tm])
  obtain ⟨xs, hx⟩ := h.rF
  exact ⟨⟨h.st.blk, h.st.c0, h.st.c1, h.st.row, ht h.st.row h.st.tag, by rw [hp]; exact h.st.ne⟩, h.rE, h.rF, hp.trans h.tm, ht h.rE h.tE, ht hx h.tF⟩
theorem RefRep.retag {own own' : Nat → Nat × Nat} {id : Nat} {w : World} {m : Nat} {s : RSt} {nk : Nat} {vR vB vS vA vK : Value} {bs : List Nat} (h : RefRep own id w m s nk vR vB vS vA vK bs) (ho : ∀ b, b < w.heap.size → (own b).1 = id → own' b = own b) :
    RefRep own' id w m s nk vR vB vS vA vK bs := by
  have ht : ∀ {v : Value} {e k n : Nat} {xs : List Value} {j : Nat}, Row w v e k n xs → Tg own v (id, j) → Tg own' v (id, j) := fun hr ht b hb => (ho b (hr.lt b hb) (by rw [ht b hb])).trans (ht b hb)
  refine ⟨h.blk, h.rR, h.rB, fun i l hl => ?_, h.rS, h.rA, h.rK, (ho m h.blk.lt (by rw [h.tm])).trans h.tm, ht h.rR h.tR, ht h.rB h.tB, ht h.rS h.tS, ht h.rA h.tA, ht h.rK h.tK⟩
  obtain ⟨b, h1, h2, h3, h4⟩ := h.rI i l hl
  exact ⟨b, h1, h2, h3, (ho b h3.lt (by rw [h4])).trans h4⟩
end Go.Proofs.Ytkonobbhohfjlaa
