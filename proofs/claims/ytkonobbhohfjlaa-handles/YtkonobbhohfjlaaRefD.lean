import Derived.Test.YtkonobbhohfjlaaRefC
namespace Go.Proofs.Ytkonobbhohfjlaa
open Go.RowKit
set_option linter.unusedVariables false

theorem flat_at {α : Type} (f : α → List Value) (k : Nat) (hk : 0 < k) (hf : ∀ x, (f x).length = k) (xs : List α) (p : Nat) : (xs.flatMap f)[p]? = (xs[p / k]?).bind fun x => (f x)[p % k]? := by
  cases hx : xs[p / k]? with
  | none =>
    have h1 : xs.length ≤ p / k := List.getElem?_eq_none_iff.1 hx
    have h2 : xs.length * k ≤ p := Nat.le_trans (Nat.mul_le_mul_right k h1) (Nat.div_mul_le_self p k)
    rw [List.getElem?_eq_none (by rw [flat_length f k hf]; exact h2)]; rfl
  | some x =>
    have h3 : p = p / k * k + p % k := by rw [Nat.mul_comm]; exact (Nat.div_add_mod p k).symm
    show _ = (f x)[p % k]?
    conv => lhs; rw [h3]
    exact flat_get f k hf xs _ _ x hx (Nat.mod_lt _ hk)

section
variable {own : Nat → Nat × Nat} {id : Nat} {w : World} {m : Nat} {s : RSt} {nk : Nat} {vR vB vS vA vK : Value} {bs : List Nat}

theorem RefRep.bsLen (h : RefRep own id w m s nk vR vB vS vA vK bs) : bs.length = s.bytes.length := by have := h.rB.len; simpa using this

/-- A frame's bytes are laid anew. -/
theorem RefRep.setB {g cap : Nat} (h : RefRep own id w m s nk vR vB vS vA vK bs) (hv : vB = .slice (some ⟨g, 0, none⟩) s.bytes.length cap) (f : Nat) (hf : f < s.bytes.length) (l : List Int) (hl : l.length = 4) :
    RefRep (set1 own w.heap.size (id, 6 + f)) id ((w.alloc (.cells (l.map (.int .i64)).toArray 3)).setCell ⟨g, f, none⟩ (sl4 w.heap.size)) m { s with bytes := s.bytes.set f l } nk vR vB vS vA vK (bs.set f w.heap.size) := by
  have hg : own g = (id, 2) := h.tB g (by rw [hv]; rfl)
  have hglt : g < w.heap.size := h.rB.lt g (by rw [hv]; rfl)
  have hW : ∀ b, b < w.heap.size → own b ≠ (id, 2) → ((w.alloc (.cells (l.map (.int .i64)).toArray 3)).setCell ⟨g, f, none⟩ (sl4 w.heap.size)).heap[b]? = w.heap[b]? := by
    intro b hb h2
    rw [Below.heap_setCell _ _ _ _ (fun e => h2 (by simp at e; rw [e]; exact hg)), Below.heap_alloc _ _ _ hb]
  have hW' : ∀ b, b < w.heap.size → own b ≠ (id, 0) → own b ≠ (id, 2) → ((w.alloc (.cells (l.map (.int .i64)).toArray 3)).setCell ⟨g, f, none⟩ (sl4 w.heap.size)).heap[b]? = w.heap[b]? := fun b hb _ h2 => hW b hb h2
  refine h.putB (set1_old (Nat.le_refl _)) hW' (h.blk.of (hW m h.blk.lt (by rw [h.tm]; simp))) ?_ (h.tB.congr h.rB (set1_old (Nat.le_refl _))) ?_
  · have h1 := h.rB.alloc (.cells (l.map (.int .i64)).toArray 3)
    rw [hv] at h1 ⊢
    have h2 := h1.set f (sl4 w.heap.size)
    rw [List.length_set, List.map_set]
    exact h2
  · intro i l' hl'
    by_cases e : i = f
    · subst e
      rw [List.getElem?_set_self hf] at hl'
      simp at hl'
      subst hl'
      refine ⟨w.heap.size, by rw [List.getElem?_set_self (by rw [h.bsLen]; exact hf)], hl, ?_, set1_at _ _ _⟩
      exact (Blk.new w _ _).of (Below.heap_setCell _ _ _ _ (by simp; omega))
    · rw [List.getElem?_set_ne (fun e' => e e'.symm)] at hl'
      obtain ⟨b, h1, h2, h3, h4⟩ := h.rI i l' hl'
      refine ⟨b, by rw [List.getElem?_set_ne (fun e' => e e'.symm)]; exact h1, h2, h3.of (hW b h3.lt (by rw [h4]; simp; omega)), ?_⟩
      rw [set1_old (Nat.le_refl _) b h3.lt]; exact h4

/-- 'first': a first right of env, if one can be made. -/
def firstS (s : RSt) (env : Int) : Option RSt := match leastFree s with
  | some f => if cnt s.rights < 32 then some (addR { s with bytes := s.bytes.set f [0, 0, 0, 0] } env f true (-1)) else none
  | none => none

theorem leastFree_lt {s : RSt} {f : Nat} (h : leastFree s = some f) : f < s.nf := by
  have := List.mem_of_find?_eq_some h
  simpa using this

set_option maxHeartbeats 2000000 in
set_option maxRecDepth 100000 in
theorem first_any (h : RefRep own id w m s nk vR vB vS vA vK bs) (hn : s.ne ≤ 4) (hf : s.nf ≤ 16) (hby : s.bytes.length = s.nf) (ho : Ordered s.rights) (hm : (s.rights.length + 1) * 48 ≤ 140737488355328) (env : Int) :
    Calls Try.prog 90 #[.pointer (some ⟨m, 0, none⟩), .int .i64 env] w fun e w' =>
      (firstS s env = none ∧ e = .returned (.int .i64 0) ∧ RefNext own id w m nk w' s) ∨ ∃ s', firstS s env = some s' ∧ e = .returned (.int .i64 (s.rights.length + 1)) ∧ RefNext own id w m nk w' s' := by
  cases hlf : leastFree s with
  | none =>
    have HF : Hid (freeE s = -1) := by unfold Hid freeE; rw [hlf]
    have HS : Hid (firstS s env = none) := by unfold Hid firstS; rw [hlf]
    clear hlf
    go_enter Try.func90, Try.ntmps90
    go_wp2_with fail
    refine (free_any h hn hf ho (by omega)).mono ?_
    rintro e w2 ⟨rfl, hb2⟩
    rw [HF.out]
    go_wp2_with fail
    refine (count_any (h.below hb2) ho (by omega)).mono ?_
    rintro e w3 ⟨rfl, rfl⟩
    go_wp2_with fail
    go_ret
    exact .inl ⟨HS.out, rfl, RefNext.of_below h hb2⟩
  | some f =>
    have hflt := leastFree_lt hlf
    have HF : Hid (freeE s = f) := by unfold Hid freeE; rw [hlf]
    by_cases hc : cnt s.rights < 32
    · have HS : Hid (firstS s env = some (addR { s with bytes := s.bytes.set f [0, 0, 0, 0] } env f true (-1))) := by unfold Hid firstS; rw [hlf]; simp [hc]
      clear hlf
      have hnf : ¬ (f : Int) < 0 := by omega
      have hnc : ¬ (32 : Int) ≤ (cnt s.rights : Int) := by omega
      go_enter Try.func90, Try.ntmps90
      go_wp2_with fail
      refine (free_any h hn hf ho (by omega)).mono ?_
      rintro e w2 ⟨rfl, hb2⟩
      rw [HF.out]
      have h2 := h.below hb2
      go_wp2_with fail
      refine (count_any h2 ho (by omega)).mono ?_
      rintro e w3 ⟨rfl, rfl⟩
      obtain ⟨g, cap, hv, hcell, hfz⟩ := h2.rB.form (by omega)
      have k4 := h2.blk.cell 4
      simp at k4
      rw [hv] at k4
      obtain ⟨b, hb⟩ : ∃ b, bs[f]? = some b := ⟨bs[f]'(by rw [h2.bsLen]; omega), by simp⟩
      have c0 : w3.cell? ⟨g, f, none⟩ = some (.slice (some ⟨b, 0, none⟩) 4 4) := by rw [hcell _ (by omega), List.getElem?_map, hb]; rfl
      have z0 := hfz f
      have hl : (f : Int) < (s.bytes.length : Int) := by omega
      have hglt : g < w3.heap.size := h2.rB.lt g (by rw [hv]; rfl)
      have hst := h2.setB hv f (by omega) [0, 0, 0, 0] rfl
      rw [World.setCell_alloc_past _ _ _ _ hglt] at hst
      have hgt : own g = (id, 2) := h2.tB g (by rw [hv]; rfl)
      clear hcell hfz hb hv hc
      go_wp2_with fail
      refine (made_any hst (by exact hm) env f true (-1)).mono ?_
      rintro e w4 ⟨rfl, hnx⟩
      go_wp2_with fail
      go_ret
      refine .inr ⟨_, HS.out, rfl, ?_⟩
      obtain ⟨own', vR', vB', vS', vA', vK', bs', hr', ho', ht'⟩ := hnx
      have hsz := hb2.size
      have hs0 : w3.heap.size ≤ ((w3.setCell ⟨g, f, none⟩ (sl4 w3.heap.size)).alloc (.cells (List.map (Value.int .i64) [0, 0, 0, 0]).toArray 3)).heap.size := by simp
      refine ⟨own', vR', vB', vS', vA', vK', bs', hr', fun x hx => ?_, ?_⟩
      · rw [ho' x (by omega), set1_old (Nat.le_refl _) x (by omega)]
      · refine (((Touch.of_below hb2 _).setCell (.inl (by rw [hgt])) _).alloc (by simpa using hsz) _).trans (ht'.mono (by omega) (fun k hk hs => ?_))
        rw [set1_old (n := w3.heap.size) (Nat.le_refl _) k (by omega)] at hs
        exact hs
    · have HS : Hid (firstS s env = none) := by unfold Hid firstS; rw [hlf]; simp [hc]
      clear hlf
      have hnf : ¬ (f : Int) < 0 := by omega
      have hnc : (32 : Int) ≤ (cnt s.rights : Int) := by omega
      go_enter Try.func90, Try.ntmps90
      go_wp2_with fail
      refine (free_any h hn hf ho (by omega)).mono ?_
      rintro e w2 ⟨rfl, hb2⟩
      rw [HF.out]
      go_wp2_with fail
      refine (count_any (h.below hb2) ho (by omega)).mono ?_
      rintro e w3 ⟨rfl, rfl⟩
      clear hc
      go_wp2_with fail
      go_ret
      exact .inl ⟨HS.out, rfl, RefNext.of_below h hb2⟩
end
end Go.Proofs.Ytkonobbhohfjlaa
