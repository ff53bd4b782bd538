import Derived.Test.YtkonobbhohfjlaaGInv
import Derived.Test.YtkonobbhohfjlaaOpenOps
namespace Go.Proofs.Ytkonobbhohfjlaa
open Go.RowKit
set_option linter.unusedVariables false

section
variable {bw i : Nat} {w w' : World} {own : Nat → Nat × Nat} {ps : List (Nat × Nat)} {hbs : List Nat} {vP vH : Value}

/-- A call of the kinds 2 to 8 on machine k. -/
theorem GI.rights (h : GI bw i w own ps hbs vP vH) (hl1 : 1 ≤ ps.length) (o : LOp) (hk1 : 2 ≤ o.K) (hk2 : o.K ≤ 8) (hB : -9223372036854775808 ≤ o.B) (hi : (i + 2) * 48 ≤ 140737488355328) {k p r : Nat} (hk : ps[k]? = some (p, r)) :
    Calls Try.prog 27 #[.pointer (some ⟨bw, 0, none⟩), .agg #[.pointer (some ⟨p, 0, none⟩), .pointer (some ⟨r, 0, none⟩)], .agg #[.int .i64 o.K, .int .i64 o.M, .int .i64 o.A, .int .i64 o.B, .int .i64 o.C, .int .i64 o.D, .bool o.F]] w
      fun e w' => e = .returned (.bool true) ∧ GNext bw i (fun b => (own b).1 ≠ 0) w w' := by
  obtain ⟨rs, pss, nk, vE, vF, vL, vR, vB, vS, vA, vK, bs, h1, h2, h3, h4, h5⟩ := h.pr k p r hk
  have hwp := h4.pwf h3 h5 (by omega)
  have hwr := h4.rwf h3 h5 (by omega)
  have fin : ∀ {rs' : RSt} {pss' : PSt} {w' : World}, PairRes own (3 * k + 2) (3 * k + 3) w w' p r rs' pss' nk → Sim rs' pss' → Grows rs rs' → GNext bw i (fun b => (own b).1 ≠ 0) w w' := fun hn hs ⟨a1, a2, a3, a4, a5, a6⟩ => h.pair hk hn hs (h4.of a1 a2 a3 a4 a5) (by omega)
  have hc : o.K = 2 ∨ o.K = 3 ∨ o.K = 4 ∨ o.K = 5 ∨ o.K = 6 ∨ o.K = 7 ∨ o.K = 8 := by omega
  rcases hc with hc | hc | hc | hc | hc | hc | hc
  · refine (rights_alloc o hc h1 h2 h3 hwp hwr (by omega) h.top (by omega)).mono ?_
    rintro e w' ⟨rfl, hn⟩
    exact ⟨rfl, fin hn (h3.alloc o.A).2 (allocR_grows o.A)⟩
  · refine (rights_derive o hc hB h1 h2 h3 hwp hwr (by omega) h.top (by omega)).mono ?_
    rintro e w' ⟨rfl, hn⟩
    exact ⟨rfl, fin hn (h3.derive o.A o.B o.C o.F).2 (deriveR_grows o.A o.B o.C o.F)⟩
  · refine (rights_revoke o hc hB h1 h2 h3 hwp hwr (by omega) h.top (by omega)).mono ?_
    rintro e w' ⟨rfl, hn⟩
    exact ⟨rfl, fin hn (h3.revoke o.A o.B).2 (revokeR_grows o.A o.B)⟩
  · refine (rights_drop o hc hB h1 h2 h3 hwp hwr (by omega) h.top (by omega)).mono ?_
    rintro e w' ⟨rfl, hn⟩
    exact ⟨rfl, fin hn (h3.drop o.A o.B).2 (dropR_grows o.A o.B)⟩
  · refine (rights_list o hc (ih := 3 * hbs.length + 4) h1 h2 h3 hwp hwr h.top (by omega) h.blk h.rH (by have := h.l3; omega) h.tw h.tH (fun b e => ?_) (by omega) (by omega)).mono ?_
    · rcases h.ids b with h | ⟨k, hk, h⟩ | ⟨j, hj, h⟩ <;> omega
    rintro e w' ⟨rfl, hn⟩
    exact ⟨rfl, h.list hl1 hn⟩
  · refine (rights_kill o hc h1 h2 h3 hwp hwr (by omega) h.top (by omega)).mono ?_
    rintro e w' ⟨rfl, hn⟩
    exact ⟨rfl, fin hn (h3.kill o.A).2 (killR_grows o.A)⟩
  · refine (rights_spawn o hc h1 h2 h3 hwp hwr (by omega) h.top (by omega)).mono ?_
    rintro e w' ⟨rfl, hn⟩
    exact ⟨rfl, fin hn (h3.spawn o.A).2 (spawnR_grows o.A)⟩

theorem GNext.below {S : Nat → Prop} {w1 : World} (hb : Below w.heap.size w w1) (h : GNext bw i S w1 w') : GNext bw i S w w' := by
  obtain ⟨S', h1, h2, h3⟩ := h
  have := hb.size
  exact ⟨S', h1, (Touch.of_below hb _).trans (h2.mono (by omega) (fun _ _ h => h)), fun k hk => (h3 k hk).imp (fun h => h) (by omega)⟩
end

theorem g_playable (w0 : World) (ops : List LOp) (lo hi : Int) (hlen : (ops.length + 2) * 48 ≤ 140737488355328) (hok : ∀ (i : Nat) (o : LOp), ops[i]? = some o → o.ok) : Playable w0 ops lo hi 8 (fun i w S => GInv w0.heap.size i w S ∧ i ≤ ops.length) where
  lt := by
    rintro i w S ⟨⟨own, ps, hbs, vP, vH, h, _, rfl⟩, _⟩ k hk
    exact h.lt k hk
  alloc := by
    rintro i w S o ⟨⟨own, ps, hbs, vP, vH, h, h1, rfl⟩, hi⟩
    exact ⟨⟨own, ps, hbs, vP, vH, h.below ((Below.refl _ _).alloc (Nat.le_refl _) o), h1, rfl⟩, hi⟩
  begins := by
    obtain ⟨own, ho⟩ : ∃ own : Nat → Nat × Nat, own = fun b => if b = w0.heap.size then (1, 0) else (0, 0) := ⟨_, rfl⟩
    have o1 : own w0.heap.size = (1, 0) := by rw [ho]; exact if_pos rfl
    have o2 : ∀ b, b ≠ w0.heap.size → own b = (0, 0) := fun b hb => by rw [ho]; exact if_neg hb
    clear ho
    have hg : GI w0.heap.size 0 (w0.alloc (.cells #[.slice none 0 0, .slice none 0 0] 47)) own [] [] (.slice none 0 0) (.slice none 0 0) :=
      ⟨Blk.new w0 [_, _] _, Row.nil _ _ _, Row.nil _ _ _, o1, Tg.nil _ _, Tg.nil _ _, fun k p r h => by simp at h, fun j hb h => by simp at h, by simp, by simp, fun b hb => by simp at hb; rw [o2 b (by omega)], fun b hb => by rw [o2 b (by omega)],
        fun b => by by_cases hb : b = w0.heap.size; · subst hb; rw [o1]; left; simp
                    · rw [o2 b hb]; left; simp⟩
    refine (wbegin_yes own 3 w0.heap.size (.slice none 0 0) (.slice none 0 0) [] 0 0 3 2 3 0 false (w0.alloc (.cells #[.slice none 0 0, .slice none 0 0] 47)) (by decide) (by omega) (by omega) (by omega) (by omega)
      (fun b _ => by by_cases hb : b = w0.heap.size; · subst hb; rw [o1]; simp
                     · rw [o2 b hb]; simp) (Blk.new w0 _ _) (Row.nil _ _ _) (by simp) (by simp [Value.ownBlock])).mono ?_
    rintro en w' ⟨rfl, own', g, cap, p, r, vR, vB, vS, vA, vK, bs, h1, h2, h3, h4, h5, _, h6, h7, h8⟩
    obtain ⟨S', k1, k2, k3⟩ := hg.begin (i' := 0) (by omega) (by simp) (by omega) (by omega) (by omega) h1 h2 h3 h4 h5 h6 h7 h8
    refine ⟨rfl, S', ⟨k1, by omega⟩, ((Below.refl _ _).alloc (Nat.le_refl _) _).trans ((k2.mono (B' := w0.heap.size) (S' := fun _ => False) (by simp) (fun k hk h => h (by rw [o2 k (by omega)]))).below (by simp)), fun k hk => ?_⟩
    rcases k3 k hk with h | h
    · by_cases hb : k = w0.heap.size
      · omega
      · rw [o2 k hb] at h; exact absurd rfl h
    · simp at h; omega
  steps := by
    intro i w S o ho hm hg hS
    have hi : i < ops.length := (List.getElem?_eq_some_iff.1 ho).1
    have hB := (hok i o ho).2.2.2.1.1
    obtain ⟨⟨own, ps, hbs, vP, vH, h, h1, rfl⟩, _⟩ := hg
    have l2 := h.l2
    by_cases hK : o.K = 1
    · refine (step_begin w0.heap.size o w (by simp [hK]) (fun ok w' => ok = true ∧ GNext w0.heap.size i (fun b => (own b).1 ≠ 0) w w') ?_).mono ?_
      · intro w1 hb1
        have h' := h.below hb1
        cases hmm : mayB o.A o.B o.C with
        | false =>
          refine (wbegin_no w0.heap.size o.K o.M o.A o.B o.C o.D o.F w1 hmm).mono ?_
          rintro e w' ⟨rfl, hb⟩
          exact ⟨true, rfl, rfl, GNext.below hb1 ⟨_, ⟨own, ps, hbs, vP, vH, (h'.below hb).mono, h1, rfl⟩, Touch.of_below hb _, fun k hk => .inl hk⟩⟩
        | true =>
          obtain ⟨f, s, e, ea, eb, ec, q1, q2, q3, q4, q5, q6⟩ := mayB_nat hmm
          rw [ea, eb, ec] at hmm ⊢
          refine (wbegin_yes own (3 * ps.length + 3) w0.heap.size vP vH ps o.K o.M f s e o.D o.F w1 hmm q2 q4 q6 q5 (fun b _ ee => ?_) h'.blk h'.rP (by omega) (fun ee => ?_)).mono ?_
          · rcases h.ids b with h | ⟨k, hk, h⟩ | ⟨j, hj, h⟩ <;> omega
          · have := h.tP _ ee; rw [h.tw] at this; simp at this
          rintro en w' ⟨rfl, own', g, cap, p, r, vR, vB, vS, vA, vK, bs, h1', h2, h3, h4, h5, _, h6, h7, h8⟩
          exact ⟨true, rfl, rfl, GNext.below hb1 (h'.begin (i' := i + 1) (by omega) (by omega) q2 q4 q6 h1' h2 h3 h4 h5 h6 h7 h8)⟩
      · rintro e w' ⟨ok, rfl, hr, S', k1, k2, k3⟩
        exact ⟨ok, rfl, fun _ => hr, S', ⟨k1, by omega⟩, k2, k3⟩
    · obtain ⟨⟨p, r⟩, hpr⟩ : ∃ x, ps[mach o.M ps.length]? = some x := ⟨ps[mach o.M ps.length]'(mach_lt _ _ (by omega)), by simp⟩
      by_cases hK2 : 2 ≤ o.K
      · refine (step_rights w0.heap.size vP vH ps o w ⟨hK2, hm⟩ (by simp [hK]) h.blk h.rP (by omega) (by omega) p r hpr (fun ok w' => ok = true ∧ GNext w0.heap.size i (fun b => (own b).1 ≠ 0) w w') ?_).mono ?_
        · intro w1 hb1
          refine ((h.below hb1).rights h1 o hK2 hm hB (by omega) hpr).mono ?_
          rintro e w2 ⟨rfl, hn⟩
          exact ⟨true, rfl, rfl, GNext.below hb1 hn⟩
        · rintro e w' ⟨ok, rfl, hr, S', k1, k2, k3⟩
          exact ⟨ok, rfl, fun _ => hr, S', ⟨k1, by omega⟩, k2, k3⟩
      · refine (step_memory w0.heap.size vP vH ps o w (by omega) (by simp [hK]) h.blk h.rP (by omega) (by omega) p r hpr (fun ok w' => ok = true ∧ Below w.heap.size w w') ?_).mono ?_
        · intro w1 hb1
          refine (memory_none w0.heap.size p r o w1 (by omega)).mono ?_
          rintro e w2 ⟨rfl, hb2⟩
          have := hb1.size
          exact ⟨true, rfl, rfl, hb1.trans (hb2.mono (by omega))⟩
        · rintro e w' ⟨ok, rfl, hr, hb⟩
          exact ⟨ok, rfl, fun _ => hr, _, ⟨⟨own, ps, hbs, vP, vH, (h.below hb).mono, h1, rfl⟩, by omega⟩, Touch.of_below hb _, fun k hk => .inl hk⟩
  skips := by
    rintro i w S o ho hm ⟨⟨own, ps, hbs, vP, vH, h, h1, rfl⟩, _⟩
    exact ⟨⟨own, ps, hbs, vP, vH, h.mono, h1, rfl⟩, (List.getElem?_eq_some_iff.1 ho).1⟩
  looks := by
    intro i w S hg
    have hg' := hg
    obtain ⟨⟨own, ps, hbs, vP, vH, h, h1, rfl⟩, hi⟩ := hg'
    refine (looks_any (own := own) h.blk h.rH (by have := h.l3; omega) (fun j b hb => by obtain ⟨n, a, hh⟩ := h.hd j b hb; exact ⟨_, n, a, hh⟩)).mono ?_
    rintro e w' ⟨rfl, rfl⟩
    exact ⟨rfl, Below.refl _ _, hg⟩
end Go.Proofs.Ytkonobbhohfjlaa
