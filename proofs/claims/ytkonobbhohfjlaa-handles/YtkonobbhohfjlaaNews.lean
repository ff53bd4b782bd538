import Derived.Test.YtkonobbhohfjlaaStep
namespace Go.Proofs.Ytkonobbhohfjlaa
open Go.RowKit
set_option linter.unusedVariables false

set_option maxHeartbeats 1000000 in
set_option maxRecDepth 100000 in
theorem step_begin (bw : Nat) (o : LOp) (w : World) (hK : (o.K == 1) = true)
    (R : Bool → World → Prop) (hcall : ∀ w', Below w.heap.size w w' → Calls Try.prog 13 #[.pointer (some ⟨bw, 0, none⟩), .agg #[.int .i64 o.K, .int .i64 o.M, .int .i64 o.A, .int .i64 o.B, .int .i64 o.C, .int .i64 o.D, .bool o.F]] w'
      fun e w'' => ∃ ok, e = .returned (.bool ok) ∧ R ok w'') :
    Calls Try.prog 14 #[.pointer (some ⟨bw, 0, none⟩), .agg #[.int .i64 o.K, .int .i64 o.M, .int .i64 o.A, .int .i64 o.B, .int .i64 o.C, .int .i64 o.D, .bool o.F]] w
      fun e w'' => ∃ ok, e = .returned (.bool ok) ∧ R ok w'' := by
  go_enter Try.func14, Try.ntmps14
  go_wp2_with fail
  refine (hcall _ ?_).mono ?_
  · exact (Below.refl _ _).alloc (Nat.le_refl _) _
  · rintro e w2 ⟨ok, rfl, hR⟩
    go_wp2_with fail
    go_ret
    exact ⟨ok, rfl, hR⟩

set_option maxHeartbeats 1000000 in
/-- 'looks' where no list has come out. -/
theorem looks_nil (bw : Nat) (vP : Value) (w : World) (hw : Blk w bw [vP, .slice none 0 0] 47) :
    Calls Try.prog 15 #[.pointer (some ⟨bw, 0, none⟩)] w fun e w' => e = .returned (.bool true) ∧ w' = w := by
  have k1 := hw.cell 1
  simp at k1
  go_enter Try.func15, Try.ntmps15
  go_wp2_with fail
  go_loopg [3] 0 (fun k i wr => i = .int .i64 0 ∧ wr = w)
  case atStart => exact ⟨rfl, rfl⟩
  case round =>
    obtain ⟨rfl, rfl⟩ := hrel
    go_wp2_with fail
    go_ret
    exact ⟨rfl, rfl⟩

/-- The invariant of News: a list of machines, none of which is looked at; no list has come out. -/
def NewsInv (bw : Nat) (i : Nat) (w : World) (S : Nat → Prop) : Prop :=
  ∃ (ps : List (Nat × Nat)) (vP : Value), Blk w bw [vP, .slice none 0 0] 47 ∧ Row w vP 71 2 ps.length (ps.flatMap pairCells) ∧ 1 ≤ ps.length ∧ ps.length ≤ i + 1 ∧ vP.ownBlock ≠ some bw ∧
    S = fun k => k = bw ∨ vP.ownBlock = some k

theorem NewsInv.lt {bw i : Nat} {w : World} {S : Nat → Prop} (h : NewsInv bw i w S) : ∀ k, S k → k < w.heap.size := by
  obtain ⟨ps, vP, h1, h2, _, _, _, rfl⟩ := h
  intro k hk
  rcases hk with rfl | hk
  · exact h1.lt
  · exact h2.lt k hk

theorem NewsInv.below {bw i : Nat} {w w' : World} {S : Nat → Prop} (h : NewsInv bw i w S) (hb : Below w.heap.size w w') : NewsInv bw i w' S := by
  obtain ⟨ps, vP, h1, h2, h3, h4, h5, rfl⟩ := h
  exact ⟨ps, vP, h1.below hb h1.lt, h2.below hb, h3, h4, h5, rfl⟩

theorem NewsInv.mono {bw i j : Nat} {w : World} {S : Nat → Prop} (h : NewsInv bw i w S) (hij : i ≤ j) : NewsInv bw j w S := by
  obtain ⟨ps, vP, h1, h2, h3, h4, h5, rfl⟩ := h
  exact ⟨ps, vP, h1, h2, h3, by omega, h5, rfl⟩

/-- A machine more. -/
theorem NewsInv.begins {bw i : Nat} {w : World} {S : Nat → Prop} (h : NewsInv bw i w S) (K M A B C D : Int) (F : Bool) (hi : (i + 2) * 16 ≤ 140737488355328) :
    Calls Try.prog 13 #[.pointer (some ⟨bw, 0, none⟩), .agg #[.int .i64 K, .int .i64 M, .int .i64 A, .int .i64 B, .int .i64 C, .int .i64 D, .bool F]] w
      fun e w' => ∃ ok, e = .returned (.bool ok) ∧ ok = true ∧ ∃ S', NewsInv bw (i + 1) w' S' ∧ Touch w.heap.size S w w' ∧ ∀ k, S' k → S k ∨ w.heap.size ≤ k := by
  cases hm : mayB A B C with
  | false =>
    refine (wbegin_no bw K M A B C D F w hm).mono ?_
    rintro e w' ⟨rfl, hb⟩
    exact ⟨true, rfl, rfl, S, (h.below hb).mono (by omega), Touch.of_below hb _, fun k hk => .inl hk⟩
  | true =>
    obtain ⟨f, s, e, rfl, rfl, rfl, h1, h2, h3, h4, h5, h6⟩ := mayB_nat hm
    obtain ⟨ps, vP, g1, g2, g3, g4, g5, rfl⟩ := h
    refine (wbegin_yes (fun _ => (0, 0)) 1 bw vP _ ps K M f s e D F w hm h2 h4 h6 h5 (fun _ _ => by simp) g1 g2 (by omega) g5).mono ?_
    rintro en w' ⟨rfl, own', g, cap, p, r, vR, vB, vS, vA, vK, bs, _, ht, hw', hr', hg, _⟩
    refine ⟨true, rfl, rfl, _, ⟨ps ++ [(p, r)], _, hw', by simpa using hr', by simp, by simp; omega, ?_, rfl⟩, ht, ?_⟩
    · intro ee
      simp [Value.ownBlock] at ee
      subst ee
      rcases hg with hg | hg
      · exact g5 hg
      · have := g1.lt; omega
    · intro k hk
      rcases hk with rfl | hk
      · exact .inl (.inl rfl)
      · simp [Value.ownBlock] at hk
        subst hk
        rcases hg with hg | hg
        · exact .inl (.inr hg)
        · exact .inr hg

theorem news_playable (w0 : World) (ops : List LOp) (hlen : (ops.length + 2) * 16 ≤ 140737488355328) : Playable w0 ops 1 1 1 (fun i w S => NewsInv w0.heap.size i w S ∧ i ≤ ops.length) where
  lt h := h.1.lt
  alloc o h := ⟨h.1.below ((Below.refl _ _).alloc (Nat.le_refl _) o), h.2⟩
  begins := by
    refine (wbegin_yes (fun _ => (0, 0)) 1 w0.heap.size (.slice none 0 0) (.slice none 0 0) [] 0 0 3 2 3 0 false (w0.alloc (.cells #[.slice none 0 0, .slice none 0 0] 47)) (by decide) (by omega) (by omega) (by omega) (by omega)
      (fun _ _ => by simp) (Blk.new w0 _ _) (Row.nil _ _ _) (by simp) (by simp [Value.ownBlock])).mono ?_
    rintro en w' ⟨rfl, own', g, cap, p, r, vR, vB, vS, vA, vK, bs, _, ht, hw', hr', hg, _⟩
    have hb : Below w0.heap.size w0 w' := ((Below.refl _ _).alloc (Nat.le_refl _) _).trans ((ht.mono (B' := w0.heap.size) (S' := fun _ => False) (by simp) (fun k hk h => h.elim (fun h => by omega) (fun h => by simp [Value.ownBlock] at h))).below (by simp))
    simp [Value.ownBlock] at hg
    refine ⟨rfl, _, ⟨⟨[(p, r)], _, hw', by simpa using hr', by simp, by simp, ?_, rfl⟩, by omega⟩, hb, ?_⟩
    · simp [Value.ownBlock]; omega
    · intro k hk
      rcases hk with rfl | hk
      · exact Nat.le_refl _
      · simp [Value.ownBlock] at hk; omega
  steps := by
    intro i w S o ho hm hg hS
    have hi : i < ops.length := (List.getElem?_eq_some_iff.1 ho).1
    obtain ⟨hg, _⟩ := hg
    by_cases hK : o.K = 1
    · refine (step_begin w0.heap.size o w (by simp [hK]) (fun ok w' => ok = true ∧ ∃ S', NewsInv w0.heap.size (i + 1) w' S' ∧ Touch w.heap.size S w w' ∧ ∀ k, S' k → S k ∨ w.heap.size ≤ k) ?_).mono ?_
      · intro w1 hb1
        refine ((hg.below hb1).begins o.K o.M o.A o.B o.C o.D o.F (by omega)).mono ?_
        rintro e w2 ⟨ok, rfl, h1, S', h2, h3, h4⟩
        have := hb1.size
        exact ⟨ok, rfl, h1, S', h2, (Touch.of_below hb1 _).trans (h3.mono (by omega) (fun _ _ h => h)), fun k hk => (h4 k hk).imp id (by omega)⟩
      · rintro e w' ⟨ok, rfl, h1, S', h2, h3, h4⟩
        exact ⟨ok, rfl, fun _ => h1, S', ⟨h2, by omega⟩, h3, h4⟩
    · have hg' := hg
      obtain ⟨ps, vP, g1, g2, g3, g4, g5, rfl⟩ := hg'
      obtain ⟨⟨p, r⟩, hpr⟩ : ∃ x, ps[mach o.M ps.length]? = some x := ⟨ps[mach o.M ps.length]'(mach_lt _ _ (by omega)), by simp⟩
      refine (step_memory w0.heap.size vP _ ps o w (by omega) (by simp [hK]) g1 g2 (by omega) (by omega) p r hpr (fun ok w' => ok = true ∧ Below w.heap.size w w') ?_).mono ?_
      · intro w1 hb1
        refine (memory_none w0.heap.size p r o w1 (by omega)).mono ?_
        rintro e w2 ⟨rfl, hb2⟩
        have := hb1.size
        exact ⟨true, rfl, rfl, hb1.trans (hb2.mono (by omega))⟩
      · rintro e w' ⟨ok, rfl, h1, hb⟩
        exact ⟨ok, rfl, fun _ => h1, _, ⟨(hg.below hb).mono (by omega), by omega⟩, Touch.of_below hb _, fun k hk => .inl hk⟩
  skips o ho hm h := ⟨h.1.mono (by omega), (List.getElem?_eq_some_iff.1 ho).1⟩
  looks := by
    intro i w S hg
    have hg' := hg
    obtain ⟨⟨ps, vP, g1, _⟩, _⟩ := hg'
    refine (looks_nil w0.heap.size vP w g1).mono ?_
    rintro e w' ⟨rfl, rfl⟩
    exact ⟨rfl, Below.refl _ _, hg⟩

end Go.Proofs.Ytkonobbhohfjlaa
