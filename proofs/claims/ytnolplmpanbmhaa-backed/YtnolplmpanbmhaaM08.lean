import Derived.Test.YtnolplmpanbmhaaM07
/-
  'noise'.
-/
namespace Go.Proofs.Ytnolplmpanbmhaa
open Go.RowKit
set_option linter.unusedVariables false
attribute [local go_sem ↓] Go.wp_at_zero Go.wp_at_succ

def box2 (w : World) (o : LStep) (a b c : Int) : World := (w.alloc (.cells #[.int .i64 o.K, .int .i64 o.V, .int .i64 o.A, .int .i64 o.B, .int .i64 o.C, .bool o.F] 36)).alloc (.cells #[.int .i64 a, .int .i64 b, .int .i64 c] 28)

section
variable {M : MT} {w0 w w' : World} {m i : Nat} {own : Nat → Nat × Nat} {s s' : RSt}

set_option maxHeartbeats 4000000 in
set_option maxRecDepth 100000 in
theorem noise_any (P : Api M) (h : St M w0 m i own s w) (hi : (i + 2) * 48 ≤ 140737488355328) (o : LStep) (ho : o.i64) (hK : o.K < 7 ∨ 10 < o.K) (a b c : Nat) (hb : b ≤ 8) (hc : c ≤ 4) (hc2 : 2 ≤ c) :
    Calls Try.prog 34 #[.pointer (some ⟨m, 0, none⟩), .agg #[.int .i64 o.K, .int .i64 o.V, .int .i64 o.A, .int .i64 o.B, .int .i64 o.C, .bool o.F], .agg #[.int .i64 a, .int .i64 b, .int .i64 c]] w fun e w' => e = .returned (.tuple #[]) ∧ ∃ s', Ns 1 c s s' ∧ StN M w0 m (i + 1) own s' w w' := by
  obtain ⟨⟨v0, v1⟩, ⟨a0, a1⟩, ⟨b0, b1⟩, ⟨c0, c1⟩⟩ := ho
  have hW0 : Below w.heap.size w (box2 w o a b c) := ((Below.refl _ _).alloc (Nat.le_refl _) _).alloc (by simp) _
  have ht := h.top w.heap.size (Nat.le_refl _)
  have ht2 := h.top (w.heap.size + 1) (by omega)
  have hc1' : IntKind.i64.wrap ((c : Int) - 1) = (c : Int) - 1 := by rw [IntKind.wrap_i64]; omega
  go_enter Try.func34, Try.ntmps34
  have ie4 : (c : Int) ≤ 4611686018427387904 := by omega
  have hs0 := h.below P hW0
  have y7 : (o.K == 7) = false := beq_eq_false_iff_ne.2 (by omega)
  have y8 : (o.K == 8) = false := beq_eq_false_iff_ne.2 (by omega)
  have y9 : (o.K == 9) = false := beq_eq_false_iff_ne.2 (by omega)
  have hK10 : o.K ≠ 10 := by omega
  clear hK
  go_wp2_with fail
  refine (pick_ex _ _ v0 v1 (by omega) (by omega) _).mono ?_
  rintro e w5 ⟨k, hk, rfl, hw5⟩
  subst w5
  obtain ⟨env, henv⟩ : ∃ env : Nat, (env : Int) = 1 + (k : Int) := ⟨1 + k, by omega⟩
  have hv1 : IntKind.i64.wrap (1 + (k : Int)) = (env : Int) := by rw [IntKind.wrap_i64]; omega
  have h1 : 1 ≤ env := by omega
  have h2 : env < c := by omega
  have ie : I64 (env : Int) := ⟨by omega, by omega⟩
  have hW := hW0.drew
  have hs := h.below P hW
  have hbx := ((Blk.new w [.int .i64 o.K, .int .i64 o.V, .int .i64 o.A, .int .i64 o.B, .int .i64 o.C, .bool o.F] 36).alloc (.cells #[.int .i64 a, .int .i64 b, .int .i64 c] 28)).drew
  have hcx := (Blk.at (w.alloc (.cells #[.int .i64 o.K, .int .i64 o.V, .int .i64 o.A, .int .i64 o.B, .int .i64 o.C, .bool o.F] 36)) [.int .i64 a, .int .i64 b, .int .i64 c] 28 (w.heap.size + 1) (by simp)).drew
  have hb1' : IntKind.i64.wrap ((b : Int) + 1) = (b : Int) + 1 := by rw [IntKind.wrap_i64]; omega
  clear henv hk
  by_cases hK0 : o.K = 0
  · have y0 : (o.K == 0) = true := by simp [hK0]
    clear hK0
    go_wp2_with fail
    refine (hs0.alloc P hi env ie).mono ?_
    rintro e w6 ⟨rfl, hn⟩
    go_wp2_with fail
    go_end0
    exact ⟨rfl, _, .alloc env h1 h2, hn.after hW0⟩
  have y0 : (o.K == 0) = false := beq_eq_false_iff_ne.2 hK0
  by_cases hK1 : o.K = 1
  · have y1 : (o.K == 1) = true := by simp [hK1]
    clear hK0 hK1
    go_wp2_with fail
    go_region_held3 (fun w' => w'.cell? ⟨w.heap.size, 2, none⟩ = some (.int .i64 o.A) ∧ w'.cell? ⟨w.heap.size, 3, none⟩ = some (.int .i64 o.B) ∧ w'.cell? ⟨w.heap.size, 5, none⟩ = some (.bool o.F) ∧ w'.cell? ⟨w.heap.size + 1, 2, none⟩ = some (.int .i64 c)) (go_keep)
      ((first
        | (go_at_call 36; refine (handle_any _ (by first | exact a0 | exact b0) (by first | exact a1 | exact b1) _).mono ?_; rintro e w5 ⟨hd, hhd, rfl, hw5⟩; subst hw5)
        | (go_at_call 16; refine (pick_ex _ _ (by first | exact b0 | exact c0) (by first | exact b1 | exact c1) (by first | decide | omega) (by first | decide | omega) _).mono ?_; rintro e w5 ⟨te, hte, rfl, hw5⟩; subst hw5)
        | (go_at_call 35; refine (hs.derive P hi env _ _ o.F ie ⟨by omega, by omega⟩ ⟨by omega, by omega⟩).mono ?_; rintro e w6 ⟨rfl, hn⟩
           have e2 := (hn.blk hbx (by rw [ht]; omega)).cell 2
           have e3 := (hn.blk hbx (by rw [ht]; omega)).cell 3
           have e5 := (hn.blk hbx (by rw [ht]; omega)).cell 5
           have f2 := (hn.blk hcx (by rw [ht2]; omega)).cell 2
           simp at e2 e3 e5 f2)))
    go_wp2_with fail
    go_end0
    exact ⟨rfl, _, .derive env h1 h2 _ _ _, hn.after hW⟩
  have y1 : (o.K == 1) = false := beq_eq_false_iff_ne.2 hK1
  by_cases hK4 : o.K = 4
  · have y4 : (o.K == 4) = true := by simp [hK4]
    clear hK0 hK1 hK4
    go_wp2_with fail
    go_region_held3 (fun w' => w'.cell? ⟨w.heap.size, 2, none⟩ = some (.int .i64 o.A) ∧ w'.cell? ⟨w.heap.size, 3, none⟩ = some (.int .i64 o.B) ∧ w'.cell? ⟨w.heap.size, 4, none⟩ = some (.int .i64 o.C) ∧ w'.cell? ⟨w.heap.size, 5, none⟩ = some (.bool o.F) ∧ w'.cell? ⟨w.heap.size + 1, 1, none⟩ = some (.int .i64 b)) (go_keep)
      ((first
        | (go_at_call 36; refine (handle_any _ (by first | exact a0 | exact b0) (by first | exact a1 | exact b1) _).mono ?_; rintro e w5 ⟨hd, hhd, rfl, hw5⟩; subst hw5)
        | (go_at_call 37; refine (page_any _ a0 a1 _).mono ?_; rintro e w5 ⟨pg, hpg0, hpg1, rfl, hw5⟩; subst hw5)
        | (go_at_call 16; refine (pick_ex _ _ (by first | exact b0 | exact c0) (by first | exact b1 | exact c1) (by first | decide | omega) (by first | decide | omega) _).mono ?_; rintro e w5 ⟨te, hte, rfl, hw5⟩; subst hw5)
        | (go_at_call 11; refine (hs.map P hi env _ _ o.F _ ie ⟨by omega, by omega⟩ ⟨by omega, by omega⟩ ⟨by omega, by omega⟩).mono ?_; rintro e w6 ⟨rfl, hn⟩
           have e2 := (hn.blk hbx (by rw [ht]; omega)).cell 2
           have e3 := (hn.blk hbx (by rw [ht]; omega)).cell 3
           have e4 := (hn.blk hbx (by rw [ht]; omega)).cell 4
           have e5 := (hn.blk hbx (by rw [ht]; omega)).cell 5
           have f1 := (hn.blk hcx (by rw [ht2]; omega)).cell 1
           simp at e2 e3 e4 e5 f1)))
    go_wp2_with fail
    go_end0
    exact ⟨rfl, _, .map env h1 h2 _ _ _ _, hn.after hW⟩
  have y4 : (o.K == 4) = false := beq_eq_false_iff_ne.2 hK4
  by_cases hK5 : o.K = 5
  · have y5 : (o.K == 5) = true := by simp [hK5]
    clear hK0 hK1 hK4 hK5
    go_wp2_with fail
    refine (page_any _ a0 a1 _).mono ?_
    rintro e w5 ⟨pg, hpg0, hpg1, rfl, hw5⟩
    subst w5
    go_wp2_with fail
    refine (hs0.unmap P hi env pg ie ⟨by omega, by omega⟩).mono ?_
    rintro e w6 ⟨rfl, hn⟩
    go_wp2_with fail
    go_end0
    exact ⟨rfl, _, .unmap env h1 h2 _, hn.after hW0⟩
  have y5 : (o.K == 5) = false := beq_eq_false_iff_ne.2 hK5
  by_cases hK6 : o.K = 6
  · have y6 : (o.K == 6) = true := by simp [hK6]
    clear hK0 hK1 hK4 hK5 hK6
    go_wp2_with fail
    go_region_held3 (fun w' => w'.cell? ⟨w.heap.size, 2, none⟩ = some (.int .i64 o.A) ∧ w'.cell? ⟨w.heap.size, 3, none⟩ = some (.int .i64 o.B) ∧ w'.cell? ⟨w.heap.size, 4, none⟩ = some (.int .i64 o.C)) (go_keep)
      ((first
        | (go_at_call 37; refine (page_any _ a0 a1 _).mono ?_; rintro e w5 ⟨pg, hpg0, hpg1, rfl, hw5⟩; subst hw5)
        | (go_at_call 16; refine (pick_ex _ _ (by first | exact b0 | exact c0) (by first | exact b1 | exact c1) (by first | decide | omega) (by first | decide | omega) _).mono ?_; rintro e w5 ⟨te, hte, rfl, hw5⟩; subst hw5)
        | (go_at_call 39; refine (hs.store P hi env _ _ _ ie ⟨by omega, by omega⟩ ⟨by omega, by omega⟩ ⟨by omega, by omega⟩).mono ?_; rintro e w6 ⟨rfl, hn⟩
           have e2 := (hn.blk hbx (by rw [ht]; omega)).cell 2
           have e3 := (hn.blk hbx (by rw [ht]; omega)).cell 3
           have e4 := (hn.blk hbx (by rw [ht]; omega)).cell 4
           simp at e2 e3 e4)))
    go_wp2_with fail
    go_end0
    exact ⟨rfl, _, .store env h1 h2 _ _ _, hn.after hW⟩
  · have y6 : (o.K == 6) = false := beq_eq_false_iff_ne.2 hK6
    clear hK0 hK1 hK4 hK5 hK6
    go_wp2_with fail
    refine (ends_any P hs0 hi o ⟨⟨v0, v1⟩, ⟨a0, a1⟩, ⟨b0, b1⟩, ⟨c0, c1⟩⟩ hK10 env h1 h2 (by omega)).mono ?_
    rintro e w6 ⟨rfl, s2, hns, hn⟩
    go_wp2_with fail
    go_end0
    exact ⟨rfl, s2, hns, hn.after hW0⟩
end
end Go.Proofs.Ytnolplmpanbmhaa

/-
  'any2': one call of any environment, where none is kept.
-/
namespace Go.Proofs.Ytnolplmpanbmhaa
open Go.RowKit
set_option linter.unusedVariables false
attribute [local go_sem ↓] Go.wp_at_zero Go.wp_at_succ

section
variable {M : MT} {w0 w w' : World} {m i : Nat} {own : Nat → Nat × Nat} {s s' : RSt}

theorem noise_raw (P : Api M) (h : St M w0 m i own s w) (hi : (i + 2) * 48 ≤ 140737488355328) (K V A B C : Int) (F : Bool) (iv : I64 V) (ia : I64 A) (ib : I64 B) (ic : I64 C) (hK : K < 7 ∨ 10 < K) (a b c : Nat) (hb : b ≤ 8) (hc : c ≤ 4) (hc2 : 2 ≤ c) :
    Calls Try.prog 34 #[.pointer (some ⟨m, 0, none⟩), .agg #[.int .i64 K, .int .i64 V, .int .i64 A, .int .i64 B, .int .i64 C, .bool F], .agg #[.int .i64 a, .int .i64 b, .int .i64 c]] w fun e w' => e = .returned (.tuple #[]) ∧ ∃ s', Ns 1 c s s' ∧ StN M w0 m (i + 1) own s' w w' :=
  noise_any P h hi ⟨K, V, A, B, C, F⟩ ⟨iv, ia, ib, ic⟩ hK a b c hb hc hc2

set_option maxHeartbeats 8000000 in
set_option maxRecDepth 100000 in
theorem any2_any (P : Api M) (h : St M w0 m i own s w) (hi : (i + 2) * 48 ≤ 140737488355328) (o : LStep) (ho : o.i64) (a b c : Nat) (hb : b ≤ 8) (hc : c ≤ 4) (hc2 : 2 ≤ c) :
    Calls Try.prog 14 #[.pointer (some ⟨m, 0, none⟩), .agg #[.int .i64 o.K, .int .i64 o.V, .int .i64 o.A, .int .i64 o.B, .int .i64 o.C, .bool o.F], .agg #[.int .i64 a, .int .i64 b, .int .i64 c]] w fun e w' => e = .returned (.tuple #[]) ∧ ∃ s', Ns 0 c s s' ∧ StN M w0 m (i + 1) own s' w w' := by
  have ho' := ho
  obtain ⟨⟨v0, v1⟩, ⟨a0, a1⟩, ⟨b0, b1⟩, ⟨c0, c1⟩⟩ := ho
  have hW0 : Below w.heap.size w (box2 w o a b c) := ((Below.refl _ _).alloc (Nat.le_refl _) _).alloc (by simp) _
  have ht := h.top w.heap.size (Nat.le_refl _)
  have ht2 := h.top (w.heap.size + 1) (by omega)
  have ie4 : (c : Int) ≤ 4611686018427387904 := by omega
  have ie3 : (0 : Int) < (c : Int) := by omega
  have hs0 := h.below P hW0
  have hW := hW0.drew
  have hs := h.below P hW
  have hbx := ((Blk.new w [.int .i64 o.K, .int .i64 o.V, .int .i64 o.A, .int .i64 o.B, .int .i64 o.C, .bool o.F] 36).alloc (.cells #[.int .i64 a, .int .i64 b, .int .i64 c] 28)).drew
  have hcx := (Blk.at (w.alloc (.cells #[.int .i64 o.K, .int .i64 o.V, .int .i64 o.A, .int .i64 o.B, .int .i64 o.C, .bool o.F] 36)) [.int .i64 a, .int .i64 b, .int .i64 c] 28 (w.heap.size + 1) (by simp)).drew
  have hb1' : IntKind.i64.wrap ((b : Int) + 1) = (b : Int) + 1 := by rw [IntKind.wrap_i64]; omega
  have ie : I64 0 := ⟨by omega, by omega⟩
  go_enter Try.func14, Try.ntmps14
  by_cases hK7 : 7 ≤ o.K
  · by_cases hK10 : o.K ≤ 10
    · go_wp2_with fail
      refine bodyPost_ret (v := .tuple #[]) (by simp [results, Try.results14]) rfl ?_
      exact ⟨rfl, _, .same, StN.of_below P h.mono hW0⟩
    · have hKb : 10 < o.K := by omega
      go_wp2_with fail
      refine (pick_ex _ _ v0 v1 ie3 ie4 _).mono ?_
      rintro e w5 ⟨k, hk, rfl, hw5⟩
      subst w5
      by_cases hk0 : (0 : Int) < (k : Int)
      · go_wp2_with fail
        go_region_held3 (fun w' => w'.cell? ⟨w.heap.size, 0, none⟩ = some (.int .i64 o.K) ∧ w'.cell? ⟨w.heap.size, 1, none⟩ = some (.int .i64 o.V) ∧ w'.cell? ⟨w.heap.size, 2, none⟩ = some (.int .i64 o.A) ∧ w'.cell? ⟨w.heap.size, 3, none⟩ = some (.int .i64 o.B) ∧ w'.cell? ⟨w.heap.size, 4, none⟩ = some (.int .i64 o.C) ∧ w'.cell? ⟨w.heap.size, 5, none⟩ = some (.bool o.F) ∧ w'.cell? ⟨w.heap.size + 1, 0, none⟩ = some (.int .i64 a) ∧ w'.cell? ⟨w.heap.size + 1, 1, none⟩ = some (.int .i64 b) ∧ w'.cell? ⟨w.heap.size + 1, 2, none⟩ = some (.int .i64 c)) (go_keep)
          ((first
            | (go_at_call 16; refine (pick_ex _ _ v0 v1 ie3 ie4 _).mono ?_; rintro e w5 ⟨k2, hk2, rfl, hw5⟩; subst hw5
               have hkw2 : IntKind.i64.wrap ((k2 : Int) - 1) = (k2 : Int) - 1 := by rw [IntKind.wrap_i64]; omega)
            | (go_at_call 34; refine (noise_raw P hs hi o.K ((k2 : Int) - 1) o.A o.B o.C o.F ⟨by omega, by omega⟩ ⟨a0, a1⟩ ⟨b0, b1⟩ ⟨c0, c1⟩ (by omega) a b c hb hc hc2).mono ?_; rintro e w6 ⟨rfl, s2, hns, hn⟩
               have e0 := (hn.blk hbx (by rw [ht]; omega)).cell 0
               have e1 := (hn.blk hbx (by rw [ht]; omega)).cell 1
               have e2 := (hn.blk hbx (by rw [ht]; omega)).cell 2
               have e3 := (hn.blk hbx (by rw [ht]; omega)).cell 3
               have e4 := (hn.blk hbx (by rw [ht]; omega)).cell 4
               have e5 := (hn.blk hbx (by rw [ht]; omega)).cell 5
               have f0 := (hn.blk hcx (by rw [ht2]; omega)).cell 0
               have f1 := (hn.blk hcx (by rw [ht2]; omega)).cell 1
               have f2 := (hn.blk hcx (by rw [ht2]; omega)).cell 2
               simp at e0 e1 e2 e3 e4 e5 f0 f1 f2)))
        go_wp2_with fail
        refine bodyPost_ret (v := .tuple #[]) (by simp [results, Try.results14]) rfl ?_
        exact ⟨rfl, s2, hns.low (by omega), hn.after hW⟩
      have hk1 : k = 0 := by omega
      subst hk1
      clear hk hk0
      by_cases hK0 : o.K = 0
      · have y0 : (o.K == 0) = true := by simp [hK0]
        clear hK0
        go_wp2_with fail
        refine (hs0.alloc P hi 0 ie).mono ?_
        rintro e w6 ⟨rfl, hn⟩
        go_wp2_with fail
        go_end0
        exact ⟨rfl, _, .alloc 0 (by omega) (by omega), hn.after hW0⟩
      have y0 : (o.K == 0) = false := beq_eq_false_iff_ne.2 hK0
      by_cases hK1 : o.K = 1
      · have y1 : (o.K == 1) = true := by simp [hK1]
        clear hK0 hK1
        go_wp2_with fail
        go_region_held3 (fun w' => w'.cell? ⟨w.heap.size, 2, none⟩ = some (.int .i64 o.A) ∧ w'.cell? ⟨w.heap.size, 3, none⟩ = some (.int .i64 o.B) ∧ w'.cell? ⟨w.heap.size, 5, none⟩ = some (.bool o.F) ∧ w'.cell? ⟨w.heap.size + 1, 2, none⟩ = some (.int .i64 c)) (go_keep)
          ((first
            | (go_at_call 36; refine (handle_any _ (by first | exact a0 | exact b0) (by first | exact a1 | exact b1) _).mono ?_; rintro e w5 ⟨hd, hhd, rfl, hw5⟩; subst hw5)
            | (go_at_call 16; refine (pick_ex _ _ (by first | exact b0 | exact c0) (by first | exact b1 | exact c1) (by first | decide | omega) (by first | decide | omega) _).mono ?_; rintro e w5 ⟨te, hte, rfl, hw5⟩; subst hw5)
            | (go_at_call 35; refine (hs.derive P hi 0 _ _ o.F ie ⟨by omega, by omega⟩ ⟨by omega, by omega⟩).mono ?_; rintro e w6 ⟨rfl, hn⟩
               have e2 := (hn.blk hbx (by rw [ht]; omega)).cell 2
               have e3 := (hn.blk hbx (by rw [ht]; omega)).cell 3
               have e5 := (hn.blk hbx (by rw [ht]; omega)).cell 5
               have f2 := (hn.blk hcx (by rw [ht2]; omega)).cell 2
               simp at e2 e3 e5 f2)))
        go_wp2_with fail
        go_end0
        exact ⟨rfl, _, .derive 0 (by omega) (by omega) _ _ _, hn.after hW⟩
      have y1 : (o.K == 1) = false := beq_eq_false_iff_ne.2 hK1
      by_cases hK4 : o.K = 4
      · have y4 : (o.K == 4) = true := by simp [hK4]
        clear hK0 hK1 hK4
        go_wp2_with fail
        go_region_held3 (fun w' => w'.cell? ⟨w.heap.size, 2, none⟩ = some (.int .i64 o.A) ∧ w'.cell? ⟨w.heap.size, 3, none⟩ = some (.int .i64 o.B) ∧ w'.cell? ⟨w.heap.size, 4, none⟩ = some (.int .i64 o.C) ∧ w'.cell? ⟨w.heap.size, 5, none⟩ = some (.bool o.F) ∧ w'.cell? ⟨w.heap.size + 1, 1, none⟩ = some (.int .i64 b)) (go_keep)
          ((first
            | (go_at_call 36; refine (handle_any _ (by first | exact a0 | exact b0) (by first | exact a1 | exact b1) _).mono ?_; rintro e w5 ⟨hd, hhd, rfl, hw5⟩; subst hw5)
            | (go_at_call 37; refine (page_any _ a0 a1 _).mono ?_; rintro e w5 ⟨pg, hpg0, hpg1, rfl, hw5⟩; subst hw5)
            | (go_at_call 16; refine (pick_ex _ _ (by first | exact b0 | exact c0) (by first | exact b1 | exact c1) (by first | decide | omega) (by first | decide | omega) _).mono ?_; rintro e w5 ⟨te, hte, rfl, hw5⟩; subst hw5)
            | (go_at_call 11; refine (hs.map P hi 0 _ _ o.F _ ie ⟨by omega, by omega⟩ ⟨by omega, by omega⟩ ⟨by omega, by omega⟩).mono ?_; rintro e w6 ⟨rfl, hn⟩
               have e2 := (hn.blk hbx (by rw [ht]; omega)).cell 2
               have e3 := (hn.blk hbx (by rw [ht]; omega)).cell 3
               have e4 := (hn.blk hbx (by rw [ht]; omega)).cell 4
               have e5 := (hn.blk hbx (by rw [ht]; omega)).cell 5
               have f1 := (hn.blk hcx (by rw [ht2]; omega)).cell 1
               simp at e2 e3 e4 e5 f1)))
        go_wp2_with fail
        go_end0
        exact ⟨rfl, _, .map 0 (by omega) (by omega) _ _ _ _, hn.after hW⟩
      have y4 : (o.K == 4) = false := beq_eq_false_iff_ne.2 hK4
      by_cases hK5 : o.K = 5
      · have y5 : (o.K == 5) = true := by simp [hK5]
        clear hK0 hK1 hK4 hK5
        go_wp2_with fail
        refine (page_any _ a0 a1 _).mono ?_
        rintro e w5 ⟨pg, hpg0, hpg1, rfl, hw5⟩
        subst w5
        go_wp2_with fail
        refine (hs0.unmap P hi 0 pg ie ⟨by omega, by omega⟩).mono ?_
        rintro e w6 ⟨rfl, hn⟩
        go_wp2_with fail
        go_end0
        exact ⟨rfl, _, .unmap 0 (by omega) (by omega) _, hn.after hW0⟩
      have y5 : (o.K == 5) = false := beq_eq_false_iff_ne.2 hK5
      by_cases hK6 : o.K = 6
      · have y6 : (o.K == 6) = true := by simp [hK6]
        clear hK0 hK1 hK4 hK5 hK6
        go_wp2_with fail
        go_region_held3 (fun w' => w'.cell? ⟨w.heap.size, 2, none⟩ = some (.int .i64 o.A) ∧ w'.cell? ⟨w.heap.size, 3, none⟩ = some (.int .i64 o.B) ∧ w'.cell? ⟨w.heap.size, 4, none⟩ = some (.int .i64 o.C)) (go_keep)
          ((first
            | (go_at_call 37; refine (page_any _ a0 a1 _).mono ?_; rintro e w5 ⟨pg, hpg0, hpg1, rfl, hw5⟩; subst hw5)
            | (go_at_call 16; refine (pick_ex _ _ (by first | exact b0 | exact c0) (by first | exact b1 | exact c1) (by first | decide | omega) (by first | decide | omega) _).mono ?_; rintro e w5 ⟨te, hte, rfl, hw5⟩; subst hw5)
            | (go_at_call 39; refine (hs.store P hi 0 _ _ _ ie ⟨by omega, by omega⟩ ⟨by omega, by omega⟩ ⟨by omega, by omega⟩).mono ?_; rintro e w6 ⟨rfl, hn⟩
               have e2 := (hn.blk hbx (by rw [ht]; omega)).cell 2
               have e3 := (hn.blk hbx (by rw [ht]; omega)).cell 3
               have e4 := (hn.blk hbx (by rw [ht]; omega)).cell 4
               simp at e2 e3 e4)))
        go_wp2_with fail
        go_end0
        exact ⟨rfl, _, .store 0 (by omega) (by omega) _ _ _, hn.after hW⟩
      · have y6 : (o.K == 6) = false := beq_eq_false_iff_ne.2 hK6
        have hK10n : o.K ≠ 10 := by omega
        clear hK0 hK1 hK4 hK5 hK6
        go_wp2_with fail
        refine (ends_any P hs0 hi o ho' hK10n (lo := 0) (hi' := c) 0 (by omega) (by omega) (by omega)).mono ?_
        rintro e w6 ⟨rfl, s2, hns, hn⟩
        go_wp2_with fail
        go_end0
        exact ⟨rfl, s2, hns, hn.after hW0⟩
  · have hKb : o.K < 7 := by omega
    go_wp2_with fail
    refine (pick_ex _ _ v0 v1 ie3 ie4 _).mono ?_
    rintro e w5 ⟨k, hk, rfl, hw5⟩
    subst w5
    by_cases hk0 : (0 : Int) < (k : Int)
    · go_wp2_with fail
      go_region_held3 (fun w' => w'.cell? ⟨w.heap.size, 0, none⟩ = some (.int .i64 o.K) ∧ w'.cell? ⟨w.heap.size, 1, none⟩ = some (.int .i64 o.V) ∧ w'.cell? ⟨w.heap.size, 2, none⟩ = some (.int .i64 o.A) ∧ w'.cell? ⟨w.heap.size, 3, none⟩ = some (.int .i64 o.B) ∧ w'.cell? ⟨w.heap.size, 4, none⟩ = some (.int .i64 o.C) ∧ w'.cell? ⟨w.heap.size, 5, none⟩ = some (.bool o.F) ∧ w'.cell? ⟨w.heap.size + 1, 0, none⟩ = some (.int .i64 a) ∧ w'.cell? ⟨w.heap.size + 1, 1, none⟩ = some (.int .i64 b) ∧ w'.cell? ⟨w.heap.size + 1, 2, none⟩ = some (.int .i64 c)) (go_keep)
        ((first
          | (go_at_call 16; refine (pick_ex _ _ v0 v1 ie3 ie4 _).mono ?_; rintro e w5 ⟨k2, hk2, rfl, hw5⟩; subst hw5
             have hkw2 : IntKind.i64.wrap ((k2 : Int) - 1) = (k2 : Int) - 1 := by rw [IntKind.wrap_i64]; omega)
          | (go_at_call 34; refine (noise_raw P hs hi o.K ((k2 : Int) - 1) o.A o.B o.C o.F ⟨by omega, by omega⟩ ⟨a0, a1⟩ ⟨b0, b1⟩ ⟨c0, c1⟩ (by omega) a b c hb hc hc2).mono ?_; rintro e w6 ⟨rfl, s2, hns, hn⟩
             have e0 := (hn.blk hbx (by rw [ht]; omega)).cell 0
             have e1 := (hn.blk hbx (by rw [ht]; omega)).cell 1
             have e2 := (hn.blk hbx (by rw [ht]; omega)).cell 2
             have e3 := (hn.blk hbx (by rw [ht]; omega)).cell 3
             have e4 := (hn.blk hbx (by rw [ht]; omega)).cell 4
             have e5 := (hn.blk hbx (by rw [ht]; omega)).cell 5
             have f0 := (hn.blk hcx (by rw [ht2]; omega)).cell 0
             have f1 := (hn.blk hcx (by rw [ht2]; omega)).cell 1
             have f2 := (hn.blk hcx (by rw [ht2]; omega)).cell 2
             simp at e0 e1 e2 e3 e4 e5 f0 f1 f2)))
      go_wp2_with fail
      refine bodyPost_ret (v := .tuple #[]) (by simp [results, Try.results14]) rfl ?_
      exact ⟨rfl, s2, hns.low (by omega), hn.after hW⟩
    have hk1 : k = 0 := by omega
    subst hk1
    clear hk hk0
    by_cases hK0 : o.K = 0
    · have y0 : (o.K == 0) = true := by simp [hK0]
      clear hK0
      go_wp2_with fail
      refine (hs0.alloc P hi 0 ie).mono ?_
      rintro e w6 ⟨rfl, hn⟩
      go_wp2_with fail
      go_end0
      exact ⟨rfl, _, .alloc 0 (by omega) (by omega), hn.after hW0⟩
    have y0 : (o.K == 0) = false := beq_eq_false_iff_ne.2 hK0
    by_cases hK1 : o.K = 1
    · have y1 : (o.K == 1) = true := by simp [hK1]
      clear hK0 hK1
      go_wp2_with fail
      go_region_held3 (fun w' => w'.cell? ⟨w.heap.size, 2, none⟩ = some (.int .i64 o.A) ∧ w'.cell? ⟨w.heap.size, 3, none⟩ = some (.int .i64 o.B) ∧ w'.cell? ⟨w.heap.size, 5, none⟩ = some (.bool o.F) ∧ w'.cell? ⟨w.heap.size + 1, 2, none⟩ = some (.int .i64 c)) (go_keep)
        ((first
          | (go_at_call 36; refine (handle_any _ (by first | exact a0 | exact b0) (by first | exact a1 | exact b1) _).mono ?_; rintro e w5 ⟨hd, hhd, rfl, hw5⟩; subst hw5)
          | (go_at_call 16; refine (pick_ex _ _ (by first | exact b0 | exact c0) (by first | exact b1 | exact c1) (by first | decide | omega) (by first | decide | omega) _).mono ?_; rintro e w5 ⟨te, hte, rfl, hw5⟩; subst hw5)
          | (go_at_call 35; refine (hs.derive P hi 0 _ _ o.F ie ⟨by omega, by omega⟩ ⟨by omega, by omega⟩).mono ?_; rintro e w6 ⟨rfl, hn⟩
             have e2 := (hn.blk hbx (by rw [ht]; omega)).cell 2
             have e3 := (hn.blk hbx (by rw [ht]; omega)).cell 3
             have e5 := (hn.blk hbx (by rw [ht]; omega)).cell 5
             have f2 := (hn.blk hcx (by rw [ht2]; omega)).cell 2
             simp at e2 e3 e5 f2)))
      go_wp2_with fail
      go_end0
      exact ⟨rfl, _, .derive 0 (by omega) (by omega) _ _ _, hn.after hW⟩
    have y1 : (o.K == 1) = false := beq_eq_false_iff_ne.2 hK1
    by_cases hK4 : o.K = 4
    · have y4 : (o.K == 4) = true := by simp [hK4]
      clear hK0 hK1 hK4
      go_wp2_with fail
      go_region_held3 (fun w' => w'.cell? ⟨w.heap.size, 2, none⟩ = some (.int .i64 o.A) ∧ w'.cell? ⟨w.heap.size, 3, none⟩ = some (.int .i64 o.B) ∧ w'.cell? ⟨w.heap.size, 4, none⟩ = some (.int .i64 o.C) ∧ w'.cell? ⟨w.heap.size, 5, none⟩ = some (.bool o.F) ∧ w'.cell? ⟨w.heap.size + 1, 1, none⟩ = some (.int .i64 b)) (go_keep)
        ((first
          | (go_at_call 36; refine (handle_any _ (by first | exact a0 | exact b0) (by first | exact a1 | exact b1) _).mono ?_; rintro e w5 ⟨hd, hhd, rfl, hw5⟩; subst hw5)
          | (go_at_call 37; refine (page_any _ a0 a1 _).mono ?_; rintro e w5 ⟨pg, hpg0, hpg1, rfl, hw5⟩; subst hw5)
          | (go_at_call 16; refine (pick_ex _ _ (by first | exact b0 | exact c0) (by first | exact b1 | exact c1) (by first | decide | omega) (by first | decide | omega) _).mono ?_; rintro e w5 ⟨te, hte, rfl, hw5⟩; subst hw5)
          | (go_at_call 11; refine (hs.map P hi 0 _ _ o.F _ ie ⟨by omega, by omega⟩ ⟨by omega, by omega⟩ ⟨by omega, by omega⟩).mono ?_; rintro e w6 ⟨rfl, hn⟩
             have e2 := (hn.blk hbx (by rw [ht]; omega)).cell 2
             have e3 := (hn.blk hbx (by rw [ht]; omega)).cell 3
             have e4 := (hn.blk hbx (by rw [ht]; omega)).cell 4
             have e5 := (hn.blk hbx (by rw [ht]; omega)).cell 5
             have f1 := (hn.blk hcx (by rw [ht2]; omega)).cell 1
             simp at e2 e3 e4 e5 f1)))
      go_wp2_with fail
      go_end0
      exact ⟨rfl, _, .map 0 (by omega) (by omega) _ _ _ _, hn.after hW⟩
    have y4 : (o.K == 4) = false := beq_eq_false_iff_ne.2 hK4
    by_cases hK5 : o.K = 5
    · have y5 : (o.K == 5) = true := by simp [hK5]
      clear hK0 hK1 hK4 hK5
      go_wp2_with fail
      refine (page_any _ a0 a1 _).mono ?_
      rintro e w5 ⟨pg, hpg0, hpg1, rfl, hw5⟩
      subst w5
      go_wp2_with fail
      refine (hs0.unmap P hi 0 pg ie ⟨by omega, by omega⟩).mono ?_
      rintro e w6 ⟨rfl, hn⟩
      go_wp2_with fail
      go_end0
      exact ⟨rfl, _, .unmap 0 (by omega) (by omega) _, hn.after hW0⟩
    have y5 : (o.K == 5) = false := beq_eq_false_iff_ne.2 hK5
    by_cases hK6 : o.K = 6
    · have y6 : (o.K == 6) = true := by simp [hK6]
      clear hK0 hK1 hK4 hK5 hK6
      go_wp2_with fail
      go_region_held3 (fun w' => w'.cell? ⟨w.heap.size, 2, none⟩ = some (.int .i64 o.A) ∧ w'.cell? ⟨w.heap.size, 3, none⟩ = some (.int .i64 o.B) ∧ w'.cell? ⟨w.heap.size, 4, none⟩ = some (.int .i64 o.C)) (go_keep)
        ((first
          | (go_at_call 37; refine (page_any _ a0 a1 _).mono ?_; rintro e w5 ⟨pg, hpg0, hpg1, rfl, hw5⟩; subst hw5)
          | (go_at_call 16; refine (pick_ex _ _ (by first | exact b0 | exact c0) (by first | exact b1 | exact c1) (by first | decide | omega) (by first | decide | omega) _).mono ?_; rintro e w5 ⟨te, hte, rfl, hw5⟩; subst hw5)
          | (go_at_call 39; refine (hs.store P hi 0 _ _ _ ie ⟨by omega, by omega⟩ ⟨by omega, by omega⟩ ⟨by omega, by omega⟩).mono ?_; rintro e w6 ⟨rfl, hn⟩
             have e2 := (hn.blk hbx (by rw [ht]; omega)).cell 2
             have e3 := (hn.blk hbx (by rw [ht]; omega)).cell 3
             have e4 := (hn.blk hbx (by rw [ht]; omega)).cell 4
             simp at e2 e3 e4)))
      go_wp2_with fail
      go_end0
      exact ⟨rfl, _, .store 0 (by omega) (by omega) _ _ _, hn.after hW⟩
    · have y6 : (o.K == 6) = false := beq_eq_false_iff_ne.2 hK6
      have hK10n : o.K ≠ 10 := by omega
      clear hK0 hK1 hK4 hK5 hK6
      go_wp2_with fail
      refine (ends_any P hs0 hi o ho' hK10n (lo := 0) (hi' := c) 0 (by omega) (by omega) (by omega)).mono ?_
      rintro e w6 ⟨rfl, s2, hns, hn⟩
      go_wp2_with fail
      go_end0
      exact ⟨rfl, s2, hns, hn.after hW0⟩
end
end Go.Proofs.Ytnolplmpanbmhaa
