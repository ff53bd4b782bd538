import Derived.Below
import Derived.ChangeOld
import Derived.Deep.Slices
import Derived.OpenShut
import Derived.ProofKit
import Derived.ShutString
import Derived.SizedLaws
import Derived.Test.YtnolplmpanbmhabM07
import Derived.Test.YtnolplmpanbmhabRows
/-
  'any2': one call of any environment, where none is kept.
-/
namespace Go.Proofs.Ytnolplmpanbmhab
open Go.RowKit
set_option linter.unusedVariables false
attribute [local go_sem ↓] Go.wp_at_zero Go.wp_at_succ

section
variable {M : MT} {w0 w w' : World} {m i : Nat} {own : Nat → Nat × Nat} {s s' : RSt}

theorem noise_raw (P : Api M) (h : St M w0 m i own s w) (hi : (i + 2) * 48 ≤ 140737488355328) (K V A B C : Int) (F : Bool) (iv : I64 V) (ia : I64 A) (ib : I64 B) (ic : I64 C) (hK : K < 7 ∨ 10 < K) (a b c : Nat) (hb : b ≤ 8) (hc : c ≤ 4) (hc2 : 2 ≤ c) :
    Calls Try.prog 11 #[.pointer (some ⟨m, 0, none⟩), .agg #[.int .i64 K, .int .i64 V, .int .i64 A, .int .i64 B, .int .i64 C, .bool F], .agg #[.int .i64 a, .int .i64 b, .int .i64 c]] w fun e w' => e = .returned (.tuple #[]) ∧ ∃ s', Ns 1 c s s' ∧ StN M w0 m (i + 1) own s' w w' :=
  noise_any P h hi ⟨K, V, A, B, C, F⟩ ⟨iv, ia, ib, ic⟩ hK a b c hb hc hc2

set_option maxHeartbeats 8000000 in
set_option maxRecDepth 100000 in
theorem any2_any (P : Api M) (h : St M w0 m i own s w) (hi : (i + 2) * 48 ≤ 140737488355328) (o : LStep) (ho : o.i64) (a b c : Nat) (hb : b ≤ 8) (hc : c ≤ 4) (hc2 : 2 ≤ c) :
    Calls Try.prog 9 #[.pointer (some ⟨m, 0, none⟩), .agg #[.int .i64 o.K, .int .i64 o.V, .int .i64 o.A, .int .i64 o.B, .int .i64 o.C, .bool o.F], .agg #[.int .i64 a, .int .i64 b, .int .i64 c]] w fun e w' => e = .returned (.tuple #[]) ∧ ∃ s', Ns 0 c s s' ∧ StN M w0 m (i + 1) own s' w w' := by
  have ho' := ho
  obtain ⟨⟨v0, v1⟩, ⟨a0, a1⟩, ⟨b0, b1⟩, ⟨c0, c1⟩⟩ := ho
  have hW0 : Below w.heap.size w (box2 w o a b c) := ((Below.refl _ _).alloc (Nat.le_refl _) _).alloc (by simp) _
  have ht := h.top w.heap.size (Nat.le_refl _)
  have ht2 := h.top (w.heap.size + 1) (by omega)
  have ie4 : (c : Int) ≤ 4611686018427387904 := by omega
  have ie3 : (0 : Int) < (c : Int) := by omega
  have hs0 := h.below P hW0
  have hW := hW0.drew
  have hs := h.below P hW
  have hbx := ((Blk.new w [.int .i64 o.K, .int .i64 o.V, .int .i64 o.A, .int .i64 o.B, .int .i64 o.C, .bool o.F] 31).alloc (.cells #[.int .i64 a, .int .i64 b, .int .i64 c] 27)).drew
  have hcx := (Blk.at (w.alloc (.cells #[.int .i64 o.K, .int .i64 o.V, .int .i64 o.A, .int .i64 o.B, .int .i64 o.C, .bool o.F] 31)) [.int .i64 a, .int .i64 b, .int .i64 c] 27 (w.heap.size + 1) (by simp)).drew
  have hb1' : IntKind.i64.wrap ((b : Int) + 1) = (b : Int) + 1 := by rw [IntKind.wrap_i64]; omega
  have ie : I64 0 := ⟨by omega, by omega⟩
  go_enter Try.func9, Try.ntmps9
  by_cases hK7 : 7 ≤ o.K
  · by_cases hK10 : o.K ≤ 10
    · go_wp2_with fail
      refine bodyPost_ret (v := .tuple #[]) (by simp [results, Try.results9]) rfl ?_
      exact ⟨rfl, _, .same, StN.of_below P h.mono hW0⟩
    · have hKb : 10 < o.K := by omega
      go_wp2_with fail
      refine (pick_ex _ _ v0 v1 ie3 ie4 _).mono ?_
      rintro e w5 ⟨k, hk, rfl, hw5⟩
      subst w5
      by_cases hk0 : (0 : Int) < (k : Int)
      · go_wp2_with fail
        go_region_held3 (fun w' => w'.cell? ⟨w.heap.size, 0, none⟩ = some (.int .i64 o.K) ∧ w'.cell? ⟨w.heap.size, 1, none⟩ = some (.int .i64 o.V) ∧ w'.cell? ⟨w.heap.size, 2, none⟩ = some (.int .i64 o.A) ∧ w'.cell? ⟨w.heap.size, 3, none⟩ = some (.int .i64 o.B) ∧ w'.cell? ⟨w.heap.size, 4, none⟩ = some (.int .i64 o.C) ∧ w'.cell? ⟨w.heap.size, 5, none⟩ = some (.bool o.F) ∧ w'.cell? ⟨w.heap.size + 1, 0, none⟩ = some (.int .i64 a) ∧ w'.cell? ⟨w.heap.size + 1, 1, none⟩ = some (.int .i64 b) ∧ w'.cell? ⟨w.heap.size + 1, 2, none⟩ = some (.int .i64 c)) (go_keep)
          ((first
            | (go_at_call 12; refine (pick_ex _ _ v0 v1 ie3 ie4 _).mono ?_; rintro e w5 ⟨k2, hk2, rfl, hw5⟩; subst hw5
               have hkw2 : IntKind.i64.wrap ((k2 : Int) - 1) = (k2 : Int) - 1 := by rw [IntKind.wrap_i64]; omega)
            | (go_at_call 11; refine (noise_raw P hs hi o.K ((k2 : Int) - 1) o.A o.B o.C o.F ⟨by omega, by omega⟩ ⟨a0, a1⟩ ⟨b0, b1⟩ ⟨c0, c1⟩ (by omega) a b c hb hc hc2).mono ?_; rintro e w6 ⟨rfl, s2, hns, hn⟩
               have e0 := (hn.blk hbx (by rw [ht]; omega)).cell 0
               have e1 := (hn.blk hbx (by rw [ht]; omega)).cell 1
               have e2 := (hn.blk hbx (by rw [ht]; omega)).cell 2
               have e3 := (hn.blk hbx (by rw [ht]; omega)).cell 3
               have e4 := (hn.blk hbx (by rw [ht]; omega)).cell 4
               have e5 := (hn.blk hbx (by rw [ht]; omega)).cell 5
               have f0 := (hn.blk hcx (by rw [ht2]; omega)).cell 0
               have f1 := (hn.blk hcx (by rw [ht2]; omega)).cell 1
               have f2 := (hn.blk hcx (by rw [ht2]; omega)).cell 2
               simp at e0 e1 e2 e3 e4 e5 f0 f1 f2)))
        go_wp2_with fail
        refine bodyPost_ret (v := .tuple #[]) (by simp [results, Try.results9]) rfl ?_
        exact ⟨rfl, s2, hns.low (by omega), hn.after hW⟩
      have hk1 : k = 0 := by omega
      subst hk1
      clear hk hk0
      by_cases hK0 : o.K = 0
      · have y0 : (o.K == 0) = true := by simp [hK0]
        clear hK0
        go_wp2_with fail
        refine (hs0.alloc P hi 0 ie).mono ?_
        rintro e w6 ⟨rfl, hn⟩
        go_wp2_with fail
        go_end0
        exact ⟨rfl, _, .alloc 0 (by omega) (by omega), hn.after hW0⟩
      have y0 : (o.K == 0) = false := beq_eq_false_iff_ne.2 hK0
      by_cases hK1 : o.K = 1
      · have y1 : (o.K == 1) = true := by simp [hK1]
        clear hK0 hK1
        go_wp2_with fail
        go_region_held3 (fun w' => w'.cell? ⟨w.heap.size, 2, none⟩ = some (.int .i64 o.A) ∧ w'.cell? ⟨w.heap.size, 3, none⟩ = some (.int .i64 o.B) ∧ w'.cell? ⟨w.heap.size, 5, none⟩ = some (.bool o.F) ∧ w'.cell? ⟨w.heap.size + 1, 2, none⟩ = some (.int .i64 c)) (go_keep)
          ((first
            | (go_at_call 19; refine (handle_any _ (by first | exact a0 | exact b0) (by first | exact a1 | exact b1) _).mono ?_; rintro e w5 ⟨hd, hhd, rfl, hw5⟩; subst hw5)
            | (go_at_call 12; refine (pick_ex _ _ (by first | exact b0 | exact c0) (by first | exact b1 | exact c1) (by first | decide | omega) (by first | decide | omega) _).mono ?_; rintro e w5 ⟨te, hte, rfl, hw5⟩; subst hw5)
            | (go_at_call 16; refine (hs.derive P hi 0 _ _ o.F ie ⟨by omega, by omega⟩ ⟨by omega, by omega⟩).mono ?_; rintro e w6 ⟨rfl, hn⟩
               have e2 := (hn.blk hbx (by rw [ht]; omega)).cell 2
               have e3 := (hn.blk hbx (by rw [ht]; omega)).cell 3
               have e5 := (hn.blk hbx (by rw [ht]; omega)).cell 5
               have f2 := (hn.blk hcx (by rw [ht2]; omega)).cell 2
               simp at e2 e3 e5 f2)))
        go_wp2_with fail
        go_end0
        exact ⟨rfl, _, .derive 0 (by omega) (by omega) _ _ _, hn.after hW⟩
      have y1 : (o.K == 1) = false := beq_eq_false_iff_ne.2 hK1
      by_cases hK4 : o.K = 4
      · have y4 : (o.K == 4) = true := by simp [hK4]
        clear hK0 hK1 hK4
        go_wp2_with fail
        go_region_held3 (fun w' => w'.cell? ⟨w.heap.size, 2, none⟩ = some (.int .i64 o.A) ∧ w'.cell? ⟨w.heap.size, 3, none⟩ = some (.int .i64 o.B) ∧ w'.cell? ⟨w.heap.size, 4, none⟩ = some (.int .i64 o.C) ∧ w'.cell? ⟨w.heap.size, 5, none⟩ = some (.bool o.F) ∧ w'.cell? ⟨w.heap.size + 1, 1, none⟩ = some (.int .i64 b)) (go_keep)
          ((first
            | (go_at_call 19; refine (handle_any _ (by first | exact a0 | exact b0) (by first | exact a1 | exact b1) _).mono ?_; rintro e w5 ⟨hd, hhd, rfl, hw5⟩; subst hw5)
            | (go_at_call 20; refine (page_any _ a0 a1 _).mono ?_; rintro e w5 ⟨pg, hpg0, hpg1, rfl, hw5⟩; subst hw5)
            | (go_at_call 12; refine (pick_ex _ _ (by first | exact b0 | exact c0) (by first | exact b1 | exact c1) (by first | decide | omega) (by first | decide | omega) _).mono ?_; rintro e w5 ⟨te, hte, rfl, hw5⟩; subst hw5)
            | (go_at_call 13; refine (hs.map P hi 0 _ _ o.F _ ie ⟨by omega, by omega⟩ ⟨by omega, by omega⟩ ⟨by omega, by omega⟩).mono ?_; rintro e w6 ⟨rfl, hn⟩
               have e2 := (hn.blk hbx (by rw [ht]; omega)).cell 2
               have e3 := (hn.blk hbx (by rw [ht]; omega)).cell 3
               have e4 := (hn.blk hbx (by rw [ht]; omega)).cell 4
               have e5 := (hn.blk hbx (by rw [ht]; omega)).cell 5
               have f1 := (hn.blk hcx (by rw [ht2]; omega)).cell 1
               simp at e2 e3 e4 e5 f1)))
        go_wp2_with fail
        go_end0
        exact ⟨rfl, _, .map 0 (by omega) (by omega) _ _ _ _, hn.after hW⟩
      have y4 : (o.K == 4) = false := beq_eq_false_iff_ne.2 hK4
      by_cases hK5 : o.K = 5
      · have y5 : (o.K == 5) = true := by simp [hK5]
        clear hK0 hK1 hK4 hK5
        go_wp2_with fail
        refine (page_any _ a0 a1 _).mono ?_
        rintro e w5 ⟨pg, hpg0, hpg1, rfl, hw5⟩
        subst w5
        go_wp2_with fail
        refine (hs0.unmap P hi 0 pg ie ⟨by omega, by omega⟩).mono ?_
        rintro e w6 ⟨rfl, hn⟩
        go_wp2_with fail
        go_end0
        exact ⟨rfl, _, .unmap 0 (by omega) (by omega) _, hn.after hW0⟩
      have y5 : (o.K == 5) = false := beq_eq_false_iff_ne.2 hK5
      by_cases hK6 : o.K = 6
      · have y6 : (o.K == 6) = true := by simp [hK6]
        clear hK0 hK1 hK4 hK5 hK6
        go_wp2_with fail
        go_region_held3 (fun w' => w'.cell? ⟨w.heap.size, 2, none⟩ = some (.int .i64 o.A) ∧ w'.cell? ⟨w.heap.size, 3, none⟩ = some (.int .i64 o.B) ∧ w'.cell? ⟨w.heap.size, 4, none⟩ = some (.int .i64 o.C)) (go_keep)
          ((first
            | (go_at_call 20; refine (page_any _ a0 a1 _).mono ?_; rintro e w5 ⟨pg, hpg0, hpg1, rfl, hw5⟩; subst hw5)
            | (go_at_call 12; refine (pick_ex _ _ (by first | exact b0 | exact c0) (by first | exact b1 | exact c1) (by first | decide | omega) (by first | decide | omega) _).mono ?_; rintro e w5 ⟨te, hte, rfl, hw5⟩; subst hw5)
            | (go_at_call 15; refine (hs.store P hi 0 _ _ _ ie ⟨by omega, by omega⟩ ⟨by omega, by omega⟩ ⟨by omega, by omega⟩).mono ?_; rintro e w6 ⟨rfl, hn⟩
               have e2 := (hn.blk hbx (by rw [ht]; omega)).cell 2
               have e3 := (hn.blk hbx (by rw [ht]; omega)).cell 3
               have e4 := (hn.blk hbx (by rw [ht]; omega)).cell 4
               simp at e2 e3 e4)))
        go_wp2_with fail
        go_end0
        exact ⟨rfl, _, .store 0 (by omega) (by omega) _ _ _, hn.after hW⟩
      · have y6 : (o.K == 6) = false := beq_eq_false_iff_ne.2 hK6
        have hK10n : o.K ≠ 10 := by omega
        clear hK0 hK1 hK4 hK5 hK6
        go_wp2_with fail
        refine (ends_any P hs0 hi o ho' hK10n (lo := 0) (hi' := c) 0 (by omega) (by omega) (by omega)).mono ?_
        rintro e w6 ⟨rfl, s2, hns, hn⟩
        go_wp2_with fail
        go_end0
        exact ⟨rfl, s2, hns, hn.after hW0⟩
  · have hKb : o.K < 7 := by omega
    go_wp2_with fail
    refine (pick_ex _ _ v0 v1 ie3 ie4 _).mono ?_
    rintro e w5 ⟨k, hk, rfl, hw5⟩
    subst w5
    by_cases hk0 : (0 : Int) < (k : Int)
    · go_wp2_with fail
      go_region_held3 (fun w' => w'.cell? ⟨w.heap.size, 0, none⟩ = some (.int .i64 o.K) ∧ w'.cell? ⟨w.heap.size, 1, none⟩ = some (.int .i64 o.V) ∧ w'.cell? ⟨w.heap.size, 2, none⟩ = some (.int .i64 o.A) ∧ w'.cell? ⟨w.heap.size, 3, none⟩ = some (.int .i64 o.B) ∧ w'.cell? ⟨w.heap.size, 4, none⟩ = some (.int .i64 o.C) ∧ w'.cell? ⟨w.heap.size, 5, none⟩ = some (.bool o.F) ∧ w'.cell? ⟨w.heap.size + 1, 0, none⟩ = some (.int .i64 a) ∧ w'.cell? ⟨w.heap.size + 1, 1, none⟩ = some (.int .i64 b) ∧ w'.cell? ⟨w.heap.size + 1, 2, none⟩ = some (.int .i64 c)) (go_keep)
        ((first
          | (go_at_call 12; refine (pick_ex _ _ v0 v1 ie3 ie4 _).mono ?_; rintro e w5 ⟨k2, hk2, rfl, hw5⟩; subst hw5
             have hkw2 : IntKind.i64.wrap ((k2 : Int) - 1) = (k2 : Int) - 1 := by rw [IntKind.wrap_i64]; omega)
          | (go_at_call 11; refine (noise_raw P hs hi o.K ((k2 : Int) - 1) o.A o.B o.C o.F ⟨by omega, by omega⟩ ⟨a0, a1⟩ ⟨b0, b1⟩ ⟨c0, c1⟩ (by omega) a b c hb hc hc2).mono ?_; rintro e w6 ⟨rfl, s2, hns, hn⟩
             have e0 := (hn.blk hbx (by rw [ht]; omega)).cell 0
             have e1 := (hn.blk hbx (by rw [ht]; omega)).cell 1
             have e2 := (hn.blk hbx (by rw [ht]; omega)).cell 2
             have e3 := (hn.blk hbx (by rw [ht]; omega)).cell 3
             have e4 := (hn.blk hbx (by rw [ht]; omega)).cell 4
             have e5 := (hn.blk hbx (by rw [ht]; omega)).cell 5
             have f0 := (hn.blk hcx (by rw [ht2]; omega)).cell 0
             have f1 := (hn.blk hcx (by rw [ht2]; omega)).cell 1
             have f2 := (hn.blk hcx (by rw [ht2]; omega)).cell 2
             simp at e0 e1 e2 e3 e4 e5 f0 f1 f2)))
      go_wp2_with fail
      refine bodyPost_ret (v := .tuple #[]) (by simp [results, Try.results9]) rfl ?_
      exact ⟨rfl, s2, hns.low (by omega), hn.after hW⟩
    have hk1 : k = 0 := by omega
    subst hk1
    clear hk hk0
    by_cases hK0 : o.K = 0
    · have y0 : (o.K == 0) = true := by simp [hK0]
      clear hK0
      go_wp2_with fail
      refine (hs0.alloc P hi 0 ie).mono ?_
      rintro e w6 ⟨rfl, hn⟩
      go_wp2_with fail
      go_end0
      exact ⟨rfl, _, .alloc 0 (by omega) (by omega), hn.after hW0⟩
    have y0 : (o.K == 0) = false := beq_eq_false_iff_ne.2 hK0
    by_cases hK1 : o.K = 1
    · have y1 : (o.K == 1) = true := by simp [hK1]
      clear hK0 hK1
      go_wp2_with fail
      go_region_held3 (fun w' => w'.cell? ⟨w.heap.size, 2, none⟩ = some (.int .i64 o.A) ∧ w'.cell? ⟨w.heap.size, 3, none⟩ = some (.int .i64 o.B) ∧ w'.cell? ⟨w.heap.size, 5, none⟩ = some (.bool o.F) ∧ w'.cell? ⟨w.heap.size + 1, 2, none⟩ = some (.int .i64 c)) (go_keep)
        ((first
          | (go_at_call 19; refine (handle_any _ (by first | exact a0 | exact b0) (by first | exact a1 | exact b1) _).mono ?_; rintro e w5 ⟨hd, hhd, rfl, hw5⟩; subst hw5)
          | (go_at_call 12; refine (pick_ex _ _ (by first | exact b0 | exact c0) (by first | exact b1 | exact c1) (by first | decide | omega) (by first | decide | omega) _).mono ?_; rintro e w5 ⟨te, hte, rfl, hw5⟩; subst hw5)
          | (go_at_call 16; refine (hs.derive P hi 0 _ _ o.F ie ⟨by omega, by omega⟩ ⟨by omega, by omega⟩).mono ?_; rintro e w6 ⟨rfl, hn⟩
             have e2 := (hn.blk hbx (by rw [ht]; omega)).cell 2
             have e3 := (hn.blk hbx (by rw [ht]; omega)).cell 3
             have e5 := (hn.blk hbx (by rw [ht]; omega)).cell 5
             have f2 := (hn.blk hcx (by rw [ht2]; omega)).cell 2
             simp at e2 e3 e5 f2)))
      go_wp2_with fail
      go_end0
      exact ⟨rfl, _, .derive 0 (by omega) (by omega) _ _ _, hn.after hW⟩
    have y1 : (o.K == 1) = false := beq_eq_false_iff_ne.2 hK1
    by_cases hK4 : o.K = 4
    · have y4 : (o.K == 4) = true := by simp [hK4]
      clear hK0 hK1 hK4
      go_wp2_with fail
      go_region_held3 (fun w' => w'.cell? ⟨w.heap.size, 2, none⟩ = some (.int .i64 o.A) ∧ w'.cell? ⟨w.heap.size, 3, none⟩ = some (.int .i64 o.B) ∧ w'.cell? ⟨w.heap.size, 4, none⟩ = some (.int .i64 o.C) ∧ w'.cell? ⟨w.heap.size, 5, none⟩ = some (.bool o.F) ∧ w'.cell? ⟨w.heap.size + 1, 1, none⟩ = some (.int .i64 b)) (go_keep)
        ((first
          | (go_at_call 19; refine (handle_any _ (by first | exact a0 | exact b0) (by first | exact a1 | exact b1) _).mono ?_; rintro e w5 ⟨hd, hhd, rfl, hw5⟩; subst hw5)
          | (go_at_call 20; refine (page_any _ a0 a1 _).mono ?_; rintro e w5 ⟨pg, hpg0, hpg1, rfl, hw5⟩; subst hw5)
          | (go_at_call 12; refine (pick_ex _ _ (by first | exact b0 | exact c0) (by first | exact b1 | exact c1) (by first | decide | omega) (by first | decide | omega) _).mono ?_; rintro e w5 ⟨te, hte, rfl, hw5⟩; subst hw5)
          | (go_at_call 13; refine (hs.map P hi 0 _ _ o.F _ ie ⟨by omega, by omega⟩ ⟨by omega, by omega⟩ ⟨by omega, by omega⟩).mono ?_; rintro e w6 ⟨rfl, hn⟩
             have e2 := (hn.blk hbx (by rw [ht]; omega)).cell 2
             have e3 := (hn.blk hbx (by rw [ht]; omega)).cell 3
             have e4 := (hn.blk hbx (by rw [ht]; omega)).cell 4
             have e5 := (hn.blk hbx (by rw [ht]; omega)).cell 5
             have f1 := (hn.blk hcx (by rw [ht2]; omega)).cell 1
             simp at e2 e3 e4 e5 f1)))
      go_wp2_with fail
      go_end0
      exact ⟨rfl, _, .map 0 (by omega) (by omega) _ _ _ _, hn.after hW⟩
    have y4 : (o.K == 4) = false := beq_eq_false_iff_ne.2 hK4
    by_cases hK5 : o.K = 5
    · have y5 : (o.K == 5) = true := by simp [hK5]
      clear hK0 hK1 hK4 hK5
      go_wp2_with fail
      refine (page_any _ a0 a1 _).mono ?_
      rintro e w5 ⟨pg, hpg0, hpg1, rfl, hw5⟩
      subst w5
      go_wp2_with fail
      refine (hs0.unmap P hi 0 pg ie ⟨by omega, by omega⟩).mono ?_
      rintro e w6 ⟨rfl, hn⟩
      go_wp2_with fail
      go_end0
      exact ⟨rfl, _, .unmap 0 (by omega) (by omega) _, hn.after hW0⟩
    have y5 : (o.K == 5) = false := beq_eq_false_iff_ne.2 hK5
    by_cases hK6 : o.K = 6
    · have y6 : (o.K == 6) = true := by simp [hK6]
      clear hK0 hK1 hK4 hK5 hK6
      go_wp2_with fail
      go_region_held3 (fun w' => w'.cell? ⟨w.heap.size, 2, none⟩ = some (.int .i64 o.A) ∧ w'.cell? ⟨w.heap.size, 3, none⟩ = some (.int .i64 o.B) ∧ w'.cell? ⟨w.heap.size, 4, none⟩ = some (.int .i64 o.C)) (go_keep)
        ((first
          | (go_at_call 20; refine (page_any _ a0 a1 _).mono ?_; rintro e w5 ⟨pg, hpg0, hpg1, rfl, hw5⟩; subst hw5)
          | (go_at_call 12; refine (pick_ex _ _ (by first | exact b0 | exact c0) (by first | exact b1 | exact c1) (by first | decide | omega) (by first | decide | omega) _).mono ?_; rintro e w5 ⟨te, hte, rfl, hw5⟩; subst hw5)
          | (go_at_call 15; refine (hs.store P hi 0 _ _ _ ie ⟨by omega, by omega⟩ ⟨by omega, by omega⟩ ⟨by omega, by omega⟩).mono ?_; rintro e w6 ⟨rfl, hn⟩
             have e2 := (hn.blk hbx (by rw [ht]; omega)).cell 2
             have e3 := (hn.blk hbx (by rw [ht]; omega)).cell 3
             have e4 := (hn.blk hbx (by rw [ht]; omega)).cell 4
             simp at e2 e3 e4)))
      go_wp2_with fail
      go_end0
      exact ⟨rfl, _, .store 0 (by omega) (by omega) _ _ _, hn.after hW⟩
    · have y6 : (o.K == 6) = false := beq_eq_false_iff_ne.2 hK6
      have hK10n : o.K ≠ 10 := by omega
      clear hK0 hK1 hK4 hK5 hK6
      go_wp2_with fail
      refine (ends_any P hs0 hi o ho' hK10n (lo := 0) (hi' := c) 0 (by omega) (by omega) (by omega)).mono ?_
      rintro e w6 ⟨rfl, s2, hns, hn⟩
      go_wp2_with fail
      go_end0
      exact ⟨rfl, s2, hns, hn.after hW0⟩
end
end Go.Proofs.Ytnolplmpanbmhab

/-
  What the statements without the document's answer need, as plain data.
-/
namespace Go.Proofs.Ytnolplmpanbmhab
open Go.RowKit
set_option linter.unusedVariables false

section
variable {s t : RSt}

theorem rawE_alive {env : Int} (h : aliveB s env = true) : rawE s env = 0 := by unfold rawE; rw [h]; rfl
/-- An environment of which a right is alive is alive. -/
theorem HInv.raw (hH : HInv s) {i : Nat} {r : RR} (hr : s.rights[i]? = some r) (hl : lv s.rights i = true) : rawE s r.env = 0 := rawE_alive (hH.alv i r hr hl)
/-- A right that is alive, named by its environment. -/
theorem rightE_ok (hI : RInv s) (hH : HInv s) {i : Nat} {r : RR} (hr : s.rights[i]? = some r) (hl : lv s.rights i = true) : rightE s r.env (i + 1) = ((i : Int), (0 : Int)) := by
  have hi := (List.getElem?_eq_some_iff.1 hr).1
  have hx := hH.raw hr hl
  unfold rightE
  rw [hx]
  have h1 : (1 : Int) ≤ (i : Int) + 1 ∧ (i : Int) + 1 ≤ s.rights.length := by omega
  have h2 : ((i : Int) + 1 - 1) = i := by omega
  simp only [ne_eq, not_true_eq_false, if_false, if_pos h1, h2, Int.toNat_natCast, hr, hl, if_true]

theorem entI_at (hok : SOk s) {q : Nat} {e : Ent} (he : s.slots[q]? = some e) (hu : e.used = true) : entI s e.env e.page = q := by
  rcases entI_cases s e.env e.page with h | ⟨q2, e2, h, he2, hp2⟩
  · exfalso
    have : s.slots.findIdx? (entP e.env e.page) = none := by
      unfold entI at h
      cases hx : s.slots.findIdx? (entP e.env e.page) with
      | none => rfl
      | some i => rw [hx] at h; simp at h
    rw [List.findIdx?_eq_none_iff] at this
    have := this e (List.mem_of_getElem? he)
    simp [entP, hu] at this
  · simp [entP] at hp2
    have := hok.uni q2 q e2 e he2 he hp2.1 hu hp2.2.1 hp2.2.2
    rw [h, this]

theorem load_at (hok : SOk s) {q : Nat} {e : Ent} (he : s.slots[q]? = some e) (hu : e.used = true) (hr : rawE s e.env = 0) {a : Int} (a0 : 0 ≤ a) (a3 : a ≤ 3) : loadR s e.env e.page a = (byteAt s e.fr a, 0) := by
  obtain ⟨p0, p1, _⟩ := hok.ent q e he hu
  unfold loadR
  rw [hr, if_neg (by simp), if_neg (by omega), if_neg (by omega), entI_at hok he hu, if_neg (by omega)]
  simp only [Int.toNat_natCast, he]
theorem store_at (hok : SOk s) {q : Nat} {e : Ent} (he : s.slots[q]? = some e) (hu : e.used = true) (hw : e.wr = true) (hr : rawE s e.env = 0) {a v : Int} (a0 : 0 ≤ a) (a3 : a ≤ 3) (v0 : 0 ≤ v) (v1 : v ≤ 255) : storeR s e.env e.page a v = (0, putByte s e.fr a v) := by
  obtain ⟨p0, p1, _⟩ := hok.ent q e he hu
  unfold storeR
  rw [hr, if_neg (by simp), if_neg (by omega), if_neg (by omega), if_neg (by omega), entI_at hok he hu, if_neg (by omega)]
  simp only [Int.toNat_natCast, he, hw, Bool.not_true, Bool.false_eq_true, if_false]

theorem byte_put (hok : SOk s) {f : Int} (f0 : 0 ≤ f) (f1 : f < s.nf) {a b v : Int} (a0 : 0 ≤ a) (a3 : a ≤ 3) (b0 : 0 ≤ b) : byteAt (putByte s f a v) f b = if b = a then v else byteAt s f b := by
  have hfl : f.toNat < s.bytes.length := by rw [hok.fix.by_]; omega
  obtain ⟨l, hl⟩ : ∃ l, s.bytes[f.toNat]? = some l := ⟨s.bytes[f.toNat], by simp⟩
  have hl4 := (hok.bys _ l hl).1
  unfold byteAt putByte
  simp only [hl, Option.getD_some, List.getElem?_set_self hfl]
  by_cases hb : b = a
  · subst hb
    rw [if_pos rfl, List.getElem?_set_self (by omega)]
    rfl
  · rw [if_neg hb, List.getElem?_set_ne (by omega)]

/-- Map, where it is done. -/
theorem map_done {env page hd slot : Int} {wt : Bool} {j : Nat} {r : RR} (h0 : rawE s env = 0) (hx : rightE s env hd = ((j : Int), (0 : Int))) (hr : s.rights[j]? = some r) (hw : wt = true → r.wr = true) (p0 : 0 ≤ page) (p1 : page ≤ 15) (q0 : 0 ≤ slot) (q1 : slot < s.ns) (hok : SOk s) :
    ∃ s1, mapR s env page hd wt slot = (0, s1) ∧ s1.slots[slot.toNat]? = some ⟨true, env, page, r.fr, wt⟩ ∧ s1.rights = s.rights ∧ s1.bytes = s.bytes ∧ s1.alive = s.alive ∧ s1.ne = s.ne ∧ s1.nf = s.nf ∧ s1.ns = s.ns := by
  have hq : (wt && !r.wr) = false := by
    cases wt
    · rfl
    · simp [hw rfl]
  refine ⟨{ goneS s env page with slots := (goneS s env page).slots.set slot.toNat ⟨true, env, page, r.fr, wt⟩ }, ?_, ?_, rfl, rfl, rfl, rfl, rfl, rfl⟩
  · unfold mapR
    rw [h0, hx]
    simp only [ne_eq, not_true_eq_false, if_false, Int.toNat_natCast, hr, hq, Bool.false_eq_true]
    rw [if_neg (by omega), if_neg (by omega)]
  · have hl : slot.toNat < (goneS s env page).slots.length := by have := (hok.gone env page).ns; have h3 : (goneS s env page).ns = s.ns := rfl; omega
    simp only [List.getElem?_set_self hl]
end
end Go.Proofs.Ytnolplmpanbmhab

/-
  A new machine, and its first right.
-/
namespace Go.Proofs.Ytnolplmpanbmhab
open Go.RowKit
set_option linter.unusedVariables false

theorem St.fresh {M : MT} {w0 w : World} {m a b c : Nat} {f : Nat → Option Nat} (hm : NewF M w0 w m f (RSt.fresh a b c)) (hb : Below w0.heap.size w0 w) (ha : a ≤ 16) (hb8 : b ≤ 8) (hc : c ≤ 4) : ∃ own, St M w0 m 0 own (RSt.fresh a b c) w := by
  refine ⟨fun x => match f x with | some j => (2, j) | none => (0, 0), hm.2 _ 2 (fun b j hj => by simp only [hj]), sok_fresh ha hb8 hc, hinv_fresh a b c, by simp [RSt.fresh], fun x hx => ?_, fun x hx => ?_, hb⟩
  · cases hf : f x with
    | none => rfl
    | some j => have := (hm.1 x j hf).1; omega
  · cases hf : f x with
    | none => rfl
    | some j => have := (hm.1 x j hf).2; omega

theorem fresh_raw {a b c : Nat} {env : Int} (h0 : 0 ≤ env) (h1 : env < c) : rawE (RSt.fresh a b c) env = 0 := by
  refine rawE_alive ?_
  unfold aliveB
  have : (RSt.fresh a b c).alive[env.toNat]? = some true := by simp only [RSt.fresh, List.getElem?_replicate]; rw [if_pos (by omega)]
  rw [this]
  simp only [RSt.fresh, h0, h1, decide_true, Option.getD_some, Bool.and_self]

theorem fresh_alloc {a b c : Nat} (ha : 1 ≤ a) {env : Int} (h0 : 0 ≤ env) (h1 : env < c) : ∃ s1, allocR (RSt.fresh a b c) env = ((1, 0), s1) ∧ s1.rights = [⟨1, env, 0, true, -1, false⟩] ∧ s1.slots = (RSt.fresh a b c).slots ∧ s1.alive = (RSt.fresh a b c).alive ∧ s1.ne = c ∧ s1.nf = a ∧ s1.ns = b ∧ s1.bytes = (RSt.fresh a b c).bytes := by
  have hl : leastFree (RSt.fresh a b c) = some 0 := by
    unfold leastFree
    have : (RSt.fresh a b c).nf = (a - 1) + 1 := by show a = _; omega
    rw [this, List.range_succ_eq_map, List.find?_cons]
    have : freeB (RSt.fresh a b c) 0 = true := by
      unfold freeB owned RSt.fresh
      simp
    rw [this]
  have hb : (RSt.fresh a b c).bytes.set 0 [0, 0, 0, 0] = (RSt.fresh a b c).bytes := by
    apply List.ext_getElem?
    intro i
    rw [List.getElem?_set]
    split
    · rename_i h
      subst h
      split
      · simp only [RSt.fresh, List.getElem?_replicate]; rw [if_pos (by omega)]
      · rename_i h2; simp [RSt.fresh] at h2; omega
    · rfl
  unfold allocR firstS
  rw [fresh_raw h0 h1, hl]
  have hcn : cnt (RSt.fresh a b c).rights < 32 := by simp [RSt.fresh, cnt, cntTo]
  simp only [ne_eq, not_true_eq_false, if_false, if_pos hcn, Int.natCast_zero]
  refine ⟨_, rfl, ?_, rfl, rfl, rfl, rfl, rfl, ?_⟩
  · simp [addR, RSt.fresh]
  · exact hb
theorem first_right {s : RSt} {fr : Int} (hr : s.rights = [⟨1, 0, fr, true, -1, false⟩]) (hI : RInv s) (hH : HInv s) : s.rights[0]? = some ⟨1, 0, fr, true, -1, false⟩ ∧ lv s.rights 0 = true ∧ rightE s 0 1 = (((0 : Nat) : Int), (0 : Int)) ∧ rawE s 0 = 0 := by
  have h0 : s.rights[0]? = some ⟨1, 0, fr, true, -1, false⟩ := by rw [hr]; rfl
  have hl : lv s.rights ((0 : Nat) : Int) = true := by
    rw [lv_step hI.ord h0]
    simp only [Bool.not_false, Bool.true_and]
    exact lv_neg (by omega)
  have h1 := rightE_ok hI hH h0 hl
  have h2 := hH.raw h0 hl
  refine ⟨h0, hl, ?_, h2⟩
  have e : (((0 : Nat) : Int) + 1) = 1 := by omega
  rw [e] at h1
  exact h1
end Go.Proofs.Ytnolplmpanbmhab

/-
  'fresh': a new frame, if there is one, is all 0; what is stored there is loaded.
-/
namespace Go.Proofs.Ytnolplmpanbmhab
open Go.RowKit
set_option linter.unusedVariables false
attribute [local go_sem ↓] Go.wp_at_zero Go.wp_at_succ

theorem alloc_cases {s : RSt} (hok : SOk s) (env : Int) : (∃ x, allocR s env = ((0, x), s) ∧ (x = 2 ∨ x = 12)) ∨
    ∃ (f : Nat) (s1 : RSt), allocR s env = (((s.rights.length : Int) + 1, 0), s1) ∧ leastFree s = some f ∧ s1.rights = s.rights ++ [⟨s.rights.length + 1, env, f, true, -1, false⟩] ∧ lv s1.rights (s.rights.length : Nat) = true ∧ f < s.nf ∧ s1.bytes = s.bytes.set f [0, 0, 0, 0] ∧ (∀ a, byteAt s1 f a = 0) ∧
      s1.slots = s.slots ∧ s1.alive = s.alive ∧ s1.ne = s.ne ∧ s1.nf = s.nf ∧ s1.ns = s.ns ∧ aliveB s env = true := by
  unfold allocR
  rcases rawE_cases s env with ⟨h2, ha⟩ | ⟨h0, ha⟩
  · left; exact ⟨2, by rw [h2]; rfl, .inl rfl⟩
  · rw [h0]
    simp only [ne_eq, not_true_eq_false, if_false]
    unfold firstS
    cases hl : leastFree s with
    | none => left; exact ⟨12, rfl, .inr rfl⟩
    | some f =>
      simp only
      by_cases hc : cnt s.rights < 32
      · right
        have hf := leastFree_lt hl
        have hfl : f < s.bytes.length := by rw [hok.fix.by_]; exact hf
        rw [if_pos hc]
        refine ⟨f, _, rfl, rfl, rfl, ?_, hf, rfl, fun a => ?_, rfl, rfl, rfl, rfl, rfl, ha⟩
        · have hx : (s.rights ++ [⟨s.rights.length + 1, env, f, true, -1, false⟩])[s.rights.length]? = some (⟨s.rights.length + 1, env, f, true, -1, false⟩ : RR) := by simp
          show lv (s.rights ++ [⟨s.rights.length + 1, env, f, true, -1, false⟩]) (s.rights.length : Nat) = true
          rw [lv_step (hok.inv.ord.append (by simp) (by simp; omega)) hx]
          simp only [Bool.not_false, Bool.true_and]
          exact lv_neg (by omega)
        · unfold byteAt addR
          simp only [Int.toNat_natCast, List.getElem?_set_self hfl, Option.getD_some]
          generalize a.toNat = k
          match k with
          | 0 => rfl
          | 1 => rfl
          | 2 => rfl
          | 3 => rfl
          | k + 4 => rfl
      · left; rw [if_neg hc]; exact ⟨12, rfl, .inr rfl⟩

section
variable {M : MT} {w0 w w' : World} {m i : Nat} {own : Nat → Nat × Nat} {s s' : RSt}
theorem St.relen (h : St M w0 m i own s w) {j : Nat} (hl : s.rights.length ≤ j) : St M w0 m j own s w := ⟨h.rep, h.hok, h.hinv, hl, h.bot, h.top, h.bel⟩
theorem StN.trans {j : Nat} {own1 : Nat → Nat × Nat} {w1 : World} {s1 : RSt} (ho : ∀ b, b < w.heap.size → own1 b = own b) (hk : ∀ b, b < w.heap.size → (own b).1 ≠ 2 → w1.heap[b]? = w.heap[b]?) (hs : w.heap.size ≤ w1.heap.size) (h2 : StN M w0 m j own1 s1 w1 w') : StN M w0 m j own s1 w w' := by
  obtain ⟨own2, h3, h4, h5, h6⟩ := h2
  exact ⟨own2, h3, fun b hb => (h4 b (by omega)).trans (ho b hb), fun b hb hn => (h5 b (by omega) (by rw [ho b hb]; exact hn)).trans (hk b hb hn), by omega⟩

/-- The entry of a new frame is there, of which the first k bytes are written. -/
structure Fr (s t : RSt) (env : Int) (p : Nat) (f : Nat) (q k : Nat) : Prop where
  ent : t.slots[q]? = some ⟨true, env, p, f, true⟩
  raw : rawE t env = 0
  nf : f < t.nf
  done : ∀ j : Nat, j < k → j ≤ 3 → byteAt t f j = 255 - j
  left : ∀ j : Nat, k ≤ j → j ≤ 3 → byteAt t f j = 0
  len : t.rights.length = s.rights.length + 1
  ns : t.ns = s.ns
theorem Fr.load {t : RSt} {env : Int} {p f q k : Nat} (h : Fr s t env p f q k) (hok : SOk t) (j : Nat) (hj : j ≤ 3) : loadR t env p j = (if j < k then 255 - (j : Int) else 0, 0) := by
  have h1 := load_at hok h.ent rfl h.raw (a := j) (by omega) (by omega)
  simp only at h1
  rw [h1]
  by_cases hk : j < k
  · rw [if_pos hk, h.done j hk hj]
  · rw [if_neg hk, h.left j (by omega) hj]
theorem Fr.store {t : RSt} {env : Int} {p f q k : Nat} (h : Fr s t env p f q k) (hok : SOk t) (hk : k ≤ 3) : ∃ t', storeR t env p k (255 - (k : Int)) = (0, t') ∧ Fr s t' env p f q (k + 1) := by
  have h1 := store_at hok h.ent rfl rfl h.raw (a := k) (v := 255 - (k : Int)) (by omega) (by omega) (by omega) (by omega)
  simp only at h1
  have hb := fun j : Nat => byte_put hok (f := f) (by omega) (by have := h.nf; omega) (a := k) (b := j) (v := 255 - (k : Int)) (by omega) (by omega) (by omega)
  refine ⟨_, h1, h.ent, h.raw, h.nf, fun j hj h3 => ?_, fun j hj h3 => ?_, h.len, h.ns⟩
  · rw [hb]
    by_cases e : j = k
    · subst e; rw [if_pos rfl]
    · rw [if_neg (by omega)]; exact h.done j (by omega) h3
  · rw [hb, if_neg (by omega)]; exact h.left j (by omega) h3

set_option maxHeartbeats 8000000 in
set_option maxRecDepth 100000 in
theorem fresh_any (P : Api M) (h : St M w0 m i own s w) (hi : (i + 3) * 48 ≤ 140737488355328) (o : LStep) (ho : o.i64) (a b c : Nat) (hb1 : 1 ≤ b) (hb : b ≤ 8) (hc : c ≤ 4) (hc2 : 2 ≤ c) (hns : s.ns = b) (must : Bool) (hmust : must = true → ∀ env : Nat, env < c → (allocR s env).1.2 = 0) :
    Calls Try.prog 8 #[.pointer (some ⟨m, 0, none⟩), .agg #[.int .i64 o.K, .int .i64 o.V, .int .i64 o.A, .int .i64 o.B, .int .i64 o.C, .bool o.F], .agg #[.int .i64 a, .int .i64 b, .int .i64 c], .bool must] w fun e w' => e = .returned (.bool true) ∧ ∃ s', s'.ns = s.ns ∧ StN M w0 m (i + 1) own s' w w' := by
  obtain ⟨⟨v0, v1⟩, ⟨a0, a1⟩, ⟨b0, b1⟩, ⟨c0, c1⟩⟩ := ho
  have hW0 : Below w.heap.size w (box2 w o a b c) := ((Below.refl _ _).alloc (Nat.le_refl _) _).alloc (by simp) _
  have ht := h.top w.heap.size (Nat.le_refl _)
  have ht2 := h.top (w.heap.size + 1) (by omega)
  have ie4 : (c : Int) ≤ 4611686018427387904 := by omega
  have ie3 : (0 : Int) < (c : Int) := by omega
  have hs0 := h.below P hW0
  have hbx := (Blk.new w [.int .i64 o.K, .int .i64 o.V, .int .i64 o.A, .int .i64 o.B, .int .i64 o.C, .bool o.F] 31).alloc (.cells #[.int .i64 a, .int .i64 b, .int .i64 c] 27)
  have hcx := Blk.at (w.alloc (.cells #[.int .i64 o.K, .int .i64 o.V, .int .i64 o.A, .int .i64 o.B, .int .i64 o.C, .bool o.F] 31)) [.int .i64 a, .int .i64 b, .int .i64 c] 27 (w.heap.size + 1) (by simp)
  have hi2 : (i + 2) * 48 ≤ 140737488355328 := by omega
  go_enter Try.func8, Try.ntmps8
  go_wp2_with fail
  refine (pick_ex _ _ v0 v1 ie3 ie4 _).mono ?_
  rintro e w5 ⟨env, henv, rfl, hw5⟩
  subst w5
  have ie : I64 (env : Int) := ⟨by omega, by omega⟩
  go_wp2_with fail
  refine (hs0.alloc P hi2 env ie).mono ?_
  rintro e w6 ⟨rfl, own6, hst6, ho6, hk6, hs6⟩
  rcases alloc_cases h.hok (env : Int) with ⟨x, hx, hx2⟩ | ⟨f, s1, hx, -, hr1, hl1, hf1, -, hby1, hsl1, hal1, hne1, hnf1, hns1, hal⟩
  · have hm0 : must = false := by
      cases must with
      | false => rfl
      | true =>
        have := hmust rfl env (by omega)
        rw [hx] at this
        simp at this
        omega
    subst hm0
    rw [hx] at hst6 ⊢
    have hx0 : (x != 0) = true := by rcases hx2 with rfl | rfl <;> rfl
    simp only at hst6 ⊢
    rcases hx2 with rfl | rfl
    · go_wp2_with fail
      go_ret
      exact ⟨rfl, s, rfl, StN.after hW0 ⟨own6, hst6, ho6, hk6, hs6⟩⟩
    · go_wp2_with fail
      go_ret
      exact ⟨rfl, s, rfl, StN.after hW0 ⟨own6, hst6, ho6, hk6, hs6⟩⟩
  · rw [hx] at hst6 ⊢
    simp only at hst6 ⊢
    have hll := h.len
    have hr6 : s1.rights[s.rights.length]? = some ⟨s.rights.length + 1, env, f, true, -1, false⟩ := by rw [hr1]; simp
    have hx6 := rightE_ok hst6.hok.inv hst6.hinv hr6 hl1
    have hraw6 := hst6.hinv.raw hr6 hl1
    simp only at hx6 hraw6
    have hlen6 : s1.rights.length = s.rights.length + 1 := by rw [hr1]; simp
    have hbx6 := hbx.of (hk6 _ hbx.lt (by rw [ht]; omega))
    have hcx6 := hcx.of (hk6 _ hcx.lt (by rw [ht2]; omega))
    have hz0 := hW0.size
    have c1 : ∀ b, b < w.heap.size → own6 b = own b := fun b hb => ho6 b (Nat.lt_of_lt_of_le hb hz0)
    have c2 : ∀ b, b < w.heap.size → (own b).1 ≠ 2 → w6.heap[b]? = w.heap[b]? := fun b hb hn => (hk6 b (Nat.lt_of_lt_of_le hb hz0) hn).trans (hW0.block b hb)
    have c3 : w.heap.size ≤ w6.heap.size := Nat.le_trans hz0 hs6
    have HC : Hid ((∀ b, b < w.heap.size → own6 b = own b) ∧ (∀ b, b < w.heap.size → (own b).1 ≠ 2 → w6.heap[b]? = w.heap[b]?) ∧ w.heap.size ≤ w6.heap.size) := ⟨c1, c2, c3⟩
    have t6 : (own6 w.heap.size).1 = 0 := by rw [ho6 _ hbx.lt]; exact ht
    have t6' : (own6 (w.heap.size + 1)).1 = 0 := by rw [ho6 _ hcx.lt]; exact ht2
    have q2 := hbx6.cell 2
    have q3 := hbx6.cell 3
    have p1 := hcx6.cell 1
    simp at q2 q3 p1
    obtain ⟨L, hL⟩ : ∃ L : Nat, s.rights.length + 1 = L := ⟨_, rfl⟩
    have hLi : ((s.rights.length : Int) + 1) = (L : Int) := by omega
    rw [hLi] at hx6 ⊢
    have HX6 : Hid (rightE s1 env L = (((s.rights.length : Nat) : Int), (0 : Int))) := hx6
    have HR6 : Hid (s1.rights[s.rights.length]? = some ⟨s.rights.length + 1, env, f, true, -1, false⟩) := hr6
    have HW6 : Hid (rawE s1 env = 0) := hraw6
    have HB6 : Hid (∀ a, byteAt s1 f a = 0) := hby1
    have iL : I64 (L : Int) := ⟨by omega, by omega⟩
    have hi3 : (i + 1 + 2) * 48 ≤ 140737488355328 := hi
    have hst6d := hst6
    have hns6 : s1.ns = b := by rw [hns1, hns]
    clear hr1 hl1 hal1 hx hx6 hr6 hraw6 hby1 hsl1 hne1 hk6 ho6 hs6 hbx hcx hs0 hmust hst6 c1 c2 c3 hz0
    go_wp2_with fail
    refine (pick_ex _ _ a0 a1 (by decide) (by decide) _).mono ?_
    rintro e w7 ⟨pg, hpg, rfl, hw7⟩
    subst w7
    have ip : I64 (pg : Int) := ⟨by omega, by omega⟩
    have ib1 : (0 : Int) < (b : Int) := by omega
    have ib2 : (b : Int) ≤ 4611686018427387904 := by omega
    go_wp2_with fail
    refine (pick_ex _ _ b0 b1 ib1 ib2 _).mono ?_
    rintro e w7 ⟨te, hte, rfl, hw7⟩
    subst w7
    go_wp2_with fail
    refine (hst6d.map P hi3 env pg L true te ie ip iL ⟨by omega, by omega⟩).mono ?_
    rintro e w8 ⟨rfl, hn8⟩
    obtain ⟨s2, hm2, hsl2, hr2, hby2, hal2, hne2, hnf2, hns2⟩ := map_done (env := env) (page := pg) (hd := L) (slot := te) (wt := true) HW6.out HX6.out HR6.out (fun _ => rfl) (by omega) (by omega) (by omega) (by rw [hns6]; omega) hst6d.hok
    rw [hm2] at hn8 ⊢
    simp only at hn8 ⊢
    obtain ⟨own8, hst8, ho8, hk8, hs8⟩ := hn8
    have hfr : Fr s s2 env pg f te 0 := ⟨by simpa using hsl2, by rw [← HW6.out]; unfold rawE aliveB; rw [hne2, hal2], by rw [hnf2, hnf1]; exact hf1, fun j hj => by omega, fun j _ _ => by have := HB6.out j; unfold byteAt at this ⊢; rw [hby2]; exact this, by rw [hr2, hlen6], by rw [hns2, hns1]⟩
    have hn8' : StN M w0 m (i + 1) own s2 w w8 := StN.trans HC.out.1 HC.out.2.1 HC.out.2.2 ⟨own8, hst8.relen (by rw [hfr.len]; omega), ho8, hk8, hs8⟩
    clear hm2 hsl2 hr2 hby2 hal2 hne2 hnf2 hns2
    go_wp2_with fail
    go_loopg [13] 4 (fun k x wr => ∃ (r : Nat) (t : RSt), x = .int .i64 r ∧ r + k = 4 ∧ StN M w0 m (i + 1) own t w wr ∧ Fr s t env pg f te r)
    case atStart => exact ⟨0, s2, rfl, by omega, hn8', hfr⟩
    case round =>
      obtain ⟨r, t, rfl, hk, ⟨ow, hst, g1, g2, g3⟩, hfrr⟩ := hrel
      have HK : Hid (r + gk = 4) := hk
      have hr4 : r ≤ 4 := by omega
      clear hk hst8 ho8 hk8 hs8 hn8' hfr
      by_cases hlt : r < 4
      · have ir : I64 (r : Int) := ⟨by omega, by omega⟩
        have hl1 := hfrr.load hst.hok r (by omega)
        rw [if_neg (by omega)] at hl1
        obtain ⟨t', hs1, hfr1⟩ := hfrr.store hst.hok (by omega)
        have hw1 : IntKind.i64.wrap (255 - (r : Int)) = 255 - (r : Int) := by rw [IntKind.wrap_i64]; omega
        have iv : I64 (255 - (r : Int)) := ⟨by omega, by omega⟩
        have HL1 : Hid (loadR t env pg r = (0, 0)) := hl1
        have HS1 : Hid (storeR t env pg r (255 - (r : Int)) = (0, t')) := hs1
        clear hl1 hs1
        go_wp2_with fail
        refine (hst.load P hi3 env pg r ie ip ir).mono ?_
        rintro e w9 ⟨rfl, ow9, hst9, g4, g5, g6⟩
        rw [HL1.out]
        go_wp2_with fail
        refine (hst9.store P hi3 env pg r (255 - (r : Int)) ie ip ir iv).mono ?_
        rintro e w10 ⟨rfl, ow10, hst10, g7, g8, g9⟩
        rw [HS1.out] at hst10 ⊢
        simp only at hst10 ⊢
        go_wp2_with fail
        go_roundg (gk - 1)
        case measure => have := HK.out; omega
        case rel => exact ⟨r + 1, t', by go_num, by have := HK.out; omega, StN.trans g1 g2 g3 (StN.trans g4 g5 g6 ⟨ow10, hst10.relen (by rw [hfr1.len]; omega), g7, g8, g9⟩), hfr1⟩
      · obtain rfl : r = 4 := by omega
        clear hlt hr4
        go_wp2_with fail
        obtain ⟨wo, hwo⟩ : ∃ wo : World, wo = wr := ⟨_, rfl⟩
        have hst2 : StN M w0 m (i + 1) own t w wr := ⟨ow, hst, g1, g2, g3⟩
        rw [← hwo] at hst2 ⊢
        obtain ⟨go, hgo⟩ : ∃ go : Nat, go = gk := ⟨_, rfl⟩
        clear hst g1 g2 g3 hwo HK hgo
        go_loopg [17] 4 (fun k x wr => ∃ (r : Nat), x = .int .i64 r ∧ r + k = 4 ∧ StN M w0 m (i + 1) own t w wr)
        case atStart => exact ⟨0, rfl, by omega, hst2⟩
        case round =>
          obtain ⟨r, rfl, hk, ⟨ow, hst, g1, g2, g3⟩⟩ := hrel
          have HK : Hid (r + gk = 4) := hk
          have hr4 : r ≤ 4 := by omega
          clear hk hst2
          by_cases hlt : r < 4
          · have ir : I64 (r : Int) := ⟨by omega, by omega⟩
            have hl1 := hfrr.load hst.hok r (by omega)
            rw [if_pos hlt] at hl1
            have hw1 : IntKind.i64.wrap (255 - (r : Int)) = 255 - (r : Int) := by rw [IntKind.wrap_i64]; omega
            have HL1 : Hid (loadR t env pg r = (255 - (r : Int), 0)) := hl1
            clear hl1
            go_wp2_with fail
            refine (hst.load P hi3 env pg r ie ip ir).mono ?_
            rintro e w9 ⟨rfl, ow9, hst9, g4, g5, g6⟩
            rw [HL1.out]
            go_wp2_with fail
            go_roundg (gk - 1)
            case measure => have := HK.out; omega
            case rel => exact ⟨r + 1, by go_num, by have := HK.out; omega, StN.trans g1 g2 g3 ⟨ow9, hst9, g4, g5, g6⟩⟩
          · go_wp2_with fail
            go_ret
            exact ⟨rfl, t, hfrr.ns, ow, hst, g1, g2, g3⟩
end
end Go.Proofs.Ytnolplmpanbmhab

/-
  A script of calls that came in: its calls as plain data.
-/
namespace Go.Proofs.Ytnolplmpanbmhab
open Go.ChangeShapes Go.WideShapes Go.ChangeAt Go.RowKit Go.Deep
set_option linter.unusedVariables false

theorem Try.own : ownKnob Try.prog.godebug = none := by kernel_rfl
theorem Try.laidOut : laidOutB Try.prog = true := by kernel_rfl
theorem Try.cellsInt : Try.prog.cellsOf 3 = 1 := by kernel_rfl
theorem Try.cellsBool : Try.prog.cellsOf 4 = 1 := by kernel_rfl
def Inr (n : Int) : Prop := -9223372036854775808 ≤ n ∧ n ≤ 9223372036854775807
theorem inr_of {n : Int} (h : (Lit.int .i64 n).wf = true) : Inr n := by
  have h1 : decide (IntKind.i64.min ≤ n) = true ∧ decide (n ≤ IntKind.i64.max) = true := by simpa [Lit.wf] using h
  have a := of_decide_eq_true h1.1
  have b := of_decide_eq_true h1.2
  have e1 : IntKind.i64.min = -9223372036854775808 := by decide
  have e2 : IntKind.i64.max = 9223372036854775807 := by decide
  rw [e1] at a
  rw [e2] at b
  exact ⟨a, b⟩
/-- The call's numbers are ints. -/
def LOp.ok (o : LOp) : Prop := Inr o.K ∧ Inr o.M ∧ Inr o.A ∧ Inr o.B ∧ Inr o.C ∧ Inr o.D

theorem list7 {α : Type} {l : List α} (h : l.length = 7) : ∃ a b c d e f g, l = [a, b, c, d, e, f, g] := by
  match l, h with
  | [a, b, c, d, e, f, g], _ => exact ⟨a, b, c, d, e, f, g, rfl⟩

theorem some_get {α : Type} {l : List α} {i n : Nat} (h : l.length = n) (hi : i < n) : ∃ y, l[i]? = some y := ⟨l[i]'(by omega), by simp⟩

end Go.Proofs.Ytnolplmpanbmhab

/-
  A script of steps and a size that came in, as plain data.
-/
namespace Go.Proofs.Ytnolplmpanbmhab
open Go.ChangeShapes Go.WideShapes Go.ChangeAt Go.RowKit Go.Deep
set_option linter.unusedVariables false

theorem Try.cellsStep : Try.prog.cellsOf 31 = 6 := by kernel_rfl
theorem Try.cellsSize : Try.prog.cellsOf 23 = 3 := by kernel_rfl
theorem Try.bytesStep : Try.prog.bytesOf 31 = 48 := by kernel_rfl

/-- The step's numbers are ints. -/
def LStep.ok (o : LStep) : Prop := Inr64 o.V ∧ Inr64 o.A ∧ Inr64 o.B ∧ Inr64 o.C
theorem inr64_of {n : Int} (h : (Lit.int .i64 n).wf = true) : Inr64 n := inr_of h

theorem list6 {α : Type} {l : List α} (h : l.length = 6) : ∃ a b c d e f, l = [a, b, c, d, e, f] := by
  match l, h with
  | [a, b, c, d, e, f], _ => exact ⟨a, b, c, d, e, f, rfl⟩
theorem list3 {α : Type} {l : List α} (h : l.length = 3) : ∃ a b c, l = [a, b, c] := by
  match l, h with
  | [a, b, c], _ => exact ⟨a, b, c, rfl⟩

set_option maxRecDepth 100000 in
/-- A size, read as data. -/
theorem open_size {H : Type} {enc : TypeId × Value → H} {w : World} {n : Nat} {cs : List Value} {x : DataW H × List MemPlace}
    (h : DataW.trod enc Try.prog w 0 (fun _ => true) true n 23 cs = some x) : ∃ a b c : Int, cs = [.int .i64 a, .int .i64 b, .int .i64 c] ∧ Inr64 a ∧ Inr64 b ∧ Inr64 c := by
  obtain ⟨xs, m, _, _, hl, hxl, hf⟩ := DataW.trod_struct Try.underlying23 h
  rw [Try.cellsSize] at hl
  have hxl3 : xs.length = 3 := hxl
  obtain ⟨c0, c1, c2, rfl⟩ := list3 hl
  obtain ⟨y0, e0⟩ := some_get hxl3 (show 0 < 3 by omega)
  obtain ⟨y1, e1⟩ := some_get hxl3 (show 1 < 3 by omega)
  obtain ⟨y2, e2⟩ := some_get hxl3 (show 2 < 3 by omega)
  have f0 := (hf 0 _ rfl).trans e0
  have f1 := (hf 1 _ rfl).trans e1
  have f2 := (hf 2 _ rfl).trans e2
  obtain ⟨a0, g0, _, z0⟩ := DataW.trod_int Try.underlying3 f0
  obtain ⟨a1, g1, _, z1⟩ := DataW.trod_int Try.underlying3 f1
  obtain ⟨a2, g2, _, z2⟩ := DataW.trod_int Try.underlying3 f2
  simp [Try.cellsInt] at g0 g1 g2
  exact ⟨a0, a1, a2, by simp [g0, g1, g2], inr64_of z0, inr64_of z1, inr64_of z2⟩

set_option maxRecDepth 100000 in
/-- One step, read as data. -/
theorem open_step {H : Type} {enc : TypeId × Value → H} {w : World} {n : Nat} {cs : List Value} {x : DataW H × List MemPlace}
    (h : DataW.trod enc Try.prog w 0 (fun _ => true) true n 31 cs = some x) : ∃ o : LStep, cs = o.cells ∧ o.ok := by
  obtain ⟨xs, m, _, _, hl, hxl, hf⟩ := DataW.trod_struct Try.underlying31 h
  rw [Try.cellsStep] at hl
  have hxl6 : xs.length = 6 := hxl
  obtain ⟨c0, c1, c2, c3, c4, c5, rfl⟩ := list6 hl
  obtain ⟨y0, e0⟩ := some_get hxl6 (show 0 < 6 by omega)
  obtain ⟨y1, e1⟩ := some_get hxl6 (show 1 < 6 by omega)
  obtain ⟨y2, e2⟩ := some_get hxl6 (show 2 < 6 by omega)
  obtain ⟨y3, e3⟩ := some_get hxl6 (show 3 < 6 by omega)
  obtain ⟨y4, e4⟩ := some_get hxl6 (show 4 < 6 by omega)
  obtain ⟨y5, e5⟩ := some_get hxl6 (show 5 < 6 by omega)
  have f0 := (hf 0 _ rfl).trans e0
  have f1 := (hf 1 _ rfl).trans e1
  have f2 := (hf 2 _ rfl).trans e2
  have f3 := (hf 3 _ rfl).trans e3
  have f4 := (hf 4 _ rfl).trans e4
  have f5 := (hf 5 _ rfl).trans e5
  obtain ⟨a0, g0, _, z0⟩ := DataW.trod_int Try.underlying3 f0
  obtain ⟨a1, g1, _, z1⟩ := DataW.trod_int Try.underlying3 f1
  obtain ⟨a2, g2, _, z2⟩ := DataW.trod_int Try.underlying3 f2
  obtain ⟨a3, g3, _, z3⟩ := DataW.trod_int Try.underlying3 f3
  obtain ⟨a4, g4, _, z4⟩ := DataW.trod_int Try.underlying3 f4
  obtain ⟨a5, g5, _⟩ := DataW.trod_bool Try.underlying4 f5
  simp [Try.cellsInt, Try.cellsBool] at g0 g1 g2 g3 g4 g5
  exact ⟨⟨a0, a1, a2, a3, a4, a5⟩, by simp [LStep.cells, g0, g1, g2, g3, g4, g5], inr64_of z1, inr64_of z2, inr64_of z3, inr64_of z4⟩

/-- A whole script. -/
theorem open_steps {H : Type} {enc : TypeId × Value → H} {w : World} {fuel : Nat} {ao : Option Addr} {len cap : Nat} {x : DataW H × List MemPlace}
    (h : DataW.trod enc Try.prog w 0 (fun _ => true) true fuel 24 [.slice ao len cap] = some x) :
    ∃ ops : List LStep, ops.length = len ∧ ((len = 0) ∨ ∃ b off, ao = some ⟨b, off, none⟩ ∧ b < w.heap.size ∧ ∀ (i : Nat) (o : LStep), ops[i]? = some o → ∀ (j : Nat) (v : Value), o.cells[j]? = some v → w.cell? ⟨b, off + i * 6 + j, none⟩ = some v) ∧
      (len = 0 ∨ ∃ elems spare, x.1 = .slice elems spare ∧ elems.length = len) ∧ ∀ (i : Nat) (o : LStep), ops[i]? = some o → o.ok := by
  rcases open_slice Try.underlying24 h with ⟨hcs, _⟩ | ⟨a, l, c, m, n, D, Pl, hcs, _, hl, hm, hmm, rfl, hx⟩
  · simp at hcs
    obtain ⟨rfl, rfl, rfl⟩ := hcs
    exact ⟨[], rfl, .inl rfl, .inl rfl, fun i o h => by simp at h⟩
  · simp at hcs
    obtain ⟨rfl, rfl, rfl⟩ := hcs
    simp only [if_true] at hmm
    subst hmm
    rw [Try.cellsStep] at hx
    have hops : ∀ i, i < len → ∃ o : LStep, w.cells? 0 (a.add (i * 6)) 6 = some o.cells ∧ o.ok := fun i hi => by
      obtain ⟨cs', h1, h2⟩ := hx i (by omega)
      obtain ⟨o, rfl, hok⟩ := open_step h2
      exact ⟨o, h1, hok⟩
    obtain ⟨f, hf⟩ : ∃ f : Nat → LStep, ∀ i, i < len → w.cells? 0 (a.add (i * 6)) 6 = some (f i).cells ∧ (f i).ok := by
      classical
      exact ⟨fun i => if hi : i < len then Classical.choose (hops i hi) else ⟨0, 0, 0, 0, 0, false⟩, fun i hi => by simp only [dif_pos hi]; exact Classical.choose_spec (hops i hi)⟩
    have hokk : ∀ (i : Nat) (o : LStep), ((List.range len).map f)[i]? = some o → o.ok := fun i o ho => by
      have hi : i < len := by have := (List.getElem?_eq_some_iff.1 ho).1; simpa using this
      have ho' : o = f i := by simp [List.getElem?_map, List.getElem?_range hi] at ho; exact ho.symm
      rw [ho']; exact (hf i hi).2
    refine ⟨(List.range len).map f, by simp, ?_, .inr ⟨_, _, rfl, by simp⟩, hokk⟩
    by_cases h0 : len = 0
    · exact .inl h0
    · right
      have hc0 := (World.cells?_some (hf 0 (by omega)).1).2.2 0 (by omega)
      obtain ⟨b, off, spot⟩ := a
      have hc0' : w.cell? ⟨b, off, spot⟩ = some (.int .i64 (f 0).K) := by simpa [Addr.add, LStep.cells] using hc0
      have hspot : spot = none := World.cell?_spot hc0'
      subst hspot
      refine ⟨b, off, rfl, World.block_lt_of_cell? _ _ hc0', ?_⟩
      intro i o ho j v hv
      have hi : i < len := by have := (List.getElem?_eq_some_iff.1 ho).1; simpa using this
      have ho' : o = f i := by simp [List.getElem?_map, List.getElem?_range hi] at ho; exact ho.symm
      subst ho'
      have hj : j < 6 := by have := (List.getElem?_eq_some_iff.1 hv).1; simpa [LStep.cells] using this
      have := (World.cells?_some (hf i hi).1).2.2 j hj
      rw [add_add, add_plain, hv] at this
      rw [← this, Nat.add_assoc]

end Go.Proofs.Ytnolplmpanbmhab
