/-
  'pick' and 'config': what the raw numbers of an input speak of.
-/
import Derived.Test.YtkonobbhohfjlaaBookH
namespace Go.Proofs.Ytkonobbhohfjlaa
open Go.RowKit
set_option linter.unusedVariables false
attribute [local go_sem ↓] Go.wp_at_zero Go.wp_at_succ

def pk (c : Int) (n : Nat) : Nat := ((if c < 0 then -(c + 1) else c) % n).toNat
theorem pk_lt (c : Int) {n : Nat} (h : 0 < n) : pk c n < n := by
  unfold pk
  have h1 := Int.emod_lt_of_pos (if c < 0 then -(c + 1) else c) (show (0 : Int) < n by omega)
  have h2 := Int.emod_nonneg (if c < 0 then -(c + 1) else c) (show (n : Int) ≠ 0 by omega)
  omega
theorem pk_neg {c : Int} {n : Nat} (h : 0 < n) (hc : c < 0) : (-(c + 1)).tmod n = pk c n := by
  unfold pk
  rw [if_pos hc, Int.tmod_eq_emod_of_nonneg (by omega), Int.toNat_of_nonneg (Int.emod_nonneg _ (by omega))]
theorem pk_pos {c : Int} {n : Nat} (h : 0 < n) (hc : ¬ c < 0) : c.tmod n = pk c n := by
  unfold pk
  rw [if_neg hc, Int.tmod_eq_emod_of_nonneg (by omega), Int.toNat_of_nonneg (Int.emod_nonneg _ (by omega))]

set_option maxHeartbeats 1000000 in
theorem pick_any (c : Int) (hc0 : -9223372036854775808 ≤ c) (hc1 : c ≤ 9223372036854775807) (n : Nat) (hn : 0 < n) (hn1 : n ≤ 4611686018427387904) (w : World) :
    Calls Try.prog 17 #[.int .i64 c, .int .i64 n] w fun e w' => e = .returned (.int .i64 (pk c n)) ∧ w' = w := by
  have hnz : (n : Int) ≠ 0 := by omega
  have hlt := pk_lt c hn
  by_cases hc : c < 0
  · have h1 : IntKind.i64.wrap (c + 1) = c + 1 := by rw [IntKind.wrap_i64]; omega
    have h2 : IntKind.i64.wrap (-(c + 1)) = -(c + 1) := by rw [IntKind.wrap_i64]; omega
    go_enter Try.func17, Try.ntmps17
    go_wp2_with fail
    go_ret
    refine ⟨?_, rfl⟩
    show Ending.returned (.int .i64 (-((c + 1).tmod n))) = _
    rw [← Int.neg_tmod, pk_neg hn hc]
  · go_enter Try.func17, Try.ntmps17
    go_wp2_with fail
    go_ret
    refine ⟨?_, rfl⟩
    show Ending.returned (.int .i64 (c % n)) = _
    rw [← Int.tmod_eq_emod_of_nonneg hc, pk_pos hn (by omega)]

theorem pick_int (c n : Int) (hc0 : -9223372036854775808 ≤ c) (hc1 : c ≤ 9223372036854775807) (hn : 0 < n) (hn1 : n ≤ 4611686018427387904) (w : World) :
    Calls Try.prog 17 #[.int .i64 c, .int .i64 n] w fun e w' => e = .returned (.int .i64 (pk c n.toNat)) ∧ w' = w := by
  have := pick_any c hc0 hc1 n.toNat (by omega) (by omega) w
  rwa [Int.toNat_of_nonneg (by omega)] at this

def cfA (a : Int) : Nat := 1 + pk a 16
def cfB (a : Int) : Nat := 1 + pk a 8
def cfC (a : Int) : Nat := 2 + pk a 3

set_option maxHeartbeats 1000000 in
set_option maxRecDepth 100000 in
theorem config_any (x y z : Int) (hx0 : -9223372036854775808 ≤ x) (hx1 : x ≤ 9223372036854775807) (hy0 : -9223372036854775808 ≤ y) (hy1 : y ≤ 9223372036854775807) (hz0 : -9223372036854775808 ≤ z) (hz1 : z ≤ 9223372036854775807) (w : World) :
    Calls Try.prog 9 #[.agg #[.int .i64 x, .int .i64 y, .int .i64 z]] w fun e w' => e = .returned (.agg #[.int .i64 (cfA x), .int .i64 (cfB y), .int .i64 (cfC z)]) ∧ Below w.heap.size w w' := by
  have h1 := pk_lt x (show 0 < 16 by omega)
  have h2 := pk_lt y (show 0 < 8 by omega)
  have h3 := pk_lt z (show 0 < 3 by omega)
  have v1 : IntKind.i64.wrap (1 + (pk x 16 : Int)) = 1 + (pk x 16 : Int) := by rw [IntKind.wrap_i64]; omega
  have v2 : IntKind.i64.wrap (1 + (pk y 8 : Int)) = 1 + (pk y 8 : Int) := by rw [IntKind.wrap_i64]; omega
  have v3 : IntKind.i64.wrap (2 + (pk z 3 : Int)) = 2 + (pk z 3 : Int) := by rw [IntKind.wrap_i64]; omega
  go_enter Try.func9, Try.ntmps9
  go_wp2_with fail
  go_region_held3 (fun w' => w'.cell? ⟨w.heap.size, 0, none⟩ = some (.int .i64 x) ∧ w'.cell? ⟨w.heap.size, 1, none⟩ = some (.int .i64 y) ∧ w'.cell? ⟨w.heap.size, 2, none⟩ = some (.int .i64 z)) (go_keep)
    ((first
      | (go_at_call 17; refine (pick_int _ _ (by assumption) (by assumption) (by decide) (by decide) _).mono ?_; rintro e w5 ⟨rfl, hw5⟩; subst hw5)))
  go_wp2_with fail
  refine bodyPost_ret (v := .agg #[.int .i64 (1 + (pk x 16 : Int)), .int .i64 (1 + (pk y 8 : Int)), .int .i64 (2 + (pk z 3 : Int))]) ?_ rfl ?_
  · simp [results, Try.results9, go_sem]
  · exact ⟨by rw [cfA, cfB, cfC]; simp, (((Below.refl _ _).alloc (Nat.le_refl _) _).alloc (by simp) _).drew⟩

end Go.Proofs.Ytkonobbhohfjlaa
