/-
  'built': the machine that a statement begins with.
-/
import Derived.Test.YtkonobbhohfjlaaBookI
namespace Go.Proofs.Ytkonobbhohfjlaa
open Go.RowKit
set_option linter.unusedVariables false
attribute [local go_sem ↓] Go.wp_at_zero Go.wp_at_succ

theorem NewMach.low {w w1 w2 : World} {p a c : Nat} (h : NewMach w1 w2 p a c) (hl : w.heap.size ≤ w1.heap.size) : NewMach w w2 p a c := by
  obtain ⟨e, f, h1, h2, h3, h4, h5, h6, h7, h8, h9⟩ := h
  exact ⟨e, f, h1, h2, h3, h4, h5, h6, by omega, by omega, by omega⟩

theorem cf_may (x y z : Int) : mayB (cfA x) (cfB y) (cfC z) = true := by
  have h1 := pk_lt x (show 0 < 16 by omega)
  have h2 := pk_lt y (show 0 < 8 by omega)
  have h3 := pk_lt z (show 0 < 3 by omega)
  unfold mayB cfA cfB cfC
  simp
  omega
theorem cfA_le (x : Int) : cfA x ≤ 16 := by have := pk_lt x (show 0 < 16 by omega); unfold cfA; omega
theorem cfB_le (x : Int) : cfB x ≤ 8 := by have := pk_lt x (show 0 < 8 by omega); unfold cfB; omega
theorem cfC_le (x : Int) : cfC x ≤ 4 := by have := pk_lt x (show 0 < 3 by omega); unfold cfC; omega
theorem cfC_ge (x : Int) : 1 ≤ cfC x := by unfold cfC; omega

set_option maxHeartbeats 1000000 in
set_option maxRecDepth 100000 in
theorem built_any (x y z : Int) (hx0 : -9223372036854775808 ≤ x) (hx1 : x ≤ 9223372036854775807) (hy0 : -9223372036854775808 ≤ y) (hy1 : y ≤ 9223372036854775807) (hz0 : -9223372036854775808 ≤ z) (hz1 : z ≤ 9223372036854775807) (w : World) :
    Calls Try.prog 8 #[.agg #[.int .i64 x, .int .i64 y, .int .i64 z]] w fun e w' => ∃ m, e = .returned (.pointer (some ⟨m, 0, none⟩)) ∧ Below w.heap.size w w' ∧ NewMach w w' m (cfA x) (cfC z) := by
  go_enter Try.func8, Try.ntmps8
  go_wp2_with fail
  refine (config_any x y z hx0 hx1 hy0 hy1 hz0 hz1 _).mono ?_
  rintro e w1 ⟨rfl, hb1⟩
  go_wp2_with fail
  refine (new_yes (cfA x) (cfB y) (cfC z) _ (cf_may x y z) (cfA_le x) (cfC_le z) (cfC_ge z)).mono ?_
  rintro e w2 ⟨m, rfl, hb2, hm⟩
  go_wp2_with fail
  refine (new_no 1 1 0 _ (by decide)).mono ?_
  rintro e w3 ⟨rfl, hb3⟩
  go_wp2_with fail
  go_ret
  have s1 := hb1.size
  have s2 := hb2.size
  simp at s1
  refine ⟨m, rfl, ?_, (hm.low (by omega)).of (fun k _ h2 => hb3.block k h2)⟩
  exact (((Below.refl _ _).alloc (Nat.le_refl _) _).trans (hb1.mono (by simp))).trans ((hb2.mono (by omega)).trans (hb3.mono (by omega)))

end Go.Proofs.Ytkonobbhohfjlaa
