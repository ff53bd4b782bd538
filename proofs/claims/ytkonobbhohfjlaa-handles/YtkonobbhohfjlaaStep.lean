import Derived.Test.YtkonobbhohfjlaaPlays
namespace Go.Proofs.Ytkonobbhohfjlaa
open Go.RowKit
set_option linter.unusedVariables false
attribute [local go_sem ↓] Go.wp_at_zero Go.wp_at_succ

set_option maxHeartbeats 1000000 in
set_option maxRecDepth 100000 in
/-- 'memory' at a kind that is none: the answers are equal. -/
theorem memory_none (bw p r : Nat) (o : LOp) (w : World) (h : o.K < 14 ∨ 20 < o.K) :
    Calls Try.prog 29 #[.pointer (some ⟨bw, 0, none⟩), .agg #[.pointer (some ⟨p, 0, none⟩), .pointer (some ⟨r, 0, none⟩)], .agg #[.int .i64 o.K, .int .i64 o.M, .int .i64 o.A, .int .i64 o.B, .int .i64 o.C, .int .i64 o.D, .bool o.F]] w
      fun e w' => e = .returned (.bool true) ∧ Below w.heap.size w w' := by
  have a14 : (o.K == 14) = false := by simp; omega
  have a15 : (o.K == 15) = false := by simp; omega
  have a16 : (o.K == 16) = false := by simp; omega
  have a17 : (o.K == 17) = false := by simp; omega
  have a18 : (o.K == 18) = false := by simp; omega
  have a19 : (o.K == 19) = false := by simp; omega
  have a20 : (o.K == 20) = false := by simp; omega
  clear h
  go_enter Try.func29, Try.ntmps29
  go_wp2_with fail
  go_ret
  exact ⟨rfl, ((Below.refl _ _).alloc (Nat.le_refl _) _).alloc (by simp) _⟩

/-- Which machine a call is for. -/
def mach (M : Int) (n : Nat) : Nat := (((M.tmod n) + n).tmod n).toNat

theorem mach_lt (M : Int) (n : Nat) (h : 0 < n) : mach M n < n := by
  unfold mach
  have h1 := Int.tmod_lt_of_pos (M.tmod n + n) (show (0 : Int) < n by omega)
  have h2 := Int.lt_tmod_of_pos M (show (0 : Int) < n by omega)
  have h3 := Int.tmod_nonneg (n : Int) (show 0 ≤ M.tmod n + n by omega)
  omega

theorem mach_val (M : Int) (n : Nat) (h : 0 < n) : (((M.tmod n) + n).tmod n) = (mach M n : Int) := by
  unfold mach
  have h2 := Int.lt_tmod_of_pos M (show (0 : Int) < n by omega)
  have h3 := Int.tmod_nonneg (n : Int) (show 0 ≤ M.tmod n + n by omega)
  omega

set_option maxHeartbeats 1000000 in
set_option maxRecDepth 100000 in
theorem step_memory (bw : Nat) (vP vH : Value) (ps : List (Nat × Nat)) (o : LOp) (w : World) (hK : o.K < 2 ∨ 13 < o.K) (hK1 : (o.K == 1) = false)
    (hw : Blk w bw [vP, vH] 47) (hP : Row w vP 71 2 ps.length (ps.flatMap pairCells)) (hn : 0 < ps.length) (hm : ps.length ≤ 4611686018427387904) (p r : Nat) (hpr : ps[mach o.M ps.length]? = some (p, r))
    (R : Bool → World → Prop) (hcall : ∀ w', Below w.heap.size w w' → Calls Try.prog 29 #[.pointer (some ⟨bw, 0, none⟩), .agg #[.pointer (some ⟨p, 0, none⟩), .pointer (some ⟨r, 0, none⟩)], .agg #[.int .i64 o.K, .int .i64 o.M, .int .i64 o.A, .int .i64 o.B, .int .i64 o.C, .int .i64 o.D, .bool o.F]] w'
      fun e w'' => ∃ ok, e = .returned (.bool ok) ∧ R ok w'') :
    Calls Try.prog 14 #[.pointer (some ⟨bw, 0, none⟩), .agg #[.int .i64 o.K, .int .i64 o.M, .int .i64 o.A, .int .i64 o.B, .int .i64 o.C, .int .i64 o.D, .bool o.F]] w
      fun e w'' => ∃ ok, e = .returned (.bool ok) ∧ R ok w'' := by
  obtain ⟨g, cap, hv, hcell, _⟩ := hP.form hn
  have hml := mach_lt o.M ps.length hn
  have hmv := mach_val o.M ps.length hn
  have e0 : w.cell? ⟨g, mach o.M ps.length * 2, none⟩ = some (.pointer (some ⟨p, 0, none⟩)) := by
    rw [hcell _ (by omega), show mach o.M ps.length * 2 = mach o.M ps.length * 2 + 0 by omega, flat_get pairCells 2 (fun _ => rfl) ps _ 0 _ hpr (by omega)]; rfl
  have e1 : w.cell? ⟨g, mach o.M ps.length * 2 + 1, none⟩ = some (.pointer (some ⟨r, 0, none⟩)) := by
    rw [hcell _ (by omega), flat_get pairCells 2 (fun _ => rfl) ps _ 1 _ hpr (by omega)]; rfl
  have k0 := hw.cell 0
  simp at k0
  rw [hv] at k0
  have hwlt := hw.lt
  have hn0 : ((ps.length : Int) == 0) = false := beq_eq_false_iff_ne.2 (by omega)
  have b1 := Int.lt_tmod_of_pos o.M (show (0 : Int) < ps.length by omega)
  have b2 := Int.tmod_lt_of_pos o.M (show (0 : Int) < ps.length by omega)
  have b3 : (0 : Int) ≤ (mach o.M ps.length : Int) := by omega
  have b4 : (mach o.M ps.length : Int) < (ps.length : Int) := by omega
  obtain ⟨x, hxx⟩ : ∃ x, mach o.M ps.length = x := ⟨_, rfl⟩
  obtain ⟨n, hnn⟩ : ∃ n, ps.length = n := ⟨_, rfl⟩
  rw [hxx] at b3 b4 hmv e0 e1 hml hpr
  clear hxx hpr hcell hv hP
  rw [hnn] at b1 b2 b4 hmv hml k0 hn0 hn hm
  clear hnn
  have hnz : ¬ n = 0 := by omega
  have hwr : IntKind.i64.wrap (o.M.tmod n + n) = o.M.tmod n + n := by rw [IntKind.wrap_i64]; omega
  go_enter Try.func14, Try.ntmps14
  go_wp2_with fail
  go_region_held3 (fun w' => w'.cell? ⟨bw, 0, none⟩ = some (.slice (some ⟨g, 0, none⟩) n cap) ∧ w'.cell? ⟨w.heap.size, 1, none⟩ = some (.int .i64 o.M) ∧ w'.cell? ⟨g, x * 2, none⟩ = some (.pointer (some ⟨p, 0, none⟩)) ∧ w'.cell? ⟨g, x * 2 + 1, none⟩ = some (.pointer (some ⟨r, 0, none⟩))) (go_keep) (fail)
  go_wp2_with fail
  all_goals
    refine (hcall _ ?_).mono ?_
    · repeat (first | exact (Below.refl _ _) | exact Nat.le_refl _ | refine Below.drew ?_ | refine Below.alloc ?_ (by simp) _)
    · rintro e w2 ⟨ok, rfl, hR⟩
      go_wp2_with fail
      go_ret
      exact ⟨ok, rfl, hR⟩

set_option maxHeartbeats 1000000 in
set_option maxRecDepth 100000 in
theorem step_rights (bw : Nat) (vP vH : Value) (ps : List (Nat × Nat)) (o : LOp) (w : World) (hK : 2 ≤ o.K ∧ o.K ≤ 8) (hK1 : (o.K == 1) = false)
    (hw : Blk w bw [vP, vH] 47) (hP : Row w vP 71 2 ps.length (ps.flatMap pairCells)) (hn : 0 < ps.length) (hm : ps.length ≤ 4611686018427387904) (p r : Nat) (hpr : ps[mach o.M ps.length]? = some (p, r))
    (R : Bool → World → Prop) (hcall : ∀ w', Below w.heap.size w w' → Calls Try.prog 27 #[.pointer (some ⟨bw, 0, none⟩), .agg #[.pointer (some ⟨p, 0, none⟩), .pointer (some ⟨r, 0, none⟩)], .agg #[.int .i64 o.K, .int .i64 o.M, .int .i64 o.A, .int .i64 o.B, .int .i64 o.C, .int .i64 o.D, .bool o.F]] w'
      fun e w'' => ∃ ok, e = .returned (.bool ok) ∧ R ok w'') :
    Calls Try.prog 14 #[.pointer (some ⟨bw, 0, none⟩), .agg #[.int .i64 o.K, .int .i64 o.M, .int .i64 o.A, .int .i64 o.B, .int .i64 o.C, .int .i64 o.D, .bool o.F]] w
      fun e w'' => ∃ ok, e = .returned (.bool ok) ∧ R ok w'' := by
  obtain ⟨hKa, hKb⟩ := hK
  obtain ⟨g, cap, hv, hcell, _⟩ := hP.form hn
  have hml := mach_lt o.M ps.length hn
  have hmv := mach_val o.M ps.length hn
  have e0 : w.cell? ⟨g, mach o.M ps.length * 2, none⟩ = some (.pointer (some ⟨p, 0, none⟩)) := by
    rw [hcell _ (by omega), show mach o.M ps.length * 2 = mach o.M ps.length * 2 + 0 by omega, flat_get pairCells 2 (fun _ => rfl) ps _ 0 _ hpr (by omega)]; rfl
  have e1 : w.cell? ⟨g, mach o.M ps.length * 2 + 1, none⟩ = some (.pointer (some ⟨r, 0, none⟩)) := by
    rw [hcell _ (by omega), flat_get pairCells 2 (fun _ => rfl) ps _ 1 _ hpr (by omega)]; rfl
  have k0 := hw.cell 0
  simp at k0
  rw [hv] at k0
  have hwlt := hw.lt
  have hn0 : ((ps.length : Int) == 0) = false := beq_eq_false_iff_ne.2 (by omega)
  have b1 := Int.lt_tmod_of_pos o.M (show (0 : Int) < ps.length by omega)
  have b2 := Int.tmod_lt_of_pos o.M (show (0 : Int) < ps.length by omega)
  have b3 : (0 : Int) ≤ (mach o.M ps.length : Int) := by omega
  have b4 : (mach o.M ps.length : Int) < (ps.length : Int) := by omega
  obtain ⟨x, hxx⟩ : ∃ x, mach o.M ps.length = x := ⟨_, rfl⟩
  obtain ⟨n, hnn⟩ : ∃ n, ps.length = n := ⟨_, rfl⟩
  rw [hxx] at b3 b4 hmv e0 e1 hml hpr
  clear hxx hpr hcell hv hP
  rw [hnn] at b1 b2 b4 hmv hml k0 hn0 hn hm
  clear hnn
  have hnz : ¬ n = 0 := by omega
  have hwr : IntKind.i64.wrap (o.M.tmod n + n) = o.M.tmod n + n := by rw [IntKind.wrap_i64]; omega
  go_enter Try.func14, Try.ntmps14
  go_wp2_with fail
  go_region_held3 (fun w' => w'.cell? ⟨bw, 0, none⟩ = some (.slice (some ⟨g, 0, none⟩) n cap) ∧ w'.cell? ⟨w.heap.size, 1, none⟩ = some (.int .i64 o.M) ∧ w'.cell? ⟨g, x * 2, none⟩ = some (.pointer (some ⟨p, 0, none⟩)) ∧ w'.cell? ⟨g, x * 2 + 1, none⟩ = some (.pointer (some ⟨r, 0, none⟩))) (go_keep) (fail)
  go_wp2_with fail
  all_goals
    refine (hcall _ ?_).mono ?_
    · repeat (first | exact (Below.refl _ _) | exact Nat.le_refl _ | refine Below.drew ?_ | refine Below.alloc ?_ (by simp) _)
    · rintro e w2 ⟨ok, rfl, hR⟩
      go_wp2_with fail
      go_ret
      exact ⟨ok, rfl, hR⟩

set_option maxHeartbeats 1000000 in
set_option maxRecDepth 100000 in
theorem step_table (bw : Nat) (vP vH : Value) (ps : List (Nat × Nat)) (o : LOp) (w : World) (hK : 9 ≤ o.K ∧ o.K ≤ 13) (hK1 : (o.K == 1) = false)
    (hw : Blk w bw [vP, vH] 47) (hP : Row w vP 71 2 ps.length (ps.flatMap pairCells)) (hn : 0 < ps.length) (hm : ps.length ≤ 4611686018427387904) (p r : Nat) (hpr : ps[mach o.M ps.length]? = some (p, r))
    (R : Bool → World → Prop) (hcall : ∀ w', Below w.heap.size w w' → Calls Try.prog 28 #[.pointer (some ⟨bw, 0, none⟩), .agg #[.pointer (some ⟨p, 0, none⟩), .pointer (some ⟨r, 0, none⟩)], .agg #[.int .i64 o.K, .int .i64 o.M, .int .i64 o.A, .int .i64 o.B, .int .i64 o.C, .int .i64 o.D, .bool o.F]] w'
      fun e w'' => ∃ ok, e = .returned (.bool ok) ∧ R ok w'') :
    Calls Try.prog 14 #[.pointer (some ⟨bw, 0, none⟩), .agg #[.int .i64 o.K, .int .i64 o.M, .int .i64 o.A, .int .i64 o.B, .int .i64 o.C, .int .i64 o.D, .bool o.F]] w
      fun e w'' => ∃ ok, e = .returned (.bool ok) ∧ R ok w'' := by
  obtain ⟨hKa, hKb⟩ := hK
  obtain ⟨g, cap, hv, hcell, _⟩ := hP.form hn
  have hml := mach_lt o.M ps.length hn
  have hmv := mach_val o.M ps.length hn
  have e0 : w.cell? ⟨g, mach o.M ps.length * 2, none⟩ = some (.pointer (some ⟨p, 0, none⟩)) := by
    rw [hcell _ (by omega), show mach o.M ps.length * 2 = mach o.M ps.length * 2 + 0 by omega, flat_get pairCells 2 (fun _ => rfl) ps _ 0 _ hpr (by omega)]; rfl
  have e1 : w.cell? ⟨g, mach o.M ps.length * 2 + 1, none⟩ = some (.pointer (some ⟨r, 0, none⟩)) := by
    rw [hcell _ (by omega), flat_get pairCells 2 (fun _ => rfl) ps _ 1 _ hpr (by omega)]; rfl
  have k0 := hw.cell 0
  simp at k0
  rw [hv] at k0
  have hwlt := hw.lt
  have hn0 : ((ps.length : Int) == 0) = false := beq_eq_false_iff_ne.2 (by omega)
  have b1 := Int.lt_tmod_of_pos o.M (show (0 : Int) < ps.length by omega)
  have b2 := Int.tmod_lt_of_pos o.M (show (0 : Int) < ps.length by omega)
  have b3 : (0 : Int) ≤ (mach o.M ps.length : Int) := by omega
  have b4 : (mach o.M ps.length : Int) < (ps.length : Int) := by omega
  obtain ⟨x, hxx⟩ : ∃ x, mach o.M ps.length = x := ⟨_, rfl⟩
  obtain ⟨n, hnn⟩ : ∃ n, ps.length = n := ⟨_, rfl⟩
  rw [hxx] at b3 b4 hmv e0 e1 hml hpr
  clear hxx hpr hcell hv hP
  rw [hnn] at b1 b2 b4 hmv hml k0 hn0 hn hm
  clear hnn
  have hnz : ¬ n = 0 := by omega
  have hwr : IntKind.i64.wrap (o.M.tmod n + n) = o.M.tmod n + n := by rw [IntKind.wrap_i64]; omega
  go_enter Try.func14, Try.ntmps14
  go_wp2_with fail
  go_region_held3 (fun w' => w'.cell? ⟨bw, 0, none⟩ = some (.slice (some ⟨g, 0, none⟩) n cap) ∧ w'.cell? ⟨w.heap.size, 1, none⟩ = some (.int .i64 o.M) ∧ w'.cell? ⟨g, x * 2, none⟩ = some (.pointer (some ⟨p, 0, none⟩)) ∧ w'.cell? ⟨g, x * 2 + 1, none⟩ = some (.pointer (some ⟨r, 0, none⟩))) (go_keep) (fail)
  go_wp2_with fail
  all_goals
    refine (hcall _ ?_).mono ?_
    · repeat (first | exact (Below.refl _ _) | exact Nat.le_refl _ | refine Below.drew ?_ | refine Below.alloc ?_ (by simp) _)
    · rintro e w2 ⟨ok, rfl, hR⟩
      go_wp2_with fail
      go_ret
      exact ⟨ok, rfl, hR⟩

end Go.Proofs.Ytkonobbhohfjlaa
