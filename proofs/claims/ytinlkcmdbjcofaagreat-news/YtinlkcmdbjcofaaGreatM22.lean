import Derived.Test.YtinlkcmdbjcofaaGreatM21
namespace Go.Proofs.YtinlkcmdbjcofaaGreat
open Go.RowKit
set_option linter.unusedVariables false
attribute [local go_sem ↓] Go.wp_at_zero Go.wp_at_succ

set_option maxHeartbeats 1000000 in
set_option maxRecDepth 100000 in
/-- 'memory' at a kind that is none: the answers are equal. -/
theorem memory_none (bw p r : Nat) (o : LOp) (w : World) (h : o.K < 14 ∨ 20 < o.K) :
    Calls Tryz.prog 22 #[.pointer (some ⟨bw, 0, none⟩), .agg #[.pointer (some ⟨p, 0, none⟩), .pointer (some ⟨r, 0, none⟩)], .agg #[.int .i64 o.K, .int .i64 o.M, .int .i64 o.A, .int .i64 o.B, .int .i64 o.C, .int .i64 o.D, .bool o.F]] w
      fun e w' => e = .returned (.bool true) ∧ Below w.heap.size w w' := by
  have a14 : (o.K == 14) = false := by simp; omega
  have a15 : (o.K == 15) = false := by simp; omega
  have a16 : (o.K == 16) = false := by simp; omega
  have a17 : (o.K == 17) = false := by simp; omega
  have a18 : (o.K == 18) = false := by simp; omega
  have a19 : (o.K == 19) = false := by simp; omega
  have a20 : (o.K == 20) = false := by simp; omega
  clear h
  go_enter Tryz.func22, Tryz.ntmps22
  go_wp2_with fail
  go_ret
  exact ⟨rfl, ((Below.refl _ _).alloc (Nat.le_refl _) _).alloc (by simp) _⟩

/-- Which machine a call is for. -/
def mach (M : Int) (n : Nat) : Nat := (((M.tmod n) + n).tmod n).toNat

theorem mach_lt (M : Int) (n : Nat) (h : 0 < n) : mach M n < n := by
  unfold mach
  have h1 := Int.tmod_lt_of_pos (M.tmod n + n) (show (0 : Int) < n by omega)
  have h2 := Int.lt_tmod_of_pos M (show (0 : Int) < n by omega)
  have h3 := Int.tmod_nonneg (n : Int) (show 0 ≤ M.tmod n + n by omega)
  omega

theorem mach_val (M : Int) (n : Nat) (h : 0 < n) : (((M.tmod n) + n).tmod n) = (mach M n : Int) := by
  unfold mach
  have h2 := Int.lt_tmod_of_pos M (show (0 : Int) < n by omega)
  have h3 := Int.tmod_nonneg (n : Int) (show 0 ≤ M.tmod n + n by omega)
  omega

set_option maxHeartbeats 1000000 in
set_option maxRecDepth 100000 in
theorem step_memory (bw : Nat) (vP vH : Value) (ps : List (Nat × Nat)) (o : LOp) (w : World) (hK : o.K < 2 ∨ 13 < o.K) (hK1 : (o.K == 1) = false)
    (hw : Blk w bw [vP, vH] 29) (hP : Row w vP 44 2 ps.length (ps.flatMap pairCells)) (hn : 0 < ps.length) (hm : ps.length ≤ 4611686018427387904) (p r : Nat) (hpr : ps[mach o.M ps.length]? = some (p, r))
    (R : Bool → World → Prop) (hcall : ∀ w', Below w.heap.size w w' → Calls Tryz.prog 22 #[.pointer (some ⟨bw, 0, none⟩), .agg #[.pointer (some ⟨p, 0, none⟩), .pointer (some ⟨r, 0, none⟩)], .agg #[.int .i64 o.K, .int .i64 o.M, .int .i64 o.A, .int .i64 o.B, .int .i64 o.C, .int .i64 o.D, .bool o.F]] w'
      fun e w'' => ∃ ok, e = .returned (.bool ok) ∧ R ok w'') :
    Calls Tryz.prog 15 #[.pointer (some ⟨bw, 0, none⟩), .agg #[.int .i64 o.K, .int .i64 o.M, .int .i64 o.A, .int .i64 o.B, .int .i64 o.C, .int .i64 o.D, .bool o.F]] w
      fun e w'' => ∃ ok, e = .returned (.bool ok) ∧ R ok w'' := by
  obtain ⟨g, cap, hv, hcell, _⟩ := hP.form hn
  have hml := mach_lt o.M ps.length hn
  have hmv := mach_val o.M ps.length hn
  have e0 : w.cell? ⟨g, mach o.M ps.length * 2, none⟩ = some (.pointer (some ⟨p, 0, none⟩)) := by
    rw [hcell _ (by omega), show mach o.M ps.length * 2 = mach o.M ps.length * 2 + 0 by omega, flat_get pairCells 2 (fun _ => rfl) ps _ 0 _ hpr (by omega)]; rfl
  have e1 : w.cell? ⟨g, mach o.M ps.length * 2 + 1, none⟩ = some (.pointer (some ⟨r, 0, none⟩)) := by
    rw [hcell _ (by omega), flat_get pairCells 2 (fun _ => rfl) ps _ 1 _ hpr (by omega)]; rfl
  have k0 := hw.cell 0
  simp at k0
  rw [hv] at k0
  have hwlt := hw.lt
  have hn0 : ((ps.length : Int) == 0) = false := beq_eq_false_iff_ne.2 (by omega)
  have b1 := Int.lt_tmod_of_pos o.M (show (0 : Int) < ps.length by omega)
  have b2 := Int.tmod_lt_of_pos o.M (show (0 : Int) < ps.length by omega)
  have b3 : (0 : Int) ≤ (mach o.M ps.length : Int) := by omega
  have b4 : (mach o.M ps.length : Int) < (ps.length : Int) := by omega
  obtain ⟨x, hxx⟩ : ∃ x, mach o.M ps.length = x := ⟨_, rfl⟩
  obtain ⟨n, hnn⟩ : ∃ n, ps.length = n := ⟨_, rfl⟩
  rw [hxx] at b3 b4 hmv e0 e1 hml hpr
  clear hxx hpr hcell hv hP
  rw [hnn] at b1 b2 b4 hmv hml k0 hn0 hn hm
  clear hnn
  have hnz : ¬ n = 0 := by omega
  have hwr : IntKind.i64.wrap (o.M.tmod n + n) = o.M.tmod n + n := by rw [IntKind.wrap_i64]; omega
  go_enter Tryz.func15, Tryz.ntmps15
  go_wp2_with fail
  go_region_held3 (fun w' => w'.cell? ⟨bw, 0, none⟩ = some (.slice (some ⟨g, 0, none⟩) n cap) ∧ w'.cell? ⟨w.heap.size, 1, none⟩ = some (.int .i64 o.M) ∧ w'.cell? ⟨g, x * 2, none⟩ = some (.pointer (some ⟨p, 0, none⟩)) ∧ w'.cell? ⟨g, x * 2 + 1, none⟩ = some (.pointer (some ⟨r, 0, none⟩))) (go_keep) (fail)
  go_wp2_with fail
  all_goals
    refine (hcall _ ?_).mono ?_
    · repeat (first | exact (Below.refl _ _) | exact Nat.le_refl _ | refine Below.drew ?_ | refine Below.alloc ?_ (by simp) _)
    · rintro e w2 ⟨ok, rfl, hR⟩
      go_wp2_with fail
      go_ret
      exact ⟨ok, rfl, hR⟩

set_option maxHeartbeats 1000000 in
set_option maxRecDepth 100000 in
theorem step_rights (bw : Nat) (vP vH : Value) (ps : List (Nat × Nat)) (o : LOp) (w : World) (hK : 2 ≤ o.K ∧ o.K ≤ 8) (hK1 : (o.K == 1) = false)
    (hw : Blk w bw [vP, vH] 29) (hP : Row w vP 44 2 ps.length (ps.flatMap pairCells)) (hn : 0 < ps.length) (hm : ps.length ≤ 4611686018427387904) (p r : Nat) (hpr : ps[mach o.M ps.length]? = some (p, r))
    (R : Bool → World → Prop) (hcall : ∀ w', Below w.heap.size w w' → Calls Tryz.prog 20 #[.pointer (some ⟨bw, 0, none⟩), .agg #[.pointer (some ⟨p, 0, none⟩), .pointer (some ⟨r, 0, none⟩)], .agg #[.int .i64 o.K, .int .i64 o.M, .int .i64 o.A, .int .i64 o.B, .int .i64 o.C, .int .i64 o.D, .bool o.F]] w'
      fun e w'' => ∃ ok, e = .returned (.bool ok) ∧ R ok w'') :
    Calls Tryz.prog 15 #[.pointer (some ⟨bw, 0, none⟩), .agg #[.int .i64 o.K, .int .i64 o.M, .int .i64 o.A, .int .i64 o.B, .int .i64 o.C, .int .i64 o.D, .bool o.F]] w
      fun e w'' => ∃ ok, e = .returned (.bool ok) ∧ R ok w'' := by
  obtain ⟨hKa, hKb⟩ := hK
  obtain ⟨g, cap, hv, hcell, _⟩ := hP.form hn
  have hml := mach_lt o.M ps.length hn
  have hmv := mach_val o.M ps.length hn
  have e0 : w.cell? ⟨g, mach o.M ps.length * 2, none⟩ = some (.pointer (some ⟨p, 0, none⟩)) := by
    rw [hcell _ (by omega), show mach o.M ps.length * 2 = mach o.M ps.length * 2 + 0 by omega, flat_get pairCells 2 (fun _ => rfl) ps _ 0 _ hpr (by omega)]; rfl
  have e1 : w.cell? ⟨g, mach o.M ps.length * 2 + 1, none⟩ = some (.pointer (some ⟨r, 0, none⟩)) := by
    rw [hcell _ (by omega), flat_get pairCells 2 (fun _ => rfl) ps _ 1 _ hpr (by omega)]; rfl
  have k0 := hw.cell 0
  simp at k0
  rw [hv] at k0
  have hwlt := hw.lt
  have hn0 : ((ps.length : Int) == 0) = false := beq_eq_false_iff_ne.2 (by omega)
  have b1 := Int.lt_tmod_of_pos o.M (show (0 : Int) < ps.length by omega)
  have b2 := Int.tmod_lt_of_pos o.M (show (0 : Int) < ps.length by omega)
  have b3 : (0 : Int) ≤ (mach o.M ps.length : Int) := by omega
  have b4 : (mach o.M ps.length : Int) < (ps.length : Int) := by omega
  obtain ⟨x, hxx⟩ : ∃ x, mach o.M ps.length = x := ⟨_, rfl⟩
  obtain ⟨n, hnn⟩ : ∃ n, ps.length = n := ⟨_, rfl⟩
  rw [hxx] at b3 b4 hmv e0 e1 hml hpr
  clear hxx hpr hcell hv hP
  rw [hnn] at b1 b2 b4 hmv hml k0 hn0 hn hm
  clear hnn
  have hnz : ¬ n = 0 := by omega
  have hwr : IntKind.i64.wrap (o.M.tmod n + n) = o.M.tmod n + n := by rw [IntKind.wrap_i64]; omega
  go_enter Tryz.func15, Tryz.ntmps15
  go_wp2_with fail
  go_region_held3 (fun w' => w'.cell? ⟨bw, 0, none⟩ = some (.slice (some ⟨g, 0, none⟩) n cap) ∧ w'.cell? ⟨w.heap.size, 1, none⟩ = some (.int .i64 o.M) ∧ w'.cell? ⟨g, x * 2, none⟩ = some (.pointer (some ⟨p, 0, none⟩)) ∧ w'.cell? ⟨g, x * 2 + 1, none⟩ = some (.pointer (some ⟨r, 0, none⟩))) (go_keep) (fail)
  go_wp2_with fail
  all_goals
    refine (hcall _ ?_).mono ?_
    · repeat (first | exact (Below.refl _ _) | exact Nat.le_refl _ | refine Below.drew ?_ | refine Below.alloc ?_ (by simp) _)
    · rintro e w2 ⟨ok, rfl, hR⟩
      go_wp2_with fail
      go_ret
      exact ⟨ok, rfl, hR⟩

set_option maxHeartbeats 1000000 in
set_option maxRecDepth 100000 in
theorem step_table (bw : Nat) (vP vH : Value) (ps : List (Nat × Nat)) (o : LOp) (w : World) (hK : 9 ≤ o.K ∧ o.K ≤ 13) (hK1 : (o.K == 1) = false)
    (hw : Blk w bw [vP, vH] 29) (hP : Row w vP 44 2 ps.length (ps.flatMap pairCells)) (hn : 0 < ps.length) (hm : ps.length ≤ 4611686018427387904) (p r : Nat) (hpr : ps[mach o.M ps.length]? = some (p, r))
    (R : Bool → World → Prop) (hcall : ∀ w', Below w.heap.size w w' → Calls Tryz.prog 21 #[.pointer (some ⟨bw, 0, none⟩), .agg #[.pointer (some ⟨p, 0, none⟩), .pointer (some ⟨r, 0, none⟩)], .agg #[.int .i64 o.K, .int .i64 o.M, .int .i64 o.A, .int .i64 o.B, .int .i64 o.C, .int .i64 o.D, .bool o.F]] w'
      fun e w'' => ∃ ok, e = .returned (.bool ok) ∧ R ok w'') :
    Calls Tryz.prog 15 #[.pointer (some ⟨bw, 0, none⟩), .agg #[.int .i64 o.K, .int .i64 o.M, .int .i64 o.A, .int .i64 o.B, .int .i64 o.C, .int .i64 o.D, .bool o.F]] w
      fun e w'' => ∃ ok, e = .returned (.bool ok) ∧ R ok w'' := by
  obtain ⟨hKa, hKb⟩ := hK
  obtain ⟨g, cap, hv, hcell, _⟩ := hP.form hn
  have hml := mach_lt o.M ps.length hn
  have hmv := mach_val o.M ps.length hn
  have e0 : w.cell? ⟨g, mach o.M ps.length * 2, none⟩ = some (.pointer (some ⟨p, 0, none⟩)) := by
    rw [hcell _ (by omega), show mach o.M ps.length * 2 = mach o.M ps.length * 2 + 0 by omega, flat_get pairCells 2 (fun _ => rfl) ps _ 0 _ hpr (by omega)]; rfl
  have e1 : w.cell? ⟨g, mach o.M ps.length * 2 + 1, none⟩ = some (.pointer (some ⟨r, 0, none⟩)) := by
    rw [hcell _ (by omega), flat_get pairCells 2 (fun _ => rfl) ps _ 1 _ hpr (by omega)]; rfl
  have k0 := hw.cell 0
  simp at k0
  rw [hv] at k0
  have hwlt := hw.lt
  have hn0 : ((ps.length : Int) == 0) = false := beq_eq_false_iff_ne.2 (by omega)
  have b1 := Int.lt_tmod_of_pos o.M (show (0 : Int) < ps.length by omega)
  have b2 := Int.tmod_lt_of_pos o.M (show (0 : Int) < ps.length by omega)
  have b3 : (0 : Int) ≤ (mach o.M ps.length : Int) := by omega
  have b4 : (mach o.M ps.length : Int) < (ps.length : Int) := by omega
  obtain ⟨x, hxx⟩ : ∃ x, mach o.M ps.length = x := ⟨_, rfl⟩
  obtain ⟨n, hnn⟩ : ∃ n, ps.length = n := ⟨_, rfl⟩
  rw [hxx] at b3 b4 hmv e0 e1 hml hpr
  clear hxx hpr hcell hv hP
  rw [hnn] at b1 b2 b4 hmv hml k0 hn0 hn hm
  clear hnn
  have hnz : ¬ n = 0 := by omega
  have hwr : IntKind.i64.wrap (o.M.tmod n + n) = o.M.tmod n + n := by rw [IntKind.wrap_i64]; omega
  go_enter Tryz.func15, Tryz.ntmps15
  go_wp2_with fail
  go_region_held3 (fun w' => w'.cell? ⟨bw, 0, none⟩ = some (.slice (some ⟨g, 0, none⟩) n cap) ∧ w'.cell? ⟨w.heap.size, 1, none⟩ = some (.int .i64 o.M) ∧ w'.cell? ⟨g, x * 2, none⟩ = some (.pointer (some ⟨p, 0, none⟩)) ∧ w'.cell? ⟨g, x * 2 + 1, none⟩ = some (.pointer (some ⟨r, 0, none⟩))) (go_keep) (fail)
  go_wp2_with fail
  all_goals
    refine (hcall _ ?_).mono ?_
    · repeat (first | exact (Below.refl _ _) | exact Nat.le_refl _ | refine Below.drew ?_ | refine Below.alloc ?_ (by simp) _)
    · rintro e w2 ⟨ok, rfl, hR⟩
      go_wp2_with fail
      go_ret
      exact ⟨ok, rfl, hR⟩

set_option maxHeartbeats 1000000 in
set_option maxRecDepth 100000 in
theorem step_begin (bw : Nat) (o : LOp) (w : World) (hK : (o.K == 1) = true)
    (R : Bool → World → Prop) (hcall : ∀ w', Below w.heap.size w w' → Calls Tryz.prog 14 #[.pointer (some ⟨bw, 0, none⟩), .agg #[.int .i64 o.K, .int .i64 o.M, .int .i64 o.A, .int .i64 o.B, .int .i64 o.C, .int .i64 o.D, .bool o.F]] w'
      fun e w'' => ∃ ok, e = .returned (.bool ok) ∧ R ok w'') :
    Calls Tryz.prog 15 #[.pointer (some ⟨bw, 0, none⟩), .agg #[.int .i64 o.K, .int .i64 o.M, .int .i64 o.A, .int .i64 o.B, .int .i64 o.C, .int .i64 o.D, .bool o.F]] w
      fun e w'' => ∃ ok, e = .returned (.bool ok) ∧ R ok w'' := by
  go_enter Tryz.func15, Tryz.ntmps15
  go_wp2_with fail
  refine (hcall _ ?_).mono ?_
  · exact (Below.refl _ _).alloc (Nat.le_refl _) _
  · rintro e w2 ⟨ok, rfl, hR⟩
    go_wp2_with fail
    go_ret
    exact ⟨ok, rfl, hR⟩

end Go.Proofs.YtinlkcmdbjcofaaGreat

namespace Go.Proofs.YtinlkcmdbjcofaaGreat
open Go.RowKit
set_option linter.unusedVariables false
attribute [local go_sem ↓] Go.wp_at_zero Go.wp_at_succ

/-- The call's numbers are ints. -/
def LOp.is64 (o : LOp) : Prop := I64 o.K ∧ I64 o.M ∧ I64 o.A ∧ I64 o.B ∧ I64 o.C ∧ I64 o.D

def boxed (w : World) (p r : Nat) (o : LOp) : World := (w.alloc (.cells #[.pointer (some ⟨p, 0, none⟩), .pointer (some ⟨r, 0, none⟩)] 44)).alloc (.cells #[.int .i64 o.K, .int .i64 o.M, .int .i64 o.A, .int .i64 o.B, .int .i64 o.C, .int .i64 o.D, .bool o.F] 32)

theorem boxed_size (w : World) (p r : Nat) (o : LOp) : (boxed w p r o).heap.size = w.heap.size + 2 := by simp [boxed]
theorem boxed_below (w : World) (p r : Nat) (o : LOp) : Below w.heap.size w (boxed w p r o) := ((Below.refl _ _).alloc (Nat.le_refl _) _).alloc (by simp) _
theorem boxed_x (w : World) (p r : Nat) (o : LOp) : Blk (boxed w p r o) w.heap.size (pairCells (p, r)) 44 := (Blk.new w (pairCells (p, r)) _).alloc _
theorem boxed_o (w : World) (p r : Nat) (o : LOp) : Blk (boxed w p r o) (w.heap.size + 1) o.cells 32 := Blk.at (w.alloc (.cells (pairCells (p, r)).toArray 44)) o.cells 32 _ (by simp)

/-- What a call on a pair leaves. -/
def PairRes (M : MT) (own : Nat → Nat × Nat) (ip ir : Nat) (w w' : World) (p r : Nat) (rs : RSt) (nk : Nat) : Prop :=
  ∃ (own' : Nat → Nat × Nat) (vR vB vS vA vK : Value) (bs : List Nat), M own' ip w' p rs ∧ RefRep own' ir w' r rs nk vR vB vS vA vK bs ∧ (∀ b, b < w.heap.size → own' b = own b) ∧
    (∀ b, w.heap.size ≤ b → (own' b).1 = 0 ∨ (own' b).1 = ip ∨ (own' b).1 = ir) ∧ Touch w.heap.size (fun b => (own b).1 = ip ∨ (own b).1 = ir) w w'

section
variable {M : MT} {own : Nat → Nat × Nat} {ip ir bw p r : Nat} {w w1 w2 : World} {rs rs' s' : RSt} {nk : Nat} {vR vB vS vA vK : Value} {bs : List Nat} {o : LOp}

theorem pair_mid (hr : RefRep own ir w r rs nk vR vB vS vA vK bs) (hne : ip ≠ ir) (h0 : ∀ b, w.heap.size ≤ b → (own b).1 = 0) (hp0 : ip ≠ 0) (hn : MNext M own ip (boxed w p r o) p w1 s') :
    ∃ (own1 : Nat → Nat × Nat), M own1 ip w1 p s' ∧ RefRep own1 ir w1 r rs nk vR vB vS vA vK bs ∧ Blk w1 w.heap.size (pairCells (p, r)) 44 ∧ Blk w1 (w.heap.size + 1) o.cells 32 ∧
      (∀ b, b < w.heap.size → own1 b = own b) ∧ Touch w.heap.size (fun b => (own b).1 = ip) w w1 := by
  obtain ⟨own1, h1, h2, h3⟩ := hn
  have hz := boxed_size w p r o
  refine ⟨own1, h1, ?_, ?_, ?_, fun b hb => h2 b (by omega), (Touch.of_below (boxed_below w p r o) _).trans (h3.mono (by omega) (fun _ _ h => h))⟩
  · exact (hr.below (boxed_below w p r o)).of h2 (fun b hb ht => h3.block b hb (by rw [ht]; exact fun e => hne e.symm))
  · exact (boxed_x w p r o).of (h3.block _ (by omega) (by rw [h0 _ (by omega)]; exact fun e => hp0 e.symm))
  · exact (boxed_o w p r o).of (h3.block _ (by omega) (by rw [h0 _ (by omega)]; exact fun e => hp0 e.symm))

theorem pair_fin (A : Api M) {own1 : Nat → Nat × Nat} (hp : M own1 ip w1 p rs') (hne : ip ≠ ir) (ho : ∀ b, b < w.heap.size → own1 b = own b) (ht : Touch w.heap.size (fun b => (own b).1 = ip) w w1) (hn : RefNext own1 ir w1 r nk w2 rs') :
    PairRes M own ip ir w w2 p r rs' nk := by
  obtain ⟨own2, vR, vB, vS, vA, vK, bs, h1, h2, h3⟩ := hn
  have hs := ht.size
  have hp2 := A.of hp h2 (fun b hb ht => h3.block b hb (by rw [ht]; exact hne))
  have hag : ∀ b, b < w.heap.size → own2 b = own b := fun b hb => (h2 b (by omega)).trans (ho b hb)
  obtain ⟨own', e1, e2, e3⟩ : ∃ own' : Nat → Nat × Nat, (∀ b, b < w.heap.size → own' b = own b) ∧ (∀ b, w.heap.size ≤ b → (own' b).1 = 0 ∨ (own' b).1 = ip ∨ (own' b).1 = ir) ∧ ∀ b, (own2 b).1 = ip ∨ (own2 b).1 = ir → own' b = own2 b := by
    refine ⟨fun b => if b < w.heap.size then own b else if (own2 b).1 = ip ∨ (own2 b).1 = ir then own2 b else (0, 0), fun b hb => if_pos hb, fun b hb => ?_, fun b hb => ?_⟩
    · simp only [if_neg (show ¬ b < w.heap.size by omega)]
      split
      · rename_i h; exact .inr h
      · exact .inl rfl
    · by_cases hl : b < w.heap.size
      · simp only [if_pos hl]; exact (hag b hl).symm
      · simp only [if_neg hl, if_pos hb]
  refine ⟨own', _, _, _, _, _, _, A.retag hp2 (fun b _ h => e3 b (.inl h)), h1.retag (fun b _ h => e3 b (.inr h)), e1, e2, ?_⟩
  exact (ht.mono (Nat.le_refl _) (fun _ _ h => .inl h)).trans (h3.mono hs (fun k hk h => .inr (by rw [ho k hk] at h; exact h)))

set_option maxHeartbeats 2000000 in
set_option maxRecDepth 100000 in
theorem rights_alloc (A : Api M) (o : LOp) (hok : o.is64) (hK : o.K = 2) (hs : SOk rs) (hN : Few rs) (hp : M own ip w p rs) (hr : RefRep own ir w r rs rs.ne vR vB vS vA vK bs) (hne : ip ≠ ir) (h0 : ∀ b, w.heap.size ≤ b → (own b).1 = 0) (hp0 : ip ≠ 0) :
    Calls Tryz.prog 20 #[.pointer (some ⟨bw, 0, none⟩), .agg #[.pointer (some ⟨p, 0, none⟩), .pointer (some ⟨r, 0, none⟩)], .agg #[.int .i64 o.K, .int .i64 o.M, .int .i64 o.A, .int .i64 o.B, .int .i64 o.C, .int .i64 o.D, .bool o.F]] w
      fun e w' => e = .returned (.bool true) ∧ PairRes M own ip ir w w' p r (allocR rs o.A).2 rs.ne := by
  have e2 : (o.K == 2) = true := by simp [hK]
  clear hK
  have hwr := hs.rwf (by unfold Few at hN; omega)
  have hB := hok.2.2.2.1.1
  have hC := hok.2.2.2.2.1.1
  have q1 : ((allocR rs o.A).1.1 == (allocR rs o.A).1.1) = true := by simp
  have q2 : ((allocR rs o.A).1.2 == (allocR rs o.A).1.2) = true := by simp
  go_enter Tryz.func20, Tryz.ntmps20
  go_wp2_with fail
  refine (A.alloc (w := boxed w p r o) (A.below hp (boxed_below w p r o)) hs hN o.A hok.2.2.1).mono ?_
  rintro e w1 ⟨rfl, hn⟩
  obtain ⟨own1, hp1, hr1, hx, hy, ho1, ht1⟩ := pair_mid hr hne h0 hp0 hn
  have x1 := hx.cell 1
  have y2 := hy.cell 2
  simp only [pairCells, ptr, LOp.cells, List.getElem?_cons_succ, List.getElem?_cons_zero] at x1 y2
  go_wp2_with fail
  refine (ralloc_any hr1 hwr o.A).mono ?_
  rintro e w2 ⟨rfl, hn2⟩
  go_wp2_with fail
  go_ret
  exact ⟨rfl, pair_fin A hp1 hne ho1 ht1 hn2⟩

set_option maxHeartbeats 2000000 in
set_option maxRecDepth 100000 in
theorem rights_derive (A : Api M) (o : LOp) (hok : o.is64) (hK : o.K = 3) (hs : SOk rs) (hN : Few rs) (hp : M own ip w p rs) (hr : RefRep own ir w r rs rs.ne vR vB vS vA vK bs) (hne : ip ≠ ir) (h0 : ∀ b, w.heap.size ≤ b → (own b).1 = 0) (hp0 : ip ≠ 0) :
    Calls Tryz.prog 20 #[.pointer (some ⟨bw, 0, none⟩), .agg #[.pointer (some ⟨p, 0, none⟩), .pointer (some ⟨r, 0, none⟩)], .agg #[.int .i64 o.K, .int .i64 o.M, .int .i64 o.A, .int .i64 o.B, .int .i64 o.C, .int .i64 o.D, .bool o.F]] w
      fun e w' => e = .returned (.bool true) ∧ PairRes M own ip ir w w' p r (deriveR rs o.A o.B o.C o.F).2 rs.ne := by
  have e2 : (o.K == 2) = false := by simp [hK]
  have e3 : (o.K == 3) = true := by simp [hK]
  clear hK
  have hwr := hs.rwf (by unfold Few at hN; omega)
  have hB := hok.2.2.2.1.1
  have hC := hok.2.2.2.2.1.1
  have q1 : ((deriveR rs o.A o.B o.C o.F).1.1 == (deriveR rs o.A o.B o.C o.F).1.1) = true := by simp
  have q2 : ((deriveR rs o.A o.B o.C o.F).1.2 == (deriveR rs o.A o.B o.C o.F).1.2) = true := by simp
  go_enter Tryz.func20, Tryz.ntmps20
  go_wp2_with fail
  refine (A.derive (w := boxed w p r o) (A.below hp (boxed_below w p r o)) hs hN o.A o.B o.C o.F hok.2.2.1 hok.2.2.2.1 hok.2.2.2.2.1).mono ?_
  rintro e w1 ⟨rfl, hn⟩
  obtain ⟨own1, hp1, hr1, hx, hy, ho1, ht1⟩ := pair_mid hr hne h0 hp0 hn
  have x1 := hx.cell 1
  have y2 := hy.cell 2
  have y3 := hy.cell 3
  have y4 := hy.cell 4
  have y6 := hy.cell 6
  simp only [pairCells, ptr, LOp.cells, List.getElem?_cons_succ, List.getElem?_cons_zero] at x1 y2 y3 y4 y6
  go_wp2_with fail
  refine (rderive_any hr1 hwr o.A o.B o.C o.F hB).mono ?_
  rintro e w2 ⟨rfl, hn2⟩
  go_wp2_with fail
  go_ret
  exact ⟨rfl, pair_fin A hp1 hne ho1 ht1 hn2⟩

set_option maxHeartbeats 2000000 in
set_option maxRecDepth 100000 in
theorem rights_revoke (A : Api M) (o : LOp) (hok : o.is64) (hK : o.K = 4) (hs : SOk rs) (hN : Few rs) (hp : M own ip w p rs) (hr : RefRep own ir w r rs rs.ne vR vB vS vA vK bs) (hne : ip ≠ ir) (h0 : ∀ b, w.heap.size ≤ b → (own b).1 = 0) (hp0 : ip ≠ 0) :
    Calls Tryz.prog 20 #[.pointer (some ⟨bw, 0, none⟩), .agg #[.pointer (some ⟨p, 0, none⟩), .pointer (some ⟨r, 0, none⟩)], .agg #[.int .i64 o.K, .int .i64 o.M, .int .i64 o.A, .int .i64 o.B, .int .i64 o.C, .int .i64 o.D, .bool o.F]] w
      fun e w' => e = .returned (.bool true) ∧ PairRes M own ip ir w w' p r (revokeR rs o.A o.B).2 rs.ne := by
  have e2 : (o.K == 2) = false := by simp [hK]
  have e3 : (o.K == 3) = false := by simp [hK]
  have e4 : (o.K == 4) = true := by simp [hK]
  clear hK
  have hwr := hs.rwf (by unfold Few at hN; omega)
  have hB := hok.2.2.2.1.1
  have hC := hok.2.2.2.2.1.1
  have q1 : ((revokeR rs o.A o.B).1 == (revokeR rs o.A o.B).1) = true := by simp
  go_enter Tryz.func20, Tryz.ntmps20
  go_wp2_with fail
  refine (A.revoke (w := boxed w p r o) (A.below hp (boxed_below w p r o)) hs hN o.A o.B hok.2.2.1 hok.2.2.2.1).mono ?_
  rintro e w1 ⟨rfl, hn⟩
  obtain ⟨own1, hp1, hr1, hx, hy, ho1, ht1⟩ := pair_mid hr hne h0 hp0 hn
  have x1 := hx.cell 1
  have y2 := hy.cell 2
  have y3 := hy.cell 3
  simp only [pairCells, ptr, LOp.cells, List.getElem?_cons_succ, List.getElem?_cons_zero] at x1 y2 y3
  go_wp2_with fail
  refine (rrevoke_any hr1 hwr o.A o.B hB).mono ?_
  rintro e w2 ⟨rfl, hn2⟩
  go_wp2_with fail
  go_ret
  exact ⟨rfl, pair_fin A hp1 hne ho1 ht1 hn2⟩

set_option maxHeartbeats 2000000 in
set_option maxRecDepth 100000 in
theorem rights_drop (A : Api M) (o : LOp) (hok : o.is64) (hK : o.K = 5) (hs : SOk rs) (hN : Few rs) (hp : M own ip w p rs) (hr : RefRep own ir w r rs rs.ne vR vB vS vA vK bs) (hne : ip ≠ ir) (h0 : ∀ b, w.heap.size ≤ b → (own b).1 = 0) (hp0 : ip ≠ 0) :
    Calls Tryz.prog 20 #[.pointer (some ⟨bw, 0, none⟩), .agg #[.pointer (some ⟨p, 0, none⟩), .pointer (some ⟨r, 0, none⟩)], .agg #[.int .i64 o.K, .int .i64 o.M, .int .i64 o.A, .int .i64 o.B, .int .i64 o.C, .int .i64 o.D, .bool o.F]] w
      fun e w' => e = .returned (.bool true) ∧ PairRes M own ip ir w w' p r (dropR rs o.A o.B).2 rs.ne := by
  have e2 : (o.K == 2) = false := by simp [hK]
  have e3 : (o.K == 3) = false := by simp [hK]
  have e4 : (o.K == 4) = false := by simp [hK]
  have e5 : (o.K == 5) = true := by simp [hK]
  clear hK
  have hwr := hs.rwf (by unfold Few at hN; omega)
  have hB := hok.2.2.2.1.1
  have hC := hok.2.2.2.2.1.1
  have q1 : ((dropR rs o.A o.B).1 == (dropR rs o.A o.B).1) = true := by simp
  go_enter Tryz.func20, Tryz.ntmps20
  go_wp2_with fail
  refine (A.drop (w := boxed w p r o) (A.below hp (boxed_below w p r o)) hs hN o.A o.B hok.2.2.1 hok.2.2.2.1).mono ?_
  rintro e w1 ⟨rfl, hn⟩
  obtain ⟨own1, hp1, hr1, hx, hy, ho1, ht1⟩ := pair_mid hr hne h0 hp0 hn
  have x1 := hx.cell 1
  have y2 := hy.cell 2
  have y3 := hy.cell 3
  simp only [pairCells, ptr, LOp.cells, List.getElem?_cons_succ, List.getElem?_cons_zero] at x1 y2 y3
  go_wp2_with fail
  refine (rdrop_any hr1 hwr o.A o.B hB).mono ?_
  rintro e w2 ⟨rfl, hn2⟩
  go_wp2_with fail
  go_ret
  exact ⟨rfl, pair_fin A hp1 hne ho1 ht1 hn2⟩

set_option maxHeartbeats 2000000 in
set_option maxRecDepth 100000 in
theorem rights_kill (A : Api M) (o : LOp) (hok : o.is64) (hK : o.K = 7) (hs : SOk rs) (hN : Few rs) (hp : M own ip w p rs) (hr : RefRep own ir w r rs rs.ne vR vB vS vA vK bs) (hne : ip ≠ ir) (h0 : ∀ b, w.heap.size ≤ b → (own b).1 = 0) (hp0 : ip ≠ 0) :
    Calls Tryz.prog 20 #[.pointer (some ⟨bw, 0, none⟩), .agg #[.pointer (some ⟨p, 0, none⟩), .pointer (some ⟨r, 0, none⟩)], .agg #[.int .i64 o.K, .int .i64 o.M, .int .i64 o.A, .int .i64 o.B, .int .i64 o.C, .int .i64 o.D, .bool o.F]] w
      fun e w' => e = .returned (.bool true) ∧ PairRes M own ip ir w w' p r (killR rs o.A).2 rs.ne := by
  have e2 : (o.K == 2) = false := by simp [hK]
  have e3 : (o.K == 3) = false := by simp [hK]
  have e4 : (o.K == 4) = false := by simp [hK]
  have e5 : (o.K == 5) = false := by simp [hK]
  have e7 : (o.K == 7) = true := by simp [hK]
  clear hK
  have hwr := hs.rwf (by unfold Few at hN; omega)
  have hB := hok.2.2.2.1.1
  have hC := hok.2.2.2.2.1.1
  have q1 : ((killR rs o.A).1 == (killR rs o.A).1) = true := by simp
  go_enter Tryz.func20, Tryz.ntmps20
  go_wp2_with fail
  refine (A.kill (w := boxed w p r o) (A.below hp (boxed_below w p r o)) hs hN o.A hok.2.2.1).mono ?_
  rintro e w1 ⟨rfl, hn⟩
  obtain ⟨own1, hp1, hr1, hx, hy, ho1, ht1⟩ := pair_mid hr hne h0 hp0 hn
  have x1 := hx.cell 1
  have y2 := hy.cell 2
  simp only [pairCells, ptr, LOp.cells, List.getElem?_cons_succ, List.getElem?_cons_zero] at x1 y2
  go_wp2_with fail
  refine (rkill_any hr1 hwr o.A).mono ?_
  rintro e w2 ⟨rfl, hn2⟩
  go_wp2_with fail
  go_ret
  exact ⟨rfl, pair_fin A hp1 hne ho1 ht1 hn2⟩

set_option maxHeartbeats 2000000 in
set_option maxRecDepth 100000 in
theorem rights_spawn (A : Api M) (o : LOp) (hok : o.is64) (hK : o.K = 8) (hs : SOk rs) (hN : Few rs) (hp : M own ip w p rs) (hr : RefRep own ir w r rs rs.ne vR vB vS vA vK bs) (hne : ip ≠ ir) (h0 : ∀ b, w.heap.size ≤ b → (own b).1 = 0) (hp0 : ip ≠ 0) :
    Calls Tryz.prog 20 #[.pointer (some ⟨bw, 0, none⟩), .agg #[.pointer (some ⟨p, 0, none⟩), .pointer (some ⟨r, 0, none⟩)], .agg #[.int .i64 o.K, .int .i64 o.M, .int .i64 o.A, .int .i64 o.B, .int .i64 o.C, .int .i64 o.D, .bool o.F]] w
      fun e w' => e = .returned (.bool true) ∧ PairRes M own ip ir w w' p r (spawnR rs o.A).2 rs.ne := by
  have e2 : (o.K == 2) = false := by simp [hK]
  have e3 : (o.K == 3) = false := by simp [hK]
  have e4 : (o.K == 4) = false := by simp [hK]
  have e5 : (o.K == 5) = false := by simp [hK]
  have e7 : (o.K == 7) = false := by simp [hK]
  have e8 : (o.K == 8) = true := by simp [hK]
  clear hK
  have hwr := hs.rwf (by unfold Few at hN; omega)
  have hB := hok.2.2.2.1.1
  have hC := hok.2.2.2.2.1.1
  have q1 : ((spawnR rs o.A).1 == (spawnR rs o.A).1) = true := by simp
  go_enter Tryz.func20, Tryz.ntmps20
  go_wp2_with fail
  refine (A.spawn (w := boxed w p r o) (A.below hp (boxed_below w p r o)) hs hN o.A hok.2.2.1).mono ?_
  rintro e w1 ⟨rfl, hn⟩
  obtain ⟨own1, hp1, hr1, hx, hy, ho1, ht1⟩ := pair_mid hr hne h0 hp0 hn
  have x1 := hx.cell 1
  have y2 := hy.cell 2
  simp only [pairCells, ptr, LOp.cells, List.getElem?_cons_succ, List.getElem?_cons_zero] at x1 y2
  go_wp2_with fail
  refine (rspawn_any hr1 hwr o.A).mono ?_
  rintro e w2 ⟨rfl, hn2⟩
  go_wp2_with fail
  go_ret
  exact ⟨rfl, pair_fin A hp1 hne ho1 ht1 hn2⟩

end
end Go.Proofs.YtinlkcmdbjcofaaGreat

namespace Go.Proofs.YtinlkcmdbjcofaaGreat
open Go.RowKit
set_option linter.unusedVariables false
attribute [local go_sem ↓] Go.wp_at_zero Go.wp_at_succ

section
variable {M : MT} {own : Nat → Nat × Nat} {ip ir bw p r : Nat} {w w1 w2 : World} {rs rs' : RSt} {vR vB vS vA vK : Value} {bs : List Nat} {o : LOp}

set_option maxHeartbeats 2000000 in
set_option maxRecDepth 100000 in
theorem table_map (A : Api M) (o : LOp) (hok : o.is64) (hK : o.K = 9) (hs : SOk rs) (hN : Few rs) (hp : M own ip w p rs) (hr : RefRep own ir w r rs rs.ne vR vB vS vA vK bs) (hne : ip ≠ ir) (h0 : ∀ b, w.heap.size ≤ b → (own b).1 = 0) (hp0 : ip ≠ 0) :
    Calls Tryz.prog 21 #[.pointer (some ⟨bw, 0, none⟩), .agg #[.pointer (some ⟨p, 0, none⟩), .pointer (some ⟨r, 0, none⟩)], .agg #[.int .i64 o.K, .int .i64 o.M, .int .i64 o.A, .int .i64 o.B, .int .i64 o.C, .int .i64 o.D, .bool o.F]] w
      fun e w' => e = .returned (.bool true) ∧ PairRes M own ip ir w w' p r (mapR rs o.A o.B o.C o.F o.D).2 rs.ne := by
  have e9 : (o.K == 9) = true := by simp [hK]
  clear hK
  have hwr := hs.rwf (by unfold Few at hN; omega)
  have hB := hok.2.2.2.1.1
  have hC := hok.2.2.2.2.1.1
  have q1 : ((mapR rs o.A o.B o.C o.F o.D).1 == (mapR rs o.A o.B o.C o.F o.D).1) = true := by simp
  go_enter Tryz.func21, Tryz.ntmps21
  go_wp2_with fail
  refine (A.map (w := boxed w p r o) (A.below hp (boxed_below w p r o)) hs hN o.A o.B o.C o.F o.D hok.2.2.1 hok.2.2.2.1 hok.2.2.2.2.1 hok.2.2.2.2.2).mono ?_
  rintro e w1 ⟨rfl, hn⟩
  obtain ⟨own1, hp1, hr1, hx, hy, ho1, ht1⟩ := pair_mid hr hne h0 hp0 hn
  have x1 := hx.cell 1
  have y2 := hy.cell 2
  have y3 := hy.cell 3
  have y4 := hy.cell 4
  have y5 := hy.cell 5
  have y6 := hy.cell 6
  simp only [pairCells, ptr, LOp.cells, List.getElem?_cons_succ, List.getElem?_cons_zero] at x1 y2 y3 y4 y5 y6
  go_wp2_with fail
  refine (rmap_any hr1 hwr hs.ns o.A o.B o.C o.F o.D hC).mono ?_
  rintro e w2 ⟨rfl, hn2⟩
  go_wp2_with fail
  go_ret
  exact ⟨rfl, pair_fin A hp1 hne ho1 ht1 hn2⟩

set_option maxHeartbeats 2000000 in
set_option maxRecDepth 100000 in
theorem table_unmap (A : Api M) (o : LOp) (hok : o.is64) (hK : o.K = 10) (hs : SOk rs) (hN : Few rs) (hp : M own ip w p rs) (hr : RefRep own ir w r rs rs.ne vR vB vS vA vK bs) (hne : ip ≠ ir) (h0 : ∀ b, w.heap.size ≤ b → (own b).1 = 0) (hp0 : ip ≠ 0) :
    Calls Tryz.prog 21 #[.pointer (some ⟨bw, 0, none⟩), .agg #[.pointer (some ⟨p, 0, none⟩), .pointer (some ⟨r, 0, none⟩)], .agg #[.int .i64 o.K, .int .i64 o.M, .int .i64 o.A, .int .i64 o.B, .int .i64 o.C, .int .i64 o.D, .bool o.F]] w
      fun e w' => e = .returned (.bool true) ∧ PairRes M own ip ir w w' p r (unmapR rs o.A o.B).2 rs.ne := by
  have e9 : (o.K == 9) = false := by simp [hK]
  have e10 : (o.K == 10) = true := by simp [hK]
  clear hK
  have hwr := hs.rwf (by unfold Few at hN; omega)
  have hB := hok.2.2.2.1.1
  have hC := hok.2.2.2.2.1.1
  have q1 : ((unmapR rs o.A o.B).1 == (unmapR rs o.A o.B).1) = true := by simp
  go_enter Tryz.func21, Tryz.ntmps21
  go_wp2_with fail
  refine (A.unmap (w := boxed w p r o) (A.below hp (boxed_below w p r o)) hs hN o.A o.B hok.2.2.1 hok.2.2.2.1).mono ?_
  rintro e w1 ⟨rfl, hn⟩
  obtain ⟨own1, hp1, hr1, hx, hy, ho1, ht1⟩ := pair_mid hr hne h0 hp0 hn
  have x1 := hx.cell 1
  have y2 := hy.cell 2
  have y3 := hy.cell 3
  simp only [pairCells, ptr, LOp.cells, List.getElem?_cons_succ, List.getElem?_cons_zero] at x1 y2 y3
  go_wp2_with fail
  refine (runmap_any hr1 hwr o.A o.B).mono ?_
  rintro e w2 ⟨rfl, hn2⟩
  go_wp2_with fail
  go_ret
  exact ⟨rfl, pair_fin A hp1 hne ho1 ht1 hn2⟩

set_option maxHeartbeats 2000000 in
set_option maxRecDepth 100000 in
theorem table_load (A : Api M) (o : LOp) (hok : o.is64) (hK : o.K = 11) (hs : SOk rs) (hN : Few rs) (hp : M own ip w p rs) (hr : RefRep own ir w r rs rs.ne vR vB vS vA vK bs) (hne : ip ≠ ir) (h0 : ∀ b, w.heap.size ≤ b → (own b).1 = 0) (hp0 : ip ≠ 0) :
    Calls Tryz.prog 21 #[.pointer (some ⟨bw, 0, none⟩), .agg #[.pointer (some ⟨p, 0, none⟩), .pointer (some ⟨r, 0, none⟩)], .agg #[.int .i64 o.K, .int .i64 o.M, .int .i64 o.A, .int .i64 o.B, .int .i64 o.C, .int .i64 o.D, .bool o.F]] w
      fun e w' => e = .returned (.bool true) ∧ PairRes M own ip ir w w' p r rs rs.ne := by
  have e9 : (o.K == 9) = false := by simp [hK]
  have e10 : (o.K == 10) = false := by simp [hK]
  have e11 : (o.K == 11) = true := by simp [hK]
  clear hK
  have hwr := hs.rwf (by unfold Few at hN; omega)
  have hB := hok.2.2.2.1.1
  have hC := hok.2.2.2.2.1.1
  have q1 : ((loadR rs o.A o.B o.C).1 == (loadR rs o.A o.B o.C).1) = true := by simp
  have q2 : ((loadR rs o.A o.B o.C).2 == (loadR rs o.A o.B o.C).2) = true := by simp
  go_enter Tryz.func21, Tryz.ntmps21
  go_wp2_with fail
  refine (A.load (w := boxed w p r o) (A.below hp (boxed_below w p r o)) hs hN o.A o.B o.C hok.2.2.1 hok.2.2.2.1 hok.2.2.2.2.1).mono ?_
  rintro e w1 ⟨rfl, hn⟩
  obtain ⟨own1, hp1, hr1, hx, hy, ho1, ht1⟩ := pair_mid hr hne h0 hp0 hn
  have x1 := hx.cell 1
  have y2 := hy.cell 2
  have y3 := hy.cell 3
  have y4 := hy.cell 4
  simp only [pairCells, ptr, LOp.cells, List.getElem?_cons_succ, List.getElem?_cons_zero] at x1 y2 y3 y4
  go_wp2_with fail
  refine (rload_any hr1 hwr hs.sfr o.A o.B o.C).mono ?_
  rintro e w2 ⟨rfl, hn2⟩
  go_wp2_with fail
  go_ret
  exact ⟨rfl, pair_fin A hp1 hne ho1 ht1 (RefNext.of_below hr1 hn2)⟩

set_option maxHeartbeats 2000000 in
set_option maxRecDepth 100000 in
theorem table_store (A : Api M) (o : LOp) (hok : o.is64) (hK : o.K = 12) (hs : SOk rs) (hN : Few rs) (hp : M own ip w p rs) (hr : RefRep own ir w r rs rs.ne vR vB vS vA vK bs) (hne : ip ≠ ir) (h0 : ∀ b, w.heap.size ≤ b → (own b).1 = 0) (hp0 : ip ≠ 0) :
    Calls Tryz.prog 21 #[.pointer (some ⟨bw, 0, none⟩), .agg #[.pointer (some ⟨p, 0, none⟩), .pointer (some ⟨r, 0, none⟩)], .agg #[.int .i64 o.K, .int .i64 o.M, .int .i64 o.A, .int .i64 o.B, .int .i64 o.C, .int .i64 o.D, .bool o.F]] w
      fun e w' => e = .returned (.bool true) ∧ PairRes M own ip ir w w' p r (storeR rs o.A o.B o.C o.D).2 rs.ne := by
  have e9 : (o.K == 9) = false := by simp [hK]
  have e10 : (o.K == 10) = false := by simp [hK]
  have e11 : (o.K == 11) = false := by simp [hK]
  have e12 : (o.K == 12) = true := by simp [hK]
  clear hK
  have hwr := hs.rwf (by unfold Few at hN; omega)
  have hB := hok.2.2.2.1.1
  have hC := hok.2.2.2.2.1.1
  have q1 : ((storeR rs o.A o.B o.C o.D).1 == (storeR rs o.A o.B o.C o.D).1) = true := by simp
  go_enter Tryz.func21, Tryz.ntmps21
  go_wp2_with fail
  refine (A.store (w := boxed w p r o) (A.below hp (boxed_below w p r o)) hs hN o.A o.B o.C o.D hok.2.2.1 hok.2.2.2.1 hok.2.2.2.2.1 hok.2.2.2.2.2).mono ?_
  rintro e w1 ⟨rfl, hn⟩
  obtain ⟨own1, hp1, hr1, hx, hy, ho1, ht1⟩ := pair_mid hr hne h0 hp0 hn
  have x1 := hx.cell 1
  have y2 := hy.cell 2
  have y3 := hy.cell 3
  have y4 := hy.cell 4
  have y5 := hy.cell 5
  simp only [pairCells, ptr, LOp.cells, List.getElem?_cons_succ, List.getElem?_cons_zero] at x1 y2 y3 y4 y5
  go_wp2_with fail
  refine (rstore_any hr1 hwr hs.sfr o.A o.B o.C o.D).mono ?_
  rintro e w2 ⟨rfl, hn2⟩
  go_wp2_with fail
  go_ret
  exact ⟨rfl, pair_fin A hp1 hne ho1 ht1 hn2⟩

end
end Go.Proofs.YtinlkcmdbjcofaaGreat

namespace Go.Proofs.YtinlkcmdbjcofaaGreat
open Go.RowKit
set_option linter.unusedVariables false
attribute [local go_sem ↓] Go.wp_at_zero Go.wp_at_succ

set_option maxHeartbeats 1000000 in
set_option maxRecDepth 100000 in
/-- Two tables with the same cells. -/
theorem sameEntries_any {w : World} {va vb : Value} {rs : List Ent} (ha : Row w va 74 5 rs.length (rs.flatMap Ent.cells)) (hb : Row w vb 74 5 rs.length (rs.flatMap Ent.cells)) (hm : rs.length ≤ 4611686018427387904) :
    Calls Tryz.prog 51 #[va, vb] w fun e w' => e = .returned (.bool true) ∧ Below w.heap.size w w' := by
  obtain ⟨ao, cap, hv, hca⟩ := ha.shape'
  obtain ⟨bo, cap2, hv2, hcb⟩ := hb.shape'
  subst hv hv2
  have hne : ((rs.length : Int) != (rs.length : Int)) = false := by simp
  go_enter Tryz.func51, Tryz.ntmps51
  go_wp2_with fail
  go_loopg [5] rs.length (fun k x wr => ∃ q : Nat, x = .int .i64 q ∧ q + k = rs.length ∧ Below w.heap.size w wr)
  case atStart => exact ⟨0, rfl, by omega, Below.refl _ _⟩
  case round =>
    obtain ⟨q, rfl, hk, hbl⟩ := hrel
    have HK : Hid (q + gk = rs.length) := hk
    have hq : q ≤ rs.length := by omega
    clear hk
    by_cases hlt : q < rs.length
    · rcases hca with h0 | ⟨g, rfl⟩
      · omega
      rcases hcb with h0 | ⟨g2, rfl⟩
      · omega
      have ha' := ha.below hbl
      have hb' := hb.below hbl
      obtain ⟨r, hr⟩ : ∃ r, rs[q]? = some r := ⟨rs[q], by simp⟩
      have c0 : wr.cell? ⟨g, q * 5, none⟩ = some (.bool r.used) := by rw [ha'.cellAt' _ (by omega), show q * 5 = q * 5 + 0 by omega, flat_get Ent.cells 5 (fun _ => rfl) rs q 0 r hr (by omega)]; rfl
      have c1 : wr.cell? ⟨g, q * 5 + 1, none⟩ = some (.int .i64 r.env) := by rw [ha'.cellAt' _ (by omega), flat_get Ent.cells 5 (fun _ => rfl) rs q 1 r hr (by omega)]; rfl
      have c2 : wr.cell? ⟨g, q * 5 + 2, none⟩ = some (.int .i64 r.page) := by rw [ha'.cellAt' _ (by omega), flat_get Ent.cells 5 (fun _ => rfl) rs q 2 r hr (by omega)]; rfl
      have c3 : wr.cell? ⟨g, q * 5 + 3, none⟩ = some (.int .i64 r.fr) := by rw [ha'.cellAt' _ (by omega), flat_get Ent.cells 5 (fun _ => rfl) rs q 3 r hr (by omega)]; rfl
      have c4 : wr.cell? ⟨g, q * 5 + 4, none⟩ = some (.bool r.wr) := by rw [ha'.cellAt' _ (by omega), flat_get Ent.cells 5 (fun _ => rfl) rs q 4 r hr (by omega)]; rfl
      have d0 : wr.cell? ⟨g2, q * 5, none⟩ = some (.bool r.used) := by rw [hb'.cellAt' _ (by omega), show q * 5 = q * 5 + 0 by omega, flat_get Ent.cells 5 (fun _ => rfl) rs q 0 r hr (by omega)]; rfl
      have d1 : wr.cell? ⟨g2, q * 5 + 1, none⟩ = some (.int .i64 r.env) := by rw [hb'.cellAt' _ (by omega), flat_get Ent.cells 5 (fun _ => rfl) rs q 1 r hr (by omega)]; rfl
      have d2 : wr.cell? ⟨g2, q * 5 + 2, none⟩ = some (.int .i64 r.page) := by rw [hb'.cellAt' _ (by omega), flat_get Ent.cells 5 (fun _ => rfl) rs q 2 r hr (by omega)]; rfl
      have d3 : wr.cell? ⟨g2, q * 5 + 3, none⟩ = some (.int .i64 r.fr) := by rw [hb'.cellAt' _ (by omega), flat_get Ent.cells 5 (fun _ => rfl) rs q 3 r hr (by omega)]; rfl
      have d4 : wr.cell? ⟨g2, q * 5 + 4, none⟩ = some (.bool r.wr) := by rw [hb'.cellAt' _ (by omega), flat_get Ent.cells 5 (fun _ => rfl) rs q 4 r hr (by omega)]; rfl
      have hi0 : (0 : Int) ≤ (q : Int) := by omega
      have hi1 : (q : Int) < (rs.length : Int) := by omega
      clear hr ha' hb'
      go_wp2_with fail
      go_quiet (fail)
      go_wp2_with fail
      go_roundg (gk - 1)
      case measure => have := HK.out; omega
      case rel => exact ⟨q + 1, by go_num, by have := HK.out; omega, below_drewN hbl _⟩
    · go_wp2_with fail
      go_ret
      exact ⟨rfl, hbl⟩

theorem hold_startE (own : Nat → Nat × Nat) (ih : Nat) {w w3 : World} {v : Value} {n : Nat} {xs : List Value} (hb : w.heap.size ≤ w3.heap.size) (hrow : Row w3 v 74 5 n xs) (hn : ∀ x, v.ownBlock = some x → w.heap.size ≤ x) :
    ∃ own3 : Nat → Nat × Nat, (∀ b, b < w.heap.size → own3 b = own b) ∧ (∀ b, w.heap.size ≤ b → (own3 b).1 = 0 ∨ (own3 b).1 = ih) ∧
      HoldNew own3 ih (w3.alloc (.cells #[.slice none 0 0, .slice none 0 0, .slice none 0 0, .slice none 0 0, v, .slice none 0 0, .int .i64 0] 88)) w3.heap.size 0 (.slice none 0 0) (.slice none 0 0) v 0 0 n [] [] xs := by
  have hlt := hrow.lt
  refine ⟨fun b => if b < w.heap.size then own b else if b = w3.heap.size then (ih, 0) else if v.ownBlock = some b then (ih, 5) else (0, 0), fun b hb => if_pos hb, fun b hb => ?_,
    Blk.new w3 [_, _, _, _, _, _, _] _, Row.nil _ _ _, Row.nil _ _ _, hrow.alloc _, ?_, Tg.nil _ _, Tg.nil _ _, ?_⟩
  · simp only [if_neg (show ¬ b < w.heap.size by omega)]
    split
    · exact .inr rfl
    · split
      · exact .inr rfl
      · exact .inl rfl
  · simp only [if_neg (show ¬ w3.heap.size < w.heap.size by omega), if_true]
  · intro b hb'
    have h1 := hn b hb'
    have h2 := hlt b hb'
    simp only [if_neg (show ¬ b < w.heap.size by omega), if_neg (show ¬ b = w3.heap.size by omega), hb', if_true]

section
variable {M : MT} {own : Nat → Nat × Nat} {ip ir bw p r : Nat} {w w1 w2 : World} {rs rs' : RSt} {vR vB vS vA vK : Value} {bs : List Nat} {o : LOp}

set_option maxHeartbeats 2000000 in
set_option maxRecDepth 100000 in
theorem rights_list (A : Api M) (o : LOp) (hok : o.is64) (hK : o.K = 6) {ih : Nat} {vP vH : Value} {hbs : List Nat}
    (hs : SOk rs) (hF : Few rs) (hp : M own ip w p rs) (hr : RefRep own ir w r rs rs.ne vR vB vS vA vK bs) (h0 : ∀ b, w.heap.size ≤ b → (own b).1 = 0)
    (hw : Blk w bw [vP, vH] 29) (hH : Row w vH 46 1 hbs.length (hbs.map hptr)) (hlen : (hbs.length + 1) * 8 ≤ 140737488355328)
    (tw : own bw = (1, 0)) (tH : Tg own vH (1, 2)) (hih : ∀ b, (own b).1 ≠ ih) (hih1 : ih ≠ 1) (hih0 : ih ≠ 0) :
    Calls Tryz.prog 20 #[.pointer (some ⟨bw, 0, none⟩), .agg #[.pointer (some ⟨p, 0, none⟩), .pointer (some ⟨r, 0, none⟩)], .agg #[.int .i64 o.K, .int .i64 o.M, .int .i64 o.A, .int .i64 o.B, .int .i64 o.C, .int .i64 o.D, .bool o.F]] w
      fun e w' => e = .returned (.bool true) ∧ ListRes own ih bw w w' vP vH hbs := by
  have e2 : (o.K == 2) = false := by simp [hK]
  have e3 : (o.K == 3) = false := by simp [hK]
  have e4 : (o.K == 4) = false := by simp [hK]
  have e5 : (o.K == 5) = false := by simp [hK]
  have e7 : (o.K == 7) = false := by simp [hK]
  have e8 : (o.K == 8) = false := by simp [hK]
  have e6 : (o.K == 6) = true := by simp [hK]
  clear hK
  have hwr := hs.rwf (by unfold Few at hF; omega)
  have hN : rs.rights.length ≤ 2932031007402 := by unfold Few at hF; omega
  have hz := boxed_size w p r o
  go_enter Tryz.func20, Tryz.ntmps20
  go_wp2_with fail
  refine (A.rights (w := boxed w p r o) (A.below hp (boxed_below w p r o)) hs hF o.A hok.2.2.1).mono ?_
  rintro e w1 ⟨v, rfl, hb1, hn1, hrow1⟩
  have hx := (boxed_x w p r o).below hb1 (by omega)
  have hy := (boxed_o w p r o).below hb1 (by omega)
  have x1 := hx.cell 1
  have y2 := hy.cell 2
  simp only [pairCells, ptr, LOp.cells, List.getElem?_cons_succ, List.getElem?_cons_zero] at x1 y2
  go_wp2_with fail
  refine (rlist_uni (hr.below ((boxed_below w p r o).trans (hb1.mono (by omega)))) hwr o.A).mono ?_
  rintro e w2 ⟨v2, rfl, hb2, hn2, hrow2⟩
  go_wp2_with fail
  have hlt := toldR_le rs o.A
  refine (sameRights_any (hrow1.below hb2) hrow2 (by omega)).mono ?_
  rintro e w3 ⟨rfl, hb3⟩
  have hrow3 := (hrow1.below hb2).below hb3
  have hb23 : Below w1.heap.size w1 w3 := hb2.trans (hb3.mono hb2.size)
  have hbw3 : Below w.heap.size w w3 := (boxed_below w p r o).trans ((hb1.mono (by omega)).trans (hb23.mono (by have := hb1.size; omega)))
  have hs3 : w.heap.size + 2 ≤ w3.heap.size := by have h1 := hb1.size; have h2 := hb23.size; omega
  obtain ⟨ao, cap, hv, _⟩ := hrow3.shape'
  obtain ⟨n, hnn⟩ : ∃ n, (toldR rs o.A).length = n := ⟨_, rfl⟩
  rw [hnn] at hv hrow3 hlt
  subst hv
  clear x1 y2 hx hy hrow1 hrow2 hn2 hb2 hb3 hb1 hb23 hnn
  go_wp2_with fail
  obtain ⟨own3, ho3, hz3, hnew⟩ := hold_start own ih (w := w) (by omega) hrow3 (fun x hx => by have := hn1 x hx; omega)
  have hbW := hbw3.alloc (by omega) (.cells #[.slice none 0 0, .slice none 0 0, .slice ao n cap, .slice none 0 0, .slice none 0 0, .slice none 0 0, .int .i64 0] 88)
  have hwl := hw.lt
  refine (keep_any hnew (by omega) (by omega) (by omega) (hw.below hbW hwl) (hH.of fun b hb => hbW.block b (hH.lt b hb)) hlen (by rw [ho3 bw hwl, tw]; exact fun e => hih1 e.symm) (fun b hb => ?_)).mono ?_
  · have hbl := hH.lt b hb
    rw [ho3 b hbl, tH b hb]
    exact ⟨fun e => hih1 e.symm, fun e => by have := tH b hb; rw [e, tw] at this; simp at this⟩
  rintro e w4 ⟨rfl, own4, g, capg, m, ho4, ht4, hw4, hH4, hg4, hok4⟩
  have q1 : (liveE rs o.A == liveE rs o.A) = true := by simp
  go_wp2_with fail
  go_ret
  exact ⟨rfl, list_fin hbW ho3 ho4 hih hih1 hih0 hwl hH.lt tH ht4 hw4 hH4 hg4 hok4⟩
set_option maxHeartbeats 2000000 in
set_option maxRecDepth 100000 in
theorem table_list (A : Api M) (o : LOp) (hok : o.is64) (hK : o.K = 13) {ih : Nat} {vP vH : Value} {hbs : List Nat}
    (hs : SOk rs) (hF : Few rs) (hp : M own ip w p rs) (hr : RefRep own ir w r rs rs.ne vR vB vS vA vK bs) (h0 : ∀ b, w.heap.size ≤ b → (own b).1 = 0)
    (hw : Blk w bw [vP, vH] 29) (hH : Row w vH 46 1 hbs.length (hbs.map hptr)) (hlen : (hbs.length + 1) * 8 ≤ 140737488355328)
    (tw : own bw = (1, 0)) (tH : Tg own vH (1, 2)) (hih : ∀ b, (own b).1 ≠ ih) (hih1 : ih ≠ 1) (hih0 : ih ≠ 0) :
    Calls Tryz.prog 21 #[.pointer (some ⟨bw, 0, none⟩), .agg #[.pointer (some ⟨p, 0, none⟩), .pointer (some ⟨r, 0, none⟩)], .agg #[.int .i64 o.K, .int .i64 o.M, .int .i64 o.A, .int .i64 o.B, .int .i64 o.C, .int .i64 o.D, .bool o.F]] w
      fun e w' => e = .returned (.bool true) ∧ ListRes own ih bw w w' vP vH hbs := by
  have e2 : (o.K == 9) = false := by simp [hK]
  have e3 : (o.K == 10) = false := by simp [hK]
  have e4 : (o.K == 11) = false := by simp [hK]
  have e5 : (o.K == 12) = false := by simp [hK]
  have e6 : (o.K == 13) = true := by simp [hK]
  clear hK
  have hz := boxed_size w p r o
  have hlt := hs.fix.sl
  go_enter Tryz.func21, Tryz.ntmps21
  go_wp2_with fail
  refine (A.table (w := boxed w p r o) (A.below hp (boxed_below w p r o)) hs hF).mono ?_
  rintro e w1 ⟨v, rfl, hb1, hn1, hrow1⟩
  have hx := (boxed_x w p r o).below hb1 (by omega)
  have x1 := hx.cell 1
  simp only [pairCells, ptr, List.getElem?_cons_succ, List.getElem?_cons_zero] at x1
  have hr1 := hr.below ((boxed_below w p r o).trans (hb1.mono (by omega)))
  have k5 := hr1.blk.cell 5
  simp at k5
  go_wp2_with fail
  refine (sameEntries_any hrow1 hr1.rS (by omega)).mono ?_
  rintro e w3 ⟨rfl, hb3⟩
  have hrow3 := hrow1.below hb3
  have hbw3 : Below w.heap.size w w3 := (boxed_below w p r o).trans ((hb1.mono (by omega)).trans (hb3.mono (by have := hb1.size; omega)))
  have hs3 : w.heap.size + 2 ≤ w3.heap.size := by have h1 := hb1.size; have h2 := hb3.size; omega
  obtain ⟨ao, cap, hv, _⟩ := hrow3.shape'
  obtain ⟨n, hnn⟩ : ∃ n, rs.slots.length = n := ⟨_, rfl⟩
  rw [hnn] at hv hrow3 hlt
  subst hv
  clear x1 hx hrow1 hb3 hb1 hnn k5 hr1
  go_wp2_with fail
  obtain ⟨own3, ho3, hz3, hnew⟩ := hold_startE own ih (w := w) (by omega) hrow3 (fun x hx => by have := hn1 x hx; omega)
  have hbW := hbw3.alloc (by omega) (.cells #[.slice none 0 0, .slice none 0 0, .slice none 0 0, .slice none 0 0, .slice ao n cap, .slice none 0 0, .int .i64 0] 88)
  have hwl := hw.lt
  refine (keep_any hnew (by omega) (by omega) (by omega) (hw.below hbW hwl) (hH.of fun b hb => hbW.block b (hH.lt b hb)) hlen (by rw [ho3 bw hwl, tw]; exact fun e => hih1 e.symm) (fun b hb => ?_)).mono ?_
  · have hbl := hH.lt b hb
    rw [ho3 b hbl, tH b hb]
    exact ⟨fun e => hih1 e.symm, fun e => by have := tH b hb; rw [e, tw] at this; simp at this⟩
  rintro e w4 ⟨rfl, own4, g, capg, m, ho4, ht4, hw4, hH4, hg4, hok4⟩
  go_wp2_with fail
  go_ret
  exact ⟨rfl, list_fin hbW ho3 ho4 hih hih1 hih0 hwl hH.lt tH ht4 hw4 hH4 hg4 hok4⟩
end
end Go.Proofs.YtinlkcmdbjcofaaGreat
