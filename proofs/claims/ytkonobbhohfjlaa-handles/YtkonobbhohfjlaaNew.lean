import Derived.Test.YtkonobbhohfjlaaMay
namespace Go.Proofs.Ytkonobbhohfjlaa
open Go.RowKit
set_option linter.unusedVariables false

theorem Try.infoEnv : (Try.prog.info? 82).map (fun i => (i.zero, i.size, i.bytes)) = some (some (.agg #[.bool false, .bool false]), 2, 2) := by kernel_rfl
theorem Try.infoFrame : (Try.prog.info? 126).map (fun i => (i.zero, i.size, i.bytes)) = some (some (.agg #[.int .u8 0, .int .u8 0, .int .u8 0, .int .u8 0]), 4, 4) := by kernel_rfl

/-- 'make([]T, n)': the block, written out. -/
theorem run_make_n {P : Program} {t e : TypeId} {z : Value} {size bytes : Nat} (ht : P.underlying t = some (.slice e))
    (hinfo : (P.info? e).map (fun i => (i.zero, i.size, i.bytes)) = some (some z, size, bytes)) (n : Nat) (hn : n ≤ 1000) (hb : bytes ≤ 1000) (C : List Value) (hC : madeCells z.cells (n * size) = C.toArray) (w : World) :
    (Instr.makeSlice t (.int .i64 (n : Int)) (.int .i64 (n : Int))).run P w = .ok (.slice (some ⟨w.heap.size, 0, none⟩) n n) (w.alloc (.cells C.toArray e)) := by
  obtain ⟨i, hi, hz, hs, hby⟩ := info_parts hinfo
  subst hs; subst hby
  have hb' : (i.bytes : Int) * (n : Int) ≤ 281474976710656 := by
    have h : i.bytes * n ≤ 1000 * 1000 := Nat.mul_le_mul hb hn
    have : ((i.bytes * n : Nat) : Int) ≤ 281474976710656 := by omega
    rwa [Int.natCast_mul] at this
  have hr := run_make (P := P) w t e i z ht hi hz .i64 .i64 n n (by omega) (Int.le_refl _) hb' (by omega)
  simp only [Int.toNat_natCast] at hr
  rw [hC] at hr
  exact hr

/-- The environments' cells: k of n are alive. -/
def envCells (k n : Nat) : List Value := (List.range (n * 2)).map fun j => .bool (decide (j % 2 = 0 ∧ j < 2 * k))
def frameCells (n : Nat) : List Value := List.replicate (n * 4) (.int .u8 0)

theorem made_env (n : Nat) : madeCells (Value.agg #[.bool false, .bool false]).cells (n * 2) = (envCells 0 n).toArray := by
  apply Array.ext'
  simp [madeCells, envCells, Value.cells]
  intro a _
  rcases Nat.mod_two_eq_zero_or_one a with h | h <;> simp [h]
theorem made_frame (n : Nat) : madeCells (Value.agg #[.int .u8 0, .int .u8 0, .int .u8 0, .int .u8 0]).cells (n * 4) = (frameCells n).toArray := by
  apply Array.ext'
  simp [madeCells, frameCells, Value.cells]
  apply List.ext_getElem
  · simp
  · intro i h1 h2
    simp
    have : i % 4 = 0 ∨ i % 4 = 1 ∨ i % 4 = 2 ∨ i % 4 = 3 := by omega
    rcases this with h | h | h | h <;> simp [h]

theorem envCells_set (k n : Nat) (h : k < n) : (envCells k n).set (k * 2) (.bool true) = envCells (k + 1) n := by
  apply List.ext_getElem
  · simp [envCells]
  · intro i h1 h2
    simp [envCells, List.getElem_set]
    rw [Bool.eq_iff_iff]; simp; omega

set_option maxHeartbeats 400000 in
theorem new_no (a b c : Int) (w : World) (h : mayB a b c = false) :
    Calls Try.prog 16 #[.agg #[.int .i64 a, .int .i64 b, .int .i64 c]] w fun e w' => e = .returned (.tuple #[.pointer none, .int .i64 1]) ∧ Below w.heap.size w w' := by
  go_enter Try.func16, Try.ntmps16
  go_wp2_with (go_at_call 31; refine (mayBe_any _ _ _ _).mono ?_; rintro e w' ⟨rfl, hb⟩; rw [h])
  go_ret2
  refine ⟨rfl, ((Below.refl _ _).alloc (Nat.le_refl _) _).trans (hb.mono (by simp))⟩

def machCells (e f c a : Nat) : List Value := [.slice (some ⟨e, 0, none⟩) c c, .slice (some ⟨f, 0, none⟩) a a, .slice none 0 0, .int .i64 0]

def NewMach (w w' : World) (m a c : Nat) : Prop :=
  ∃ e f, Blk w' m (machCells e f c a) 80 ∧ Blk w' e (envCells c c) 82 ∧ Blk w' f (frameCells a) 126 ∧ e ≠ f ∧ m ≠ e ∧ m ≠ f ∧ w.heap.size ≤ m ∧ w.heap.size ≤ e ∧ w.heap.size ≤ f

set_option maxHeartbeats 400000 in
theorem new_yes (a b c : Nat) (w : World) (h : mayB a b c = true) (ha : a ≤ 16) (hc : c ≤ 4) (hc1 : 1 ≤ c):
    Calls Try.prog 16 #[.agg #[.int .i64 a, .int .i64 b, .int .i64 c]] w fun e w' => ∃ m, e = .returned (.tuple #[.pointer (some ⟨m, 0, none⟩), .int .i64 0]) ∧ Below w.heap.size w w' ∧ NewMach w w' m a c := by
  have hmk := run_make_n (P := Try.prog) Try.underlying74 Try.infoEnv c (by omega) (by omega) _ (made_env c)
  have hmk2 := run_make_n (P := Try.prog) Try.underlying75 Try.infoFrame a (by omega) (by omega) _ (made_frame a)
  go_enter Try.func16, Try.ntmps16
  go_wp2_with (go_at_call 31; refine (mayBe_any _ _ _ _).mono ?_; rintro e w' ⟨rfl, hb⟩; rw [h])
  have hbk := (Blk.new w [.int .i64 a, .int .i64 b, .int .i64 c] 31).below hb (by simp)
  have k0 := hbk.cell 0
  have k2 := hbk.cell 2
  simp at k0 k2
  have hsz : w.heap.size < w'.heap.size := by have := hb.size; simp at this; omega
  have hbw : Below w.heap.size w w' := ((Below.refl _ _).alloc (Nat.le_refl _) _).trans (hb.mono (by simp))
  go_cut [4] (fun p wc => ∃ m e f, p = .pointer (some ⟨m, 0, none⟩) ∧ Below w.heap.size w wc ∧ Blk wc m (machCells e f c a) 80 ∧ Blk wc e (envCells 0 c) 82 ∧ Blk wc f (frameCells a) 126 ∧ e ≠ f ∧ m ≠ e ∧ m ≠ f ∧ w.heap.size ≤ m ∧ w.heap.size ≤ e ∧ w.heap.size ≤ f)
  case first =>
    go_region
    · go_wp2
      go_meet
      case rel =>
        exact ⟨_, w'.heap.size, w'.heap.size + 1, rfl, (((hbw.alloc (by omega) _).alloc (by simp; omega) _).alloc (by simp; omega) _).drew,
          (Blk.at _ (machCells _ _ c a) _ _ (by simp)).drew, (((Blk.at _ _ _ _ rfl).alloc _).alloc _).drew, ((Blk.at _ _ _ _ (by simp)).alloc _).drew, by omega, by omega, by omega, by omega, by omega, by omega⟩
    · go_wp2
      go_meet
      case rel =>
        exact ⟨_, w'.heap.size + 1, w'.heap.size, rfl, (((hbw.alloc (by omega) _).alloc (by simp; omega) _).alloc (by simp; omega) _).drew,
          (Blk.at _ (machCells _ _ c a) _ _ (by simp)).drew, ((Blk.at _ _ _ _ (by simp)).alloc _).drew, (((Blk.at _ _ _ _ rfl).alloc _).alloc _).drew, by omega, by omega, by omega, by omega, by omega, by omega⟩
  case rest =>
    obtain ⟨m, e, f, hp, hbl, hm, he, hf, n1, n2, n3, g1, g2, g3⟩ := hcut
    rw [hp]
    have j0 := hm.cell 0
    simp [machCells] at j0
    go_wp2
    go_loopg [22, 5] c (fun k i _ wr => ∃ r : Nat, r + k = c ∧ i = .int .i64 r ∧ Below w.heap.size w wr ∧ Blk wr m (machCells e f c a) 80 ∧ Blk wr e (envCells r c) 82 ∧ Blk wr f (frameCells a) 126)
    case atStart => exact ⟨0, by omega, rfl, hbl, hm, he, hf⟩
    case round =>
      obtain ⟨r, hr, rfl, hbl', hm', he', hf'⟩ := hrel
      have i0 := hm'.cell 0
      simp [machCells] at i0
      have fe := he'.frozen (r * 2)
      by_cases hlt : r < c
      · obtain ⟨v, hv⟩ : ∃ v, (envCells r c)[r * 2]? = some (.bool v) := ⟨decide ((r * 2) % 2 = 0 ∧ r * 2 < 2 * r), by rw [envCells, List.getElem?_map, List.getElem?_range (by omega)]; rfl⟩
        have ie := (he'.cell (r * 2)).trans hv
        clear hv
        go_wp2
        go_roundg (gk - 1)
        case measure => omega
        case rel => exact ⟨r + 1, by omega, by go_num, hbl'.setCell (by simpa using g2) _, hm'.other _ (by simpa using n2), by rw [← envCells_set r c hlt]; exact he'.set _ _, hf'.other _ (by simpa using Ne.symm n1)⟩
      · go_wp2
        go_ret2
        obtain rfl : r = c := by omega
        exact ⟨m, rfl, hbl', e, f, hm', he', hf', n1, n2, n3, g1, g2, g3⟩
end Go.Proofs.Ytkonobbhohfjlaa
