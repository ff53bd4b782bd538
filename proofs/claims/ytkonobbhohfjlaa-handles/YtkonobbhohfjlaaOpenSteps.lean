/-
  A script of steps and a size that came in, as plain data.
-/
import Derived.Test.YtkonobbhohfjlaaOpenOps
import Derived.Test.YtkonobbhohfjlaaBookL
namespace Go.Proofs.Ytkonobbhohfjlaa
open Go.ChangeShapes Go.WideShapes Go.ChangeAt Go.RowKit Go.Deep
set_option linter.unusedVariables false

theorem Try.cellsStep : Try.prog.cellsOf 39 = 6 := by kernel_rfl
theorem Try.cellsSize : Try.prog.cellsOf 26 = 3 := by kernel_rfl
theorem Try.bytesStep : Try.prog.bytesOf 39 = 48 := by kernel_rfl

/-- The step's numbers are ints. -/
def LStep.ok (o : LStep) : Prop := Inr64 o.V ∧ Inr64 o.A ∧ Inr64 o.B
theorem inr64_of {n : Int} (h : (Lit.int .i64 n).wf = true) : Inr64 n := inr_of h

theorem list6 {α : Type} {l : List α} (h : l.length = 6) : ∃ a b c d e f, l = [a, b, c, d, e, f] := by
  match l, h with
  | [a, b, c, d, e, f], _ => exact ⟨a, b, c, d, e, f, rfl⟩
theorem list3 {α : Type} {l : List α} (h : l.length = 3) : ∃ a b c, l = [a, b, c] := by
  match l, h with
  | [a, b, c], _ => exact ⟨a, b, c, rfl⟩

set_option maxRecDepth 100000 in
/-- A size, read as data. -/
theorem open_size {H : Type} {enc : TypeId × Value → H} {w : World} {n : Nat} {cs : List Value} {x : DataW H × List MemPlace}
    (h : DataW.trod enc Try.prog w 0 (fun _ => true) true n 26 cs = some x) : ∃ a b c : Int, cs = [.int .i64 a, .int .i64 b, .int .i64 c] ∧ Inr64 a ∧ Inr64 b ∧ Inr64 c := by
  obtain ⟨xs, m, _, _, hl, hxl, hf⟩ := DataW.trod_struct Try.underlying26 h
  rw [Try.cellsSize] at hl
  have hxl3 : xs.length = 3 := hxl
  obtain ⟨c0, c1, c2, rfl⟩ := list3 hl
  obtain ⟨y0, e0⟩ := some_get hxl3 (show 0 < 3 by omega)
  obtain ⟨y1, e1⟩ := some_get hxl3 (show 1 < 3 by omega)
  obtain ⟨y2, e2⟩ := some_get hxl3 (show 2 < 3 by omega)
  have f0 := (hf 0 _ rfl).trans e0
  have f1 := (hf 1 _ rfl).trans e1
  have f2 := (hf 2 _ rfl).trans e2
  obtain ⟨a0, g0, _, z0⟩ := DataW.trod_int Try.underlying3 f0
  obtain ⟨a1, g1, _, z1⟩ := DataW.trod_int Try.underlying3 f1
  obtain ⟨a2, g2, _, z2⟩ := DataW.trod_int Try.underlying3 f2
  simp [Try.cellsInt] at g0 g1 g2
  exact ⟨a0, a1, a2, by simp [g0, g1, g2], inr64_of z0, inr64_of z1, inr64_of z2⟩

set_option maxRecDepth 100000 in
/-- One step, read as data. -/
theorem open_step {H : Type} {enc : TypeId × Value → H} {w : World} {n : Nat} {cs : List Value} {x : DataW H × List MemPlace}
    (h : DataW.trod enc Try.prog w 0 (fun _ => true) true n 39 cs = some x) : ∃ o : LStep, cs = o.cells ∧ o.ok := by
  obtain ⟨xs, m, _, _, hl, hxl, hf⟩ := DataW.trod_struct Try.underlying39 h
  rw [Try.cellsStep] at hl
  have hxl6 : xs.length = 6 := hxl
  obtain ⟨c0, c1, c2, c3, c4, c5, rfl⟩ := list6 hl
  obtain ⟨y0, e0⟩ := some_get hxl6 (show 0 < 6 by omega)
  obtain ⟨y1, e1⟩ := some_get hxl6 (show 1 < 6 by omega)
  obtain ⟨y2, e2⟩ := some_get hxl6 (show 2 < 6 by omega)
  obtain ⟨y3, e3⟩ := some_get hxl6 (show 3 < 6 by omega)
  obtain ⟨y4, e4⟩ := some_get hxl6 (show 4 < 6 by omega)
  obtain ⟨y5, e5⟩ := some_get hxl6 (show 5 < 6 by omega)
  have f0 := (hf 0 _ rfl).trans e0
  have f1 := (hf 1 _ rfl).trans e1
  have f2 := (hf 2 _ rfl).trans e2
  have f3 := (hf 3 _ rfl).trans e3
  have f4 := (hf 4 _ rfl).trans e4
  have f5 := (hf 5 _ rfl).trans e5
  obtain ⟨a0, g0, _, z0⟩ := DataW.trod_int Try.underlying3 f0
  obtain ⟨a1, g1, _, z1⟩ := DataW.trod_int Try.underlying3 f1
  obtain ⟨a2, g2, _, z2⟩ := DataW.trod_int Try.underlying3 f2
  obtain ⟨a3, g3, _, z3⟩ := DataW.trod_int Try.underlying3 f3
  obtain ⟨a4, g4, _, z4⟩ := DataW.trod_int Try.underlying3 f4
  obtain ⟨a5, g5, _⟩ := DataW.trod_bool Try.underlying4 f5
  simp [Try.cellsInt, Try.cellsBool] at g0 g1 g2 g3 g4 g5
  exact ⟨⟨a0, a1, a2, a3, a4, a5⟩, by simp [LStep.cells, g0, g1, g2, g3, g4, g5], inr64_of z1, inr64_of z2, inr64_of z3⟩

/-- A whole script. -/
theorem open_steps {H : Type} {enc : TypeId × Value → H} {w : World} {fuel : Nat} {ao : Option Addr} {len cap : Nat} {x : DataW H × List MemPlace}
    (h : DataW.trod enc Try.prog w 0 (fun _ => true) true fuel 27 [.slice ao len cap] = some x) :
    ∃ ops : List LStep, ops.length = len ∧ ((len = 0) ∨ ∃ b off, ao = some ⟨b, off, none⟩ ∧ b < w.heap.size ∧ ∀ (i : Nat) (o : LStep), ops[i]? = some o → ∀ (j : Nat) (v : Value), o.cells[j]? = some v → w.cell? ⟨b, off + i * 6 + j, none⟩ = some v) ∧
      (len = 0 ∨ ∃ elems spare, x.1 = .slice elems spare ∧ elems.length = len) ∧ ∀ (i : Nat) (o : LStep), ops[i]? = some o → o.ok := by
  rcases open_slice Try.underlying27 h with ⟨hcs, _⟩ | ⟨a, l, c, m, n, D, Pl, hcs, _, hl, hm, hmm, rfl, hx⟩
  · simp at hcs
    obtain ⟨rfl, rfl, rfl⟩ := hcs
    exact ⟨[], rfl, .inl rfl, .inl rfl, fun i o h => by simp at h⟩
  · simp at hcs
    obtain ⟨rfl, rfl, rfl⟩ := hcs
    simp only [if_true] at hmm
    subst hmm
    rw [Try.cellsStep] at hx
    have hops : ∀ i, i < len → ∃ o : LStep, w.cells? 0 (a.add (i * 6)) 6 = some o.cells ∧ o.ok := fun i hi => by
      obtain ⟨cs', h1, h2⟩ := hx i (by omega)
      obtain ⟨o, rfl, hok⟩ := open_step h2
      exact ⟨o, h1, hok⟩
    obtain ⟨f, hf⟩ : ∃ f : Nat → LStep, ∀ i, i < len → w.cells? 0 (a.add (i * 6)) 6 = some (f i).cells ∧ (f i).ok := by
      classical
      exact ⟨fun i => if hi : i < len then Classical.choose (hops i hi) else ⟨0, 0, 0, 0, 0, false⟩, fun i hi => by simp only [dif_pos hi]; exact Classical.choose_spec (hops i hi)⟩
    have hokk : ∀ (i : Nat) (o : LStep), ((List.range len).map f)[i]? = some o → o.ok := fun i o ho => by
      have hi : i < len := by have := (List.getElem?_eq_some_iff.1 ho).1; simpa using this
      have ho' : o = f i := by simp [List.getElem?_map, List.getElem?_range hi] at ho; exact ho.symm
      rw [ho']; exact (hf i hi).2
    refine ⟨(List.range len).map f, by simp, ?_, .inr ⟨_, _, rfl, by simp⟩, hokk⟩
    by_cases h0 : len = 0
    · exact .inl h0
    · right
      have hc0 := (World.cells?_some (hf 0 (by omega)).1).2.2 0 (by omega)
      obtain ⟨b, off, spot⟩ := a
      have hc0' : w.cell? ⟨b, off, spot⟩ = some (.int .i64 (f 0).K) := by simpa [Addr.add, LStep.cells] using hc0
      have hspot : spot = none := World.cell?_spot hc0'
      subst hspot
      refine ⟨b, off, rfl, World.block_lt_of_cell? _ _ hc0', ?_⟩
      intro i o ho j v hv
      have hi : i < len := by have := (List.getElem?_eq_some_iff.1 ho).1; simpa using this
      have ho' : o = f i := by simp [List.getElem?_map, List.getElem?_range hi] at ho; exact ho.symm
      subst ho'
      have hj : j < 6 := by have := (List.getElem?_eq_some_iff.1 hv).1; simpa [LStep.cells] using this
      have := (World.cells?_some (hf i hi).1).2.2 j hj
      rw [add_add, add_plain, hv] at this
      rw [← this, Nat.add_assoc]

end Go.Proofs.Ytkonobbhohfjlaa
