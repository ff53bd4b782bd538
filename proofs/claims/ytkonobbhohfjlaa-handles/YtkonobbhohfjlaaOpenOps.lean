/-
  A script of calls that came in: its calls as plain data.
-/
import Derived.Test.YtkonobbhohfjlaaRows
import Derived.Test.YtkonobbhohfjlaaPlays
import Derived.ProofKit
import Derived.OpenShut
import Derived.ShutString
import Derived.ChangeOld
import Derived.Below
import Derived.Deep.Slices
import Derived.SizedLaws
namespace Go.Proofs.Ytkonobbhohfjlaa
open Go.ChangeShapes Go.WideShapes Go.ChangeAt Go.RowKit Go.Deep
set_option linter.unusedVariables false

theorem Try.own : ownKnob Try.prog.godebug = none := by kernel_rfl
theorem Try.laidOut : laidOutB Try.prog = true := by kernel_rfl
theorem Try.cellsOp : Try.prog.cellsOf 50 = 7 := by kernel_rfl
theorem Try.cellsInt : Try.prog.cellsOf 3 = 1 := by kernel_rfl
theorem Try.cellsBool : Try.prog.cellsOf 4 = 1 := by kernel_rfl
theorem Try.bytesOp : Try.prog.bytesOf 50 = 56 := by kernel_rfl

def Inr (n : Int) : Prop := -9223372036854775808 ≤ n ∧ n ≤ 9223372036854775807
theorem inr_of {n : Int} (h : (Lit.int .i64 n).wf = true) : Inr n := by
  have h1 : decide (IntKind.i64.min ≤ n) = true ∧ decide (n ≤ IntKind.i64.max) = true := by simpa [Lit.wf] using h
  have a := of_decide_eq_true h1.1
  have b := of_decide_eq_true h1.2
  have e1 : IntKind.i64.min = -9223372036854775808 := by decide
  have e2 : IntKind.i64.max = 9223372036854775807 := by decide
  rw [e1] at a
  rw [e2] at b
  exact ⟨a, b⟩
/-- The call's numbers are ints. -/
def LOp.ok (o : LOp) : Prop := Inr o.K ∧ Inr o.M ∧ Inr o.A ∧ Inr o.B ∧ Inr o.C ∧ Inr o.D

theorem list7 {α : Type} {l : List α} (h : l.length = 7) : ∃ a b c d e f g, l = [a, b, c, d, e, f, g] := by
  match l, h with
  | [a, b, c, d, e, f, g], _ => exact ⟨a, b, c, d, e, f, g, rfl⟩

theorem some_get {α : Type} {l : List α} {i n : Nat} (h : l.length = n) (hi : i < n) : ∃ y, l[i]? = some y := ⟨l[i]'(by omega), by simp⟩

set_option maxRecDepth 100000 in
/-- One call, read as data. -/
theorem open_op {H : Type} {enc : TypeId × Value → H} {w : World} {n : Nat} {cs : List Value} {x : DataW H × List MemPlace}
    (h : DataW.trod enc Try.prog w 0 (fun _ => true) true n 50 cs = some x) : ∃ o : LOp, cs = o.cells ∧ o.ok := by
  obtain ⟨xs, m, _, _, hl, hxl, hf⟩ := DataW.trod_struct Try.underlying50 h
  rw [Try.cellsOp] at hl
  have hxl7 : xs.length = 7 := hxl
  obtain ⟨c0, c1, c2, c3, c4, c5, c6, rfl⟩ := list7 hl
  obtain ⟨y0, e0⟩ := some_get hxl7 (show 0 < 7 by omega)
  obtain ⟨y1, e1⟩ := some_get hxl7 (show 1 < 7 by omega)
  obtain ⟨y2, e2⟩ := some_get hxl7 (show 2 < 7 by omega)
  obtain ⟨y3, e3⟩ := some_get hxl7 (show 3 < 7 by omega)
  obtain ⟨y4, e4⟩ := some_get hxl7 (show 4 < 7 by omega)
  obtain ⟨y5, e5⟩ := some_get hxl7 (show 5 < 7 by omega)
  obtain ⟨y6, e6⟩ := some_get hxl7 (show 6 < 7 by omega)
  have f0 := (hf 0 _ rfl).trans e0
  have f1 := (hf 1 _ rfl).trans e1
  have f2 := (hf 2 _ rfl).trans e2
  have f3 := (hf 3 _ rfl).trans e3
  have f4 := (hf 4 _ rfl).trans e4
  have f5 := (hf 5 _ rfl).trans e5
  have f6 := (hf 6 _ rfl).trans e6
  obtain ⟨a0, g0, _, z0⟩ := DataW.trod_int Try.underlying3 f0
  obtain ⟨a1, g1, _, z1⟩ := DataW.trod_int Try.underlying3 f1
  obtain ⟨a2, g2, _, z2⟩ := DataW.trod_int Try.underlying3 f2
  obtain ⟨a3, g3, _, z3⟩ := DataW.trod_int Try.underlying3 f3
  obtain ⟨a4, g4, _, z4⟩ := DataW.trod_int Try.underlying3 f4
  obtain ⟨a5, g5, _, z5⟩ := DataW.trod_int Try.underlying3 f5
  obtain ⟨a6, g6, _⟩ := DataW.trod_bool Try.underlying4 f6
  simp [Try.cellsInt, Try.cellsBool] at g0 g1 g2 g3 g4 g5 g6
  exact ⟨⟨a0, a1, a2, a3, a4, a5, a6⟩, by simp [LOp.cells, g0, g1, g2, g3, g4, g5, g6], inr_of z0, inr_of z1, inr_of z2, inr_of z3, inr_of z4, inr_of z5⟩

/-- A whole script. -/
theorem open_ops {H : Type} {enc : TypeId × Value → H} {w : World} {fuel : Nat} {ao : Option Addr} {len cap : Nat} {x : DataW H × List MemPlace}
    (h : DataW.trod enc Try.prog w 0 (fun _ => true) true fuel 22 [.slice ao len cap] = some x) :
    ∃ ops : List LOp, ops.length = len ∧ ((len = 0) ∨ ∃ b off, ao = some ⟨b, off, none⟩ ∧ b < w.heap.size ∧ ∀ (i : Nat) (o : LOp), ops[i]? = some o → ∀ (j : Nat) (v : Value), o.cells[j]? = some v → w.cell? ⟨b, off + i * 7 + j, none⟩ = some v) ∧
      (len = 0 ∨ ∃ elems spare, x.1 = .slice elems spare ∧ elems.length = len) ∧ ∀ (i : Nat) (o : LOp), ops[i]? = some o → o.ok := by
  rcases open_slice Try.underlying22 h with ⟨hcs, _⟩ | ⟨a, l, c, m, n, D, Pl, hcs, _, hl, hm, hmm, rfl, hx⟩
  · simp at hcs
    obtain ⟨rfl, rfl, rfl⟩ := hcs
    exact ⟨[], rfl, .inl rfl, .inl rfl, fun i o h => by simp at h⟩
  · simp at hcs
    obtain ⟨rfl, rfl, rfl⟩ := hcs
    simp only [if_true] at hmm
    subst hmm
    rw [Try.cellsOp] at hx
    have hops : ∀ i, i < len → ∃ o : LOp, w.cells? 0 (a.add (i * 7)) 7 = some o.cells ∧ o.ok := fun i hi => by
      obtain ⟨cs', h1, h2⟩ := hx i (by omega)
      obtain ⟨o, rfl, hok⟩ := open_op h2
      exact ⟨o, h1, hok⟩
    obtain ⟨f, hf⟩ : ∃ f : Nat → LOp, ∀ i, i < len → w.cells? 0 (a.add (i * 7)) 7 = some (f i).cells ∧ (f i).ok := by
      classical
      exact ⟨fun i => if hi : i < len then Classical.choose (hops i hi) else ⟨0, 0, 0, 0, 0, 0, false⟩, fun i hi => by simp only [dif_pos hi]; exact Classical.choose_spec (hops i hi)⟩
    have hokk : ∀ (i : Nat) (o : LOp), ((List.range len).map f)[i]? = some o → o.ok := fun i o ho => by
      have hi : i < len := by have := (List.getElem?_eq_some_iff.1 ho).1; simpa using this
      have ho' : o = f i := by simp [List.getElem?_map, List.getElem?_range hi] at ho; exact ho.symm
      rw [ho']; exact (hf i hi).2
    refine ⟨(List.range len).map f, by simp, ?_, .inr ⟨_, _, rfl, by simp⟩, hokk⟩
    by_cases h0 : len = 0
    · exact .inl h0
    · right
      have hc0 := (World.cells?_some (hf 0 (by omega)).1).2.2 0 (by omega)
      obtain ⟨b, off, spot⟩ := a
      have hc0' : w.cell? ⟨b, off, spot⟩ = some (.int .i64 (f 0).K) := by simpa [Addr.add, LOp.cells] using hc0
      have hspot : spot = none := World.cell?_spot hc0'
      subst hspot
      refine ⟨b, off, rfl, World.block_lt_of_cell? _ _ hc0', ?_⟩
      intro i o ho j v hv
      have hi : i < len := by have := (List.getElem?_eq_some_iff.1 ho).1; simpa using this
      have ho' : o = f i := by simp [List.getElem?_map, List.getElem?_range hi] at ho; exact ho.symm
      subst ho'
      have hj : j < 7 := by have := (List.getElem?_eq_some_iff.1 hv).1; simpa [LOp.cells] using this
      have := (World.cells?_some (hf i hi).1).2.2 j hj
      rw [add_add, add_plain, hv] at this
      rw [← this, Nat.add_assoc]

end Go.Proofs.Ytkonobbhohfjlaa
