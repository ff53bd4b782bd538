import Derived.Below
import Derived.BigRegion
import Derived.ChangeOld
import Derived.Deep.RegionLaw
import Derived.Deep.Slices
import Derived.OpenShut
import Derived.ProofKit
import Derived.ShutString
import Derived.SizedLaws
import Derived.Test.YtinlkcmdbjcofabM14
import Derived.Test.YtinlkcmdbjcofabRows
namespace Go.Proofs.Ytinlkcmdbjcofab
open Go.RowKit
set_option linter.unusedVariables false
attribute [local go_sem ↓] Go.wp_at_zero Go.wp_at_succ

/-- A call of a Go function as a step of a region that draws its order. -/
theorem step_call {P : Program} {ops : Array Oper} {o : Oper} {a : Act} {w : World} {K : Act → World → Prop} {Q : Exit → Act → World → Prop} {E : Prop} (hgd : o.guard = none) (f : FuncId) (x : Operand) (t : TypeId)
    (ho : o.op = .call { callee := .value (.func f), args := #[x], argTypes := #[t] }) {fn : Func} (hf : P.funcs[f]? = some fn) (hname : (fn.name == "runtime.NumGoroutine") = false) (hb : fn.body.isSome = true)
    (v : Value) (hx : a.eval x = v)
    (h : Calls P f #[v] w fun e w' => match e, w' with
      | .returned v, w'' => K (a.put o.dst v) w''
      | .panicked chain, w'' => Q (.panic chain) a w''
      | .outgrown, _ => LetsOut Q) :
    if Region.wanted o (yielded ops a.tmps) = true then Oper.wp P o a w K Q else E := by
  have hw : Region.wanted o (yielded ops a.tmps) = true := by simp [Region.wanted, hgd]
  have ef : a.eval (.func f) = .func (.func f) #[] #[] := rfl
  have e1 : execOp a.eval o = callFunc f #[v] := by
    unfold execOp
    simp [ho, resolve, Deferred.ofValue, invoke, ef, hx]
  have h1 : fn.name ≠ "runtime.NumGoroutine" := by simpa using hname
  obtain ⟨c, hb⟩ := Option.isSome_iff_exists.1 hb
  have e2 : (callFunc f #[v]).run P w = .ok (.enter f #[v]) w := by simp [callFunc, hf, h1, hb]
  rw [if_pos hw]
  unfold Oper.wp
  rw [e1, e2]
  exact h

def ptr (b : Nat) : Value := .pointer (some ⟨b, 0, none⟩)
def pairCells (x : Nat × Nat) : List Value := [ptr x.1, ptr x.2]

def opAgg (K M A B C D : Int) (F : Bool) : Value := .agg #[.int .i64 K, .int .i64 M, .int .i64 A, .int .i64 B, .int .i64 C, .int .i64 D, .bool F]

theorem oneCell_pair (x : Nat × Nat) : ∀ u ∈ pairCells x, u.oneCell' = true := by
  intro u hu; simp [pairCells] at hu; rcases hu with rfl | rfl <;> rfl

end Go.Proofs.Ytinlkcmdbjcofab

namespace Go.Proofs.Ytinlkcmdbjcofab
open Go.RowKit
set_option linter.unusedVariables false

/-- A call of a script. -/
structure LOp where
  K : Int
  M : Int
  A : Int
  B : Int
  C : Int
  D : Int
  F : Bool

def LOp.cells (o : LOp) : List Value := [.int .i64 o.K, .int .i64 o.M, .int .i64 o.A, .int .i64 o.B, .int .i64 o.C, .int .i64 o.D, .bool o.F]
def LOp.val (o : LOp) : Value := .agg #[.int .i64 o.K, .int .i64 o.M, .int .i64 o.A, .int .i64 o.B, .int .i64 o.C, .int .i64 o.D, .bool o.F]

end Go.Proofs.Ytinlkcmdbjcofab

/-
  A script of calls that came in: its calls as plain data.
-/
namespace Go.Proofs.Ytinlkcmdbjcofab
open Go.ChangeShapes Go.WideShapes Go.ChangeAt Go.RowKit Go.Deep
set_option linter.unusedVariables false

theorem Try.own : ownKnob Try.prog.godebug = none := by kernel_rfl
theorem Try.laidOut : laidOutB Try.prog = true := by kernel_rfl
theorem Try.cellsInt : Try.prog.cellsOf 3 = 1 := by kernel_rfl
theorem Try.cellsBool : Try.prog.cellsOf 4 = 1 := by kernel_rfl
def Inr (n : Int) : Prop := -9223372036854775808 ≤ n ∧ n ≤ 9223372036854775807
theorem inr_of {n : Int} (h : (Lit.int .i64 n).wf = true) : Inr n := by
  have h1 : decide (IntKind.i64.min ≤ n) = true ∧ decide (n ≤ IntKind.i64.max) = true := by simpa [Lit.wf] using h
  have a := of_decide_eq_true h1.1
  have b := of_decide_eq_true h1.2
  have e1 : IntKind.i64.min = -9223372036854775808 := by decide
  have e2 : IntKind.i64.max = 9223372036854775807 := by decide
  rw [e1] at a
  rw [e2] at b
  exact ⟨a, b⟩
/-- The call's numbers are ints. -/
def LOp.ok (o : LOp) : Prop := Inr o.K ∧ Inr o.M ∧ Inr o.A ∧ Inr o.B ∧ Inr o.C ∧ Inr o.D

theorem list7 {α : Type} {l : List α} (h : l.length = 7) : ∃ a b c d e f g, l = [a, b, c, d, e, f, g] := by
  match l, h with
  | [a, b, c, d, e, f, g], _ => exact ⟨a, b, c, d, e, f, g, rfl⟩

theorem some_get {α : Type} {l : List α} {i n : Nat} (h : l.length = n) (hi : i < n) : ∃ y, l[i]? = some y := ⟨l[i]'(by omega), by simp⟩

end Go.Proofs.Ytinlkcmdbjcofab

/-
  'pick' and 'config': what the raw numbers of an input speak of.
-/
namespace Go.Proofs.Ytinlkcmdbjcofab
open Go.RowKit
set_option linter.unusedVariables false
attribute [local go_sem ↓] Go.wp_at_zero Go.wp_at_succ

def pk (c : Int) (n : Nat) : Nat := ((if c < 0 then -(c + 1) else c) % n).toNat
theorem pk_lt (c : Int) {n : Nat} (h : 0 < n) : pk c n < n := by
  unfold pk
  have h1 := Int.emod_lt_of_pos (if c < 0 then -(c + 1) else c) (show (0 : Int) < n by omega)
  have h2 := Int.emod_nonneg (if c < 0 then -(c + 1) else c) (show (n : Int) ≠ 0 by omega)
  omega
theorem pk_neg {c : Int} {n : Nat} (h : 0 < n) (hc : c < 0) : (-(c + 1)).tmod n = pk c n := by
  unfold pk
  rw [if_pos hc, Int.tmod_eq_emod_of_nonneg (by omega), Int.toNat_of_nonneg (Int.emod_nonneg _ (by omega))]
theorem pk_pos {c : Int} {n : Nat} (h : 0 < n) (hc : ¬ c < 0) : c.tmod n = pk c n := by
  unfold pk
  rw [if_neg hc, Int.tmod_eq_emod_of_nonneg (by omega), Int.toNat_of_nonneg (Int.emod_nonneg _ (by omega))]

set_option maxHeartbeats 1000000 in
theorem pick_any (c : Int) (hc0 : -9223372036854775808 ≤ c) (hc1 : c ≤ 9223372036854775807) (n : Nat) (hn : 0 < n) (hn1 : n ≤ 4611686018427387904) (w : World) :
    Calls Try.prog 15 #[.int .i64 c, .int .i64 n] w fun e w' => e = .returned (.int .i64 (pk c n)) ∧ w' = w := by
  have hnz : (n : Int) ≠ 0 := by omega
  have hlt := pk_lt c hn
  by_cases hc : c < 0
  · have h1 : IntKind.i64.wrap (c + 1) = c + 1 := by rw [IntKind.wrap_i64]; omega
    have h2 : IntKind.i64.wrap (-(c + 1)) = -(c + 1) := by rw [IntKind.wrap_i64]; omega
    go_enter Try.func15, Try.ntmps15
    go_wp2_with fail
    go_ret
    refine ⟨?_, rfl⟩
    show Ending.returned (.int .i64 (-((c + 1).tmod n))) = _
    rw [← Int.neg_tmod, pk_neg hn hc]
  · go_enter Try.func15, Try.ntmps15
    go_wp2_with fail
    go_ret
    refine ⟨?_, rfl⟩
    show Ending.returned (.int .i64 (c % n)) = _
    rw [← Int.tmod_eq_emod_of_nonneg hc, pk_pos hn (by omega)]

theorem pick_int (c n : Int) (hc0 : -9223372036854775808 ≤ c) (hc1 : c ≤ 9223372036854775807) (hn : 0 < n) (hn1 : n ≤ 4611686018427387904) (w : World) :
    Calls Try.prog 15 #[.int .i64 c, .int .i64 n] w fun e w' => e = .returned (.int .i64 (pk c n.toNat)) ∧ w' = w := by
  have := pick_any c hc0 hc1 n.toNat (by omega) (by omega) w
  rwa [Int.toNat_of_nonneg (by omega)] at this

def cfA (a : Int) : Nat := 1 + pk a 16
def cfB (a : Int) : Nat := 1 + pk a 8
def cfC (a : Int) : Nat := 2 + pk a 3

set_option maxHeartbeats 1000000 in
set_option maxRecDepth 100000 in
theorem config_any (x y z : Int) (hx0 : -9223372036854775808 ≤ x) (hx1 : x ≤ 9223372036854775807) (hy0 : -9223372036854775808 ≤ y) (hy1 : y ≤ 9223372036854775807) (hz0 : -9223372036854775808 ≤ z) (hz1 : z ≤ 9223372036854775807) (w : World) :
    Calls Try.prog 10 #[.agg #[.int .i64 x, .int .i64 y, .int .i64 z]] w fun e w' => e = .returned (.agg #[.int .i64 (cfA x), .int .i64 (cfB y), .int .i64 (cfC z)]) ∧ Below w.heap.size w w' := by
  have h1 := pk_lt x (show 0 < 16 by omega)
  have h2 := pk_lt y (show 0 < 8 by omega)
  have h3 := pk_lt z (show 0 < 3 by omega)
  have v1 : IntKind.i64.wrap (1 + (pk x 16 : Int)) = 1 + (pk x 16 : Int) := by rw [IntKind.wrap_i64]; omega
  have v2 : IntKind.i64.wrap (1 + (pk y 8 : Int)) = 1 + (pk y 8 : Int) := by rw [IntKind.wrap_i64]; omega
  have v3 : IntKind.i64.wrap (2 + (pk z 3 : Int)) = 2 + (pk z 3 : Int) := by rw [IntKind.wrap_i64]; omega
  go_enter Try.func10, Try.ntmps10
  go_wp2_with fail
  go_region_held3 (fun w' => w'.cell? ⟨w.heap.size, 0, none⟩ = some (.int .i64 x) ∧ w'.cell? ⟨w.heap.size, 1, none⟩ = some (.int .i64 y) ∧ w'.cell? ⟨w.heap.size, 2, none⟩ = some (.int .i64 z)) (go_keep)
    ((first
      | (go_at_call 15; refine (pick_int _ _ (by assumption) (by assumption) (by decide) (by decide) _).mono ?_; rintro e w5 ⟨rfl, hw5⟩; subst hw5)))
  go_wp2_with fail
  refine bodyPost_ret (v := .agg #[.int .i64 (1 + (pk x 16 : Int)), .int .i64 (1 + (pk y 8 : Int)), .int .i64 (2 + (pk z 3 : Int))]) ?_ rfl ?_
  · simp [results, Try.results10, go_sem]
  · exact ⟨by rw [cfA, cfB, cfC]; simp, (((Below.refl _ _).alloc (Nat.le_refl _) _).alloc (by simp) _).drew⟩

structure LStep where
  K : Int
  V : Int
  A : Int
  B : Int
  C : Int
  F : Bool
def LStep.cells (o : LStep) : List Value := [.int .i64 o.K, .int .i64 o.V, .int .i64 o.A, .int .i64 o.B, .int .i64 o.C, .bool o.F]

theorem pick_ex (c n : Int) (hc0 : -9223372036854775808 ≤ c) (hc1 : c ≤ 9223372036854775807) (hn : 0 < n) (hn1 : n ≤ 4611686018427387904) (w : World) :
    Calls Try.prog 15 #[.int .i64 c, .int .i64 n] w fun e w' => ∃ k : Nat, (k : Int) < n ∧ e = .returned (.int .i64 k) ∧ w' = w := by
  refine (pick_int c n hc0 hc1 hn hn1 w).mono ?_
  rintro e w' ⟨rfl, rfl⟩
  have := pk_lt c (show 0 < n.toNat by omega)
  exact ⟨_, by omega, rfl, rfl⟩

def Inr64 (n : Int) : Prop := -9223372036854775808 ≤ n ∧ n ≤ 9223372036854775807
end Go.Proofs.Ytinlkcmdbjcofab

/-
  A script of steps and a size that came in, as plain data.
-/
namespace Go.Proofs.Ytinlkcmdbjcofab
open Go.ChangeShapes Go.WideShapes Go.ChangeAt Go.RowKit Go.Deep
set_option linter.unusedVariables false

theorem Try.cellsStep : Try.prog.cellsOf 31 = 6 := by kernel_rfl
theorem Try.cellsSize : Try.prog.cellsOf 23 = 3 := by kernel_rfl
theorem Try.bytesStep : Try.prog.bytesOf 31 = 48 := by kernel_rfl

/-- The step's numbers are ints. -/
def LStep.ok (o : LStep) : Prop := Inr64 o.V ∧ Inr64 o.A ∧ Inr64 o.B ∧ Inr64 o.C
theorem inr64_of {n : Int} (h : (Lit.int .i64 n).wf = true) : Inr64 n := inr_of h

theorem list6 {α : Type} {l : List α} (h : l.length = 6) : ∃ a b c d e f, l = [a, b, c, d, e, f] := by
  match l, h with
  | [a, b, c, d, e, f], _ => exact ⟨a, b, c, d, e, f, rfl⟩
theorem list3 {α : Type} {l : List α} (h : l.length = 3) : ∃ a b c, l = [a, b, c] := by
  match l, h with
  | [a, b, c], _ => exact ⟨a, b, c, rfl⟩

set_option maxRecDepth 100000 in
/-- A size, read as data. -/
theorem open_size {H : Type} {enc : TypeId × Value → H} {w : World} {n : Nat} {cs : List Value} {x : DataW H × List MemPlace}
    (h : DataW.trod enc Try.prog w 0 (fun _ => true) true n 23 cs = some x) : ∃ a b c : Int, cs = [.int .i64 a, .int .i64 b, .int .i64 c] ∧ Inr64 a ∧ Inr64 b ∧ Inr64 c := by
  obtain ⟨xs, m, _, _, hl, hxl, hf⟩ := DataW.trod_struct Try.underlying23 h
  rw [Try.cellsSize] at hl
  have hxl3 : xs.length = 3 := hxl
  obtain ⟨c0, c1, c2, rfl⟩ := list3 hl
  obtain ⟨y0, e0⟩ := some_get hxl3 (show 0 < 3 by omega)
  obtain ⟨y1, e1⟩ := some_get hxl3 (show 1 < 3 by omega)
  obtain ⟨y2, e2⟩ := some_get hxl3 (show 2 < 3 by omega)
  have f0 := (hf 0 _ rfl).trans e0
  have f1 := (hf 1 _ rfl).trans e1
  have f2 := (hf 2 _ rfl).trans e2
  obtain ⟨a0, g0, _, z0⟩ := DataW.trod_int Try.underlying3 f0
  obtain ⟨a1, g1, _, z1⟩ := DataW.trod_int Try.underlying3 f1
  obtain ⟨a2, g2, _, z2⟩ := DataW.trod_int Try.underlying3 f2
  simp [Try.cellsInt] at g0 g1 g2
  exact ⟨a0, a1, a2, by simp [g0, g1, g2], inr64_of z0, inr64_of z1, inr64_of z2⟩

set_option maxRecDepth 100000 in
/-- One step, read as data. -/
theorem open_step {H : Type} {enc : TypeId × Value → H} {w : World} {n : Nat} {cs : List Value} {x : DataW H × List MemPlace}
    (h : DataW.trod enc Try.prog w 0 (fun _ => true) true n 31 cs = some x) : ∃ o : LStep, cs = o.cells ∧ o.ok := by
  obtain ⟨xs, m, _, _, hl, hxl, hf⟩ := DataW.trod_struct Try.underlying31 h
  rw [Try.cellsStep] at hl
  have hxl6 : xs.length = 6 := hxl
  obtain ⟨c0, c1, c2, c3, c4, c5, rfl⟩ := list6 hl
  obtain ⟨y0, e0⟩ := some_get hxl6 (show 0 < 6 by omega)
  obtain ⟨y1, e1⟩ := some_get hxl6 (show 1 < 6 by omega)
  obtain ⟨y2, e2⟩ := some_get hxl6 (show 2 < 6 by omega)
  obtain ⟨y3, e3⟩ := some_get hxl6 (show 3 < 6 by omega)
  obtain ⟨y4, e4⟩ := some_get hxl6 (show 4 < 6 by omega)
  obtain ⟨y5, e5⟩ := some_get hxl6 (show 5 < 6 by omega)
  have f0 := (hf 0 _ rfl).trans e0
  have f1 := (hf 1 _ rfl).trans e1
  have f2 := (hf 2 _ rfl).trans e2
  have f3 := (hf 3 _ rfl).trans e3
  have f4 := (hf 4 _ rfl).trans e4
  have f5 := (hf 5 _ rfl).trans e5
  obtain ⟨a0, g0, _, z0⟩ := DataW.trod_int Try.underlying3 f0
  obtain ⟨a1, g1, _, z1⟩ := DataW.trod_int Try.underlying3 f1
  obtain ⟨a2, g2, _, z2⟩ := DataW.trod_int Try.underlying3 f2
  obtain ⟨a3, g3, _, z3⟩ := DataW.trod_int Try.underlying3 f3
  obtain ⟨a4, g4, _, z4⟩ := DataW.trod_int Try.underlying3 f4
  obtain ⟨a5, g5, _⟩ := DataW.trod_bool Try.underlying4 f5
  simp [Try.cellsInt, Try.cellsBool] at g0 g1 g2 g3 g4 g5
  exact ⟨⟨a0, a1, a2, a3, a4, a5⟩, by simp [LStep.cells, g0, g1, g2, g3, g4, g5], inr64_of z1, inr64_of z2, inr64_of z3, inr64_of z4⟩

/-- A whole script. -/
theorem open_steps {H : Type} {enc : TypeId × Value → H} {w : World} {fuel : Nat} {ao : Option Addr} {len cap : Nat} {x : DataW H × List MemPlace}
    (h : DataW.trod enc Try.prog w 0 (fun _ => true) true fuel 24 [.slice ao len cap] = some x) :
    ∃ ops : List LStep, ops.length = len ∧ ((len = 0) ∨ ∃ b off, ao = some ⟨b, off, none⟩ ∧ b < w.heap.size ∧ ∀ (i : Nat) (o : LStep), ops[i]? = some o → ∀ (j : Nat) (v : Value), o.cells[j]? = some v → w.cell? ⟨b, off + i * 6 + j, none⟩ = some v) ∧
      (len = 0 ∨ ∃ elems spare, x.1 = .slice elems spare ∧ elems.length = len) ∧ ∀ (i : Nat) (o : LStep), ops[i]? = some o → o.ok := by
  rcases open_slice Try.underlying24 h with ⟨hcs, _⟩ | ⟨a, l, c, m, n, D, Pl, hcs, _, hl, hm, hmm, rfl, hx⟩
  · simp at hcs
    obtain ⟨rfl, rfl, rfl⟩ := hcs
    exact ⟨[], rfl, .inl rfl, .inl rfl, fun i o h => by simp at h⟩
  · simp at hcs
    obtain ⟨rfl, rfl, rfl⟩ := hcs
    simp only [if_true] at hmm
    subst hmm
    rw [Try.cellsStep] at hx
    have hops : ∀ i, i < len → ∃ o : LStep, w.cells? 0 (a.add (i * 6)) 6 = some o.cells ∧ o.ok := fun i hi => by
      obtain ⟨cs', h1, h2⟩ := hx i (by omega)
      obtain ⟨o, rfl, hok⟩ := open_step h2
      exact ⟨o, h1, hok⟩
    obtain ⟨f, hf⟩ : ∃ f : Nat → LStep, ∀ i, i < len → w.cells? 0 (a.add (i * 6)) 6 = some (f i).cells ∧ (f i).ok := by
      classical
      exact ⟨fun i => if hi : i < len then Classical.choose (hops i hi) else ⟨0, 0, 0, 0, 0, false⟩, fun i hi => by simp only [dif_pos hi]; exact Classical.choose_spec (hops i hi)⟩
    have hokk : ∀ (i : Nat) (o : LStep), ((List.range len).map f)[i]? = some o → o.ok := fun i o ho => by
      have hi : i < len := by have := (List.getElem?_eq_some_iff.1 ho).1; simpa using this
      have ho' : o = f i := by simp [List.getElem?_map, List.getElem?_range hi] at ho; exact ho.symm
      rw [ho']; exact (hf i hi).2
    refine ⟨(List.range len).map f, by simp, ?_, .inr ⟨_, _, rfl, by simp⟩, hokk⟩
    by_cases h0 : len = 0
    · exact .inl h0
    · right
      have hc0 := (World.cells?_some (hf 0 (by omega)).1).2.2 0 (by omega)
      obtain ⟨b, off, spot⟩ := a
      have hc0' : w.cell? ⟨b, off, spot⟩ = some (.int .i64 (f 0).K) := by simpa [Addr.add, LStep.cells] using hc0
      have hspot : spot = none := World.cell?_spot hc0'
      subst hspot
      refine ⟨b, off, rfl, World.block_lt_of_cell? _ _ hc0', ?_⟩
      intro i o ho j v hv
      have hi : i < len := by have := (List.getElem?_eq_some_iff.1 ho).1; simpa using this
      have ho' : o = f i := by simp [List.getElem?_map, List.getElem?_range hi] at ho; exact ho.symm
      subst ho'
      have hj : j < 6 := by have := (List.getElem?_eq_some_iff.1 hv).1; simpa [LStep.cells] using this
      have := (World.cells?_some (hf i hi).1).2.2 j hj
      rw [add_add, add_plain, hv] at this
      rw [← this, Nat.add_assoc]

end Go.Proofs.Ytinlkcmdbjcofab
