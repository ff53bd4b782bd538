import Derived.Below
import Derived.BigRegion
import Derived.ChangeOld
import Derived.Deep.RegionLaw
import Derived.Deep.Slices
import Derived.OpenShut
import Derived.ProofKit
import Derived.ShutString
import Derived.SizedLaws
import Derived.Test.YtnolplmpanbmhaaM06
import Derived.Test.YtnolplmpanbmhaaRows
namespace Go.Proofs.Ytnolplmpanbmhaa
open Go.RowKit
set_option linter.unusedVariables false
attribute [local go_sem ↓] Go.wp_at_zero Go.wp_at_succ

/-- A call of a Go function as a step of a region that draws its order. -/
theorem step_call {P : Program} {ops : Array Oper} {o : Oper} {a : Act} {w : World} {K : Act → World → Prop} {Q : Exit → Act → World → Prop} {E : Prop} (hgd : o.guard = none) (f : FuncId) (x : Operand) (t : TypeId)
    (ho : o.op = .call { callee := .value (.func f), args := #[x], argTypes := #[t] }) {fn : Func} (hf : P.funcs[f]? = some fn) (hname : (fn.name == "runtime.NumGoroutine") = false) (hb : fn.body.isSome = true)
    (v : Value) (hx : a.eval x = v)
    (h : Calls P f #[v] w fun e w' => match e, w' with
      | .returned v, w'' => K (a.put o.dst v) w''
      | .panicked chain, w'' => Q (.panic chain) a w''
      | .outgrown, _ => LetsOut Q) :
    if Region.wanted o (yielded ops a.tmps) = true then Oper.wp P o a w K Q else E := by
  have hw : Region.wanted o (yielded ops a.tmps) = true := by simp [Region.wanted, hgd]
  have ef : a.eval (.func f) = .func (.func f) #[] #[] := rfl
  have e1 : execOp a.eval o = callFunc f #[v] := by
    unfold execOp
    simp [ho, resolve, Deferred.ofValue, invoke, ef, hx]
  have h1 : fn.name ≠ "runtime.NumGoroutine" := by simpa using hname
  obtain ⟨c, hb⟩ := Option.isSome_iff_exists.1 hb
  have e2 : (callFunc f #[v]).run P w = .ok (.enter f #[v]) w := by simp [callFunc, hf, h1, hb]
  rw [if_pos hw]
  unfold Oper.wp
  rw [e1, e2]
  exact h

def ptr (b : Nat) : Value := .pointer (some ⟨b, 0, none⟩)
def pairCells (x : Nat × Nat) : List Value := [ptr x.1, ptr x.2]

def opAgg (K M A B C D : Int) (F : Bool) : Value := .agg #[.int .i64 K, .int .i64 M, .int .i64 A, .int .i64 B, .int .i64 C, .int .i64 D, .bool F]

theorem oneCell_pair (x : Nat × Nat) : ∀ u ∈ pairCells x, u.oneCell' = true := by
  intro u hu; simp [pairCells] at hu; rcases hu with rfl | rfl <;> rfl

end Go.Proofs.Ytnolplmpanbmhaa

namespace Go.Proofs.Ytnolplmpanbmhaa
open Go.RowKit
set_option linter.unusedVariables false

/-- A call of a script. -/
structure LOp where
  K : Int
  M : Int
  A : Int
  B : Int
  C : Int
  D : Int
  F : Bool

def LOp.cells (o : LOp) : List Value := [.int .i64 o.K, .int .i64 o.M, .int .i64 o.A, .int .i64 o.B, .int .i64 o.C, .int .i64 o.D, .bool o.F]
def LOp.val (o : LOp) : Value := .agg #[.int .i64 o.K, .int .i64 o.M, .int .i64 o.A, .int .i64 o.B, .int .i64 o.C, .int .i64 o.D, .bool o.F]

end Go.Proofs.Ytnolplmpanbmhaa

/-
  A script of calls that came in: its calls as plain data.
-/
namespace Go.Proofs.Ytnolplmpanbmhaa
open Go.ChangeShapes Go.WideShapes Go.ChangeAt Go.RowKit Go.Deep
set_option linter.unusedVariables false

theorem Try.own : ownKnob Try.prog.godebug = none := by kernel_rfl
theorem Try.laidOut : laidOutB Try.prog = true := by kernel_rfl
theorem Try.cellsInt : Try.prog.cellsOf 3 = 1 := by kernel_rfl
theorem Try.cellsBool : Try.prog.cellsOf 4 = 1 := by kernel_rfl
def Inr (n : Int) : Prop := -9223372036854775808 ≤ n ∧ n ≤ 9223372036854775807
theorem inr_of {n : Int} (h : (Lit.int .i64 n).wf = true) : Inr n := by
  have h1 : decide (IntKind.i64.min ≤ n) = true ∧ decide (n ≤ IntKind.i64.max) = true := by simpa [Lit.wf] using h
  have a := of_decide_eq_true h1.1
  have b := of_decide_eq_true h1.2
  have e1 : IntKind.i64.min = -9223372036854775808 := by decide
  have e2 : IntKind.i64.max = 9223372036854775807 := by decide
  rw [e1] at a
  rw [e2] at b
  exact ⟨a, b⟩
/-- The call's numbers are ints. -/
def LOp.ok (o : LOp) : Prop := Inr o.K ∧ Inr o.M ∧ Inr o.A ∧ Inr o.B ∧ Inr o.C ∧ Inr o.D

theorem list7 {α : Type} {l : List α} (h : l.length = 7) : ∃ a b c d e f g, l = [a, b, c, d, e, f, g] := by
  match l, h with
  | [a, b, c, d, e, f, g], _ => exact ⟨a, b, c, d, e, f, g, rfl⟩

theorem some_get {α : Type} {l : List α} {i n : Nat} (h : l.length = n) (hi : i < n) : ∃ y, l[i]? = some y := ⟨l[i]'(by omega), by simp⟩

end Go.Proofs.Ytnolplmpanbmhaa

/-
  'pick' and 'config': what the raw numbers of an input speak of.
-/
namespace Go.Proofs.Ytnolplmpanbmhaa
open Go.RowKit
set_option linter.unusedVariables false
attribute [local go_sem ↓] Go.wp_at_zero Go.wp_at_succ

def pk (c : Int) (n : Nat) : Nat := ((if c < 0 then -(c + 1) else c) % n).toNat
theorem pk_lt (c : Int) {n : Nat} (h : 0 < n) : pk c n < n := by
  unfold pk
  have h1 := Int.emod_lt_of_pos (if c < 0 then -(c + 1) else c) (show (0 : Int) < n by omega)
  have h2 := Int.emod_nonneg (if c < 0 then -(c + 1) else c) (show (n : Int) ≠ 0 by omega)
  omega
theorem pk_neg {c : Int} {n : Nat} (h : 0 < n) (hc : c < 0) : (-(c + 1)).tmod n = pk c n := by
  unfold pk
  rw [if_pos hc, Int.tmod_eq_emod_of_nonneg (by omega), Int.toNat_of_nonneg (Int.emod_nonneg _ (by omega))]
theorem pk_pos {c : Int} {n : Nat} (h : 0 < n) (hc : ¬ c < 0) : c.tmod n = pk c n := by
  unfold pk
  rw [if_neg hc, Int.tmod_eq_emod_of_nonneg (by omega), Int.toNat_of_nonneg (Int.emod_nonneg _ (by omega))]

set_option maxHeartbeats 1000000 in
theorem pick_any (c : Int) (hc0 : -9223372036854775808 ≤ c) (hc1 : c ≤ 9223372036854775807) (n : Nat) (hn : 0 < n) (hn1 : n ≤ 4611686018427387904) (w : World) :
    Calls Try.prog 16 #[.int .i64 c, .int .i64 n] w fun e w' => e = .returned (.int .i64 (pk c n)) ∧ w' = w := by
  have hnz : (n : Int) ≠ 0 := by omega
  have hlt := pk_lt c hn
  by_cases hc : c < 0
  · have h1 : IntKind.i64.wrap (c + 1) = c + 1 := by rw [IntKind.wrap_i64]; omega
    have h2 : IntKind.i64.wrap (-(c + 1)) = -(c + 1) := by rw [IntKind.wrap_i64]; omega
    go_enter Try.func16, Try.ntmps16
    go_wp2_with fail
    go_ret
    refine ⟨?_, rfl⟩
    show Ending.returned (.int .i64 (-((c + 1).tmod n))) = _
    rw [← Int.neg_tmod, pk_neg hn hc]
  · go_enter Try.func16, Try.ntmps16
    go_wp2_with fail
    go_ret
    refine ⟨?_, rfl⟩
    show Ending.returned (.int .i64 (c % n)) = _
    rw [← Int.tmod_eq_emod_of_nonneg hc, pk_pos hn (by omega)]

theorem pick_int (c n : Int) (hc0 : -9223372036854775808 ≤ c) (hc1 : c ≤ 9223372036854775807) (hn : 0 < n) (hn1 : n ≤ 4611686018427387904) (w : World) :
    Calls Try.prog 16 #[.int .i64 c, .int .i64 n] w fun e w' => e = .returned (.int .i64 (pk c n.toNat)) ∧ w' = w := by
  have := pick_any c hc0 hc1 n.toNat (by omega) (by omega) w
  rwa [Int.toNat_of_nonneg (by omega)] at this

def cfA (a : Int) : Nat := 1 + pk a 16
def cfB (a : Int) : Nat := 1 + pk a 8
def cfC (a : Int) : Nat := 2 + pk a 3

set_option maxHeartbeats 1000000 in
set_option maxRecDepth 100000 in
theorem config_any (x y z : Int) (hx0 : -9223372036854775808 ≤ x) (hx1 : x ≤ 9223372036854775807) (hy0 : -9223372036854775808 ≤ y) (hy1 : y ≤ 9223372036854775807) (hz0 : -9223372036854775808 ≤ z) (hz1 : z ≤ 9223372036854775807) (w : World) :
    Calls Try.prog 6 #[.agg #[.int .i64 x, .int .i64 y, .int .i64 z]] w fun e w' => e = .returned (.agg #[.int .i64 (cfA x), .int .i64 (cfB y), .int .i64 (cfC z)]) ∧ Below w.heap.size w w' := by
  have h1 := pk_lt x (show 0 < 16 by omega)
  have h2 := pk_lt y (show 0 < 8 by omega)
  have h3 := pk_lt z (show 0 < 3 by omega)
  have v1 : IntKind.i64.wrap (1 + (pk x 16 : Int)) = 1 + (pk x 16 : Int) := by rw [IntKind.wrap_i64]; omega
  have v2 : IntKind.i64.wrap (1 + (pk y 8 : Int)) = 1 + (pk y 8 : Int) := by rw [IntKind.wrap_i64]; omega
  have v3 : IntKind.i64.wrap (2 + (pk z 3 : Int)) = 2 + (pk z 3 : Int) := by rw [IntKind.wrap_i64]; omega
  go_enter Try.func6, Try.ntmps6
  go_wp2_with fail
  go_region_held3 (fun w' => w'.cell? ⟨w.heap.size, 0, none⟩ = some (.int .i64 x) ∧ w'.cell? ⟨w.heap.size, 1, none⟩ = some (.int .i64 y) ∧ w'.cell? ⟨w.heap.size, 2, none⟩ = some (.int .i64 z)) (go_keep)
    ((first
      | (go_at_call 16; refine (pick_int _ _ (by assumption) (by assumption) (by decide) (by decide) _).mono ?_; rintro e w5 ⟨rfl, hw5⟩; subst hw5)))
  go_wp2_with fail
  refine bodyPost_ret (v := .agg #[.int .i64 (1 + (pk x 16 : Int)), .int .i64 (1 + (pk y 8 : Int)), .int .i64 (2 + (pk z 3 : Int))]) ?_ rfl ?_
  · simp [results, Try.results6, go_sem]
  · exact ⟨by rw [cfA, cfB, cfC]; simp, (((Below.refl _ _).alloc (Nat.le_refl _) _).alloc (by simp) _).drew⟩

structure LStep where
  K : Int
  V : Int
  A : Int
  B : Int
  C : Int
  F : Bool
def LStep.cells (o : LStep) : List Value := [.int .i64 o.K, .int .i64 o.V, .int .i64 o.A, .int .i64 o.B, .int .i64 o.C, .bool o.F]

theorem pick_ex (c n : Int) (hc0 : -9223372036854775808 ≤ c) (hc1 : c ≤ 9223372036854775807) (hn : 0 < n) (hn1 : n ≤ 4611686018427387904) (w : World) :
    Calls Try.prog 16 #[.int .i64 c, .int .i64 n] w fun e w' => ∃ k : Nat, (k : Int) < n ∧ e = .returned (.int .i64 k) ∧ w' = w := by
  refine (pick_int c n hc0 hc1 hn hn1 w).mono ?_
  rintro e w' ⟨rfl, rfl⟩
  have := pk_lt c (show 0 < n.toNat by omega)
  exact ⟨_, by omega, rfl, rfl⟩

def Inr64 (n : Int) : Prop := -9223372036854775808 ≤ n ∧ n ≤ 9223372036854775807
end Go.Proofs.Ytnolplmpanbmhaa

/-
  A script of steps and a size that came in, as plain data.
-/
namespace Go.Proofs.Ytnolplmpanbmhaa
open Go.ChangeShapes Go.WideShapes Go.ChangeAt Go.RowKit Go.Deep
set_option linter.unusedVariables false

theorem Try.cellsStep : Try.prog.cellsOf 36 = 6 := by kernel_rfl
theorem Try.cellsSize : Try.prog.cellsOf 23 = 3 := by kernel_rfl
theorem Try.bytesStep : Try.prog.bytesOf 36 = 48 := by kernel_rfl

/-- The step's numbers are ints. -/
def LStep.ok (o : LStep) : Prop := Inr64 o.V ∧ Inr64 o.A ∧ Inr64 o.B ∧ Inr64 o.C
theorem inr64_of {n : Int} (h : (Lit.int .i64 n).wf = true) : Inr64 n := inr_of h

theorem list6 {α : Type} {l : List α} (h : l.length = 6) : ∃ a b c d e f, l = [a, b, c, d, e, f] := by
  match l, h with
  | [a, b, c, d, e, f], _ => exact ⟨a, b, c, d, e, f, rfl⟩
theorem list3 {α : Type} {l : List α} (h : l.length = 3) : ∃ a b c, l = [a, b, c] := by
  match l, h with
  | [a, b, c], _ => exact ⟨a, b, c, rfl⟩

set_option maxRecDepth 100000 in
/-- A size, read as data. -/
theorem open_size {H : Type} {enc : TypeId × Value → H} {w : World} {n : Nat} {cs : List Value} {x : DataW H × List MemPlace}
    (h : DataW.trod enc Try.prog w 0 (fun _ => true) true n 23 cs = some x) : ∃ a b c : Int, cs = [.int .i64 a, .int .i64 b, .int .i64 c] ∧ Inr64 a ∧ Inr64 b ∧ Inr64 c := by
  obtain ⟨xs, m, _, _, hl, hxl, hf⟩ := DataW.trod_struct Try.underlying23 h
  rw [Try.cellsSize] at hl
  have hxl3 : xs.length = 3 := hxl
  obtain ⟨c0, c1, c2, rfl⟩ := list3 hl
  obtain ⟨y0, e0⟩ := some_get hxl3 (show 0 < 3 by omega)
  obtain ⟨y1, e1⟩ := some_get hxl3 (show 1 < 3 by omega)
  obtain ⟨y2, e2⟩ := some_get hxl3 (show 2 < 3 by omega)
  have f0 := (hf 0 _ rfl).trans e0
  have f1 := (hf 1 _ rfl).trans e1
  have f2 := (hf 2 _ rfl).trans e2
  obtain ⟨a0, g0, _, z0⟩ := DataW.trod_int Try.underlying3 f0
  obtain ⟨a1, g1, _, z1⟩ := DataW.trod_int Try.underlying3 f1
  obtain ⟨a2, g2, _, z2⟩ := DataW.trod_int Try.underlying3 f2
  simp [Try.cellsInt] at g0 g1 g2
  exact ⟨a0, a1, a2, by simp [g0, g1, g2], inr64_of z0, inr64_of z1, inr64_of z2⟩

set_option maxRecDepth 100000 in
/-- One step, read as data. -/
theorem open_step {H : Type} {enc : TypeId × Value → H} {w : World} {n : Nat} {cs : List Value} {x : DataW H × List MemPlace}
    (h : DataW.trod enc Try.prog w 0 (fun _ => true) true n 36 cs = some x) : ∃ o : LStep, cs = o.cells ∧ o.ok := by
  obtain ⟨xs, m, _, _, hl, hxl, hf⟩ := DataW.trod_struct Try.underlying36 h
  rw [Try.cellsStep] at hl
  have hxl6 : xs.length = 6 := hxl
  obtain ⟨c0, c1, c2, c3, c4, c5, rfl⟩ := list6 hl
  obtain ⟨y0, e0⟩ := some_get hxl6 (show 0 < 6 by omega)
  obtain ⟨y1, e1⟩ := some_get hxl6 (show 1 < 6 by omega)
  obtain ⟨y2, e2⟩ := some_get hxl6 (show 2 < 6 by omega)
  obtain ⟨y3, e3⟩ := some_get hxl6 (show 3 < 6 by omega)
  obtain ⟨y4, e4⟩ := some_get hxl6 (show 4 < 6 by omega)
  obtain ⟨y5, e5⟩ := some_get hxl6 (show 5 < 6 by omega)
  have f0 := (hf 0 _ rfl).trans e0
  have f1 := (hf 1 _ rfl).trans e1
  have f2 := (hf 2 _ rfl).trans e2
  have f3 := (hf 3 _ rfl).trans e3
  have f4 := (hf 4 _ rfl).trans e4
  have f5 := (hf 5 _ rfl).trans e5
  obtain ⟨a0, g0, _, z0⟩ := DataW.trod_int Try.underlying3 f0
  obtain ⟨a1, g1, _, z1⟩ := DataW.trod_int Try.underlying3 f1
  obtain ⟨a2, g2, _, z2⟩ := DataW.trod_int Try.underlying3 f2
  obtain ⟨a3, g3, _, z3⟩ := DataW.trod_int Try.underlying3 f3
  obtain ⟨a4, g4, _, z4⟩ := DataW.trod_int Try.underlying3 f4
  obtain ⟨a5, g5, _⟩ := DataW.trod_bool Try.underlying4 f5
  simp [Try.cellsInt, Try.cellsBool] at g0 g1 g2 g3 g4 g5
  exact ⟨⟨a0, a1, a2, a3, a4, a5⟩, by simp [LStep.cells, g0, g1, g2, g3, g4, g5], inr64_of z1, inr64_of z2, inr64_of z3, inr64_of z4⟩

/-- A whole script. -/
theorem open_steps {H : Type} {enc : TypeId × Value → H} {w : World} {fuel : Nat} {ao : Option Addr} {len cap : Nat} {x : DataW H × List MemPlace}
    (h : DataW.trod enc Try.prog w 0 (fun _ => true) true fuel 24 [.slice ao len cap] = some x) :
    ∃ ops : List LStep, ops.length = len ∧ ((len = 0) ∨ ∃ b off, ao = some ⟨b, off, none⟩ ∧ b < w.heap.size ∧ ∀ (i : Nat) (o : LStep), ops[i]? = some o → ∀ (j : Nat) (v : Value), o.cells[j]? = some v → w.cell? ⟨b, off + i * 6 + j, none⟩ = some v) ∧
      (len = 0 ∨ ∃ elems spare, x.1 = .slice elems spare ∧ elems.length = len) ∧ ∀ (i : Nat) (o : LStep), ops[i]? = some o → o.ok := by
  rcases open_slice Try.underlying24 h with ⟨hcs, _⟩ | ⟨a, l, c, m, n, D, Pl, hcs, _, hl, hm, hmm, rfl, hx⟩
  · simp at hcs
    obtain ⟨rfl, rfl, rfl⟩ := hcs
    exact ⟨[], rfl, .inl rfl, .inl rfl, fun i o h => by simp at h⟩
  · simp at hcs
    obtain ⟨rfl, rfl, rfl⟩ := hcs
    simp only [if_true] at hmm
    subst hmm
    rw [Try.cellsStep] at hx
    have hops : ∀ i, i < len → ∃ o : LStep, w.cells? 0 (a.add (i * 6)) 6 = some o.cells ∧ o.ok := fun i hi => by
      obtain ⟨cs', h1, h2⟩ := hx i (by omega)
      obtain ⟨o, rfl, hok⟩ := open_step h2
      exact ⟨o, h1, hok⟩
    obtain ⟨f, hf⟩ : ∃ f : Nat → LStep, ∀ i, i < len → w.cells? 0 (a.add (i * 6)) 6 = some (f i).cells ∧ (f i).ok := by
      classical
      exact ⟨fun i => if hi : i < len then Classical.choose (hops i hi) else ⟨0, 0, 0, 0, 0, false⟩, fun i hi => by simp only [dif_pos hi]; exact Classical.choose_spec (hops i hi)⟩
    have hokk : ∀ (i : Nat) (o : LStep), ((List.range len).map f)[i]? = some o → o.ok := fun i o ho => by
      have hi : i < len := by have := (List.getElem?_eq_some_iff.1 ho).1; simpa using this
      have ho' : o = f i := by simp [List.getElem?_map, List.getElem?_range hi] at ho; exact ho.symm
      rw [ho']; exact (hf i hi).2
    refine ⟨(List.range len).map f, by simp, ?_, .inr ⟨_, _, rfl, by simp⟩, hokk⟩
    by_cases h0 : len = 0
    · exact .inl h0
    · right
      have hc0 := (World.cells?_some (hf 0 (by omega)).1).2.2 0 (by omega)
      obtain ⟨b, off, spot⟩ := a
      have hc0' : w.cell? ⟨b, off, spot⟩ = some (.int .i64 (f 0).K) := by simpa [Addr.add, LStep.cells] using hc0
      have hspot : spot = none := World.cell?_spot hc0'
      subst hspot
      refine ⟨b, off, rfl, World.block_lt_of_cell? _ _ hc0', ?_⟩
      intro i o ho j v hv
      have hi : i < len := by have := (List.getElem?_eq_some_iff.1 ho).1; simpa using this
      have ho' : o = f i := by simp [List.getElem?_map, List.getElem?_range hi] at ho; exact ho.symm
      subst ho'
      have hj : j < 6 := by have := (List.getElem?_eq_some_iff.1 hv).1; simpa [LStep.cells] using this
      have := (World.cells?_some (hf i hi).1).2.2 j hj
      rw [add_add, add_plain, hv] at this
      rw [← this, Nat.add_assoc]

end Go.Proofs.Ytnolplmpanbmhaa

namespace Go.Proofs.Ytnolplmpanbmhaa
open Go.RowKit
set_option linter.unusedVariables false
attribute [local go_sem ↓] Go.wp_at_zero Go.wp_at_succ

/-- Which machine a call is for. -/
def mach (M : Int) (n : Nat) : Nat := (((M.tmod n) + n).tmod n).toNat

theorem mach_lt (M : Int) (n : Nat) (h : 0 < n) : mach M n < n := by
  unfold mach
  have h1 := Int.tmod_lt_of_pos (M.tmod n + n) (show (0 : Int) < n by omega)
  have h2 := Int.lt_tmod_of_pos M (show (0 : Int) < n by omega)
  have h3 := Int.tmod_nonneg (n : Int) (show 0 ≤ M.tmod n + n by omega)
  omega

theorem mach_val (M : Int) (n : Nat) (h : 0 < n) : (((M.tmod n) + n).tmod n) = (mach M n : Int) := by
  unfold mach
  have h2 := Int.lt_tmod_of_pos M (show (0 : Int) < n by omega)
  have h3 := Int.tmod_nonneg (n : Int) (show 0 ≤ M.tmod n + n by omega)
  omega

end Go.Proofs.Ytnolplmpanbmhaa

namespace Go.Proofs.Ytnolplmpanbmhaa
open Go.RowKit
set_option linter.unusedVariables false
attribute [local go_sem ↓] Go.wp_at_zero Go.wp_at_succ

/-- A new machine: f says which blocks are its own. -/
def NewF (M : MT) (w w' : World) (p : Nat) (f : Nat → Option Nat) (s : RSt) : Prop :=
  (∀ b j, f b = some j → w.heap.size ≤ b ∧ b < w'.heap.size) ∧ ∀ (own : Nat → Nat × Nat) (id : Nat), (∀ b j, f b = some j → own b = (id, j)) → M own id w' p s
theorem NewF.of {M : MT} (P : Api M) {w w2 W : World} {p : Nat} {f : Nat → Option Nat} {s : RSt} (h : NewF M w w2 p f s) (hk : ∀ k, w.heap.size ≤ k → k < w2.heap.size → W.heap[k]? = w2.heap[k]?) (hs : w2.heap.size ≤ W.heap.size) : NewF M w W p f s := by
  refine ⟨fun b j hb => ⟨(h.1 b j hb).1, Nat.lt_of_lt_of_le (h.1 b j hb).2 hs⟩, fun own id ho => ?_⟩
  obtain ⟨own0, h0⟩ : ∃ own0 : Nat → Nat × Nat, own0 = fun b => match f b with | some j => (id, j) | none => (id + 1, 0) := ⟨_, rfl⟩
  have h1 : ∀ b j, f b = some j → own0 b = (id, j) := fun b j hb => by rw [h0]; simp only [hb]
  have h2 : ∀ b, (own0 b).1 = id → ∃ j, f b = some j := fun b hb => by
    rw [h0] at hb
    cases hf : f b with
    | none => simp only [hf] at hb; omega
    | some j => exact ⟨j, rfl⟩
  have m1 := h.2 own0 id h1
  have m2 := P.of (own' := own0) (w' := W) m1 (fun _ _ => rfl) (fun b hb ht => by
    obtain ⟨j, hj⟩ := h2 b ht
    exact hk b (h.1 b j hj).1 hb)
  exact P.retag m2 (fun b _ ht => by
    obtain ⟨j, hj⟩ := h2 b ht
    rw [ho b j hj, h1 b j hj])
theorem NewF.low {M : MT} {w0 w W : World} {p : Nat} {f : Nat → Option Nat} {s : RSt} (h : NewF M w W p f s) (hl : w0.heap.size ≤ w.heap.size) : NewF M w0 W p f s :=
  ⟨fun b j hb => ⟨Nat.le_trans hl (h.1 b j hb).1, (h.1 b j hb).2⟩, h.2⟩

end Go.Proofs.Ytnolplmpanbmhaa

/-
  'built': the machine that a statement begins with.
-/
namespace Go.Proofs.Ytnolplmpanbmhaa
open Go.RowKit
set_option linter.unusedVariables false
attribute [local go_sem ↓] Go.wp_at_zero Go.wp_at_succ

theorem cf_may (x y z : Int) : mayB (cfA x) (cfB y) (cfC z) = true := by
  have h1 := pk_lt x (show 0 < 16 by omega)
  have h2 := pk_lt y (show 0 < 8 by omega)
  have h3 := pk_lt z (show 0 < 3 by omega)
  unfold mayB cfA cfB cfC
  simp
  omega
theorem cfA_le (x : Int) : cfA x ≤ 16 := by have := pk_lt x (show 0 < 16 by omega); unfold cfA; omega
theorem cfB_le (x : Int) : cfB x ≤ 8 := by have := pk_lt x (show 0 < 8 by omega); unfold cfB; omega
theorem cfC_le (x : Int) : cfC x ≤ 4 := by have := pk_lt x (show 0 < 3 by omega); unfold cfC; omega
theorem cfC_ge (x : Int) : 1 ≤ cfC x := by unfold cfC; omega

set_option maxHeartbeats 1000000 in
set_option maxRecDepth 100000 in
theorem built_any {M : MT} (P : Api M) (x y z : Int) (hx0 : -9223372036854775808 ≤ x) (hx1 : x ≤ 9223372036854775807) (hy0 : -9223372036854775808 ≤ y) (hy1 : y ≤ 9223372036854775807) (hz0 : -9223372036854775808 ≤ z) (hz1 : z ≤ 9223372036854775807) (w : World) :
    Calls Try.prog 5 #[.agg #[.int .i64 x, .int .i64 y, .int .i64 z]] w fun e w' => ∃ (m : Nat) (f : Nat → Option Nat), e = .returned (.pointer (some ⟨m, 0, none⟩)) ∧ Below w.heap.size w w' ∧ NewF M w w' m f (RSt.fresh (cfA x) (cfB y) (cfC z)) := by
  go_enter Try.func5, Try.ntmps5
  go_wp2_with fail
  refine (config_any x y z hx0 hx1 hy0 hy1 hz0 hz1 _).mono ?_
  rintro e w1 ⟨rfl, hb1⟩
  go_wp2_with fail
  refine (P.new_yes (cfA x) (cfB y) (cfC z) _ (cf_may x y z)).mono ?_
  rintro e w2 ⟨m, f, rfl, hb2, hm⟩
  go_wp2_with fail
  refine (P.new_no 1 1 0 _ (by decide)).mono ?_
  rintro e w3 ⟨rfl, hb3⟩
  go_wp2_with fail
  go_ret
  have s1 := hb1.size
  have s2 := hb2.size
  simp at s1
  refine ⟨m, f, rfl, ?_, NewF.low (NewF.of P hm (fun k _ h2 => hb3.block k h2) hb3.size) (by omega)⟩
  exact (((Below.refl _ _).alloc (Nat.le_refl _) _).trans (hb1.mono (by simp))).trans ((hb2.mono (by omega)).trans (hb3.mono (by omega)))

end Go.Proofs.Ytnolplmpanbmhaa

/-
  What the statement's own list of rights needs: of the rights that are alive, whose frame is whose.
-/
namespace Go.Proofs.Ytnolplmpanbmhaa
set_option linter.unusedVariables false

structure HInv (s : RSt) : Prop where
  one : ∀ (i j : Nat) (ri rj : RR), s.rights[i]? = some ri → s.rights[j]? = some rj → lv s.rights i = true → lv s.rights j = true → ri.frm < 0 → rj.frm < 0 → ri.fr = rj.fr → i = j
  same : ∀ (i : Nat) (r : RR), s.rights[i]? = some r → 0 ≤ r.frm → ∃ r', s.rights[r.frm.toNat]? = some r' ∧ r'.fr = r.fr
  alv : ∀ (i : Nat) (r : RR), s.rights[i]? = some r → lv s.rights i = true → aliveB s r.env = true

theorem hinv_fresh (a b c : Nat) : HInv (RSt.fresh a b c) := ⟨fun i j ri rj h => by simp [RSt.fresh] at h, fun i r h => by simp [RSt.fresh] at h, fun i r h => by simp [RSt.fresh] at h⟩

theorem getApp {α : Type} {l : List α} {x r : α} {i : Nat} (h : (l ++ [x])[i]? = some r) : l[i]? = some r ∨ (i = l.length ∧ r = x) := by
  rcases Nat.lt_or_ge i l.length with hl | hl
  · rw [List.getElem?_append_left hl] at h; exact .inl h
  · rw [List.getElem?_append_right hl] at h
    have hz : i - l.length = 0 := by have := (List.getElem?_eq_some_iff.1 h).1; simp at this; omega
    rw [hz] at h
    simp at h
    exact .inr ⟨by omega, h.symm⟩

/-- Which rights are alive comes of the rights alone; who is alive of the environments. -/
theorem HInv.add {s s' : RSt} (h : HInv s) (hI : RInv s) {x : RR} (hr : s'.rights = s.rights ++ [x]) (ha : s'.alive = s.alive) (hn : s'.ne = s.ne) (hx : aliveB s x.env = true) (h1 : -1 ≤ x.frm) (h2 : x.frm < s.rights.length)
    (hf : x.frm < 0 → ∀ (i : Nat) (r : RR), s.rights[i]? = some r → lv s.rights i = true → r.fr ≠ x.fr) (hp : 0 ≤ x.frm → ∃ r', s.rights[x.frm.toNat]? = some r' ∧ r'.fr = x.fr) : HInv s' := by
  have hal : ∀ e, aliveB s' e = aliveB s e := fun e => by unfold aliveB; rw [ha, hn]
  have hlv : ∀ (i : Nat) (r : RR), s.rights[i]? = some r → lv s'.rights i = lv s.rights i := fun i r hr' => by
    have := (List.getElem?_eq_some_iff.1 hr').1
    rw [hr]; exact lv_append hI.ord x (by omega)
  refine ⟨fun i j ri rj hi hj li lj fi fj e => ?_, fun i r hi h0 => ?_, fun i r hi li => ?_⟩
  · rw [hr] at hi hj
    rcases getApp hi with ai | ⟨ei, ri'⟩ <;> rcases getApp hj with aj | ⟨ej, rj'⟩
    · rw [hlv i ri ai] at li; rw [hlv j rj aj] at lj; exact h.one i j ri rj ai aj li lj fi fj e
    · rw [hlv i ri ai] at li; rw [rj'] at fj e; exact absurd e (hf fj i ri ai li)
    · rw [hlv j rj aj] at lj; rw [ri'] at fi e; exact absurd e.symm (hf fi j rj aj lj)
    · omega
  · rw [hr] at hi ⊢
    have aux : ∀ {k : Nat} {q : RR}, s.rights[k]? = some q → (s.rights ++ [x])[k]? = some q := fun {k q} hk => by
      rw [List.getElem?_append_left (List.getElem?_eq_some_iff.1 hk).1]; exact hk
    rcases getApp hi with hi | ⟨ei, rfl⟩
    · obtain ⟨r', h1, h2⟩ := h.same i r hi h0; exact ⟨r', aux h1, h2⟩
    · obtain ⟨r', h1, h2⟩ := hp h0; exact ⟨r', aux h1, h2⟩
  · rw [hal]
    rw [hr] at hi
    rcases getApp hi with hi | ⟨ei, rfl⟩
    · rw [hlv i r hi] at li; exact h.alv i r hi li
    · exact hx

theorem HInv.mark {s s' : RSt} (h : HInv s) (hI : RInv s) (P : Nat → Bool) (hr : s'.rights = markAt P s.rights) (ha : ∀ (i : Nat) (r : RR), s.rights[i]? = some r → lv (markAt P s.rights) i = true → aliveB s r.env = true → aliveB s' r.env = true) : HInv s' := by
  have hget : ∀ (i : Nat) (r : RR), s'.rights[i]? = some r → ∃ x, s.rights[i]? = some x ∧ r.frm = x.frm ∧ r.env = x.env ∧ r.fr = x.fr := by
    intro i r hi
    rw [hr, markAt_get] at hi
    cases hx : s.rights[i]? with
    | none => rw [hx] at hi; simp at hi
    | some x =>
      rw [hx] at hi
      simp at hi
      refine ⟨x, rfl, ?_⟩
      subst hi
      split <;> exact ⟨rfl, rfl, rfl⟩
  have hle : ∀ (i : Nat) (r : RR), s.rights[i]? = some r → lv s'.rights i = true → lv s.rights i = true := fun i r hi hl => by
    have := (List.getElem?_eq_some_iff.1 hi).1
    rw [hr] at hl
    exact lv_mark_le hI.ord P (i + 1) i (by omega) (by omega) hl
  refine ⟨fun i j ri rj hi hj li lj fi fj e => ?_, fun i r hi h0 => ?_, fun i r hi li => ?_⟩
  · obtain ⟨x, a1, a2, a3, a4⟩ := hget i ri hi
    obtain ⟨y, b1, b2, b3, b4⟩ := hget j rj hj
    exact h.one i j x y a1 b1 (hle i x a1 li) (hle j y b1 lj) (by omega) (by omega) (by omega)
  · obtain ⟨x, a1, a2, a3, a4⟩ := hget i r hi
    obtain ⟨r', b1, b2⟩ := h.same i x a1 (by omega)
    rw [a2, hr, markAt_get, b1]
    refine ⟨_, rfl, ?_⟩
    rw [a4, ← b2]
    split <;> rfl
  · obtain ⟨x, a1, a2, a3, a4⟩ := hget i r hi
    rw [a3]
    have hl := li
    rw [hr] at li
    exact ha i x a1 li (h.alv i x a1 (hle i x a1 hl))

section
variable {rs : RSt}

theorem freeB_no {s : RSt} (hI : RInv s) {f : Nat} (h : freeB s f = true) : ∀ (i : Nat) (r : RR), s.rights[i]? = some r → lv s.rights i = true → r.fr ≠ f := fun i r hr hl e => by
  have he := hI.env i r hr
  simp [freeB] at h
  have := h r.env.toNat (by omega)
  rw [Int.toNat_of_nonneg he.1] at this
  have h2 := owned_iff.2 ⟨i, r, hr, hl, rfl, e⟩
  rw [h2] at this
  simp at this

theorem HInv.alloc (h : HInv rs) (hI : RInv rs) (env : Int) : HInv (allocR rs env).2 := by
  unfold allocR
  rcases rawE_cases rs env with ⟨h2, ha⟩ | ⟨h0, ha⟩
  · rw [h2]; simpa using h
  · rw [h0]
    simp only [ne_eq, not_true_eq_false, if_false]
    unfold firstS
    cases hl : leastFree rs with
    | none => exact h
    | some f =>
      simp only
      by_cases hc : cnt rs.rights < 32
      · rw [if_pos hc]
        have hfree : freeB rs f = true := List.find?_some hl
        exact h.add hI (x := ⟨rs.rights.length + 1, env, f, true, -1, false⟩) rfl rfl rfl ha (by simp) (by simp; omega) (fun _ => freeB_no hI hfree) (fun h => by simp at h)
      · rw [if_neg hc]; exact h

theorem HInv.derive (h : HInv rs) (hI : RInv rs) (env hd te : Int) (wt : Bool) : HInv (deriveR rs env hd te wt).2 := by
  rcases rightE_cases rs env hd with ⟨x, h1, h3⟩ | ⟨j, r, h1, hrr, hd1, he, hl, hal⟩
  · have : x ≠ 0 := by omega
    unfold deriveR
    rw [h1]
    simpa [this] using h
  · have hj := (List.getElem?_eq_some_iff.1 hrr).1
    unfold deriveR
    rw [h1]
    simp only [ne_eq, not_true_eq_false, if_false, Int.toNat_natCast, hrr]
    rcases rawE_cases rs te with ⟨ht, _⟩ | ⟨ht, hat⟩
    · rw [ht]; simpa using h
    · rw [ht]
      simp only [not_true_eq_false, if_false]
      cases (wt && !r.wr) with
      | true => exact h
      | false =>
        simp only [Bool.false_eq_true, if_false]
        by_cases hc : 32 ≤ cnt rs.rights
        · rw [if_pos hc]; exact h
        · rw [if_neg hc]
          exact h.add hI (x := ⟨rs.rights.length + 1, te, r.fr, wt, j, false⟩) rfl rfl rfl hat (by show (-1 : Int) ≤ (j : Int); omega) (by show (j : Int) < _; omega) (fun h => absurd h (by show ¬ (j : Int) < 0; omega)) (fun _ => ⟨r, by simpa using hrr, rfl⟩)

theorem HInv.revoke (h : HInv rs) (hI : RInv rs) (env hd : Int) : HInv (revokeR rs env hd).2 := by
  unfold revokeR
  split
  · exact h
  · exact h.mark hI _ (by simp only [sweepS, endIf]; exact mark_map _ _) (fun _ _ _ _ h => h)
theorem HInv.drop (h : HInv rs) (hI : RInv rs) (env hd : Int) : HInv (dropR rs env hd).2 := by
  unfold dropR
  split
  · exact h
  · split
    · exact h
    · rename_i r hr
      exact h.mark hI _ (by simp only [sweepS]; exact mark_set _ _ _ hr) (fun _ _ _ _ h => h)
theorem HInv.kill (h : HInv rs) (hI : RInv rs) (env : Int) : HInv (killR rs env).2 := by
  unfold killR
  split
  · rename_i hal
    have hrg := aliveB_range hal
    refine h.mark hI _ (by simp only [sweepS, endIf]; exact mark_map _ _) (fun i r hr hl ha => ?_)
    have hne : r.env ≠ env := fun e => by
      rw [lv_mark hI.ord _ hr] at hl
      simp [hr, e] at hl
    have hg := hI.env i r hr
    simp only [aliveB, sweepS, endIf] at ha ⊢
    rw [List.getElem?_set_ne (by omega)]
    exact ha
  · exact h
theorem HInv.spawn (h : HInv rs) (env : Int) : HInv (spawnR rs env).2 := by
  unfold spawnR
  split
  · exact h
  · split
    · exact h
    · rename_i h1 h2
      refine ⟨h.one, h.same, fun i r hi hl => ?_⟩
      have ha := h.alv i r hi hl
      have hne : r.env.toNat ≠ env.toNat := fun e => by
        have := aliveB_range ha
        have e' : r.env = env := by omega
        rw [e'] at ha; exact h2 ha
      simp only [aliveB] at ha ⊢
      rw [List.getElem?_set_ne (fun e => hne e.symm)]
      exact ha

/-! ### How many first rights are alive -/
def firstB (rs : List RR) (i : Nat) : Bool := lv rs i && (rs[i]?.map fun r => decide (r.frm < 0)).getD false
def fstL (rs : List RR) (q : Nat) : List Nat := (List.range q).filter (firstB rs)
def fstTo (rs : List RR) (q : Nat) : Nat := (fstL rs q).length
theorem fstTo_succ {rs : List RR} {q : Nat} {r : RR} (hr : rs[q]? = some r) : fstTo rs (q + 1) = fstTo rs q + if lv rs q && decide (r.frm < 0) then 1 else 0 := by
  unfold fstTo fstL
  rw [List.range_succ, List.filter_append, List.length_append]
  congr 1
  simp only [List.filter_cons, List.filter_nil, firstB, hr, Option.map_some, Option.getD_some]
  split <;> rfl

theorem pigeon : ∀ (l m : List Nat), l.Nodup → (∀ x, x ∈ l → x ∈ m) → l.length ≤ m.length := by
  intro l
  induction l with
  | nil => intro m _ _; simp
  | cons x xs ih =>
    intro m hn hs
    have hx : x ∈ m := hs x (by simp)
    rw [List.nodup_cons] at hn
    have := ih (m.erase x) hn.2 (fun y hy => by
      have hne : y ≠ x := fun e => hn.1 (e ▸ hy)
      exact (List.mem_erase_of_ne hne).2 (hs y (by simp [hy])))
    rw [List.length_erase_of_mem hx] at this
    have hpos := List.length_pos_of_mem hx
    simp
    omega

theorem root {s : RSt} (h : HInv s) (hI : RInv s) : ∀ (n i : Nat) (r : RR), i < n → s.rights[i]? = some r → lv s.rights i = true → ∃ (j : Nat) (q : RR), s.rights[j]? = some q ∧ lv s.rights j = true ∧ q.frm < 0 ∧ q.fr = r.fr := by
  intro n
  induction n with
  | zero => intro i r hi; omega
  | succ n ih =>
    intro i r hi hr hl
    by_cases h0 : r.frm < 0
    · exact ⟨i, r, hr, hl, h0, rfl⟩
    · obtain ⟨q, hq, hf⟩ := h.same i r hr (by omega)
      have ho := hI.ord i r hr
      rw [lv_step hI.ord hr] at hl
      simp at hl
      obtain ⟨j, x, a1, a2, a3, a4⟩ := ih r.frm.toNat q (by omega) hq (by rw [Int.toNat_of_nonneg (by omega)]; exact hl.2)
      exact ⟨j, x, a1, a2, a3, by rw [a4, hf]⟩

theorem mem_fst {s : RSt} {i : Nat} : i ∈ fstL s.rights s.rights.length ↔ ∃ r, s.rights[i]? = some r ∧ lv s.rights i = true ∧ r.frm < 0 := by
  unfold fstL firstB
  rw [List.mem_filter, List.mem_range]
  constructor
  · rintro ⟨h1, h2⟩
    refine ⟨s.rights[i], by simp, ?_⟩
    simpa [h1] using h2
  · rintro ⟨r, hr, hl, hf⟩
    exact ⟨(List.getElem?_eq_some_iff.1 hr).1, by simp [hr, hl, hf]⟩

/-- There is a frame that is free just if fewer first rights are alive than there are frames. -/
theorem least_none {s : RSt} (h : HInv s) (hI : RInv s) : leastFree s = none ↔ s.nf ≤ fstTo s.rights s.rights.length := by
  classical
  obtain ⟨fr, hfr⟩ : ∃ fr : Nat → Nat, ∀ (i : Nat) (r : RR), s.rights[i]? = some r → fr i = r.fr.toNat := ⟨fun i => (s.rights[i]?.map fun r => r.fr.toNat).getD 0, fun i r hr => by simp [hr]⟩
  have hmem : ∀ f, (∃ i, i ∈ fstL s.rights s.rights.length ∧ fr i = f) → f < s.nf ∧ freeB s f = false := by
    rintro f ⟨i, hi, rfl⟩
    obtain ⟨r, hr, hl, hf⟩ := mem_fst.1 hi
    have hb := hI.fr i r hr
    rw [hfr i r hr]
    refine ⟨by omega, ?_⟩
    cases hx : freeB s r.fr.toNat with
    | false => rfl
    | true => exact absurd (by omega) (freeB_no hI hx i r hr hl)
  have hnd : ((fstL s.rights s.rights.length).map fr).Nodup := by
    rw [List.nodup_iff_pairwise_ne, List.pairwise_map]
    have hp : (fstL s.rights s.rights.length).Nodup := (List.nodup_range).filter _
    refine List.Pairwise.imp_of_mem ?_ hp
    intro a b ha hb hne e
    obtain ⟨r, hr, hl, hf⟩ := mem_fst.1 ha
    obtain ⟨q, hq, ql, qf⟩ := mem_fst.1 hb
    rw [hfr a r hr, hfr b q hq] at e
    have h1 := hI.fr a r hr
    have h2 := hI.fr b q hq
    exact hne (h.one a b r q hr hq hl ql hf qf (by omega))
  constructor
  · intro hn
    have hall : ∀ f, f < s.nf → freeB s f = false := fun f hf => by
      have := List.find?_eq_none.1 hn f (List.mem_range.2 hf)
      simpa using this
    have := pigeon (List.range s.nf) ((fstL s.rights s.rights.length).map fr) List.nodup_range (fun f hf => by
      have hff := hall f (List.mem_range.1 hf)
      simp only [freeB, Bool.not_eq_false'] at hff
      rw [List.any_eq_true] at hff
      obtain ⟨e, _, ho⟩ := hff
      obtain ⟨i, r, hr, hl, _, hrf⟩ := owned_iff.1 ho
      obtain ⟨j, q, a1, a2, a3, a4⟩ := root h hI (i + 1) i r (by omega) hr hl
      exact List.mem_map.2 ⟨j, mem_fst.2 ⟨q, a1, a2, a3⟩, by rw [hfr j q a1, a4, hrf]; simp⟩)
    simpa [fstTo] using this
  · intro hle
    cases hl : leastFree s with
    | none => rfl
    | some f =>
      exfalso
      have hfree : freeB s f = true := List.find?_some hl
      have hflt := leastFree_lt hl
      have := pigeon (f :: (fstL s.rights s.rights.length).map fr) (List.range s.nf) (by
        rw [List.nodup_cons]
        refine ⟨fun hm => ?_, hnd⟩
        obtain ⟨i, hi, e⟩ := List.mem_map.1 hm
        have := (hmem f ⟨i, hi, e⟩).2
        rw [hfree] at this; simp at this) (fun x hx => by
        rcases List.mem_cons.1 hx with rfl | hx
        · exact List.mem_range.2 hflt
        · obtain ⟨i, hi, e⟩ := List.mem_map.1 hx
          exact List.mem_range.2 (hmem x ⟨i, hi, e⟩).1)
      simp [fstTo] at this hle
      omega
end
end Go.Proofs.Ytnolplmpanbmhaa

/-
  append: the elements that were there are as they were, in the old row too.
-/
namespace Go.Proofs.Ytnolplmpanbmhaa
open Go.RowKit
set_option linter.unusedVariables false

section
variable {P : Program} (w : World)

theorem run_append_kept (t ty : TypeId) (e : TypeId) (i : TypeInfo) (z : Value) (size bytes : Nat) (ht : P.underlying t = some (.slice e)) (hi : P.info? e = some i) (hz : i.zero = some z)
    (hsize : i.size = size) (hby : i.bytes = bytes) (hzs : z.cells.size = size) (hsz : 0 < size)
    (v : Value) (n : Nat) (xs : List Value) (hown : w.ownsRow 0 e size v n xs)
    (ad : Addr) (m c : Nat) (news : List Value) (hl : news.length = m * size) (hnews : ∀ j u, news[j]? = some u → w.cell? (ad.add j) = some u) (h1 : ∀ u ∈ news, u.oneCell' = true)
    (hm : 0 < m) (h63 : n + m ≤ maxLen) (hbytes : (n + m) * bytes ≤ 140737488355328) (H : Nat) (hH : w.heap.size = H) :
    ∃ g cap w', (Builtin.append_ #[t, t] ty #[v, .slice (some ad) m c]).run P w = .ok (.slice (some ⟨g, 0, none⟩) (n + m) cap) w' ∧
      w'.ownsRow 0 e size (.slice (some ⟨g, 0, none⟩) (n + m) cap) (n + m) (xs ++ news) ∧ w.grownBy w' v.ownBlock ∧ (v.ownBlock = some g ∨ g = H) ∧ g < w'.heap.size ∧
      (∀ b, v.ownBlock = some b → ∀ j, j < n * size → w'.cell? ⟨b, j, none⟩ = w.cell? ⟨b, j, none⟩) := by
  obtain ⟨g, cap, w', hr, h2, h3, h4, h5⟩ := run_append_lies (P := P) w t ty 0 e i z size bytes ht hi hz hsize hby hzs hsz v n xs hown ad m c news hl hnews h1 hm h63 hbytes (Nat.zero_le _) H hH
  refine ⟨g, cap, w', hr, h2, h3, h4, h5, ?_⟩
  intro b hb j hj
  rcases hown.2 with ⟨rfl, _⟩ | ⟨g0, cap0, cur, rfl, _, hg, hnc, hcm, hcs, htake⟩
  · simp [Value.ownBlock] at hb
  · have hgb : g0 = b := by simpa [Value.ownBlock] using hb
    subst hgb
    subst hsize
    by_cases hroom : n + m ≤ cap0
    · have hfit : n * i.size + news.length ≤ cur.size := by rw [hl, hcs, ← Nat.add_mul]; exact Nat.mul_le_mul_right _ hroom
      have hr2 := run_append_room (P := P) w t ty e i ht hi g0 n cap0 cur hg ad m c news hl hnews h1 hroom hfit
      rw [hr] at hr2
      have hw : w' = _ := (Result.ok.inj hr2).2
      rw [hw, cell_of_row _ g0 j _ e (0, 0) (setRow_heap w g0 cur _ e _ hg), cell_of_row w g0 j cur e (0, 0) hg]
      have : n * i.size ≤ cur.toList.length := by simp; omega
      simp only [List.getElem?_toArray]
      rw [List.append_assoc, List.getElem?_append_left (by rw [List.length_take]; omega), List.getElem?_take, if_pos hj]
      simp
    · have holds : ∀ j u, xs[j]? = some u → w.cell? ((⟨g0, 0, none⟩ : Addr).add j) = some u := hown.cells (g := g0) rfl
      have hsm : n + m ≤ 9223372036854775807 := by simp only [maxLen] at h63; omega
      have hr2 := run_append_grow (P := P) w t ty e i z ht hi hz ⟨g0, 0, none⟩ n cap0 xs hown.1 holds ad m c news hl hnews (by omega) (by omega) (growslice_fits (by omega) (by rw [hby]; exact hbytes))
      rw [hr] at hr2
      have hw : w' = _ := (Result.ok.inj hr2).2
      have hlt : g0 < w.heap.size := (Array.getElem?_eq_some_iff.1 hg).1
      have hb : w'.heap[g0]? = w.heap[g0]? := by
        rw [hw]
        exact Below.heap_alloc w.drew _ g0 hlt
      exact World.cell?_of_block (a := ⟨g0, j, none⟩) hb

theorem wpList_append_kept {ops : Array Oper} {rest : List Oper} {o : Oper} {a : Act} {Q : Exit → Act → World → Prop} (hgd : o.guard = none) (s x : Operand) (t : TypeId)
    (ho : o.op = .call { callee := .builtin .append, args := #[s, x], argTypes := #[t, t] })
    (e : TypeId) (i : TypeInfo) (z : Value) (size bytes : Nat) (ht : P.underlying t = some (.slice e)) (hi : P.info? e = some i) (hz : i.zero = some z)
    (hsize : i.size = size) (hby : i.bytes = bytes) (hzs : z.cells.size = size) (hsz : 0 < size)
    (v : Value) (n : Nat) (xs : List Value) (hs : a.eval s = v) (hown : w.ownsRow 0 e size v n xs)
    (ad : Addr) (m c : Nat) (news : List Value) (hx : a.eval x = .slice (some ad) m c) (hl : news.length = m * size) (hnews : ∀ j u, news[j]? = some u → w.cell? (ad.add j) = some u) (h1 : ∀ u ∈ news, u.oneCell' = true)
    (hm : 0 < m) (h63 : n + m ≤ maxLen) (hbytes : (n + m) * bytes ≤ 140737488355328) (H : Nat) (hH : w.heap.size = H)
    (h : ∀ g cap w', w'.ownsRow 0 e size (.slice (some ⟨g, 0, none⟩) (n + m) cap) (n + m) (xs ++ news) → w.grownBy w' v.ownBlock → (v.ownBlock = some g ∨ g = H) → g < w'.heap.size →
      (∀ b, v.ownBlock = some b → ∀ j, j < n * size → w'.cell? ⟨b, j, none⟩ = w.cell? ⟨b, j, none⟩) → wpList P ops Q rest (a.put o.dst (.slice (some ⟨g, 0, none⟩) (n + m) cap)) w') : wpList P ops Q (o :: rest) a w := by
  refine wpList_plain hgd fun K hK => ?_
  obtain ⟨g, cap, w', hr, h2, h3, h4, h5, h6⟩ := run_append_kept (P := P) w t o.type e i z size bytes ht hi hz hsize hby hzs hsz v n xs hown ad m c news hl hnews h1 hm h63 hbytes H hH
  unfold Oper.wp execOp
  simp only [ho, resolve, invoke, builtin, Sem.run_bind, Sem.run_pure, Result.andThen_ok, List.map_toArray, List.map_cons, List.map_nil, hs, hx, hr]
  exact hK _ _ (h g cap w' h2 h3 h4 h5 h6)
end
end Go.Proofs.Ytnolplmpanbmhaa

/-
  The lists that came out, and how their owner has marked them.
-/
namespace Go.Proofs.Ytnolplmpanbmhaa
open Go.RowKit
set_option linter.unusedVariables false

theorem Row.cellAt' {w : World} {e k n g cap : Nat} {xs : List Value} (h : Row w (.slice (some ⟨g, 0, none⟩) n cap) e k n xs) (j : Nat) (hj : j < n * k) : w.cell? ⟨g, j, none⟩ = xs[j]? := World.ownsRow.cellAt h j hj
theorem Row.shape' {w : World} {v : Value} {e k n : Nat} {xs : List Value} (h : Row w v e k n xs) : ∃ ao cap, v = .slice ao n cap ∧ (n = 0 ∨ ∃ g, ao = some ⟨g, 0, none⟩) := by
  obtain ⟨ao, cap, g, hv, hao, _⟩ := h.view
  refine ⟨ao, cap, hv, ?_⟩
  rcases Nat.eq_zero_or_pos n with h0 | h0
  · exact .inl h0
  · exact .inr ⟨g, hao h0⟩

/-- A slice all of whose elements hold the k cells c; at most a of them; its row bears the mark t. -/
def SA (own : Nat → Nat × Nat) (t : Nat × Nat) (w : World) (c : List Value) (k a : Nat) (x : Value) : Prop :=
  ∃ ao n cap g, x = .slice ao n cap ∧ n ≤ a ∧ (n = 0 ∨ (ao = some ⟨g, 0, none⟩ ∧ own g = t ∧ g < w.heap.size ∧ ∀ i j, i < n → j < k → w.cell? ⟨g, i * k + j, none⟩ = c[j]?))

theorem SA.of {own own' : Nat → Nat × Nat} {t : Nat × Nat} {w w' : World} {c : List Value} {k a : Nat} {x : Value} (h : SA own t w c k a x) (ho : ∀ b, b < w.heap.size → own' b = own b) (hs : w.heap.size ≤ w'.heap.size)
    (hb : ∀ b, b < w.heap.size → own b = t → ∀ j, j < a * k → w'.cell? ⟨b, j, none⟩ = w.cell? ⟨b, j, none⟩) : SA own' t w' c k a x := by
  obtain ⟨ao, n, cap, g, rfl, hn, h⟩ := h
  refine ⟨ao, n, cap, g, rfl, hn, h.imp id fun ⟨h1, h2, h3, h4⟩ => ⟨h1, (ho g h3).trans h2, by omega, fun i j hi hj => ?_⟩⟩
  rw [hb g h3 h2 _ ?_]
  · exact h4 i j hi hj
  · have : i * k + j < (i + 1) * k := by rw [Nat.add_mul]; omega
    have : (i + 1) * k ≤ a * k := Nat.mul_le_mul_right k (by omega)
    omega
theorem SA.mono {own : Nat → Nat × Nat} {t : Nat × Nat} {w : World} {c : List Value} {k a a' : Nat} {x : Value} (h : SA own t w c k a x) (ha : a ≤ a') : SA own t w c k a' x := by
  obtain ⟨ao, n, cap, g, rfl, hn, h⟩ := h
  exact ⟨ao, n, cap, g, rfl, by omega, h⟩

def mI (n : Int) : List Value := [.int .i64 n]
def mR (n : Int) : List Value := [.int .i64 n, .int .i64 0, .int .i64 0, .bool false]
def mE (n : Int) : List Value := [.bool false, .int .i64 n, .int .i64 0, .int .i64 0, .bool false]

section
variable {own : Nat → Nat × Nat} {t : Nat × Nat} {w : World}

theorem SA.shape {x : Value} {c : List Value} {k a : Nat} (h : SA own t w c k a x) : ∃ ao n cap, x = .slice ao n cap := by
  obtain ⟨ao, n, cap, _, h, _⟩ := h
  exact ⟨ao, n, cap, h⟩

end
end Go.Proofs.Ytnolplmpanbmhaa

/-
  The statement's own list of rights ('book'), beside the machine.
-/
namespace Go.Proofs.Ytnolplmpanbmhaa
open Go.RowKit
set_option linter.unusedVariables false
attribute [local go_sem ↓] Go.wp_at_zero Go.wp_at_succ

def gcells (r : RR) : List Value := [.int .i64 r.env, .int .i64 r.frm, .bool r.wr, .bool r.ended]
def alAt (s : RSt) (j : Nat) : Bool := s.alive[j]?.getD false
def bcells (m s : Nat) (rs : RSt) (vM : Value) : List Value := [.pointer (some ⟨m, 0, none⟩), .int .i64 rs.nf, .int .i64 s, .int .i64 rs.ne, vM, .bool (alAt rs 0), .bool (alAt rs 1), .bool (alAt rs 2), .bool (alAt rs 3)]

/-- 'own': (id, 0): the struct; 1: its list. -/
structure BRep (own : Nat → Nat × Nat) (id : Nat) (w : World) (b m s : Nat) (rs : RSt) (vM : Value) : Prop where
  blk : Blk w b (bcells m s rs vM) 33
  row : Row w vM 60 4 rs.rights.length (rs.rights.flatMap gcells)
  tb : own b = (id, 0)
  tM : Tg own vM (id, 1)

section
variable {own own' : Nat → Nat × Nat} {id : Nat} {w w' : World} {b m s : Nat} {rs : RSt} {vM : Value}

theorem BRep.of (h : BRep own id w b m s rs vM) (ho : ∀ x, x < w.heap.size → own' x = own x) (hb : ∀ x, x < w.heap.size → (own x).1 = id → w'.heap[x]? = w.heap[x]?) : BRep own' id w' b m s rs vM :=
  ⟨h.blk.of (hb b h.blk.lt (by rw [h.tb])), h.row.kept h.tM (fun x hx ht => hb x hx (by rw [ht])), (ho b h.blk.lt).trans h.tb, h.tM.congr h.row ho⟩
theorem BRep.below (h : BRep own id w b m s rs vM) (hb : Below w.heap.size w w') : BRep own id w' b m s rs vM := h.of (fun _ _ => rfl) (fun x hx _ => hb.block x hx)

theorem BRep.c0 (h : BRep own id w b m s rs vM) : w.cell? ⟨b, 0, none⟩ = some (.pointer (some ⟨m, 0, none⟩)) := (h.blk.cell 0).trans rfl
theorem BRep.c1 (h : BRep own id w b m s rs vM) : w.cell? ⟨b, 1, none⟩ = some (.int .i64 rs.nf) := (h.blk.cell 1).trans rfl
theorem BRep.c3 (h : BRep own id w b m s rs vM) : w.cell? ⟨b, 3, none⟩ = some (.int .i64 rs.ne) := (h.blk.cell 3).trans rfl
theorem BRep.c4 (h : BRep own id w b m s rs vM) : w.cell? ⟨b, 4, none⟩ = some vM := (h.blk.cell 4).trans rfl
theorem BRep.cal (h : BRep own id w b m s rs vM) (j : Nat) (hj : j < 4) : w.cell? ⟨b, 5 + j, none⟩ = some (.bool (alAt rs j)) := by
  rw [h.blk.cell]
  have : j = 0 ∨ j = 1 ∨ j = 2 ∨ j = 3 := by omega
  rcases this with rfl | rfl | rfl | rfl <;> rfl

/-- The cells of right i. -/
theorem BRep.right (h : BRep own id w b m s rs vM) {i : Nat} {r : RR} (hr : rs.rights[i]? = some r) :
    ∃ g cap, vM = .slice (some ⟨g, 0, none⟩) rs.rights.length cap ∧ own g = (id, 1) ∧ w.cell? ⟨g, i * 4, none⟩ = some (.int .i64 r.env) ∧ w.cell? ⟨g, i * 4 + 1, none⟩ = some (.int .i64 r.frm) ∧ w.cell? ⟨g, i * 4 + 2, none⟩ = some (.bool r.wr) ∧ w.cell? ⟨g, i * 4 + 3, none⟩ = some (.bool r.ended) ∧
      ∀ j, w.frozen? ⟨g, j, none⟩ = false := by
  have hi := (List.getElem?_eq_some_iff.1 hr).1
  obtain ⟨g, cap, hv, hc, hf⟩ := h.row.form (by omega)
  have hx : ∀ j, j < 4 → w.cell? ⟨g, i * 4 + j, none⟩ = (gcells r)[j]? := fun j hj => by rw [hc _ (by omega), flat_get gcells 4 (fun _ => rfl) rs.rights i j r hr hj]
  exact ⟨g, cap, hv, h.tM g (by rw [hv]; rfl), (hx 0 (by omega)).trans rfl, (hx 1 (by omega)).trans rfl, (hx 2 (by omega)).trans rfl, (hx 3 (by omega)).trans rfl, hf⟩

set_option maxHeartbeats 1000000 in
set_option maxRecDepth 100000 in
theorem bliving_any (h : BRep own id w b m s rs vM) (ho : Ordered rs.rights) (hm : rs.rights.length ≤ 4611686018427387904) (i : Int) (hi : i < rs.rights.length) (hi0 : -1 ≤ i) :
    Calls Try.prog 22 #[.pointer (some ⟨b, 0, none⟩), .int .i64 i] w fun e w' => e = .returned (.bool (lv rs.rights i)) ∧ w' = w := by
  have k3 := h.c4
  go_enter Try.func22, Try.ntmps22
  go_wp2_with fail
  go_loopg [1] (i + 1).toNat (fun k x wr => ∃ q : Int, x = .int .i64 q ∧ (q + 1).toNat ≤ k ∧ -1 ≤ q ∧ q < rs.rights.length ∧ lv rs.rights q = lv rs.rights i ∧ wr = w)
  case atStart => exact ⟨i, rfl, Nat.le_refl _, hi0, hi, rfl, rfl⟩
  case round =>
    obtain ⟨q, rfl, hk, hq0, hq1, hlv, rfl⟩ := hrel
    have HL : Hid (lv rs.rights q = lv rs.rights i) := hlv
    clear hlv
    by_cases hq : 0 ≤ q
    · obtain ⟨j, rfl⟩ := Int.eq_ofNat_of_zero_le hq
      have hj : j < rs.rights.length := by omega
      obtain ⟨r, hr⟩ : ∃ r, rs.rights[j]? = some r := ⟨rs.rights[j], by simp⟩
      obtain ⟨g, cap, hv, _, _, c4, _, c5, _⟩ := h.right hr
      have hst := lv_step ho hr
      have hbd := ho j r hr
      rw [hv] at k3
      have HS : Hid (lv rs.rights j = (!r.ended && lv rs.rights r.frm)) := hst
      clear hst hv
      cases he : r.ended
      · rw [he] at c5
        go_wp2_with fail
        go_roundg ((r.frm + 1).toNat)
        case measure => omega
        case rel => exact ⟨r.frm, rfl, Nat.le_refl _, hbd.1, by omega, by rw [← HL.out, HS.out, he]; rfl, rfl⟩
      · rw [he] at c5
        go_wp2_with fail
        go_ret
        exact ⟨ret_bool (by rw [← HL.out, HS.out, he]; rfl), rfl⟩
    · go_wp2_with fail
      go_ret
      exact ⟨ret_bool (by rw [← HL.out, lv_neg (by omega)]), rfl⟩

theorem fstTo_le (l : List RR) (q : Nat) : fstTo l q ≤ q := by
  unfold fstTo fstL
  have := List.length_filter_le (firstB l) (List.range q)
  simpa using this

set_option maxHeartbeats 2000000 in
set_option maxRecDepth 100000 in
theorem bcounts_any (h : BRep own id w b m s rs vM) (ho : Ordered rs.rights) (hm : rs.rights.length ≤ 4611686018427387904) :
    Calls Try.prog 43 #[.pointer (some ⟨b, 0, none⟩)] w fun e w' => e = .returned (.tuple #[.int .i64 (cnt rs.rights), .int .i64 (fstTo rs.rights rs.rights.length)]) ∧ w' = w := by
  have k4 := h.c4
  obtain ⟨ao, cap, hv, hcase⟩ := h.row.shape'
  rw [hv] at k4
  have Hv : Hid (vM = .slice ao rs.rights.length cap) := hv
  clear hv
  go_enter Try.func43, Try.ntmps43
  go_wp2_with fail
  go_loopg [4, 5, 6] rs.rights.length (fun k n f x wr => ∃ q : Nat, x = .int .i64 q ∧ q + k = rs.rights.length ∧ n = .int .i64 (cntTo rs.rights q) ∧ f = .int .i64 (fstTo rs.rights q) ∧ wr = w)
  case atStart => exact ⟨0, rfl, by omega, rfl, rfl, rfl⟩
  case round =>
    obtain ⟨q, rfl, hk, rfl, rfl, rfl⟩ := hrel
    have hle := cntTo_le rs.rights q
    have hlf := fstTo_le rs.rights q
    have HK : Hid (q + gk = rs.rights.length) := hk
    have hq : q ≤ rs.rights.length := by omega
    clear hk
    by_cases hlt : q < rs.rights.length
    · obtain ⟨r, hr⟩ : ∃ r, rs.rights[q]? = some r := ⟨rs.rights[q], by simp⟩
      obtain ⟨g, capr, hvr, _, c0, c1, _, _, _⟩ := h.right hr
      have HC : Hid (cntTo rs.rights (q + 1) = cntTo rs.rights q + if lv rs.rights q then 1 else 0) := cntTo_succ _ _
      have HF : Hid (fstTo rs.rights (q + 1) = fstTo rs.rights q + if lv rs.rights q && decide (r.frm < 0) then 1 else 0) := fstTo_succ hr
      rw [Hv.out] at hvr
      simp at hvr
      obtain ⟨rfl, rfl⟩ := hvr
      clear hr
      go_wp2_with fail
      refine (bliving_any h ho hm q (by omega) (by omega)).mono ?_
      rintro e w2 ⟨rfl, hw2⟩
      subst hw2
      cases hl : lv rs.rights q
      · go_wp2_with fail
        go_roundg (gk - 1)
        case measure => have := HK.out; omega
        case rel => exact ⟨q + 1, by go_num, by have := HK.out; omega, by rw [HC.out, hl]; rfl, by rw [HF.out, hl]; rfl, rfl⟩
      · by_cases hf : r.frm < 0
        · go_wp2_with fail
          go_roundg (gk - 1)
          case measure => have := HK.out; omega
          case rel => exact ⟨q + 1, by go_num, by have := HK.out; omega, by rw [HC.out, hl]; go_num, by rw [HF.out, hl, decide_eq_true hf]; go_num, rfl⟩
        · go_wp2_with fail
          go_roundg (gk - 1)
          case measure => have := HK.out; omega
          case rel => exact ⟨q + 1, by go_num, by have := HK.out; omega, by rw [HC.out, hl]; go_num, by rw [HF.out, hl, decide_eq_false (show ¬ r.frm < 0 by omega)]; rfl, rfl⟩
    · obtain rfl : q = rs.rights.length := by omega
      go_wp2_with fail
      go_ret2
      exact ⟨rfl, rfl⟩

/-- What an environment must be answered for that handle. -/
theorem may_cases (env : Nat) (he : env < rs.ne) (hd : Int) (h4 : rs.ne ≤ 4) :
    (rightE rs env hd = (-1, 2) ∧ alAt rs env = false) ∨
    (rightE rs env hd = (-1, 9) ∧ alAt rs env = true ∧ (hd < 1 ∨ (rs.rights.length : Int) < hd)) ∨
    (∃ (j : Nat) (r : RR), hd = j + 1 ∧ rs.rights[j]? = some r ∧ alAt rs env = true ∧ ((rightE rs env hd = (-1, 9) ∧ (r.env ≠ env ∨ (r.env = env ∧ lv rs.rights j = false))) ∨ (rightE rs env hd = ((j : Int), 0) ∧ r.env = env ∧ lv rs.rights j = true))) := by
  have hal : aliveB rs env = alAt rs env := by
    unfold aliveB alAt
    simp [he]
  unfold rightE rawE
  rw [hal]
  cases ha : alAt rs env
  · exact .inl ⟨by simp, rfl⟩
  · simp only [if_true, ne_eq, not_true_eq_false, if_false]
    by_cases h1 : 1 ≤ hd ∧ hd ≤ rs.rights.length
    · rw [if_pos h1]
      right; right
      obtain ⟨r, hr⟩ : ∃ r, rs.rights[(hd - 1).toNat]? = some r := ⟨rs.rights[(hd - 1).toNat]'(by omega), by simp⟩
      rw [hr]
      refine ⟨(hd - 1).toNat, r, by omega, hr, trivial, ?_⟩
      have hc : (((hd - 1).toNat : Nat) : Int) = hd - 1 := by omega
      rw [hc]
      by_cases hee : r.env = env
      · cases hl : lv rs.rights (hd - 1)
        · left; simp [hee]
        · right; simp [hee]
      · left; simp [hee]
    · rw [if_neg h1]
      right; left
      exact ⟨rfl, trivial, by omega⟩

set_option maxHeartbeats 2000000 in
set_option maxRecDepth 100000 in
theorem bmay_any (h : BRep own id w b m s rs vM) (ho : Ordered rs.rights) (hm : rs.rights.length ≤ 4611686018427387904) (env : Nat) (he : env < rs.ne) (h4 : rs.ne ≤ 4) (hd : Int) (hd0 : 0 ≤ hd) (hd1 : hd ≤ 9223372036854775807) :
    Calls Try.prog 44 #[.pointer (some ⟨b, 0, none⟩), .int .i64 env, .int .i64 hd] w fun e w' => e = .returned (.int .i64 (rightE rs env hd).2) ∧ w' = w := by
  have k4 := h.c4
  have ka := h.cal env (by omega)
  obtain ⟨ao, cap, hv, hcase⟩ := h.row.shape'
  rw [hv] at k4
  have Hv : Hid (vM = .slice ao rs.rights.length cap) := hv
  have hi0 : (0 : Int) ≤ (env : Int) := by omega
  have hi1 : (env : Int) < 4 := by omega
  clear hv
  rcases may_cases (rs := rs) env he hd h4 with ⟨hx, ha⟩ | ⟨hx, ha, hr⟩ | ⟨j, r, hdj, hr, ha, hc⟩
  · have HX : Hid (rightE rs env hd = (-1, 2)) := hx
    rw [ha] at ka
    clear hx ha
    go_enter Try.func44, Try.ntmps44
    go_wp2_with fail
    go_ret
    exact ⟨ret_int (by rw [HX.out]), rfl⟩
  · have HX : Hid (rightE rs env hd = (-1, 9)) := hx
    rw [ha] at ka
    clear hx ha
    rcases hr with hr | hr
    all_goals
      go_enter Try.func44, Try.ntmps44
      go_wp2_with fail
      go_ret
      exact ⟨ret_int (by rw [HX.out]), rfl⟩
  · rw [ha] at ka
    have hj := (List.getElem?_eq_some_iff.1 hr).1
    obtain ⟨g, capr, hvr, _, c0, c1, _, _, _⟩ := h.right hr
    rw [Hv.out] at hvr
    simp at hvr
    obtain ⟨rfl, rfl⟩ := hvr
    have hd1 : hd - 1 = (j : Int) := by omega
    have hd2 : 1 ≤ hd := by omega
    have hd3 : hd ≤ (rs.rights.length : Int) := by omega
    have hjj : (j : Int) < (rs.rights.length : Int) := by omega
    have hj0 : (0 : Int) ≤ (j : Int) := by omega
    clear ha hr hcase hdj
    rcases hc with ⟨hx, hc | ⟨hc, hl⟩⟩ | ⟨hx, hc, hl⟩
    · have HX : Hid (rightE rs env hd = (-1, 9)) := hx
      have hne : (r.env != (env : Int)) = true := by simpa using hc
      clear hx hc
      go_enter Try.func44, Try.ntmps44
      go_wp2_with fail
      go_ret
      exact ⟨ret_int (by rw [HX.out]), rfl⟩
    · have HX : Hid (rightE rs env hd = (-1, 9)) := hx
      have hne : (r.env != (env : Int)) = false := by simpa using hc
      have HL : Hid (lv rs.rights j = false) := hl
      clear hx hc hl
      go_enter Try.func44, Try.ntmps44
      go_wp2_with fail
      refine (bliving_any h ho hm j (by omega) (by omega)).mono ?_
      rintro e w2 ⟨rfl, hw2⟩
      subst hw2
      rw [HL.out]
      go_wp2_with fail
      go_ret
      exact ⟨ret_int (by rw [HX.out]), rfl⟩
    · have HX : Hid (rightE rs env hd = ((j : Int), 0)) := hx
      have hne : (r.env != (env : Int)) = false := by simpa using hc
      have HL : Hid (lv rs.rights j = true) := hl
      clear hx hc hl
      go_enter Try.func44, Try.ntmps44
      go_wp2_with fail
      refine (bliving_any h ho hm j (by omega) (by omega)).mono ?_
      rintro e w2 ⟨rfl, hw2⟩
      subst hw2
      rw [HL.out]
      go_wp2_with fail
      go_ret
      exact ⟨ret_int (by rw [HX.out]), rfl⟩
end
end Go.Proofs.Ytnolplmpanbmhaa
