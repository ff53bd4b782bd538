/-
  The document's machine, as plain data (no program, no memory).
-/
import Derived.KernelRfl
import GoSem.Core.Value
namespace Go.Proofs.Ytkonobbhohfjlaa
set_option linter.unusedVariables false

/-- A right that was ever made. -/
structure RR where
  h : Int
  env : Int
  fr : Int
  wr : Bool
  frm : Int
  ended : Bool

structure Ent where
  used : Bool
  env : Int
  page : Int
  fr : Int
  wr : Bool

def Ent.empty : Ent := ⟨false, 0, 0, 0, false⟩

structure RSt where
  nf : Nat
  ns : Nat
  ne : Nat
  rights : List RR
  bytes : List (List Int)
  slots : List Ent
  turn : Int
  alive : List Bool

def RSt.fresh (f s e : Nat) : RSt := ⟨f, s, e, [], List.replicate f [0, 0, 0, 0], List.replicate s Ent.empty, 0, List.replicate e true⟩

def I (n : Int) : Value := .int .i64 n
def RR.cells (r : RR) : List Value := [.int .i64 r.h, .int .i64 r.env, .int .i64 r.fr, .bool r.wr, .int .i64 r.frm, .bool r.ended]
def Ent.cells (e : Ent) : List Value := [.bool e.used, .int .i64 e.env, .int .i64 e.page, .int .i64 e.fr, .bool e.wr]

theorem flat_length {α : Type} (f : α → List Value) (k : Nat) (hf : ∀ x, (f x).length = k) (xs : List α) : (xs.flatMap f).length = xs.length * k := by
  induction xs with
  | nil => simp
  | cons x xs ih => simp [hf, ih, Nat.add_mul, Nat.add_comm]

theorem flat_get {α : Type} (f : α → List Value) (k : Nat) (hf : ∀ x, (f x).length = k) (xs : List α) (i j : Nat) (x : α) (hx : xs[i]? = some x) (hj : j < k) :
    (xs.flatMap f)[i * k + j]? = (f x)[j]? := by
  induction xs generalizing i with
  | nil => simp at hx
  | cons y ys ih =>
    cases i with
    | zero =>
      simp at hx
      subst hx
      simp [List.getElem?_append, hf, hj]
    | succ i =>
      simp at hx
      have := ih i hx
      simp only [List.flatMap_cons]
      rw [List.getElem?_append_right (by rw [hf]; simp [Nat.add_mul]; omega), hf]
      rw [show (i + 1) * k + j - k = i * k + j by simp [Nat.add_mul]; omega]
      exact this

end Go.Proofs.Ytkonobbhohfjlaa
