/-
  The document's machine as plain functions: which rights are alive, and what each call does.
-/
import Derived.Test.YtkonobbhohfjlaaPure
namespace Go.Proofs.Ytkonobbhohfjlaa
set_option linter.unusedVariables false

/-- Each right comes of an earlier one, or of none. -/
def Ordered (rs : List RR) : Prop := ∀ (i : Nat) (r : RR), rs[i]? = some r → -1 ≤ r.frm ∧ r.frm < i

def lvF (rs : List RR) : Nat → Int → Bool
  | 0, _ => true
  | n + 1, i => if i < 0 then true else match rs[i.toNat]? with
    | none => true
    | some r => if r.ended then false else lvF rs n r.frm

/-- Is the right at place i alive? -/
def lv (rs : List RR) (i : Int) : Bool := lvF rs (i + 1).toNat i

theorem lvF_enough {rs : List RR} (ho : Ordered rs) : ∀ (n m : Nat) (i : Int), (i + 1).toNat ≤ n → (i + 1).toNat ≤ m → lvF rs n i = lvF rs m i := by
  intro n
  induction n with
  | zero =>
    intro m i h1 _
    have : i < 0 := by omega
    cases m <;> simp [lvF, this]
  | succ n ih =>
    intro m i h1 h2
    by_cases hi : i < 0
    · cases m <;> simp [lvF, hi]
    · cases m with
      | zero => omega
      | succ m =>
        simp only [lvF, if_neg hi]
        cases hr : rs[i.toNat]? with
        | none => rfl
        | some r =>
          have := ho _ _ hr
          by_cases he : r.ended <;> simp [he]
          exact ih m r.frm (by omega) (by omega)

theorem lv_neg {rs : List RR} {i : Int} (h : i < 0) : lv rs i = true := by
  unfold lv; rw [show (i + 1).toNat = 0 by omega]; rfl

theorem lv_step {rs : List RR} (ho : Ordered rs) {i : Nat} {r : RR} (hr : rs[i]? = some r) : lv rs i = (!r.ended && lv rs r.frm) := by
  have := ho _ _ hr
  unfold lv
  rw [show ((i : Int) + 1).toNat = i + 1 by omega]
  simp only [lvF, Int.toNat_natCast, hr]
  rw [if_neg (by omega)]
  cases r.ended
  · simp only [Bool.false_eq_true, if_false, Bool.not_false, Bool.true_and]
    exact lvF_enough ho _ _ _ (by omega) (by omega)
  · simp

/-- How many of the first n are alive. -/
def cntTo (rs : List RR) (n : Nat) : Nat := ((List.range n).filter fun i : Nat => lv rs i).length
def cnt (rs : List RR) : Nat := cntTo rs rs.length
theorem cntTo_succ (rs : List RR) (n : Nat) : cntTo rs (n + 1) = cntTo rs n + if lv rs n then 1 else 0 := by
  unfold cntTo
  rw [List.range_succ, List.filter_append]
  cases h : lv rs n <;> simp [h]
theorem cntTo_le (rs : List RR) (n : Nat) : cntTo rs n ≤ n := by
  unfold cntTo
  have := List.length_filter_le (fun i : Nat => lv rs i) (List.range n)
  simpa using this

/-- Is right i alive, one of env to frame, by which one may write if that is asked? -/
def ownsB (rs : List RR) (env fr : Int) (wr : Bool) (i : Nat) : Bool := match rs[i]? with
  | none => false
  | some r => lv rs i && (r.env == env && (r.fr == fr && (r.wr || !wr)))
def owned (rs : List RR) (env fr : Int) (wr : Bool) : Bool := (List.range rs.length).any (ownsB rs env fr wr)

def freeB (s : RSt) (f : Nat) : Bool := !(List.range s.ne).any fun e => owned s.rights e f false
/-- The least free frame; nf, if there is none. -/
def leastFree (s : RSt) : Option Nat := (List.range s.nf).find? (freeB s)

def aliveB (s : RSt) (env : Int) : Bool := decide (0 ≤ env) && (decide (env < s.ne) && s.alive[env.toNat]?.getD false)

/-- The error of an environment that must be alive and raw (where none is kept). -/
def rawE (s : RSt) (env : Int) : Int := if aliveB s env then 0 else 2

/-- The right that a call names: its place and the error. -/
def rightE (s : RSt) (env h : Int) : Int × Int :=
  if rawE s env ≠ 0 then (-1, rawE s env)
  else match (if 1 ≤ h ∧ h ≤ s.rights.length then s.rights[(h - 1).toNat]? else none) with
    | none => (-1, 9)
    | some r => if r.env ≠ env then (-1, 9) else if lv s.rights (h - 1) then (h - 1, 0) else (-1, 9)

def sweepS (s : RSt) : RSt := { s with slots := s.slots.map fun e => if e.used && !owned s.rights e.env e.fr e.wr then Ent.empty else e }

def addR (s : RSt) (env fr : Int) (wr : Bool) (frm : Int) : RSt := { s with rights := s.rights ++ [⟨s.rights.length + 1, env, fr, wr, frm, false⟩] }

end Go.Proofs.Ytkonobbhohfjlaa
