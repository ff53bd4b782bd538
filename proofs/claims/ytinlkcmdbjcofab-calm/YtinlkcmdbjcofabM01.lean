import Derived.BigQuiet
import Derived.Deep.AppendLies
import Derived.Deep.DeepCutAuto
import Derived.Deep.DeepMust
import Derived.Deep.DrawnRows
import Derived.Deep.LoopGhost
import Derived.Deep.QuietTactic
import Derived.Deep.RegionHeld3
import Derived.KernelRfl
import Derived.Test.YtinlkcmdbjcofabProg
import Derived.WalkKit
import Derived.WalkLawsBesides
import Derived.WalkSpells
import GoSem.Core.Value
/-
  The document's machine, as plain data (no program, no memory).
-/
namespace Go.Proofs.Ytinlkcmdbjcofab
set_option linter.unusedVariables false

/-- A right that was ever made. -/
structure RR where
  h : Int
  env : Int
  fr : Int
  wr : Bool
  frm : Int
  ended : Bool

structure Ent where
  used : Bool
  env : Int
  page : Int
  fr : Int
  wr : Bool

def Ent.empty : Ent := ⟨false, 0, 0, 0, false⟩

/-- A kept memory: its bytes; its accesses, the last one behind; the pages that are in, in the order in which they came in; by page: the handle of its right, whether it is changed, dirty, has ever gone out changed; the counts. -/
structure KSt where
  quota : Int
  policy : Int
  bytes : List Int
  uses : List (Int × Bool)
  inp : List Int
  hnd : List Int
  chg : List Bool
  dty : List Bool
  out : List Bool
  refills : Int
  ins : Int
  outs : Int

structure RSt where
  nf : Nat
  ns : Nat
  ne : Nat
  rights : List RR
  bytes : List (List Int)
  slots : List Ent
  turn : Int
  alive : List Bool
  kept : List (Option KSt)

def RSt.fresh (f s e : Nat) : RSt := ⟨f, s, e, [], List.replicate f [0, 0, 0, 0], List.replicate s Ent.empty, 0, List.replicate e true, List.replicate e none⟩

def I (n : Int) : Value := .int .i64 n
def RR.cells (r : RR) : List Value := [.int .i64 r.h, .int .i64 r.env, .int .i64 r.fr, .bool r.wr, .int .i64 r.frm, .bool r.ended]
def Ent.cells (e : Ent) : List Value := [.bool e.used, .int .i64 e.env, .int .i64 e.page, .int .i64 e.fr, .bool e.wr]

theorem flat_length {α : Type} (f : α → List Value) (k : Nat) (hf : ∀ x, (f x).length = k) (xs : List α) : (xs.flatMap f).length = xs.length * k := by
  induction xs with
  | nil => simp
  | cons x xs ih => simp [hf, ih, Nat.add_mul, Nat.add_comm]

theorem flat_get {α : Type} (f : α → List Value) (k : Nat) (hf : ∀ x, (f x).length = k) (xs : List α) (i j : Nat) (x : α) (hx : xs[i]? = some x) (hj : j < k) :
    (xs.flatMap f)[i * k + j]? = (f x)[j]? := by
  induction xs generalizing i with
  | nil => simp at hx
  | cons y ys ih =>
    cases i with
    | zero =>
      simp at hx
      subst hx
      simp [List.getElem?_append, hf, hj]
    | succ i =>
      simp at hx
      have := ih i hx
      simp only [List.flatMap_cons]
      rw [List.getElem?_append_right (by rw [hf]; simp [Nat.add_mul]; omega), hf]
      rw [show (i + 1) * k + j - k = i * k + j by simp [Nat.add_mul]; omega]
      exact this

end Go.Proofs.Ytinlkcmdbjcofab

/-
  The document's machine as plain functions: which rights are alive, and what each call does.
-/
namespace Go.Proofs.Ytinlkcmdbjcofab
set_option linter.unusedVariables false

/-- Each right comes of an earlier one, or of none. -/
def Ordered (rs : List RR) : Prop := ∀ (i : Nat) (r : RR), rs[i]? = some r → -1 ≤ r.frm ∧ r.frm < i

def lvF (rs : List RR) : Nat → Int → Bool
  | 0, _ => true
  | n + 1, i => if i < 0 then true else match rs[i.toNat]? with
    | none => true
    | some r => if r.ended then false else lvF rs n r.frm

/-- Is the right at place i alive? -/
def lv (rs : List RR) (i : Int) : Bool := lvF rs (i + 1).toNat i

theorem lvF_enough {rs : List RR} (ho : Ordered rs) : ∀ (n m : Nat) (i : Int), (i + 1).toNat ≤ n → (i + 1).toNat ≤ m → lvF rs n i = lvF rs m i := by
  intro n
  induction n with
  | zero =>
    intro m i h1 _
    have : i < 0 := by omega
    cases m <;> simp [lvF, this]
  | succ n ih =>
    intro m i h1 h2
    by_cases hi : i < 0
    · cases m <;> simp [lvF, hi]
    · cases m with
      | zero => omega
      | succ m =>
        simp only [lvF, if_neg hi]
        cases hr : rs[i.toNat]? with
        | none => rfl
        | some r =>
          have := ho _ _ hr
          by_cases he : r.ended <;> simp [he]
          exact ih m r.frm (by omega) (by omega)

theorem lv_neg {rs : List RR} {i : Int} (h : i < 0) : lv rs i = true := by
  unfold lv; rw [show (i + 1).toNat = 0 by omega]; rfl

theorem lv_step {rs : List RR} (ho : Ordered rs) {i : Nat} {r : RR} (hr : rs[i]? = some r) : lv rs i = (!r.ended && lv rs r.frm) := by
  have := ho _ _ hr
  unfold lv
  rw [show ((i : Int) + 1).toNat = i + 1 by omega]
  simp only [lvF, Int.toNat_natCast, hr]
  rw [if_neg (by omega)]
  cases r.ended
  · simp only [Bool.false_eq_true, if_false, Bool.not_false, Bool.true_and]
    exact lvF_enough ho _ _ _ (by omega) (by omega)
  · simp

/-- How many of the first n are alive. -/
def cntTo (rs : List RR) (n : Nat) : Nat := ((List.range n).filter fun i : Nat => lv rs i).length
def cnt (rs : List RR) : Nat := cntTo rs rs.length
theorem cntTo_succ (rs : List RR) (n : Nat) : cntTo rs (n + 1) = cntTo rs n + if lv rs n then 1 else 0 := by
  unfold cntTo
  rw [List.range_succ, List.filter_append]
  cases h : lv rs n <;> simp [h]
theorem cntTo_le (rs : List RR) (n : Nat) : cntTo rs n ≤ n := by
  unfold cntTo
  have := List.length_filter_le (fun i : Nat => lv rs i) (List.range n)
  simpa using this

/-- Is right i alive, one of env to frame, by which one may write if that is asked? -/
def ownsB (rs : List RR) (env fr : Int) (wr : Bool) (i : Nat) : Bool := match rs[i]? with
  | none => false
  | some r => lv rs i && (r.env == env && (r.fr == fr && (r.wr || !wr)))
def owned (rs : List RR) (env fr : Int) (wr : Bool) : Bool := (List.range rs.length).any (ownsB rs env fr wr)

def freeB (s : RSt) (f : Nat) : Bool := !(List.range s.ne).any fun e => owned s.rights e f false
/-- The least free frame; nf, if there is none. -/
def leastFree (s : RSt) : Option Nat := (List.range s.nf).find? (freeB s)

def aliveB (s : RSt) (env : Int) : Bool := decide (0 ≤ env) && (decide (env < s.ne) && s.alive[env.toNat]?.getD false)

/-- The kept memory of an environment, if it is kept. -/
def keptO (s : RSt) (env : Int) : Option KSt := (s.kept[env.toNat]?).getD none
def keptB (s : RSt) (env : Int) : Bool := (keptO s env).isSome
/-- The error of an environment that must be alive. -/
def liveE (s : RSt) (env : Int) : Int := if aliveB s env then 0 else 2
/-- The error of an environment that must be alive and raw. -/
def rawE (s : RSt) (env : Int) : Int := if aliveB s env then (if keptB s env then 4 else 0) else 2
/-- The error of an environment that must be alive and kept. -/
def heldE (s : RSt) (env : Int) : Int := if aliveB s env then (if keptB s env then 0 else 5) else 2

theorem rawE_cases (s : RSt) (env : Int) : (∃ y, rawE s env = y ∧ (y = 2 ∨ y = 4)) ∨ (rawE s env = 0 ∧ aliveB s env = true) := by
  unfold rawE
  cases aliveB s env with
  | false => exact .inl ⟨2, by simp, .inl rfl⟩
  | true =>
    cases keptB s env with
    | false => exact .inr (by simp)
    | true => exact .inl ⟨4, by simp, .inr rfl⟩
theorem liveE_cases (s : RSt) (env : Int) : (liveE s env = 2 ∧ aliveB s env = false) ∨ (liveE s env = 0 ∧ aliveB s env = true) := by
  unfold liveE
  cases aliveB s env <;> simp
theorem rawE_nok {s : RSt} {env : Int} (h : keptB s env = false) : rawE s env = liveE s env := by
  unfold rawE liveE
  rw [h]
  rfl

/-- The right that a call names: its place and the error. -/
def rightE (s : RSt) (env h : Int) : Int × Int :=
  if rawE s env ≠ 0 then (-1, rawE s env)
  else match (if 1 ≤ h ∧ h ≤ s.rights.length then s.rights[(h - 1).toNat]? else none) with
    | none => (-1, 9)
    | some r => if r.env ≠ env then (-1, 9) else if lv s.rights (h - 1) then (h - 1, 0) else (-1, 9)

def sweepS (s : RSt) : RSt := { s with slots := s.slots.map fun e => if e.used && !owned s.rights e.env e.fr e.wr then Ent.empty else e }

def addR (s : RSt) (env fr : Int) (wr : Bool) (frm : Int) : RSt := { s with rights := s.rights ++ [⟨s.rights.length + 1, env, fr, wr, frm, false⟩] }

end Go.Proofs.Ytinlkcmdbjcofab

/-
  The ground of this seat's walks: small laws on worlds, said of whole blocks.
-/
namespace Go.Proofs.Ytinlkcmdbjcofab
open Go.RowKit
set_option linter.unusedVariables false

/-- Block b holds just the cells cs, of element type t, none of them frozen. -/
def Blk (w : World) (b : Nat) (cs : List Value) (t : TypeId) : Prop := w.heap[b]? = some (.cells cs.toArray t (0, 0))

theorem Blk.lt {w : World} {b : Nat} {cs : List Value} {t : TypeId} (h : Blk w b cs t) : b < w.heap.size := by
  unfold Blk at h
  exact (Array.getElem?_eq_some_iff.1 h).1

theorem Blk.cell {w : World} {b : Nat} {cs : List Value} {t : TypeId} (h : Blk w b cs t) (j : Nat) : w.cell? ⟨b, j, none⟩ = cs[j]? := by
  rw [cell_of_row w b j _ t (0, 0) h]; simp

theorem Blk.frozen {w : World} {b : Nat} {cs : List Value} {t : TypeId} (h : Blk w b cs t) (j : Nat) : w.frozen? ⟨b, j, none⟩ = false :=
  frozen_of_row w b j _ t h

theorem Blk.of {w w' : World} {b : Nat} {cs : List Value} {t : TypeId} (h : Blk w b cs t) (hb : w'.heap[b]? = w.heap[b]?) : Blk w' b cs t := hb.trans h

theorem Blk.drew {w : World} {b : Nat} {cs : List Value} {t : TypeId} (h : Blk w b cs t) : Blk w.drew b cs t := h

theorem Blk.alloc {w : World} {b : Nat} {cs : List Value} {t : TypeId} (h : Blk w b cs t) (o : Obj) : Blk (w.alloc o) b cs t :=
  h.of (Below.heap_alloc w o b h.lt)

theorem Blk.new (w : World) (cs : List Value) (t : TypeId) : Blk (w.alloc (.cells cs.toArray t)) w.heap.size cs t := heap_alloc_new w _

theorem Blk.at (w : World) (cs : List Value) (t : TypeId) (n : Nat) (hn : n = w.heap.size) : Blk (w.alloc (.cells cs.toArray t)) n cs t := by subst hn; exact Blk.new w cs t

theorem Blk.below {w w' : World} {b B : Nat} {cs : List Value} {t : TypeId} (h : Blk w b cs t) (hb : Below B w w') (hlt : b < B) : Blk w' b cs t :=
  h.of (hb.block b hlt)

theorem Blk.set {w : World} {b : Nat} {cs : List Value} {t : TypeId} (h : Blk w b cs t) (j : Nat) (v : Value) : Blk (w.setCell ⟨b, j, none⟩ v) b (cs.set j v) t := by
  unfold Blk
  rw [heap_setCell_same w b j _ t v h]; simp

theorem Blk.other {w : World} {b : Nat} {cs : List Value} {t : TypeId} (h : Blk w b cs t) {a : Addr} (v : Value) (hne : b ≠ a.block) : Blk (w.setCell a v) b cs t :=
  h.of (heap_setCell_other w a b v hne)

theorem Blk.same {w : World} {b : Nat} {cs ds : List Value} {t u : TypeId} (h : Blk w b cs t) (k : Blk w b ds u) : cs = ds ∧ t = u := by
  unfold Blk at h k
  rw [h] at k
  simp at k
  exact ⟨by simpa using k.1, k.2⟩

/-- Of the blocks below B only those of which S holds may have turned. -/
structure Touch (B : Nat) (S : Nat → Prop) (w w' : World) : Prop where
  os : w'.os = w.os
  tape : w'.tape = w.tape
  output : w'.output = w.output
  size : w.heap.size ≤ w'.heap.size
  block : ∀ k, k < B → ¬ S k → w'.heap[k]? = w.heap[k]?

theorem Touch.refl (B : Nat) (S : Nat → Prop) (w : World) : Touch B S w w := ⟨rfl, rfl, rfl, Nat.le_refl _, fun _ _ _ => rfl⟩
theorem Touch.trans {B : Nat} {S : Nat → Prop} {a b c : World} (h : Touch B S a b) (k : Touch B S b c) : Touch B S a c :=
  ⟨k.os.trans h.os, k.tape.trans h.tape, k.output.trans h.output, Nat.le_trans h.size k.size, fun i hi hn => (k.block i hi hn).trans (h.block i hi hn)⟩
theorem Touch.mono {B B' : Nat} {S S' : Nat → Prop} {w w' : World} (h : Touch B S w w') (hB : B' ≤ B) (hf : ∀ k, k < B' → S k → S' k) : Touch B' S' w w' :=
  ⟨h.os, h.tape, h.output, h.size, fun k hk hn => h.block k (by omega) (fun hm => hn (hf k hk hm))⟩
theorem Touch.drew {B : Nat} {S : Nat → Prop} {a w : World} (h : Touch B S a w) : Touch B S a w.drew := ⟨h.os, h.tape, h.output, h.size, h.block⟩
theorem Touch.of_below {B : Nat} {w w' : World} (h : Below B w w') (S : Nat → Prop) : Touch B S w w' := ⟨h.os, h.tape, h.output, h.size, fun k hk _ => h.block k hk⟩
theorem Touch.below {B : Nat} {S : Nat → Prop} {w w' : World} (h : Touch B S w w') (hS : ∀ k, k < B → ¬ S k) : Below B w w' := ⟨h.os, h.tape, h.output, h.size, fun k hk => h.block k hk (hS k hk)⟩
theorem Touch.alloc {B : Nat} {S : Nat → Prop} {a w : World} (h : Touch B S a w) (hB : B ≤ w.heap.size) (o : Obj) : Touch B S a (w.alloc o) :=
  h.trans (Touch.of_below ((Below.refl _ _).alloc hB o) S)
theorem Touch.setCell {B : Nat} {S : Nat → Prop} {a w : World} (h : Touch B S a w) {p : Addr} (hp : S p.block ∨ B ≤ p.block) (u : Value) : Touch B S a (w.setCell p u) :=
  h.trans ⟨rfl, rfl, rfl, by simp [World.setCell], fun k hk hn => Below.heap_setCell _ _ _ _ (by rcases hp with hp | hp; exact fun e => hn (e ▸ hp); omega)⟩
theorem Touch.grown {B : Nat} {S : Nat → Prop} {a w w' : World} {row : Option Nat} (h : Touch B S a w) (hg : w.grownBy w' row) (hB : B ≤ w.heap.size) (hr : ∀ k, row = some k → S k ∨ B ≤ k) : Touch B S a w' :=
  h.trans ⟨hg.os, hg.tape, hg.output, hg.size, fun k hk hn => hg.block k (by omega) (fun e => by rcases hr k e.symm with h | h; exact hn h; omega)⟩
/-- A read-only call behind a touching one. -/
theorem Touch.then_below {B : Nat} {S : Nat → Prop} {a b c : World} (h : Touch B S a b) (k : Below b.heap.size b c) (hB : B ≤ b.heap.size) : Touch B S a c :=
  h.trans (Touch.of_below (k.mono hB) S)

theorem Blk.grown {w w' : World} {b : Nat} {cs : List Value} {t : TypeId} {row : Option Nat} (h : Blk w b cs t) (hg : w.grownBy w' row) (hn : row ≠ some b) : Blk w' b cs t :=
  h.of (hg.block b h.lt (fun e => hn e.symm))

/-- A slice whose whole row is its own: n elements of k cells each; xs: all their cells. -/
def Row (w : World) (v : Value) (e k n : Nat) (xs : List Value) : Prop := w.ownsRow 0 e k v n xs
/-- The row's block, if it has one, bears the mark t. -/
def Tg (own : Nat → Nat × Nat) (v : Value) (t : Nat × Nat) : Prop := ∀ b, v.ownBlock = some b → own b = t

theorem Tg.nil (own : Nat → Nat × Nat) (t : Nat × Nat) : Tg own (.slice none 0 0) t := by intro b h; simp [Value.ownBlock] at h
theorem Tg.congr {own own' : Nat → Nat × Nat} {v : Value} {t : Nat × Nat} {w : World} {e k n : Nat} {xs : List Value} (h : Tg own v t) (hr : Row w v e k n xs) (ho : ∀ b, b < w.heap.size → own' b = own b) : Tg own' v t :=
  fun b hb => (ho b (World.ownsRow.lt hr b hb).2).trans (h b hb)
theorem Tg.mk {own : Nat → Nat × Nat} {t : Nat × Nat} {g n cap : Nat} (h : own g = t) : Tg own (.slice (some ⟨g, 0, none⟩) n cap) t := by
  intro b hb; simp [Value.ownBlock] at hb; exact hb ▸ h

theorem Row.nil (w : World) (e k : Nat) : Row w (.slice none 0 0) e k 0 [] := World.ownsRow_nil w 0 e k
theorem Row.of {w w' : World} {v : Value} {e k n : Nat} {xs : List Value} (h : Row w v e k n xs) (hb : ∀ b, v.ownBlock = some b → w'.heap[b]? = w.heap[b]?) : Row w' v e k n xs := by
  refine ⟨h.1, ?_⟩
  rcases h.2 with hn | ⟨g, cap, cur, rfl, hb0, hgg, rest⟩
  · exact .inl hn
  · exact .inr ⟨g, cap, cur, rfl, hb0, (hb g (by simp [Value.ownBlock])).trans hgg, rest⟩
theorem Row.lt {w : World} {v : Value} {e k n : Nat} {xs : List Value} (h : Row w v e k n xs) : ∀ b, v.ownBlock = some b → b < w.heap.size :=
  fun b hb => (World.ownsRow.lt h b hb).2
theorem Row.drew {w : World} {v : Value} {e k n : Nat} {xs : List Value} (h : Row w v e k n xs) : Row w.drew v e k n xs := h
theorem Row.alloc {w : World} {v : Value} {e k n : Nat} {xs : List Value} (h : Row w v e k n xs) (o : Obj) : Row (w.alloc o) v e k n xs := World.ownsRow.alloc h o
theorem Row.other {w : World} {v : Value} {e k n : Nat} {xs : List Value} (h : Row w v e k n xs) {a : Addr} (u : Value) (hn : v.ownBlock ≠ some a.block) : Row (w.setCell a u) v e k n xs :=
  h.of fun b hb => Below.heap_setCell _ _ _ _ (fun e => hn (e ▸ hb))
/-- What bears the mark t has not turned. -/
theorem Row.kept {own : Nat → Nat × Nat} {t : Nat × Nat} {w w' : World} {v : Value} {e k n : Nat} {xs : List Value} (h : Row w v e k n xs) (ht : Tg own v t) (hk : ∀ b, b < w.heap.size → own b = t → w'.heap[b]? = w.heap[b]?) : Row w' v e k n xs :=
  h.of fun b hb => hk b (h.lt b hb) (ht b hb)
theorem Row.below {w w' : World} {v : Value} {e k n : Nat} {xs : List Value} (h : Row w v e k n xs) (ht : Below w.heap.size w w') : Row w' v e k n xs :=
  h.of fun b hb => ht.block b (h.lt b hb)
theorem Row.set {w : World} {g e k n cap : Nat} {xs : List Value} (h : Row w (.slice (some ⟨g, 0, none⟩) n cap) e k n xs) (j : Nat) (u : Value) :
    Row (w.setCell ⟨g, j, none⟩ u) (.slice (some ⟨g, 0, none⟩) n cap) e k n (xs.set j u) := (World.ownsRow.stored h j u).1
/-- What a slice looks like, and its cells. -/
theorem Row.form {w : World} {v : Value} {e k n : Nat} {xs : List Value} (h : Row w v e k n xs) (hn : 0 < n) :
    ∃ g cap, v = .slice (some ⟨g, 0, none⟩) n cap ∧ (∀ j, j < n * k → w.cell? ⟨g, j, none⟩ = xs[j]?) ∧ ∀ j, w.frozen? ⟨g, j, none⟩ = false := by
  obtain ⟨g, cap, rfl, _, _⟩ := World.ownsRow.form h hn
  exact ⟨g, cap, rfl, fun j hj => World.ownsRow.cellAt h j hj, fun j => World.ownsRow.frozenAt h j⟩
/-- The shape, n whatever it is. -/
theorem Row.view {w : World} {v : Value} {e k n : Nat} {xs : List Value} (h : Row w v e k n xs) :
    ∃ ao cap g, v = .slice ao n cap ∧ (0 < n → ao = some ⟨g, 0, none⟩) ∧ (∀ j, j < n * k → w.cell? ⟨g, j, none⟩ = xs[j]?) ∧ (0 < n → ∀ j, w.frozen? ⟨g, j, none⟩ = false) ∧ n ≤ maxLen := by
  rcases h.2 with ⟨hv, hn⟩ | ⟨g, cap, cur, hv, _, _, h1, h2, _⟩
  · subst hn
    exact ⟨none, 0, 0, hv, by omega, fun j hj => by simp at hj, by omega, by simp [maxLen]⟩
  · subst hv
    exact ⟨_, cap, g, rfl, fun _ => rfl, fun j hj => World.ownsRow.cellAt h j hj, fun _ j => World.ownsRow.frozenAt h j, by omega⟩
theorem Row.len {w : World} {v : Value} {e k n : Nat} {xs : List Value} (h : Row w v e k n xs) : xs.length = n * k := h.1

/-- Both machines' test of a config. -/
def mayB (a b c : Int) : Bool := decide (1 ≤ a ∧ a ≤ 16 ∧ 1 ≤ b ∧ b ≤ 8 ∧ 1 ≤ c ∧ c ≤ 4)

theorem mayB_nat {a b c : Int} (h : mayB a b c = true) : ∃ f s e : Nat, a = f ∧ b = s ∧ c = e ∧ 1 ≤ f ∧ f ≤ 16 ∧ 1 ≤ s ∧ s ≤ 8 ∧ 1 ≤ e ∧ e ≤ 4 := by
  simp [mayB] at h
  exact ⟨a.toNat, b.toNat, c.toNat, by omega, by omega, by omega, by omega, by omega, by omega, by omega, by omega, by omega⟩

theorem ret_bool {a b : Bool} (h : a = b) : Ending.returned (.bool a) = .returned (.bool b) := by rw [h]

end Go.Proofs.Ytinlkcmdbjcofab

/-
  How the document's machine lies in memory.
-/
namespace Go.Proofs.Ytinlkcmdbjcofab
open Go.RowKit
set_option linter.unusedVariables false

def sl4 (b : Nat) : Value := .slice (some ⟨b, 0, none⟩) 4 4

def set1 (own : Nat → Nat × Nat) (b : Nat) (t : Nat × Nat) : Nat → Nat × Nat := fun x => if x = b then t else own x
theorem set1_old {own : Nat → Nat × Nat} {b : Nat} {t : Nat × Nat} {n : Nat} (h : n ≤ b) : ∀ x, x < n → set1 own b t x = own x := by
  intro x hx; simp [set1]; omega
theorem set1_at (own : Nat → Nat × Nat) (b : Nat) (t : Nat × Nat) : set1 own b t b = t := by simp [set1]

theorem Tg.app {own : Nat → Nat × Nat} {v : Value} {t : Nat × Nat} {H g n cap : Nat} (ht : Tg own v t) (hlt : ∀ b, v.ownBlock = some b → b < H) (hat : v.ownBlock = some g ∨ g = H) :
    Tg (set1 own H t) (.slice (some ⟨g, 0, none⟩) n cap) t := by
  refine Tg.mk ?_
  rcases hat with h | h
  · have := hlt g h
    simp [set1]
    intro _
    exact ht g h
  · subst h; exact set1_at _ _ _

/-- Behind an append to a field's row and the store into the field: what is neither the struct's nor that row's is as it was. -/
theorem app_keep {own : Nat → Nat × Nat} {w w2 w1 : World} {m : Nat} {vX v' : Value} {t0 t : Nat × Nat} {a : Addr} (tm : own m = t0) (tX : Tg own vX t) (h2 : Below w.heap.size w w2)
    (hg : w2.grownBy w1 vX.ownBlock) (ha : a.block = m) : ∀ b, b < w.heap.size → own b ≠ t0 → own b ≠ t → (w1.setCell a v').heap[b]? = w.heap[b]? := by
  intro b hb n0 nt
  rw [heap_setCell_other w1 a b v' (by rw [ha]; intro e; subst e; exact n0 tm), hg.block b (Nat.lt_of_lt_of_le hb h2.size) (fun e => nt (tX b e.symm)), h2.block b hb]

section
variable {own own' : Nat → Nat × Nat} {id : Nat} {w W : World} {m : Nat} {s : RSt} {nk : Nat} {vR vB vS vA vK v' : Value} {bs : List Nat}

end

end Go.Proofs.Ytinlkcmdbjcofab

namespace Go.Proofs.Ytinlkcmdbjcofab
open Go.RowKit
set_option linter.unusedVariables false

theorem Try.infoInts : (Try.prog.info? 37).map (fun i => (i.zero, i.size, i.bytes)) = some (some (.slice none 0 0), 1, 24) := by kernel_rfl
theorem Try.infoEntry : (Try.prog.info? 80).map (fun i => (i.zero, i.size, i.bytes)) = some (some (.agg #[.bool false, .int .i64 0, .int .i64 0, .int .i64 0, .bool false]), 5, 40) := by kernel_rfl
theorem Try.infoBool : (Try.prog.info? 4).map (fun i => (i.zero, i.size, i.bytes)) = some (some (.bool false), 1, 1) := by kernel_rfl
/-- The document's machine while it is made. -/
def mk (f s e r1 r2 r3 : Nat) : RSt := ⟨f, s, e, [], List.replicate r1 [0, 0, 0, 0], List.replicate r2 Ent.empty, 0, List.replicate r3 true, List.replicate e none⟩

section
variable {own : Nat → Nat × Nat} {id : Nat} {w w1 : World} {m : Nat} {s : RSt} {nk : Nat} {vR vB vS vA vK : Value} {bs : List Nat} {g cap : Nat}

/-- The row behind an append and the store into the struct. -/
theorem Row.field {e k n : Nat} {xs : List Value} {v : Value} {t : Nat × Nat} {j : Nat} {u : Value} {H : Nat} (hown : w1.ownsRow 0 e k (.slice (some ⟨g, 0, none⟩) n cap) n xs) (tm : own m = (id, 0)) (tv : Tg own v t) (ht : t ≠ (id, 0))
    (hat : v.ownBlock = some g ∨ g = H) (hm : m < H) : Row (w1.setCell ⟨m, j, none⟩ u) (.slice (some ⟨g, 0, none⟩) n cap) e k n xs := by
  refine Row.other (w := w1) hown u (fun e => ?_)
  simp [Value.ownBlock] at e
  rcases hat with h | h
  · have h3 := tv g h; rw [e, tm] at h3; exact ht h3.symm
  · omega

/-- A block with a mark of id lies at or behind b0, where no block below b0 has one. -/
theorem above {own0 : Nat → Nat × Nat} {b0 k j : Nat} (hid : ∀ b, b < b0 → (own0 b).1 ≠ id) (ho : ∀ b, b < b0 → own b = own0 b) (hx : (own b0).1 ≠ id) (hk : own k = (id, j)) : b0 + 1 ≤ k := by
  rcases Nat.lt_or_ge k (b0 + 1) with h | h
  · exfalso
    rcases Nat.lt_or_ge k b0 with h' | h'
    · rw [ho k h'] at hk; exact hid k h' (by rw [hk])
    · obtain rfl : k = b0 := by omega
      exact hx (by rw [hk])
  · exact h
end

theorem oneCell_sl4 (b : Nat) : ∀ u ∈ [sl4 b], u.oneCell' = true := by intro u hu; simp at hu; subst hu; rfl

end Go.Proofs.Ytinlkcmdbjcofab

/-
  How the document's machine lies in memory.
-/
namespace Go.Proofs.Ytinlkcmdbjcofab
open Go.RowKit
set_option linter.unusedVariables false

def kptr (x : Option Nat) : Value := match x with
  | none => .pointer none
  | some b => .pointer (some ⟨b, 0, none⟩)
def ucells (u : Int × Bool) : List Value := [.int .i64 u.1, .bool u.2]
/-- The marks of what belongs to the kept memory of environment i. -/
def kt (i j : Nat) : Nat := 7 + 2 * (16 * i + j)
def KSt.cells (k : KSt) (vB vU vI vY vC vD vO : Value) : List Value := [.int .i64 k.quota, .int .i64 k.policy, vB, vU, vI, vY, vC, vD, vO, .int .i64 k.refills, .int .i64 k.ins, .int .i64 k.outs, .int .i64 0]

section
variable {own own' : Nat → Nat × Nat} {id : Nat} {w W : World} {m : Nat} {s : RSt} {nk : Nat} {vR vB vS vA vK v' : Value} {bs : List Nat}

end

end Go.Proofs.Ytinlkcmdbjcofab

/-
  What the document's machine answers: the calls that only look.
-/
namespace Go.Proofs.Ytinlkcmdbjcofab
open Go.RowKit
set_option linter.unusedVariables false

section
variable {own : Nat → Nat × Nat} {id : Nat} {w : World} {m : Nat} {s : RSt} {nk : Nat} {vR vB vS vA vK : Value} {bs : List Nat}

theorem ret_int {a b : Int} (h : a = b) : Ending.returned (.int .i64 a) = .returned (.int .i64 b) := by rw [h]

theorem ownsB_at {rs : List RR} {i : Nat} {r : RR} (hr : rs[i]? = some r) (env fr : Int) (wr : Bool) : ownsB rs env fr wr i = (lv rs i && (r.env == env && (r.fr == fr && (r.wr || !wr)))) := by
  unfold ownsB; rw [hr]

theorem aliveB_nat {s : RSt} {env : Int} (h : aliveB s env = true) : ∃ j : Nat, env = j ∧ j < s.ne := by
  simp [aliveB] at h
  exact ⟨env.toNat, by omega, by omega⟩

end
end Go.Proofs.Ytinlkcmdbjcofab

namespace Go.Proofs.Ytinlkcmdbjcofab
open Go.RowKit
set_option linter.unusedVariables false

section
variable {own : Nat → Nat × Nat} {id : Nat} {w : World} {m : Nat} {s : RSt} {nk : Nat} {vR vB vS vA vK : Value} {bs : List Nat}

theorem ret_int2 {a b c d : Int} (h : a = c) (h' : b = d) : Ending.returned (.tuple #[.int .i64 a, .int .i64 b]) = .returned (.tuple #[.int .i64 c, .int .i64 d]) := by rw [h, h']

end
end Go.Proofs.Ytinlkcmdbjcofab

namespace Go.Proofs.Ytinlkcmdbjcofab
open Go.RowKit
set_option linter.unusedVariables false

section
variable {own : Nat → Nat × Nat} {id : Nat} {w : World} {m : Nat} {s : RSt} {nk : Nat} {vR vB vS vA vK : Value} {bs : List Nat}

def usedTo (s : RSt) (f e : Nat) : Bool := (List.range e).any fun e => owned s.rights e f false
theorem usedTo_succ (s : RSt) (f e : Nat) : usedTo s f (e + 1) = (usedTo s f e || owned s.rights e f false) := by simp [usedTo, List.range_succ]

/-- The least free frame as 'free' answers it. -/
def freeE (s : RSt) : Int := match leastFree s with
  | some f => f
  | none => -1

theorem leastFree_some {s : RSt} {f : Nat} (hlt : f < s.nf) (hno : ∀ g, g < f → freeB s g = false) (hy : freeB s f = true) : leastFree s = some f := by
  unfold leastFree
  rw [List.find?_range_eq_some]
  exact ⟨hy, List.mem_range.2 hlt, fun j hj => by simpa using hno j hj⟩
theorem leastFree_none {s : RSt} (hno : ∀ g, g < s.nf → freeB s g = false) : leastFree s = none := by
  unfold leastFree
  rw [List.find?_eq_none]
  intro x hx
  simp [hno x (List.mem_range.1 hx)]

theorem oneCell_right (r : RR) : ∀ u ∈ r.cells, u.oneCell' = true := by
  intro u hu; simp [RR.cells] at hu; rcases hu with rfl | rfl | rfl | rfl | rfl | rfl <;> rfl

theorem Touch.next {own own' : Nat → Nat × Nat} {id : Nat} {w w1 w2 : World} (h1 : Touch w.heap.size (fun b => (own b).1 = id) w w1) (ho : ∀ b, b < w.heap.size → own' b = own b) (h2 : Touch w1.heap.size (fun b => (own' b).1 = id) w1 w2) :
    Touch w.heap.size (fun b => (own b).1 = id) w w2 :=
  h1.trans (h2.mono h1.size (fun k hk hs => by rw [ho k hk] at hs; exact hs))

end
end Go.Proofs.Ytinlkcmdbjcofab

namespace Go.Proofs.Ytinlkcmdbjcofab
open Go.RowKit
set_option linter.unusedVariables false

theorem flat_at {α : Type} (f : α → List Value) (k : Nat) (hk : 0 < k) (hf : ∀ x, (f x).length = k) (xs : List α) (p : Nat) : (xs.flatMap f)[p]? = (xs[p / k]?).bind fun x => (f x)[p % k]? := by
  cases hx : xs[p / k]? with
  | none =>
    have h1 : xs.length ≤ p / k := List.getElem?_eq_none_iff.1 hx
    have h2 : xs.length * k ≤ p := Nat.le_trans (Nat.mul_le_mul_right k h1) (Nat.div_mul_le_self p k)
    rw [List.getElem?_eq_none (by rw [flat_length f k hf]; exact h2)]; rfl
  | some x =>
    have h3 : p = p / k * k + p % k := by rw [Nat.mul_comm]; exact (Nat.div_add_mod p k).symm
    show _ = (f x)[p % k]?
    conv => lhs; rw [h3]
    exact flat_get f k hf xs _ _ x hx (Nat.mod_lt _ hk)

section
variable {own : Nat → Nat × Nat} {id : Nat} {w : World} {m : Nat} {s : RSt} {nk : Nat} {vR vB vS vA vK : Value} {bs : List Nat}

/-- 'first': a first right of env, if one can be made. -/
def firstS (s : RSt) (env : Int) : Option RSt := match leastFree s with
  | some f => if cnt s.rights < 32 then some (addR { s with bytes := s.bytes.set f [0, 0, 0, 0] } env f true (-1)) else none
  | none => none

theorem leastFree_lt {s : RSt} {f : Nat} (h : leastFree s = some f) : f < s.nf := by
  have := List.mem_of_find?_eq_some h
  simpa using this

end
end Go.Proofs.Ytinlkcmdbjcofab

namespace Go.Proofs.Ytinlkcmdbjcofab
open Go.RowKit
set_option linter.unusedVariables false

/-- An entry that has lost its backing is gone. -/
def swE (s : RSt) (e : Ent) : Ent := if e.used && !owned s.rights e.env e.fr e.wr then Ent.empty else e
/-- The first q slots swept. -/
def swTo (s : RSt) (q : Nat) : List Ent := (s.slots.take q).map (swE s) ++ s.slots.drop q
theorem swTo_len (s : RSt) (q : Nat) : (swTo s q).length = s.slots.length := by simp [swTo]; omega
theorem swTo_at (s : RSt) (q : Nat) : (swTo s q)[q]? = s.slots[q]? := by
  unfold swTo
  by_cases h : q < s.slots.length
  · rw [List.getElem?_append_right (by simp; omega)]
    simp only [List.length_map, List.length_take, List.getElem?_drop]
    rw [show q + (q - min q s.slots.length) = q by omega]
  · rw [List.getElem?_eq_none (by simp; omega), List.getElem?_eq_none (by omega)]
theorem swTo_succ (s : RSt) (q : Nat) (e : Ent) (h : s.slots[q]? = some e) : swTo s (q + 1) = (swTo s q).set q (swE s e) := by
  have hq := (List.getElem?_eq_some_iff.1 h).1
  have he : s.slots[q] = e := (List.getElem?_eq_some_iff.1 h).2
  unfold swTo
  rw [List.take_succ_eq_append_getElem hq, List.set_append_right _ _ (by simp; omega)]
  simp only [List.map_append, List.map_cons, List.map_nil, List.length_map, List.length_take, List.append_assoc]
  rw [show q - min q s.slots.length = 0 by omega, List.drop_eq_getElem_cons hq, he]
  rfl
theorem swTo_all (s : RSt) : { s with slots := swTo s s.slots.length } = sweepS s := by
  simp [swTo, sweepS, swE]
theorem swTo_same (s : RSt) (q : Nat) (e : Ent) (h : s.slots[q]? = some e) (he : swE s e = e) : swTo s (q + 1) = swTo s q := by
  rw [swTo_succ s q e h, he]
  have hg := (swTo_at s q).trans h
  obtain ⟨hlt, hx⟩ := List.getElem?_eq_some_iff.1 hg
  conv => lhs; rw [← hx]
  exact List.set_getElem_self hlt

section
variable {own : Nat → Nat × Nat} {id : Nat} {w : World} {m : Nat} {s : RSt} {nk : Nat} {vR vB vS vA vK : Value} {bs : List Nat}

theorem flat_set5 (xs : List Ent) (i : Nat) (e : Ent) (hi : i < xs.length) :
    (xs.set i e).flatMap Ent.cells = (((((xs.flatMap Ent.cells).set (i * 5) (.bool e.used)).set (i * 5 + 1) (.int .i64 e.env)).set (i * 5 + 2) (.int .i64 e.page)).set (i * 5 + 3) (.int .i64 e.fr)).set (i * 5 + 4) (.bool e.wr) := by
  apply List.ext_getElem?
  intro p
  have hl := flat_length Ent.cells 5 (fun _ => rfl) xs
  rw [flat_at Ent.cells 5 (by omega) (fun _ => rfl)]
  simp only [List.getElem?_set, List.length_set, hl]
  by_cases hp : p / 5 = i
  · have h5 : p % 5 = 0 ∨ p % 5 = 1 ∨ p % 5 = 2 ∨ p % 5 = 3 ∨ p % 5 = 4 := by omega
    rw [if_pos hp.symm, if_pos (by omega)]
    rcases h5 with h | h | h | h | h
    · rw [if_neg (by omega), if_neg (by omega), if_neg (by omega), if_neg (by omega), if_pos (by omega), if_pos (by omega), h]; rfl
    · rw [if_neg (by omega), if_neg (by omega), if_neg (by omega), if_pos (by omega), if_pos (by omega), h]; rfl
    · rw [if_neg (by omega), if_neg (by omega), if_pos (by omega), if_pos (by omega), h]; rfl
    · rw [if_neg (by omega), if_pos (by omega), if_pos (by omega), h]; rfl
    · rw [if_pos (by omega), if_pos (by omega), h]; rfl
  · rw [if_neg (fun e => hp e.symm), if_neg (by omega), if_neg (by omega), if_neg (by omega), if_neg (by omega), if_neg (by omega), flat_at Ent.cells 5 (by omega) (fun _ => rfl)]

end
end Go.Proofs.Ytinlkcmdbjcofab

namespace Go.Proofs.Ytinlkcmdbjcofab
open Go.RowKit
set_option linter.unusedVariables false

def mapTo {α : Type} (f : α → α) (xs : List α) (q : Nat) : List α := (xs.take q).map f ++ xs.drop q
section
variable {α : Type} (f : α → α) (xs : List α) (q : Nat)
theorem mapTo_zero : mapTo f xs 0 = xs := by simp [mapTo]
theorem mapTo_len : (mapTo f xs q).length = xs.length := by simp [mapTo]; omega
theorem mapTo_at : (mapTo f xs q)[q]? = xs[q]? := by
  unfold mapTo
  by_cases h : q < xs.length
  · rw [List.getElem?_append_right (by simp; omega)]
    simp only [List.length_map, List.length_take, List.getElem?_drop]
    rw [show q + (q - min q xs.length) = q by omega]
  · rw [List.getElem?_eq_none (by simp; omega), List.getElem?_eq_none (by omega)]
theorem mapTo_succ (e : α) (h : xs[q]? = some e) : mapTo f xs (q + 1) = (mapTo f xs q).set q (f e) := by
  have hq := (List.getElem?_eq_some_iff.1 h).1
  have he : xs[q] = e := (List.getElem?_eq_some_iff.1 h).2
  unfold mapTo
  rw [List.take_succ_eq_append_getElem hq, List.set_append_right _ _ (by simp; omega)]
  simp only [List.map_append, List.map_cons, List.map_nil, List.length_map, List.length_take, List.append_assoc]
  rw [show q - min q xs.length = 0 by omega, List.drop_eq_getElem_cons hq, he]
  rfl
theorem mapTo_same (e : α) (h : xs[q]? = some e) (he : f e = e) : mapTo f xs (q + 1) = mapTo f xs q := by
  rw [mapTo_succ f xs q e h, he]
  have hg := (mapTo_at f xs q).trans h
  obtain ⟨hlt, hx⟩ := List.getElem?_eq_some_iff.1 hg
  conv => lhs; rw [← hx]
  exact List.set_getElem_self hlt
theorem mapTo_all : mapTo f xs xs.length = xs.map f := by simp [mapTo]
end

def RR.end (r : RR) : RR := { r with ended := true }
def markIf (p : RR → Bool) (r : RR) : RR := if p r then r.end else r
def endIf (p : RR → Bool) (s : RSt) : RSt := { s with rights := s.rights.map (markIf p) }

theorem Ordered.map {rs : List RR} (h : Ordered rs) (p : RR → Bool) : Ordered (rs.map (markIf p)) := by
  intro i r hr
  rw [List.getElem?_map] at hr
  cases hx : rs[i]? with
  | none => rw [hx] at hr; simp at hr
  | some x =>
    rw [hx] at hr
    simp at hr
    have := h i x hx
    subst hr
    unfold markIf RR.end
    split <;> exact this

theorem Ordered.set {rs : List RR} (h : Ordered rs) {i : Nat} {r : RR} (hr : rs[i]? = some r) : Ordered (rs.set i r.end) := by
  intro j x hx
  by_cases e : i = j
  · subst e
    rw [List.getElem?_set_self (List.getElem?_eq_some_iff.1 hr).1] at hx
    simp at hx
    subst hx
    exact h i r hr
  · rw [List.getElem?_set_ne e] at hx
    exact h j x hx

theorem flat_setEnd (xs : List RR) (i : Nat) (r : RR) (hr : xs[i]? = some r) : (xs.set i r.end).flatMap RR.cells = (xs.flatMap RR.cells).set (i * 6 + 5) (.bool true) := by
  have hi := (List.getElem?_eq_some_iff.1 hr).1
  apply List.ext_getElem?
  intro p
  have hl := flat_length RR.cells 6 (fun _ => rfl) xs
  rw [flat_at RR.cells 6 (by omega) (fun _ => rfl)]
  simp only [List.getElem?_set, hl]
  by_cases hp : p / 6 = i
  · rw [if_pos hp.symm, if_pos (by omega)]
    by_cases h5 : p % 6 = 5
    · rw [if_pos (by omega), if_pos (by omega), h5]; rfl
    · rw [if_neg (by omega), flat_at RR.cells 6 (by omega) (fun _ => rfl), hp, hr]
      have : p % 6 = 0 ∨ p % 6 = 1 ∨ p % 6 = 2 ∨ p % 6 = 3 ∨ p % 6 = 4 := by omega
      rcases this with h | h | h | h | h <;> rw [h] <;> rfl
  · rw [if_neg (fun e => hp e.symm), if_neg (by omega), flat_at RR.cells 6 (by omega) (fun _ => rfl)]

section
variable {own : Nat → Nat × Nat} {id : Nat} {w : World} {m : Nat} {s : RSt} {nk : Nat} {vR vB vS vA vK : Value} {bs : List Nat}

/-- The standing facts of a machine. -/
structure RWf (s : RSt) (nk : Nat) : Prop where
  ord : Ordered s.rights
  al : s.alive.length = s.ne
  ne : s.ne ≤ 4
  nf : s.nf ≤ 16
  by_ : s.bytes.length = s.nf
  sl : s.slots.length ≤ 8
  nk : nk = s.ne
  size : (s.rights.length + 1) * 48 ≤ 140737488355328

def allocR (s : RSt) (env : Int) : (Int × Int) × RSt :=
  if rawE s env ≠ 0 then ((0, rawE s env), s) else match firstS s env with
    | some s' => ((s.rights.length + 1, 0), s')
    | none => ((0, 12), s)

def deriveR (s : RSt) (env hd te : Int) (wt : Bool) : (Int × Int) × RSt :=
  if (rightE s env hd).2 ≠ 0 then ((0, (rightE s env hd).2), s)
  else if rawE s te ≠ 0 then ((0, rawE s te), s)
  else match s.rights[(rightE s env hd).1.toNat]? with
    | none => ((0, 0), s)
    | some r => if wt && !r.wr then ((0, 10), s) else if 32 ≤ cnt s.rights then ((0, 12), s) else ((s.rights.length + 1, 0), addR s te r.fr wt (rightE s env hd).1)

/-- What 'right' answers: an error, or the place of a right that is alive. -/
theorem rightE_cases (s : RSt) (env hd : Int) : (∃ x, rightE s env hd = (-1, x) ∧ (x = 2 ∨ x = 9 ∨ x = 4)) ∨ ∃ (j : Nat) (r : RR), rightE s env hd = ((j : Int), 0) ∧ s.rights[j]? = some r ∧ hd = j + 1 ∧ r.env = env ∧ lv s.rights j = true ∧ aliveB s env = true := by
  unfold rightE
  rcases rawE_cases s env with ⟨y, hr, hy⟩ | ⟨hr, ha⟩
  · exact .inl ⟨y, by rw [hr]; rcases hy with rfl | rfl <;> simp, by omega⟩
  · simp only [hr]
    by_cases h1 : 1 ≤ hd ∧ hd ≤ s.rights.length
    · simp only [if_pos h1]
      cases hx : s.rights[(hd - 1).toNat]? with
      | none => exact .inl ⟨9, by simp, .inr (.inl rfl)⟩
      | some r =>
        by_cases he : r.env = env
        · cases hl : lv s.rights (hd - 1)
          · exact .inl ⟨9, by simp [he], .inr (.inl rfl)⟩
          · refine .inr ⟨(hd - 1).toNat, r, ?_, hx, by omega, he, ?_, ha⟩
            · rw [show (((hd - 1).toNat : Nat) : Int) = hd - 1 by omega]; simp [he]
            · rw [show (((hd - 1).toNat : Nat) : Int) = hd - 1 by omega]; exact hl
        · exact .inl ⟨9, by simp [he], .inr (.inl rfl)⟩
    · simp only [if_neg h1]
      exact .inl ⟨9, by simp, .inr (.inl rfl)⟩

end
end Go.Proofs.Ytinlkcmdbjcofab

namespace Go.Proofs.Ytinlkcmdbjcofab
open Go.RowKit
set_option linter.unusedVariables false

section
variable {own : Nat → Nat × Nat} {id : Nat} {w : World} {m : Nat} {s : RSt} {nk : Nat} {vR vB vS vA vK : Value} {bs : List Nat}

def revokeR (s : RSt) (env hd : Int) : Int × RSt :=
  if (rightE s env hd).2 ≠ 0 then ((rightE s env hd).2, s) else (0, sweepS (endIf (fun r => r.frm == (rightE s env hd).1) s))
def dropR (s : RSt) (env hd : Int) : Int × RSt :=
  if (rightE s env hd).2 ≠ 0 then ((rightE s env hd).2, s) else match s.rights[(rightE s env hd).1.toNat]? with
    | none => (0, s)
    | some r => (0, sweepS { s with rights := s.rights.set (rightE s env hd).1.toNat r.end })
def killR (s : RSt) (env : Int) : Int × RSt :=
  if aliveB s env then (0, sweepS { endIf (fun r => r.env == env) s with alive := s.alive.set env.toNat false, kept := s.kept.set env.toNat none }) else (2, s)
def spawnR (s : RSt) (env : Int) : Int × RSt :=
  if env < 0 ∨ s.ne ≤ env then (2, s) else if aliveB s env then (3, s) else (0, { s with alive := s.alive.set env.toNat true })

theorem ret_int' {a b : Int} (h : a = b) : Ending.returned (.int .i64 a) = .returned (.int .i64 b) := by rw [h]

/-- The rights of env among the first q that are alive. -/
def listTo (s : RSt) (env : Int) (q : Nat) : List RR := ((List.range q).filterMap fun i : Nat => s.rights[i]?.bind fun r => if lv s.rights i && r.env == env then some r else none)
def listR (s : RSt) (env : Int) : List RR := listTo s env s.rights.length
def rcells (r : RR) : List Value := [.int .i64 r.h, .int .i64 r.env, .int .i64 r.fr, .bool r.wr]
theorem listTo_succ (s : RSt) (env : Int) (q : Nat) (r : RR) (hr : s.rights[q]? = some r) : listTo s env (q + 1) = listTo s env q ++ (if lv s.rights q && r.env == env then [r] else []) := by
  unfold listTo
  rw [List.range_succ, List.filterMap_append]
  congr 1
  simp only [List.filterMap_cons, List.filterMap_nil, hr, Option.bind_some]
  cases (lv s.rights q && r.env == env) <;> rfl
theorem listTo_le (s : RSt) (env : Int) (q : Nat) : (listTo s env q).length ≤ q := by
  unfold listTo
  have := List.length_filterMap_le (fun i : Nat => s.rights[i]?.bind fun r => if lv s.rights i && r.env == env then some r else none) (List.range q)
  simpa using this

theorem Try.infoRt : (Try.prog.info? 64).map (fun i => (i.zero, i.size, i.bytes)) = some (some (.agg #[.int .i64 0, .int .i64 0, .int .i64 0, .bool false]), 4, 32) := by kernel_rfl
theorem oneCell_rt (r : RR) : ∀ u ∈ rcells r, u.oneCell' = true := by
  intro u hu; simp [rcells] at hu; rcases hu with rfl | rfl | rfl | rfl <;> rfl

end
end Go.Proofs.Ytinlkcmdbjcofab

/-
  What the document's machine keeps to: its rights, and what never changes of it.
-/
namespace Go.Proofs.Ytinlkcmdbjcofab
open Go.RowKit
set_option linter.unusedVariables false

structure RInv (s : RSt) : Prop where
  ord : Ordered s.rights
  hnd : ∀ (i : Nat) (r : RR), s.rights[i]? = some r → r.h = i + 1
  env : ∀ (i : Nat) (r : RR), s.rights[i]? = some r → 0 ≤ r.env ∧ r.env < s.ne
  fr : ∀ (i : Nat) (r : RR), s.rights[i]? = some r → 0 ≤ r.fr ∧ r.fr < s.nf

theorem owned_iff {s : RSt} {env fr : Int} : owned s.rights env fr false = true ↔ ∃ (i : Nat) (r : RR), s.rights[i]? = some r ∧ lv s.rights i = true ∧ r.env = env ∧ r.fr = fr := by
  unfold owned
  rw [List.any_eq_true]
  constructor
  · rintro ⟨i, _, h⟩
    unfold ownsB at h
    cases hr : s.rights[i]? with
    | none => rw [hr] at h; simp at h
    | some r =>
      rw [hr] at h
      simp at h
      exact ⟨i, r, hr, h.1, h.2.1, h.2.2⟩
  · rintro ⟨i, r, hr, hl, he, hf⟩
    exact ⟨i, List.mem_range.2 (List.getElem?_eq_some_iff.1 hr).1, by unfold ownsB; rw [hr]; simp [hl, he, hf]⟩

theorem lvF_append {rs : List RR} (x : RR) : ∀ (n : Nat) (i : Int), i < rs.length → Ordered rs → lvF (rs ++ [x]) n i = lvF rs n i := by
  intro n
  induction n with
  | zero => intro i _ _; rfl
  | succ n ih =>
    intro i hi ho
    unfold lvF
    by_cases h0 : i < 0
    · simp [h0]
    · rw [if_neg h0, if_neg h0, List.getElem?_append_left (by omega)]
      cases hr : rs[i.toNat]? with
      | none => rfl
      | some r =>
        have := ho _ _ hr
        simp only
        rw [ih r.frm (by omega) ho]
theorem lv_append {rs : List RR} (ho : Ordered rs) (x : RR) {i : Int} (hi : i < rs.length) : lv (rs ++ [x]) i = lv rs i := lvF_append x _ i hi ho

theorem Ordered.append {rs : List RR} (ho : Ordered rs) {x : RR} (h1 : -1 ≤ x.frm) (h2 : x.frm < rs.length) : Ordered (rs ++ [x]) := by
  intro i r hr
  rcases Nat.lt_or_ge i rs.length with h | h
  · rw [List.getElem?_append_left h] at hr; exact ho i r hr
  · rw [List.getElem?_append_right h] at hr
    have : i - rs.length = 0 := by
      have := (List.getElem?_eq_some_iff.1 hr).1
      simp at this; omega
    rw [this] at hr
    simp at hr
    subst hr
    omega

def markAt (P : Nat → Bool) (rs : List RR) : List RR := rs.mapIdx fun i r => if P i then r.end else r
theorem markAt_get (P : Nat → Bool) (rs : List RR) (i : Nat) : (markAt P rs)[i]? = rs[i]?.map fun r => if P i then r.end else r := by simp [markAt]
theorem markAt_len (P : Nat → Bool) (rs : List RR) : (markAt P rs).length = rs.length := by simp [markAt]
theorem Ordered.mark {rs : List RR} (ho : Ordered rs) (P : Nat → Bool) : Ordered (markAt P rs) := by
  intro i r hr
  rw [markAt_get] at hr
  cases hx : rs[i]? with
  | none => rw [hx] at hr; simp at hr
  | some x =>
    rw [hx] at hr
    simp at hr
    have := ho i x hx
    subst hr
    split <;> exact this
theorem lv_mark {rs : List RR} (ho : Ordered rs) (P : Nat → Bool) {i : Nat} {r : RR} (hr : rs[i]? = some r) : lv (markAt P rs) i = (!(r.ended || P i) && lv (markAt P rs) r.frm) := by
  have hx : (markAt P rs)[i]? = some (if P i then r.end else r) := by rw [markAt_get, hr]; rfl
  rw [lv_step (ho.mark P) hx]
  cases P i <;> simp [RR.end]
/-- What is alive then was alive before. -/
theorem lv_mark_le {rs : List RR} (ho : Ordered rs) (P : Nat → Bool) : ∀ (n : Nat) (i : Int), (i + 1).toNat ≤ n → i < rs.length → lv (markAt P rs) i = true → lv rs i = true := by
  intro n
  induction n with
  | zero => intro i h _ _; exact lv_neg (by omega)
  | succ n ih =>
    intro i h hi hl
    by_cases h0 : i < 0
    · exact lv_neg h0
    · obtain ⟨j, rfl⟩ := Int.eq_ofNat_of_zero_le (show 0 ≤ i by omega)
      obtain ⟨r, hr⟩ : ∃ r, rs[j]? = some r := ⟨rs[j]'(by omega), by simp⟩
      have := ho j r hr
      rw [lv_mark ho P hr] at hl
      rw [lv_step ho hr]
      simp at hl
      rw [ih r.frm (by omega) (by omega) hl.2, hl.1.1]; rfl

section
variable {rs : RSt}
theorem RInv.add {s : RSt} (hI : RInv s) {env fr frm : Int} {wt : Bool} (he : 0 ≤ env ∧ env < s.ne) (hf : 0 ≤ fr ∧ fr < s.nf) (h1 : -1 ≤ frm) (h2 : frm < s.rights.length) : RInv (addR s env fr wt frm) := by
  have hget : ∀ (i : Nat) (r : RR), (addR s env fr wt frm).rights[i]? = some r → s.rights[i]? = some r ∨ (i = s.rights.length ∧ r = ⟨s.rights.length + 1, env, fr, wt, frm, false⟩) := by
    intro i r hr
    unfold addR at hr
    rcases Nat.lt_or_ge i s.rights.length with h | h
    · simp only at hr
      rw [List.getElem?_append_left h] at hr; exact .inl hr
    · simp only at hr
      rw [List.getElem?_append_right h] at hr
      have hz : i - s.rights.length = 0 := by
        have := (List.getElem?_eq_some_iff.1 hr).1
        simp at this; omega
      rw [hz] at hr
      simp at hr
      exact .inr ⟨by omega, hr.symm⟩
  refine ⟨hI.ord.append h1 h2, fun i r hr => ?_, fun i r hr => ?_, fun i r hr => ?_⟩
  · rcases hget i r hr with h | ⟨rfl, rfl⟩
    · exact hI.hnd i r h
    · rfl
  · rcases hget i r hr with h | ⟨rfl, rfl⟩
    · exact hI.env i r h
    · exact he
  · rcases hget i r hr with h | ⟨rfl, rfl⟩
    · exact hI.fr i r h
    · exact hf

theorem aliveB_range {env : Int} (h : aliveB rs env = true) : 0 ≤ env ∧ env < rs.ne := by
  simp [aliveB] at h
  omega

theorem RInv.mark {s : RSt} (hI : RInv s) (P : Nat → Bool) : RInv { s with rights := markAt P s.rights } := by
  have hget : ∀ (i : Nat) (r : RR), (markAt P s.rights)[i]? = some r → ∃ x, s.rights[i]? = some x ∧ r.h = x.h ∧ r.env = x.env ∧ r.fr = x.fr := by
    intro i r hr
    rw [markAt_get] at hr
    cases hx : s.rights[i]? with
    | none => rw [hx] at hr; simp at hr
    | some x =>
      rw [hx] at hr
      simp at hr
      subst hr
      exact ⟨x, rfl, by split <;> rfl, by split <;> rfl, by split <;> rfl⟩
  refine ⟨hI.ord.mark P, fun i r hr => ?_, fun i r hr => ?_, fun i r hr => ?_⟩
  · obtain ⟨x, hx, h1, _, _⟩ := hget i r hr
    rw [h1]; exact hI.hnd i x hx
  · obtain ⟨x, hx, _, h1, _⟩ := hget i r hr
    rw [h1]; exact hI.env i x hx
  · obtain ⟨x, hx, _, _, h1⟩ := hget i r hr
    rw [h1]; exact hI.fr i x hx

theorem mark_map (p : RR → Bool) (rs : List RR) : rs.map (markIf p) = markAt (fun i => (rs[i]?.map p).getD false) rs := by
  apply List.ext_getElem?
  intro i
  rw [List.getElem?_map, markAt_get]
  cases rs[i]? with
  | none => rfl
  | some r => simp [markIf]
theorem mark_set (rs : List RR) (j : Nat) (r : RR) (hr : rs[j]? = some r) : rs.set j r.end = markAt (fun i => i == j) rs := by
  apply List.ext_getElem?
  intro i
  rw [markAt_get]
  by_cases h : j = i
  · subst h
    rw [List.getElem?_set_self (List.getElem?_eq_some_iff.1 hr).1, hr]; simp
  · rw [List.getElem?_set_ne h]
    cases rs[i]? with
    | none => rfl
    | some x => simp [show ¬ i = j from fun e => h e.symm]

end

/-- What never changes of a document's machine. -/
structure RFix (s : RSt) (nk : Nat) : Prop where
  al : s.alive.length = s.ne
  ne : s.ne ≤ 4
  nf : s.nf ≤ 16
  by_ : s.bytes.length = s.nf
  sl : s.slots.length ≤ 8
  nk : nk = s.ne

section
variable {s s' : RSt} {nk : Nat}

theorem RFix.of (h : RFix s nk) (e1 : s'.nf = s.nf) (e2 : s'.ne = s.ne) (e3 : s'.alive.length = s.alive.length) (e4 : s'.bytes.length = s.bytes.length) (e5 : s'.slots.length = s.slots.length) : RFix s' nk :=
  ⟨by rw [e3, e2]; exact h.al, by rw [e2]; exact h.ne, by rw [e1]; exact h.nf, by rw [e4, e1]; exact h.by_, by rw [e5]; exact h.sl, by rw [e2]; exact h.nk⟩

/-- A step of the document's machine: at most one right more. -/
def Grows (s s' : RSt) : Prop := s'.nf = s.nf ∧ s'.ne = s.ne ∧ s'.alive.length = s.alive.length ∧ s'.bytes.length = s.bytes.length ∧ s'.slots.length = s.slots.length ∧ s'.rights.length ≤ s.rights.length + 1

theorem Grows.refl (s : RSt) : Grows s s := ⟨rfl, rfl, rfl, rfl, rfl, by omega⟩

theorem allocR_grows (env : Int) : Grows s (allocR s env).2 := by
  unfold allocR
  split
  · exact Grows.refl s
  · unfold firstS
    split
    · rename_i h
      split at h
      · split at h
        · injection h with h
          subst h
          exact ⟨rfl, rfl, rfl, by simp [addR], rfl, by simp [addR]⟩
        · exact absurd h (by simp)
      · exact absurd h (by simp)
    · exact Grows.refl s
theorem deriveR_grows (env hd te : Int) (wt : Bool) : Grows s (deriveR s env hd te wt).2 := by
  unfold deriveR
  split
  · exact Grows.refl s
  · split
    · exact Grows.refl s
    · split
      · exact Grows.refl s
      · split
        · exact Grows.refl s
        · split
          · exact Grows.refl s
          · exact ⟨rfl, rfl, rfl, rfl, rfl, by simp [addR]⟩
theorem revokeR_grows (env hd : Int) : Grows s (revokeR s env hd).2 := by
  unfold revokeR
  split
  · exact Grows.refl s
  · exact ⟨rfl, rfl, rfl, rfl, by simp [sweepS, endIf], by simp [sweepS, endIf]⟩
theorem dropR_grows (env hd : Int) : Grows s (dropR s env hd).2 := by
  unfold dropR
  split
  · exact Grows.refl s
  · split
    · exact Grows.refl s
    · exact ⟨rfl, rfl, rfl, rfl, by simp [sweepS], by simp [sweepS]⟩
theorem killR_grows (env : Int) : Grows s (killR s env).2 := by
  unfold killR
  split
  · exact ⟨rfl, rfl, by simp [sweepS, endIf], rfl, by simp [sweepS, endIf], by simp [sweepS, endIf]⟩
  · exact Grows.refl s
theorem spawnR_grows (env : Int) : Grows s (spawnR s env).2 := by
  unfold spawnR
  split
  · exact Grows.refl s
  · split
    · exact Grows.refl s
    · exact ⟨rfl, rfl, by simp, rfl, rfl, by simp⟩
end

/-- What Rights tells, and its error. -/
def toldR (rs : RSt) (env : Int) : List RR := if aliveB rs env then listR rs env else []

theorem toldR_le (rs : RSt) (env : Int) : (toldR rs env).length ≤ rs.rights.length := by
  unfold toldR
  split
  · exact listTo_le rs env _
  · simp

section
variable {own : Nat → Nat × Nat} {ir r : Nat} {w : World} {rs : RSt} {nk : Nat} {vR vB vS vA vK : Value} {bs : List Nat}
end
end Go.Proofs.Ytinlkcmdbjcofab

/-
  The document's table: which slot holds the entry of an environment and a page; that entry gone.
-/
namespace Go.Proofs.Ytinlkcmdbjcofab
open Go.RowKit
set_option linter.unusedVariables false
attribute [local go_sem ↓] Go.wp_at_zero Go.wp_at_succ

def entP (env page : Int) (e : Ent) : Bool := e.used && (e.env == env && e.page == page)
/-- The slot of env and page; -1: none. -/
def entI (s : RSt) (env page : Int) : Int := match s.slots.findIdx? (entP env page) with
  | none => -1
  | some i => i
theorem entI_found {s : RSt} {env page : Int} {q : Nat} {e : Ent} (he : s.slots[q]? = some e) (hp : entP env page e = true) (hno : ∀ (j : Nat) (x : Ent), j < q → s.slots[j]? = some x → entP env page x = false) : entI s env page = q := by
  obtain ⟨hq, hx⟩ := List.getElem?_eq_some_iff.1 he
  have : s.slots.findIdx? (entP env page) = some q := by
    rw [List.findIdx?_eq_some_iff_getElem]
    refine ⟨hq, by rw [hx]; exact hp, fun j hj => ?_⟩
    have := hno j s.slots[j] hj (by simp)
    simp [this]
  unfold entI
  rw [this]
theorem entI_none {s : RSt} {env page : Int} (hno : ∀ (j : Nat) (x : Ent), j < s.slots.length → s.slots[j]? = some x → entP env page x = false) : entI s env page = -1 := by
  have : s.slots.findIdx? (entP env page) = none := by
    rw [List.findIdx?_eq_none_iff]
    intro x hx
    obtain ⟨j, hj, rfl⟩ := List.mem_iff_getElem.1 hx
    exact hno j _ hj (by simp)
  unfold entI
  rw [this]
theorem entI_cases (s : RSt) (env page : Int) : entI s env page = -1 ∨ ∃ (q : Nat) (e : Ent), entI s env page = q ∧ s.slots[q]? = some e ∧ entP env page e = true := by
  unfold entI
  cases h : s.slots.findIdx? (entP env page) with
  | none => exact .inl rfl
  | some i =>
    right
    obtain ⟨hi, hp, _⟩ := List.findIdx?_eq_some_iff_getElem.1 h
    exact ⟨i, s.slots[i], rfl, by simp, hp⟩

/-- That entry gone (an empty slot stays empty). -/
def goneE (env page : Int) (e : Ent) : Ent := if e.env == env && e.page == page then Ent.empty else e
def goneS (s : RSt) (env page : Int) : RSt := { s with slots := s.slots.map (goneE env page) }

section
variable {own : Nat → Nat × Nat} {id : Nat} {w : World} {m : Nat} {s : RSt} {nk : Nat} {vR vB vS vA vK : Value} {bs : List Nat}

end
end Go.Proofs.Ytinlkcmdbjcofab

/-
  The document's Unmap and Map.
-/
namespace Go.Proofs.Ytinlkcmdbjcofab
open Go.RowKit
set_option linter.unusedVariables false
attribute [local go_sem ↓] Go.wp_at_zero Go.wp_at_succ

def unmapR (s : RSt) (env page : Int) : Int × RSt :=
  if rawE s env ≠ 0 then (rawE s env, s) else if page < 0 ∨ 15 < page then (7, s) else (0, goneS s env page)
def mapR (s : RSt) (env page hd : Int) (wt : Bool) (slot : Int) : Int × RSt :=
  if rawE s env ≠ 0 then (rawE s env, s) else if page < 0 ∨ 15 < page then (7, s)
  else if (rightE s env hd).2 ≠ 0 then ((rightE s env hd).2, s) else match s.rights[(rightE s env hd).1.toNat]? with
    | none => (0, s)
    | some r => if wt && !r.wr then (10, s) else if slot < 0 ∨ (s.ns : Int) ≤ slot then (11, s)
      else (0, { goneS s env page with slots := (goneS s env page).slots.set slot.toNat ⟨true, env, page, r.fr, wt⟩ })

section
variable {own : Nat → Nat × Nat} {id : Nat} {w : World} {m : Nat} {s : RSt} {nk : Nat} {vR vB vS vA vK : Value} {bs : List Nat}

end
end Go.Proofs.Ytinlkcmdbjcofab

/-
  The document's Load and Store.
-/
namespace Go.Proofs.Ytinlkcmdbjcofab
open Go.RowKit
set_option linter.unusedVariables false
attribute [local go_sem ↓] Go.wp_at_zero Go.wp_at_succ

def byteAt (s : RSt) (f a : Int) : Int := ((s.bytes[f.toNat]?.getD [])[a.toNat]?).getD 0
def putByte (s : RSt) (f a v : Int) : RSt := { s with bytes := s.bytes.set f.toNat ((s.bytes[f.toNat]?.getD []).set a.toNat v) }
def loadR (s : RSt) (env page a : Int) : Int × Int :=
  if rawE s env ≠ 0 then (0, rawE s env) else if page < 0 ∨ 15 < page then (0, 7) else if a < 0 ∨ 3 < a then (0, 8)
  else if entI s env page < 0 then (0, 13) else match s.slots[(entI s env page).toNat]? with
    | none => (0, 13)
    | some e => (byteAt s e.fr a, 0)
def storeR (s : RSt) (env page a v : Int) : Int × RSt :=
  if rawE s env ≠ 0 then (rawE s env, s) else if page < 0 ∨ 15 < page then (7, s) else if a < 0 ∨ 3 < a then (8, s) else if v < 0 ∨ 255 < v then (6, s)
  else if entI s env page < 0 then (13, s) else match s.slots[(entI s env page).toNat]? with
    | none => (13, s)
    | some e => if !e.wr then (14, s) else (0, putByte s e.fr a v)

section
variable {own : Nat → Nat × Nat} {id : Nat} {w : World} {m : Nat} {s : RSt} {nk : Nat} {vR vB vS vA vK : Value} {bs : List Nat}

/-- Each entry's frame is one of the machine's. -/
def SlotFr (s : RSt) : Prop := ∀ (i : Nat) (e : Ent), s.slots[i]? = some e → e.used = true → 0 ≤ e.fr ∧ e.fr < s.nf

end
end Go.Proofs.Ytinlkcmdbjcofab
