import Derived.BigQuiet
import Derived.Deep.AppendLies
import Derived.Deep.DeepCutAuto
import Derived.Deep.DeepMust
import Derived.Deep.DrawnRows
import Derived.Deep.LoopGhost
import Derived.Deep.QuietTactic
import Derived.Deep.RegionHeld3
import Derived.KernelRfl
import Derived.Test.YtinlkcmdbjcofaaGreatProg
import Derived.WalkKit
import Derived.WalkLawsBesides
import Derived.WalkSpells
import GoSem.Core.Value
/-
  The document's machine, as plain data (no program, no memory).
-/
namespace Go.Proofs.YtinlkcmdbjcofaaGreat
set_option linter.unusedVariables false

/-- A right that was ever made. -/
structure RR where
  h : Int
  env : Int
  fr : Int
  wr : Bool
  frm : Int
  ended : Bool

structure Ent where
  used : Bool
  env : Int
  page : Int
  fr : Int
  wr : Bool

def Ent.empty : Ent := ⟨false, 0, 0, 0, false⟩

/-- A kept memory: its bytes; its accesses, the last one behind; the pages that are in, in the order in which they came in; by page: the handle of its right, whether it is changed, dirty, has ever gone out changed; the counts. -/
structure KSt where
  quota : Int
  policy : Int
  bytes : List Int
  uses : List (Int × Bool)
  inp : List Int
  hnd : List Int
  chg : List Bool
  dty : List Bool
  out : List Bool
  refills : Int
  ins : Int
  outs : Int

structure RSt where
  nf : Nat
  ns : Nat
  ne : Nat
  rights : List RR
  bytes : List (List Int)
  slots : List Ent
  turn : Int
  alive : List Bool
  kept : List (Option KSt)

def RSt.fresh (f s e : Nat) : RSt := ⟨f, s, e, [], List.replicate f [0, 0, 0, 0], List.replicate s Ent.empty, 0, List.replicate e true, List.replicate e none⟩

def I (n : Int) : Value := .int .i64 n
def RR.cells (r : RR) : List Value := [.int .i64 r.h, .int .i64 r.env, .int .i64 r.fr, .bool r.wr, .int .i64 r.frm, .bool r.ended]
def Ent.cells (e : Ent) : List Value := [.bool e.used, .int .i64 e.env, .int .i64 e.page, .int .i64 e.fr, .bool e.wr]

theorem flat_length {α : Type} (f : α → List Value) (k : Nat) (hf : ∀ x, (f x).length = k) (xs : List α) : (xs.flatMap f).length = xs.length * k := by
  induction xs with
  | nil => simp
  | cons x xs ih => simp [hf, ih, Nat.add_mul, Nat.add_comm]

theorem flat_get {α : Type} (f : α → List Value) (k : Nat) (hf : ∀ x, (f x).length = k) (xs : List α) (i j : Nat) (x : α) (hx : xs[i]? = some x) (hj : j < k) :
    (xs.flatMap f)[i * k + j]? = (f x)[j]? := by
  induction xs generalizing i with
  | nil => simp at hx
  | cons y ys ih =>
    cases i with
    | zero =>
      simp at hx
      subst hx
      simp [List.getElem?_append, hf, hj]
    | succ i =>
      simp at hx
      have := ih i hx
      simp only [List.flatMap_cons]
      rw [List.getElem?_append_right (by rw [hf]; simp [Nat.add_mul]; omega), hf]
      rw [show (i + 1) * k + j - k = i * k + j by simp [Nat.add_mul]; omega]
      exact this

end Go.Proofs.YtinlkcmdbjcofaaGreat

/-
  The document's machine as plain functions: which rights are alive, and what each call does.
-/
namespace Go.Proofs.YtinlkcmdbjcofaaGreat
set_option linter.unusedVariables false

/-- Each right comes of an earlier one, or of none. -/
def Ordered (rs : List RR) : Prop := ∀ (i : Nat) (r : RR), rs[i]? = some r → -1 ≤ r.frm ∧ r.frm < i

def lvF (rs : List RR) : Nat → Int → Bool
  | 0, _ => true
  | n + 1, i => if i < 0 then true else match rs[i.toNat]? with
    | none => true
    | some r => if r.ended then false else lvF rs n r.frm

/-- Is the right at place i alive? -/
def lv (rs : List RR) (i : Int) : Bool := lvF rs (i + 1).toNat i

theorem lvF_enough {rs : List RR} (ho : Ordered rs) : ∀ (n m : Nat) (i : Int), (i + 1).toNat ≤ n → (i + 1).toNat ≤ m → lvF rs n i = lvF rs m i := by
  intro n
  induction n with
  | zero =>
    intro m i h1 _
    have : i < 0 := by omega
    cases m <;> simp [lvF, this]
  | succ n ih =>
    intro m i h1 h2
    by_cases hi : i < 0
    · cases m <;> simp [lvF, hi]
    · cases m with
      | zero => omega
      | succ m =>
        simp only [lvF, if_neg hi]
        cases hr : rs[i.toNat]? with
        | none => rfl
        | some r =>
          have := ho _ _ hr
          by_cases he : r.ended <;> simp [he]
          exact ih m r.frm (by omega) (by omega)

theorem lv_neg {rs : List RR} {i : Int} (h : i < 0) : lv rs i = true := by
  unfold lv; rw [show (i + 1).toNat = 0 by omega]; rfl

theorem lv_step {rs : List RR} (ho : Ordered rs) {i : Nat} {r : RR} (hr : rs[i]? = some r) : lv rs i = (!r.ended && lv rs r.frm) := by
  have := ho _ _ hr
  unfold lv
  rw [show ((i : Int) + 1).toNat = i + 1 by omega]
  simp only [lvF, Int.toNat_natCast, hr]
  rw [if_neg (by omega)]
  cases r.ended
  · simp only [Bool.false_eq_true, if_false, Bool.not_false, Bool.true_and]
    exact lvF_enough ho _ _ _ (by omega) (by omega)
  · simp

/-- How many of the first n are alive. -/
def cntTo (rs : List RR) (n : Nat) : Nat := ((List.range n).filter fun i : Nat => lv rs i).length
def cnt (rs : List RR) : Nat := cntTo rs rs.length
theorem cntTo_succ (rs : List RR) (n : Nat) : cntTo rs (n + 1) = cntTo rs n + if lv rs n then 1 else 0 := by
  unfold cntTo
  rw [List.range_succ, List.filter_append]
  cases h : lv rs n <;> simp [h]
theorem cntTo_le (rs : List RR) (n : Nat) : cntTo rs n ≤ n := by
  unfold cntTo
  have := List.length_filter_le (fun i : Nat => lv rs i) (List.range n)
  simpa using this

/-- Is right i alive, one of env to frame, by which one may write if that is asked? -/
def ownsB (rs : List RR) (env fr : Int) (wr : Bool) (i : Nat) : Bool := match rs[i]? with
  | none => false
  | some r => lv rs i && (r.env == env && (r.fr == fr && (r.wr || !wr)))
def owned (rs : List RR) (env fr : Int) (wr : Bool) : Bool := (List.range rs.length).any (ownsB rs env fr wr)

def freeB (s : RSt) (f : Nat) : Bool := !(List.range s.ne).any fun e => owned s.rights e f false
/-- The least free frame; nf, if there is none. -/
def leastFree (s : RSt) : Option Nat := (List.range s.nf).find? (freeB s)

def aliveB (s : RSt) (env : Int) : Bool := decide (0 ≤ env) && (decide (env < s.ne) && s.alive[env.toNat]?.getD false)

/-- The kept memory of an environment, if it is kept. -/
def keptO (s : RSt) (env : Int) : Option KSt := (s.kept[env.toNat]?).getD none
def keptB (s : RSt) (env : Int) : Bool := (keptO s env).isSome
/-- The error of an environment that must be alive. -/
def liveE (s : RSt) (env : Int) : Int := if aliveB s env then 0 else 2
/-- The error of an environment that must be alive and raw. -/
def rawE (s : RSt) (env : Int) : Int := if aliveB s env then (if keptB s env then 4 else 0) else 2
/-- The error of an environment that must be alive and kept. -/
def heldE (s : RSt) (env : Int) : Int := if aliveB s env then (if keptB s env then 0 else 5) else 2

theorem rawE_cases (s : RSt) (env : Int) : (∃ y, rawE s env = y ∧ (y = 2 ∨ y = 4)) ∨ (rawE s env = 0 ∧ aliveB s env = true) := by
  unfold rawE
  cases aliveB s env with
  | false => exact .inl ⟨2, by simp, .inl rfl⟩
  | true =>
    cases keptB s env with
    | false => exact .inr (by simp)
    | true => exact .inl ⟨4, by simp, .inr rfl⟩
theorem liveE_cases (s : RSt) (env : Int) : (liveE s env = 2 ∧ aliveB s env = false) ∨ (liveE s env = 0 ∧ aliveB s env = true) := by
  unfold liveE
  cases aliveB s env <;> simp
theorem rawE_nok {s : RSt} {env : Int} (h : keptB s env = false) : rawE s env = liveE s env := by
  unfold rawE liveE
  rw [h]
  rfl

/-- The right that a call names: its place and the error. -/
def rightE (s : RSt) (env h : Int) : Int × Int :=
  if rawE s env ≠ 0 then (-1, rawE s env)
  else match (if 1 ≤ h ∧ h ≤ s.rights.length then s.rights[(h - 1).toNat]? else none) with
    | none => (-1, 9)
    | some r => if r.env ≠ env then (-1, 9) else if lv s.rights (h - 1) then (h - 1, 0) else (-1, 9)

def sweepS (s : RSt) : RSt := { s with slots := s.slots.map fun e => if e.used && !owned s.rights e.env e.fr e.wr then Ent.empty else e }

def addR (s : RSt) (env fr : Int) (wr : Bool) (frm : Int) : RSt := { s with rights := s.rights ++ [⟨s.rights.length + 1, env, fr, wr, frm, false⟩] }

end Go.Proofs.YtinlkcmdbjcofaaGreat

/-
  The ground of this seat's walks: small laws on worlds, said of whole blocks.
-/
namespace Go.Proofs.YtinlkcmdbjcofaaGreat
open Go.RowKit
set_option linter.unusedVariables false

/-- Block b holds just the cells cs, of element type t, none of them frozen. -/
def Blk (w : World) (b : Nat) (cs : List Value) (t : TypeId) : Prop := w.heap[b]? = some (.cells cs.toArray t (0, 0))

theorem Blk.lt {w : World} {b : Nat} {cs : List Value} {t : TypeId} (h : Blk w b cs t) : b < w.heap.size := by
  unfold Blk at h
  exact (Array.getElem?_eq_some_iff.1 h).1

theorem Blk.cell {w : World} {b : Nat} {cs : List Value} {t : TypeId} (h : Blk w b cs t) (j : Nat) : w.cell? ⟨b, j, none⟩ = cs[j]? := by
  rw [cell_of_row w b j _ t (0, 0) h]; simp

theorem Blk.frozen {w : World} {b : Nat} {cs : List Value} {t : TypeId} (h : Blk w b cs t) (j : Nat) : w.frozen? ⟨b, j, none⟩ = false :=
  frozen_of_row w b j _ t h

theorem Blk.of {w w' : World} {b : Nat} {cs : List Value} {t : TypeId} (h : Blk w b cs t) (hb : w'.heap[b]? = w.heap[b]?) : Blk w' b cs t := hb.trans h

theorem Blk.drew {w : World} {b : Nat} {cs : List Value} {t : TypeId} (h : Blk w b cs t) : Blk w.drew b cs t := h

theorem Blk.alloc {w : World} {b : Nat} {cs : List Value} {t : TypeId} (h : Blk w b cs t) (o : Obj) : Blk (w.alloc o) b cs t :=
  h.of (Below.heap_alloc w o b h.lt)

theorem Blk.new (w : World) (cs : List Value) (t : TypeId) : Blk (w.alloc (.cells cs.toArray t)) w.heap.size cs t := heap_alloc_new w _

theorem Blk.at (w : World) (cs : List Value) (t : TypeId) (n : Nat) (hn : n = w.heap.size) : Blk (w.alloc (.cells cs.toArray t)) n cs t := by subst hn; exact Blk.new w cs t

theorem Blk.below {w w' : World} {b B : Nat} {cs : List Value} {t : TypeId} (h : Blk w b cs t) (hb : Below B w w') (hlt : b < B) : Blk w' b cs t :=
  h.of (hb.block b hlt)

theorem Blk.set {w : World} {b : Nat} {cs : List Value} {t : TypeId} (h : Blk w b cs t) (j : Nat) (v : Value) : Blk (w.setCell ⟨b, j, none⟩ v) b (cs.set j v) t := by
  unfold Blk
  rw [heap_setCell_same w b j _ t v h]; simp

theorem Blk.other {w : World} {b : Nat} {cs : List Value} {t : TypeId} (h : Blk w b cs t) {a : Addr} (v : Value) (hne : b ≠ a.block) : Blk (w.setCell a v) b cs t :=
  h.of (heap_setCell_other w a b v hne)

theorem Blk.same {w : World} {b : Nat} {cs ds : List Value} {t u : TypeId} (h : Blk w b cs t) (k : Blk w b ds u) : cs = ds ∧ t = u := by
  unfold Blk at h k
  rw [h] at k
  simp at k
  exact ⟨by simpa using k.1, k.2⟩

/-- Of the blocks below B only those of which S holds may have turned. -/
structure Touch (B : Nat) (S : Nat → Prop) (w w' : World) : Prop where
  os : w'.os = w.os
  tape : w'.tape = w.tape
  output : w'.output = w.output
  size : w.heap.size ≤ w'.heap.size
  block : ∀ k, k < B → ¬ S k → w'.heap[k]? = w.heap[k]?

theorem Touch.refl (B : Nat) (S : Nat → Prop) (w : World) : Touch B S w w := ⟨rfl, rfl, rfl, Nat.le_refl _, fun _ _ _ => rfl⟩
theorem Touch.trans {B : Nat} {S : Nat → Prop} {a b c : World} (h : Touch B S a b) (k : Touch B S b c) : Touch B S a c :=
  ⟨k.os.trans h.os, k.tape.trans h.tape, k.output.trans h.output, Nat.le_trans h.size k.size, fun i hi hn => (k.block i hi hn).trans (h.block i hi hn)⟩
theorem Touch.mono {B B' : Nat} {S S' : Nat → Prop} {w w' : World} (h : Touch B S w w') (hB : B' ≤ B) (hf : ∀ k, k < B' → S k → S' k) : Touch B' S' w w' :=
  ⟨h.os, h.tape, h.output, h.size, fun k hk hn => h.block k (by omega) (fun hm => hn (hf k hk hm))⟩
theorem Touch.drew {B : Nat} {S : Nat → Prop} {a w : World} (h : Touch B S a w) : Touch B S a w.drew := ⟨h.os, h.tape, h.output, h.size, h.block⟩
theorem Touch.of_below {B : Nat} {w w' : World} (h : Below B w w') (S : Nat → Prop) : Touch B S w w' := ⟨h.os, h.tape, h.output, h.size, fun k hk _ => h.block k hk⟩
theorem Touch.below {B : Nat} {S : Nat → Prop} {w w' : World} (h : Touch B S w w') (hS : ∀ k, k < B → ¬ S k) : Below B w w' := ⟨h.os, h.tape, h.output, h.size, fun k hk => h.block k hk (hS k hk)⟩
theorem Touch.alloc {B : Nat} {S : Nat → Prop} {a w : World} (h : Touch B S a w) (hB : B ≤ w.heap.size) (o : Obj) : Touch B S a (w.alloc o) :=
  h.trans (Touch.of_below ((Below.refl _ _).alloc hB o) S)
theorem Touch.setCell {B : Nat} {S : Nat → Prop} {a w : World} (h : Touch B S a w) {p : Addr} (hp : S p.block ∨ B ≤ p.block) (u : Value) : Touch B S a (w.setCell p u) :=
  h.trans ⟨rfl, rfl, rfl, by simp [World.setCell], fun k hk hn => Below.heap_setCell _ _ _ _ (by rcases hp with hp | hp; exact fun e => hn (e ▸ hp); omega)⟩
theorem Touch.grown {B : Nat} {S : Nat → Prop} {a w w' : World} {row : Option Nat} (h : Touch B S a w) (hg : w.grownBy w' row) (hB : B ≤ w.heap.size) (hr : ∀ k, row = some k → S k ∨ B ≤ k) : Touch B S a w' :=
  h.trans ⟨hg.os, hg.tape, hg.output, hg.size, fun k hk hn => hg.block k (by omega) (fun e => by rcases hr k e.symm with h | h; exact hn h; omega)⟩
/-- A read-only call behind a touching one. -/
theorem Touch.then_below {B : Nat} {S : Nat → Prop} {a b c : World} (h : Touch B S a b) (k : Below b.heap.size b c) (hB : B ≤ b.heap.size) : Touch B S a c :=
  h.trans (Touch.of_below (k.mono hB) S)

theorem Blk.grown {w w' : World} {b : Nat} {cs : List Value} {t : TypeId} {row : Option Nat} (h : Blk w b cs t) (hg : w.grownBy w' row) (hn : row ≠ some b) : Blk w' b cs t :=
  h.of (hg.block b h.lt (fun e => hn e.symm))

/-- A slice whose whole row is its own: n elements of k cells each; xs: all their cells. -/
def Row (w : World) (v : Value) (e k n : Nat) (xs : List Value) : Prop := w.ownsRow 0 e k v n xs
/-- The row's block, if it has one, bears the mark t. -/
def Tg (own : Nat → Nat × Nat) (v : Value) (t : Nat × Nat) : Prop := ∀ b, v.ownBlock = some b → own b = t

theorem Tg.nil (own : Nat → Nat × Nat) (t : Nat × Nat) : Tg own (.slice none 0 0) t := by intro b h; simp [Value.ownBlock] at h
theorem Tg.congr {own own' : Nat → Nat × Nat} {v : Value} {t : Nat × Nat} {w : World} {e k n : Nat} {xs : List Value} (h : Tg own v t) (hr : Row w v e k n xs) (ho : ∀ b, b < w.heap.size → own' b = own b) : Tg own' v t :=
  fun b hb => (ho b (World.ownsRow.lt hr b hb).2).trans (h b hb)
theorem Tg.mk {own : Nat → Nat × Nat} {t : Nat × Nat} {g n cap : Nat} (h : own g = t) : Tg own (.slice (some ⟨g, 0, none⟩) n cap) t := by
  intro b hb; simp [Value.ownBlock] at hb; exact hb ▸ h

theorem Row.nil (w : World) (e k : Nat) : Row w (.slice none 0 0) e k 0 [] := World.ownsRow_nil w 0 e k
theorem Row.of {w w' : World} {v : Value} {e k n : Nat} {xs : List Value} (h : Row w v e k n xs) (hb : ∀ b, v.ownBlock = some b → w'.heap[b]? = w.heap[b]?) : Row w' v e k n xs := by
  refine ⟨h.1, ?_⟩
  rcases h.2 with hn | ⟨g, cap, cur, rfl, hb0, hgg, rest⟩
  · exact .inl hn
  · exact .inr ⟨g, cap, cur, rfl, hb0, (hb g (by simp [Value.ownBlock])).trans hgg, rest⟩
theorem Row.lt {w : World} {v : Value} {e k n : Nat} {xs : List Value} (h : Row w v e k n xs) : ∀ b, v.ownBlock = some b → b < w.heap.size :=
  fun b hb => (World.ownsRow.lt h b hb).2
theorem Row.drew {w : World} {v : Value} {e k n : Nat} {xs : List Value} (h : Row w v e k n xs) : Row w.drew v e k n xs := h
theorem Row.alloc {w : World} {v : Value} {e k n : Nat} {xs : List Value} (h : Row w v e k n xs) (o : Obj) : Row (w.alloc o) v e k n xs := World.ownsRow.alloc h o
theorem Row.other {w : World} {v : Value} {e k n : Nat} {xs : List Value} (h : Row w v e k n xs) {a : Addr} (u : Value) (hn : v.ownBlock ≠ some a.block) : Row (w.setCell a u) v e k n xs :=
  h.of fun b hb => Below.heap_setCell _ _ _ _ (fun e => hn (e ▸ hb))
/-- What bears the mark t has not turned. -/
theorem Row.kept {own : Nat → Nat × Nat} {t : Nat × Nat} {w w' : World} {v : Value} {e k n : Nat} {xs : List Value} (h : Row w v e k n xs) (ht : Tg own v t) (hk : ∀ b, b < w.heap.size → own b = t → w'.heap[b]? = w.heap[b]?) : Row w' v e k n xs :=
  h.of fun b hb => hk b (h.lt b hb) (ht b hb)
theorem Row.below {w w' : World} {v : Value} {e k n : Nat} {xs : List Value} (h : Row w v e k n xs) (ht : Below w.heap.size w w') : Row w' v e k n xs :=
  h.of fun b hb => ht.block b (h.lt b hb)
theorem Row.set {w : World} {g e k n cap : Nat} {xs : List Value} (h : Row w (.slice (some ⟨g, 0, none⟩) n cap) e k n xs) (j : Nat) (u : Value) :
    Row (w.setCell ⟨g, j, none⟩ u) (.slice (some ⟨g, 0, none⟩) n cap) e k n (xs.set j u) := (World.ownsRow.stored h j u).1
/-- What a slice looks like, and its cells. -/
theorem Row.form {w : World} {v : Value} {e k n : Nat} {xs : List Value} (h : Row w v e k n xs) (hn : 0 < n) :
    ∃ g cap, v = .slice (some ⟨g, 0, none⟩) n cap ∧ (∀ j, j < n * k → w.cell? ⟨g, j, none⟩ = xs[j]?) ∧ ∀ j, w.frozen? ⟨g, j, none⟩ = false := by
  obtain ⟨g, cap, rfl, _, _⟩ := World.ownsRow.form h hn
  exact ⟨g, cap, rfl, fun j hj => World.ownsRow.cellAt h j hj, fun j => World.ownsRow.frozenAt h j⟩
/-- The shape, n whatever it is. -/
theorem Row.view {w : World} {v : Value} {e k n : Nat} {xs : List Value} (h : Row w v e k n xs) :
    ∃ ao cap g, v = .slice ao n cap ∧ (0 < n → ao = some ⟨g, 0, none⟩) ∧ (∀ j, j < n * k → w.cell? ⟨g, j, none⟩ = xs[j]?) ∧ (0 < n → ∀ j, w.frozen? ⟨g, j, none⟩ = false) ∧ n ≤ maxLen := by
  rcases h.2 with ⟨hv, hn⟩ | ⟨g, cap, cur, hv, _, _, h1, h2, _⟩
  · subst hn
    exact ⟨none, 0, 0, hv, by omega, fun j hj => by simp at hj, by omega, by simp [maxLen]⟩
  · subst hv
    exact ⟨_, cap, g, rfl, fun _ => rfl, fun j hj => World.ownsRow.cellAt h j hj, fun _ j => World.ownsRow.frozenAt h j, by omega⟩
theorem Row.len {w : World} {v : Value} {e k n : Nat} {xs : List Value} (h : Row w v e k n xs) : xs.length = n * k := h.1

/-- Both machines' test of a config. -/
def mayB (a b c : Int) : Bool := decide (1 ≤ a ∧ a ≤ 16 ∧ 1 ≤ b ∧ b ≤ 8 ∧ 1 ≤ c ∧ c ≤ 4)

theorem mayB_nat {a b c : Int} (h : mayB a b c = true) : ∃ f s e : Nat, a = f ∧ b = s ∧ c = e ∧ 1 ≤ f ∧ f ≤ 16 ∧ 1 ≤ s ∧ s ≤ 8 ∧ 1 ≤ e ∧ e ≤ 4 := by
  simp [mayB] at h
  exact ⟨a.toNat, b.toNat, c.toNat, by omega, by omega, by omega, by omega, by omega, by omega, by omega, by omega, by omega⟩

theorem ret_bool {a b : Bool} (h : a = b) : Ending.returned (.bool a) = .returned (.bool b) := by rw [h]

end Go.Proofs.YtinlkcmdbjcofaaGreat

/-
  How the document's machine lies in memory.
-/
namespace Go.Proofs.YtinlkcmdbjcofaaGreat
open Go.RowKit
set_option linter.unusedVariables false

def sl4 (b : Nat) : Value := .slice (some ⟨b, 0, none⟩) 4 4

/-- 'own' says whose each block is: (id, 0): the struct; 1: Rights, 2: Bytes, 3: Slots, 4: Alive, 5: Kept; 6 + 2 * i: the bytes of frame i. -/
structure RefRep0 (own : Nat → Nat × Nat) (id : Nat) (w : World) (m : Nat) (s : RSt) (nk : Nat) (vR vB vS vA vK : Value) (bs : List Nat) : Prop where
  blk : Blk w m [.int .i64 s.nf, .int .i64 s.ns, .int .i64 s.ne, vR, vB, vS, .int .i64 s.turn, vA, vK] 72
  rR : Row w vR 116 6 s.rights.length (s.rights.flatMap RR.cells)
  rB : Row w vB 62 1 s.bytes.length (bs.map sl4)
  rI : ∀ (i : Nat) (l : List Int), s.bytes[i]? = some l → ∃ b, bs[i]? = some b ∧ l.length = 4 ∧ Blk w b (l.map (.int .i64)) 3 ∧ own b = (id, 6 + 2 * i)
  rS : Row w vS 74 5 s.slots.length (s.slots.flatMap Ent.cells)
  rA : Row w vA 4 1 s.alive.length (s.alive.map .bool)
  rK : Row w vK 121 1 nk (List.replicate nk (.pointer none))
  tm : own m = (id, 0)
  tR : Tg own vR (id, 1)
  tB : Tg own vB (id, 2)
  tS : Tg own vS (id, 3)
  tA : Tg own vA (id, 4)
  tK : Tg own vK (id, 5)

/-- What is not its own has turned at the most. -/
theorem RefRep0.of {own own' : Nat → Nat × Nat} {id : Nat} {w w' : World} {m : Nat} {s : RSt} {nk : Nat} {vR vB vS vA vK : Value} {bs : List Nat} (h : RefRep0 own id w m s nk vR vB vS vA vK bs)
    (ho : ∀ b, b < w.heap.size → own' b = own b) (hb : ∀ b, b < w.heap.size → (own b).1 = id → w'.heap[b]? = w.heap[b]?) : RefRep0 own' id w' m s nk vR vB vS vA vK bs := by
  refine ⟨h.blk.of (hb m h.blk.lt (by rw [h.tm])), h.rR.kept h.tR fun b hl ht => hb b hl (by rw [ht]), h.rB.kept h.tB fun b hl ht => hb b hl (by rw [ht]), ?_,
    h.rS.kept h.tS fun b hl ht => hb b hl (by rw [ht]), h.rA.kept h.tA fun b hl ht => hb b hl (by rw [ht]), h.rK.kept h.tK fun b hl ht => hb b hl (by rw [ht]),
    (ho m h.blk.lt).trans h.tm, h.tR.congr h.rR ho, h.tB.congr h.rB ho, h.tS.congr h.rS ho, h.tA.congr h.rA ho, h.tK.congr h.rK ho⟩
  intro i l hl
  obtain ⟨b, h1, h2, h3, h4⟩ := h.rI i l hl
  exact ⟨b, h1, h2, h3.of (hb b h3.lt (by rw [h4])), (ho b h3.lt).trans h4⟩

theorem RefRep0.below {own : Nat → Nat × Nat} {id : Nat} {w w' : World} {m : Nat} {s : RSt} {nk : Nat} {vR vB vS vA vK : Value} {bs : List Nat} (h : RefRep0 own id w m s nk vR vB vS vA vK bs)
    (hb : Below w.heap.size w w') : RefRep0 own id w' m s nk vR vB vS vA vK bs := h.of (fun _ _ => rfl) fun b hm _ => hb.block b hm

def set1 (own : Nat → Nat × Nat) (b : Nat) (t : Nat × Nat) : Nat → Nat × Nat := fun x => if x = b then t else own x
theorem set1_old {own : Nat → Nat × Nat} {b : Nat} {t : Nat × Nat} {n : Nat} (h : n ≤ b) : ∀ x, x < n → set1 own b t x = own x := by
  intro x hx; simp [set1]; omega
theorem set1_at (own : Nat → Nat × Nat) (b : Nat) (t : Nat × Nat) : set1 own b t b = t := by simp [set1]

theorem Tg.app {own : Nat → Nat × Nat} {v : Value} {t : Nat × Nat} {H g n cap : Nat} (ht : Tg own v t) (hlt : ∀ b, v.ownBlock = some b → b < H) (hat : v.ownBlock = some g ∨ g = H) :
    Tg (set1 own H t) (.slice (some ⟨g, 0, none⟩) n cap) t := by
  refine Tg.mk ?_
  rcases hat with h | h
  · have := hlt g h
    simp [set1]
    intro _
    exact ht g h
  · subst h; exact set1_at _ _ _

/-- Behind an append to a field's row and the store into the field: what is neither the struct's nor that row's is as it was. -/
theorem app_keep {own : Nat → Nat × Nat} {w w2 w1 : World} {m : Nat} {vX v' : Value} {t0 t : Nat × Nat} {a : Addr} (tm : own m = t0) (tX : Tg own vX t) (h2 : Below w.heap.size w w2)
    (hg : w2.grownBy w1 vX.ownBlock) (ha : a.block = m) : ∀ b, b < w.heap.size → own b ≠ t0 → own b ≠ t → (w1.setCell a v').heap[b]? = w.heap[b]? := by
  intro b hb n0 nt
  rw [heap_setCell_other w1 a b v' (by rw [ha]; intro e; subst e; exact n0 tm), hg.block b (Nat.lt_of_lt_of_le hb h2.size) (fun e => nt (tX b e.symm)), h2.block b hb]

section
variable {own own' : Nat → Nat × Nat} {id : Nat} {w W : World} {m : Nat} {s : RSt} {nk : Nat} {vR vB vS vA vK v' : Value} {bs : List Nat}

theorem RefRep0.inner (h : RefRep0 own id w m s nk vR vB vS vA vK bs) (ho : ∀ b, b < w.heap.size → own' b = own b) (j : Nat) (hj : j < 6)
    (hW : ∀ b, b < w.heap.size → own b ≠ (id, 0) → own b ≠ (id, j) → W.heap[b]? = w.heap[b]?) :
    ∀ (i : Nat) (l : List Int), s.bytes[i]? = some l → ∃ b, bs[i]? = some b ∧ l.length = 4 ∧ Blk W b (l.map (.int .i64)) 3 ∧ own' b = (id, 6 + 2 * i) := by
  intro i l hl
  obtain ⟨b, h1, h2, h3, h4⟩ := h.rI i l hl
  exact ⟨b, h1, h2, h3.of (hW b h3.lt (by rw [h4]; simp) (by rw [h4]; simp; omega)), (ho b h3.lt).trans h4⟩

theorem RefRep0.putB (h : RefRep0 own id w m s nk vR vB vS vA vK bs) (ho : ∀ b, b < w.heap.size → own' b = own b)
    (hW : ∀ b, b < w.heap.size → own b ≠ (id, 0) → own b ≠ (id, 2) → W.heap[b]? = w.heap[b]?) {bytes' : List (List Int)} {bs' : List Nat}
    (hm : Blk W m [.int .i64 s.nf, .int .i64 s.ns, .int .i64 s.ne, vR, v', vS, .int .i64 s.turn, vA, vK] 72)
    (hr : Row W v' 62 1 bytes'.length (bs'.map sl4)) (ht : Tg own' v' (id, 2))
    (hI : ∀ (i : Nat) (l : List Int), bytes'[i]? = some l → ∃ b, bs'[i]? = some b ∧ l.length = 4 ∧ Blk W b (l.map (.int .i64)) 3 ∧ own' b = (id, 6 + 2 * i)) :
    RefRep0 own' id W m { s with bytes := bytes' } nk vR v' vS vA vK bs' :=
  ⟨hm, h.rR.kept h.tR fun b hl ht => hW b hl (by rw [ht]; simp) (by rw [ht]; simp), hr, hI,
    h.rS.kept h.tS fun b hl ht => hW b hl (by rw [ht]; simp) (by rw [ht]; simp), h.rA.kept h.tA fun b hl ht => hW b hl (by rw [ht]; simp) (by rw [ht]; simp),
    h.rK.kept h.tK fun b hl ht => hW b hl (by rw [ht]; simp) (by rw [ht]; simp), (ho m h.blk.lt).trans h.tm, h.tR.congr h.rR ho, ht, h.tS.congr h.rS ho, h.tA.congr h.rA ho, h.tK.congr h.rK ho⟩

theorem RefRep0.putS (h : RefRep0 own id w m s nk vR vB vS vA vK bs) (ho : ∀ b, b < w.heap.size → own' b = own b)
    (hW : ∀ b, b < w.heap.size → own b ≠ (id, 0) → own b ≠ (id, 3) → W.heap[b]? = w.heap[b]?) {slots' : List Ent}
    (hm : Blk W m [.int .i64 s.nf, .int .i64 s.ns, .int .i64 s.ne, vR, vB, v', .int .i64 s.turn, vA, vK] 72)
    (hr : Row W v' 74 5 slots'.length (slots'.flatMap Ent.cells)) (ht : Tg own' v' (id, 3)) :
    RefRep0 own' id W m { s with slots := slots' } nk vR vB v' vA vK bs :=
  ⟨hm, h.rR.kept h.tR fun b hl ht => hW b hl (by rw [ht]; simp) (by rw [ht]; simp), h.rB.kept h.tB fun b hl ht => hW b hl (by rw [ht]; simp) (by rw [ht]; simp), h.inner ho 3 (by omega) hW,
    hr, h.rA.kept h.tA fun b hl ht => hW b hl (by rw [ht]; simp) (by rw [ht]; simp),
    h.rK.kept h.tK fun b hl ht => hW b hl (by rw [ht]; simp) (by rw [ht]; simp), (ho m h.blk.lt).trans h.tm, h.tR.congr h.rR ho, h.tB.congr h.rB ho, ht, h.tA.congr h.rA ho, h.tK.congr h.rK ho⟩

theorem RefRep0.putA (h : RefRep0 own id w m s nk vR vB vS vA vK bs) (ho : ∀ b, b < w.heap.size → own' b = own b)
    (hW : ∀ b, b < w.heap.size → own b ≠ (id, 0) → own b ≠ (id, 4) → W.heap[b]? = w.heap[b]?) {alive' : List Bool}
    (hm : Blk W m [.int .i64 s.nf, .int .i64 s.ns, .int .i64 s.ne, vR, vB, vS, .int .i64 s.turn, v', vK] 72)
    (hr : Row W v' 4 1 alive'.length (alive'.map .bool)) (ht : Tg own' v' (id, 4)) :
    RefRep0 own' id W m { s with alive := alive' } nk vR vB vS v' vK bs :=
  ⟨hm, h.rR.kept h.tR fun b hl ht => hW b hl (by rw [ht]; simp) (by rw [ht]; simp), h.rB.kept h.tB fun b hl ht => hW b hl (by rw [ht]; simp) (by rw [ht]; simp), h.inner ho 4 (by omega) hW,
    h.rS.kept h.tS fun b hl ht => hW b hl (by rw [ht]; simp) (by rw [ht]; simp), hr,
    h.rK.kept h.tK fun b hl ht => hW b hl (by rw [ht]; simp) (by rw [ht]; simp), (ho m h.blk.lt).trans h.tm, h.tR.congr h.rR ho, h.tB.congr h.rB ho, h.tS.congr h.rS ho, ht, h.tK.congr h.rK ho⟩

theorem RefRep0.putK (h : RefRep0 own id w m s nk vR vB vS vA vK bs) (ho : ∀ b, b < w.heap.size → own' b = own b)
    (hW : ∀ b, b < w.heap.size → own b ≠ (id, 0) → own b ≠ (id, 5) → W.heap[b]? = w.heap[b]?) {nk' : Nat}
    (hm : Blk W m [.int .i64 s.nf, .int .i64 s.ns, .int .i64 s.ne, vR, vB, vS, .int .i64 s.turn, vA, v'] 72)
    (hr : Row W v' 121 1 nk' (List.replicate nk' (.pointer none))) (ht : Tg own' v' (id, 5)) :
    RefRep0 own' id W m s nk' vR vB vS vA v' bs :=
  ⟨hm, h.rR.kept h.tR fun b hl ht => hW b hl (by rw [ht]; simp) (by rw [ht]; simp), h.rB.kept h.tB fun b hl ht => hW b hl (by rw [ht]; simp) (by rw [ht]; simp), h.inner ho 5 (by omega) hW,
    h.rS.kept h.tS fun b hl ht => hW b hl (by rw [ht]; simp) (by rw [ht]; simp), h.rA.kept h.tA fun b hl ht => hW b hl (by rw [ht]; simp) (by rw [ht]; simp),
    hr, (ho m h.blk.lt).trans h.tm, h.tR.congr h.rR ho, h.tB.congr h.rB ho, h.tS.congr h.rS ho, h.tA.congr h.rA ho, ht⟩

theorem RefRep0.putR (h : RefRep0 own id w m s nk vR vB vS vA vK bs) (ho : ∀ b, b < w.heap.size → own' b = own b)
    (hW : ∀ b, b < w.heap.size → own b ≠ (id, 0) → own b ≠ (id, 1) → W.heap[b]? = w.heap[b]?) {rights' : List RR}
    (hm : Blk W m [.int .i64 s.nf, .int .i64 s.ns, .int .i64 s.ne, v', vB, vS, .int .i64 s.turn, vA, vK] 72)
    (hr : Row W v' 116 6 rights'.length (rights'.flatMap RR.cells)) (ht : Tg own' v' (id, 1)) :
    RefRep0 own' id W m { s with rights := rights' } nk v' vB vS vA vK bs :=
  ⟨hm, hr, h.rB.kept h.tB fun b hl ht => hW b hl (by rw [ht]; simp) (by rw [ht]; simp), h.inner ho 1 (by omega) hW,
    h.rS.kept h.tS fun b hl ht => hW b hl (by rw [ht]; simp) (by rw [ht]; simp), h.rA.kept h.tA fun b hl ht => hW b hl (by rw [ht]; simp) (by rw [ht]; simp),
    h.rK.kept h.tK fun b hl ht => hW b hl (by rw [ht]; simp) (by rw [ht]; simp), (ho m h.blk.lt).trans h.tm, ht, h.tB.congr h.rB ho, h.tS.congr h.rS ho, h.tA.congr h.rA ho, h.tK.congr h.rK ho⟩
end

end Go.Proofs.YtinlkcmdbjcofaaGreat

namespace Go.Proofs.YtinlkcmdbjcofaaGreat
open Go.RowKit
set_option linter.unusedVariables false

theorem Tryz.infoInts : (Tryz.prog.info? 62).map (fun i => (i.zero, i.size, i.bytes)) = some (some (.slice none 0 0), 1, 24) := by kernel_rfl
theorem Tryz.infoEntry : (Tryz.prog.info? 74).map (fun i => (i.zero, i.size, i.bytes)) = some (some (.agg #[.bool false, .int .i64 0, .int .i64 0, .int .i64 0, .bool false]), 5, 40) := by kernel_rfl
theorem Tryz.infoBool : (Tryz.prog.info? 4).map (fun i => (i.zero, i.size, i.bytes)) = some (some (.bool false), 1, 1) := by kernel_rfl
theorem Tryz.infoKeptP : (Tryz.prog.info? 121).map (fun i => (i.zero, i.size, i.bytes)) = some (some (.pointer none), 1, 8) := by kernel_rfl

/-- The document's machine while it is made. -/
def mk (f s e r1 r2 r3 : Nat) : RSt := ⟨f, s, e, [], List.replicate r1 [0, 0, 0, 0], List.replicate r2 Ent.empty, 0, List.replicate r3 true, List.replicate e none⟩

section
variable {own : Nat → Nat × Nat} {id : Nat} {w w1 : World} {m : Nat} {s : RSt} {nk : Nat} {vR vB vS vA vK : Value} {bs : List Nat} {g cap : Nat}

/-- The row behind an append and the store into the struct. -/
theorem Row.field {e k n : Nat} {xs : List Value} {v : Value} {t : Nat × Nat} {j : Nat} {u : Value} {H : Nat} (hown : w1.ownsRow 0 e k (.slice (some ⟨g, 0, none⟩) n cap) n xs) (tm : own m = (id, 0)) (tv : Tg own v t) (ht : t ≠ (id, 0))
    (hat : v.ownBlock = some g ∨ g = H) (hm : m < H) : Row (w1.setCell ⟨m, j, none⟩ u) (.slice (some ⟨g, 0, none⟩) n cap) e k n xs := by
  refine Row.other (w := w1) hown u (fun e => ?_)
  simp [Value.ownBlock] at e
  rcases hat with h | h
  · have h3 := tv g h; rw [e, tm] at h3; exact ht h3.symm
  · omega

theorem RefRep0.appS (h : RefRep0 own id w m s nk vR vB vS vA vK bs) (x : Ent)
    (hown : w1.ownsRow 0 74 5 (.slice (some ⟨g, 0, none⟩) (s.slots.length + 1) cap) (s.slots.length + 1) (s.slots.flatMap Ent.cells ++ x.cells))
    (hg : (w.alloc (.cells x.cells.toArray 74)).grownBy w1 vS.ownBlock) (hat : vS.ownBlock = some g ∨ g = w.heap.size + 1) :
    RefRep0 (set1 own (w.heap.size + 1) (id, 3)) id (w1.setCell ⟨m, 5, none⟩ (.slice (some ⟨g, 0, none⟩) (s.slots.length + 1) cap)) m { s with slots := s.slots ++ [x] } nk vR vB (.slice (some ⟨g, 0, none⟩) (s.slots.length + 1) cap) vA vK bs := by
  have hbe : Below w.heap.size w (w.alloc (.cells x.cells.toArray 74)) := (Below.refl _ _).alloc (Nat.le_refl _) _
  have hmlt := h.blk.lt
  have hm1 := (h.blk.alloc (.cells x.cells.toArray 74)).grown hg (fun e => by have := h.tS _ e; rw [h.tm] at this; simp at this)
  refine h.putS (set1_old (by omega)) (app_keep (a := ⟨m, 5, none⟩) h.tm h.tS hbe hg rfl) (hm1.set 5 _) ?_ (h.tS.app (fun b hb => by have := h.rS.lt b hb; omega) hat)
  have := Row.field (j := 5) (u := .slice (some ⟨g, 0, none⟩) (s.slots.length + 1) cap) hown h.tm h.tS (by simp) hat (by omega)
  simpa using this

theorem RefRep0.appA (h : RefRep0 own id w m s nk vR vB vS vA vK bs) (x : Bool)
    (hown : w1.ownsRow 0 4 1 (.slice (some ⟨g, 0, none⟩) (s.alive.length + 1) cap) (s.alive.length + 1) (s.alive.map .bool ++ [.bool x]))
    (hg : (w.alloc (.cells [.bool x].toArray 4)).grownBy w1 vA.ownBlock) (hat : vA.ownBlock = some g ∨ g = w.heap.size + 1) :
    RefRep0 (set1 own (w.heap.size + 1) (id, 4)) id (w1.setCell ⟨m, 7, none⟩ (.slice (some ⟨g, 0, none⟩) (s.alive.length + 1) cap)) m { s with alive := s.alive ++ [x] } nk vR vB vS (.slice (some ⟨g, 0, none⟩) (s.alive.length + 1) cap) vK bs := by
  have hbe : Below w.heap.size w (w.alloc (.cells [.bool x].toArray 4)) := (Below.refl _ _).alloc (Nat.le_refl _) _
  have hmlt := h.blk.lt
  have hm1 := (h.blk.alloc (.cells [.bool x].toArray 4)).grown hg (fun e => by have := h.tA _ e; rw [h.tm] at this; simp at this)
  refine h.putA (set1_old (by omega)) (app_keep (a := ⟨m, 7, none⟩) h.tm h.tA hbe hg rfl) (hm1.set 7 _) ?_ (h.tA.app (fun b hb => by have := h.rA.lt b hb; omega) hat)
  have := Row.field (j := 7) (u := .slice (some ⟨g, 0, none⟩) (s.alive.length + 1) cap) hown h.tm h.tA (by simp) hat (by omega)
  simpa using this

theorem RefRep0.appK (h : RefRep0 own id w m s nk vR vB vS vA vK bs)
    (hown : w1.ownsRow 0 121 1 (.slice (some ⟨g, 0, none⟩) (nk + 1) cap) (nk + 1) (List.replicate nk (.pointer none) ++ [.pointer none]))
    (hg : (w.alloc (.cells [.pointer none].toArray 121)).grownBy w1 vK.ownBlock) (hat : vK.ownBlock = some g ∨ g = w.heap.size + 1) :
    RefRep0 (set1 own (w.heap.size + 1) (id, 5)) id (w1.setCell ⟨m, 8, none⟩ (.slice (some ⟨g, 0, none⟩) (nk + 1) cap)) m s (nk + 1) vR vB vS vA (.slice (some ⟨g, 0, none⟩) (nk + 1) cap) bs := by
  have hbe : Below w.heap.size w (w.alloc (.cells [.pointer none].toArray 121)) := (Below.refl _ _).alloc (Nat.le_refl _) _
  have hmlt := h.blk.lt
  have hm1 := (h.blk.alloc (.cells [.pointer none].toArray 121)).grown hg (fun e => by have := h.tK _ e; rw [h.tm] at this; simp at this)
  refine h.putK (set1_old (by omega)) (app_keep (a := ⟨m, 8, none⟩) h.tm h.tK hbe hg rfl) (hm1.set 8 _) ?_ (h.tK.app (fun b hb => by have := h.rK.lt b hb; omega) hat)
  have := Row.field (j := 8) (u := .slice (some ⟨g, 0, none⟩) (nk + 1) cap) hown h.tm h.tK (by simp) hat (by omega)
  rw [List.replicate_succ']
  exact this

/-- A block with a mark of id lies at or behind b0, where no block below b0 has one. -/
theorem above {own0 : Nat → Nat × Nat} {b0 k j : Nat} (hid : ∀ b, b < b0 → (own0 b).1 ≠ id) (ho : ∀ b, b < b0 → own b = own0 b) (hx : (own b0).1 ≠ id) (hk : own k = (id, j)) : b0 + 1 ≤ k := by
  rcases Nat.lt_or_ge k (b0 + 1) with h | h
  · exfalso
    rcases Nat.lt_or_ge k b0 with h' | h'
    · rw [ho k h'] at hk; exact hid k h' (by rw [hk])
    · obtain rfl : k = b0 := by omega
      exact hx (by rw [hk])
  · exact h
end

theorem oneCell_sl4 (b : Nat) : ∀ u ∈ [sl4 b], u.oneCell' = true := by intro u hu; simp at hu; subst hu; rfl

set_option maxHeartbeats 2000000 in
set_option maxRecDepth 100000 in
theorem begin0_any (own0 : Nat → Nat × Nat) (id f s e : Nat) (w : World) (hf : f ≤ 16) (hs : s ≤ 8) (he : e ≤ 4) (hid : ∀ b, b < w.heap.size → (own0 b).1 ≠ id) :
    Calls Tryz.prog 19 #[.agg #[.int .i64 f, .int .i64 s, .int .i64 e]] w fun en w' => ∃ own m vR vB vS vA vK bs, en = .returned (.pointer (some ⟨m, 0, none⟩)) ∧ Below w.heap.size w w' ∧
      RefRep0 own id w' m (RSt.fresh f s e) e vR vB vS vA vK bs ∧ (∀ b, b < w.heap.size → own b = own0 b) := by
  obtain ⟨i0, hi, hz0, hz1, hz2⟩ := info_parts Tryz.infoInts
  go_enter Tryz.func19, Tryz.ntmps19
  go_wp2
  go_loopg [4] f (fun k i wr => ∃ (r : Nat) (own : Nat → Nat × Nat) (vB : Value) (bs : List Nat), r + k = f ∧ i = .int .i64 r ∧ Below (w.heap.size + 1) (w.alloc (.cells #[.int .i64 f, .int .i64 s, .int .i64 e] 35)) wr ∧
    RefRep0 own id wr (w.heap.size + 1) (mk f s e r 0 0) 0 (.slice none 0 0) vB (.slice none 0 0) (.slice none 0 0) (.slice none 0 0) bs ∧ (∀ b, b < w.heap.size → own b = own0 b) ∧ (own w.heap.size).1 ≠ id ∧ bs.length = r)
  case atStart =>
    refine ⟨0, set1 (set1 own0 w.heap.size (id + 1, 0)) (w.heap.size + 1) (id, 0), .slice none 0 0, [], by omega, rfl, (Below.refl _ _).alloc (by simp) _, ?_, fun b hb => (set1_old (n := w.heap.size) (by omega) b hb).trans (set1_old (n := w.heap.size) (by omega) b hb), by simp [set1], rfl⟩
    exact ⟨Blk.at _ _ _ _ (by simp), Row.nil _ _ _, Row.nil _ _ _, by simp [mk], Row.nil _ _ _, Row.nil _ _ _, Row.nil _ _ _, set1_at _ _ _, Tg.nil _ _, Tg.nil _ _, Tg.nil _ _, Tg.nil _ _, Tg.nil _ _⟩
  case round =>
    obtain ⟨r, own, vB, bs, hr, rfl, hbl, hrep, hown0, hbx, hbs⟩ := hrel
    have k0 : wr.cell? ⟨w.heap.size, 0, none⟩ = some (.int .i64 f) := (hbl.cell (p := ⟨w.heap.size, 0, none⟩) (by simp)).trans (by simp)
    have c4 := hrep.blk.cell 4
    have f4 := hrep.blk.frozen 4
    simp at c4
    by_cases hlt : r < f
    · have hB := hrep.rB
      simp only [mk, List.length_replicate] at hB
      obtain ⟨ao, cap, g, hv, hao, _, _, hmx⟩ := hB.view
      have hB' : (Row ((wr.alloc (.cells [.int .i64 0, .int .i64 0, .int .i64 0, .int .i64 0].toArray 3)).alloc (.cells [sl4 wr.heap.size].toArray 62)) (.slice ao r cap) 62 1 r (bs.map sl4)) := by
        rw [← hv]; exact (hB.alloc _).alloc _
      rw [hv] at c4
      have Hv : Hid (vB = .slice ao r cap) := hv
      have Hb : Hid (bs.length = r) := hbs
      clear hv hao hbs
      go_wp2_with (at_builtin; refine wpList_append_lies _ rfl (.tmp 20) (.tmp 22) 68 rfl 0 62 i0 (.slice none 0 0) 1 24 Tryz.underlying68 hi hz0 hz1 hz2 rfl (by decide) (.slice ao r cap) r (bs.map sl4) rfl hB' ⟨wr.heap.size + 1, 0, none⟩ 1 1 [sl4 wr.heap.size] rfl rfl ?c1 ?c2 (by omega) ?b1 ?b2 (by omega) (wr.heap.size + 2) (by simp) ?nx)
      case c1 => exact World.news_of_block (B := wr.heap.size + 1) (cs := #[sl4 wr.heap.size]) (t := 62) (fr := (0, 0)) (Blk.at _ [sl4 wr.heap.size] _ _ (by simp))
      case c2 => exact oneCell_sl4 _
      case b1 => unfold maxLen; omega
      case b2 => omega
      case nx =>
        intro g1 cap1 w1 hown hgrow hat hlt1
        have hbe : Below wr.heap.size wr ((wr.alloc (.cells [.int .i64 0, .int .i64 0, .int .i64 0, .int .i64 0].toArray 3)).alloc (.cells [sl4 wr.heap.size].toArray 62)) := ((Below.refl _ _).alloc (Nat.le_refl _) _).alloc (by simp) _
        rw [← Hv.out] at hgrow hat
        have hm1 := ((hrep.blk.alloc (.cells [.int .i64 0, .int .i64 0, .int .i64 0, .int .i64 0].toArray 3)).alloc (.cells [sl4 wr.heap.size].toArray 62)).grown hgrow (fun e => by have := hrep.tB _ e; rw [hrep.tm] at this; simp at this)
        have d4 := hm1.cell 4
        have e4 := hm1.frozen 4
        simp at d4
        go_wp2
        go_roundg (gk - 1)
        case measure => omega
        case rel =>
          have hkeep := app_keep (v' := .slice (some ⟨g1, 0, none⟩) (r + 1) cap1) (a := ⟨w.heap.size + 1, 4, none⟩) hrep.tm hrep.tB hbe hgrow rfl
          have hsz : w.heap.size + 2 ≤ wr.heap.size := by have := hrep.blk.lt; omega
          have ho : ∀ b, b < wr.heap.size → set1 (set1 own wr.heap.size (id, 6 + 2 * r)) (wr.heap.size + 2) (id, 2) b = own b := fun b hb => (set1_old (n := wr.heap.size) (by omega) b hb).trans (set1_old (n := wr.heap.size) (by omega) b hb)
          have hlb := hrep.rB.lt
          have hnb : ∀ k, vB.ownBlock = some k → w.heap.size + 1 ≤ k := by
            intro k hk
            have h2 := hrep.tB k hk
            rcases Nat.lt_or_ge k (w.heap.size + 1) with h | h
            · exfalso
              rcases Nat.lt_or_ge k w.heap.size with h' | h'
              · rw [hown0 k h'] at h2; exact hid k h' (by rw [h2])
              · obtain rfl : k = w.heap.size := by omega
                exact hbx (by rw [h2])
            · exact h
          refine ⟨r + 1, set1 (set1 own wr.heap.size (id, 6 + 2 * r)) (wr.heap.size + 2) (id, 2), .slice (some ⟨g1, 0, none⟩) (r + 1) cap1, bs ++ [wr.heap.size], by omega, by go_num, ?_, ?_, ?_, ?_, by simp [Hb.out]⟩
          · exact ((hbl.trans (hbe.mono (by omega))).grown hgrow (by simp; omega) hnb).setCell (by simp) _
          · refine hrep.putB ho hkeep (bytes' := List.replicate (r + 1) [0, 0, 0, 0]) (hm1.set 4 _) ?_ ((hrep.tB.congr (own' := set1 own wr.heap.size (id, 6 + 2 * r)) hrep.rB (set1_old (by omega))).app (fun b hb => by have := hlb b hb; omega) hat) ?_
            · have : Row w1 (.slice (some ⟨g1, 0, none⟩) (r + 1) cap1) 62 1 (r + 1) ((bs ++ [wr.heap.size]).map sl4) := by rw [List.map_append]; exact hown
              have := this.other (a := ⟨w.heap.size + 1, 4, none⟩) (.slice (some ⟨g1, 0, none⟩) (r + 1) cap1) (fun e => ?_)
              · simpa using this
              · simp [Value.ownBlock] at e
                rcases hat with h | h
                · have h3 := hrep.tB g1 h; rw [e, hrep.tm] at h3; simp at h3
                · omega
            · intro i l hl
              rcases Nat.lt_or_ge i r with h | h
              · obtain ⟨b, h1, h2, h3, h4⟩ := hrep.inner ho 2 (by omega) hkeep i l (by simp [mk, List.getElem?_replicate] at hl ⊢; exact ⟨h, hl.2⟩)
                exact ⟨b, by rw [List.getElem?_append_left (by rw [Hb.out]; exact h)]; exact h1, h2, h3, h4⟩
              · simp [List.getElem?_replicate] at hl
                obtain rfl : i = r := by omega
                refine ⟨wr.heap.size, by rw [List.getElem?_append_right (by rw [Hb.out]; omega)]; simp [Hb.out], by rw [← hl.2]; rfl, ?_, ?_⟩
                · rw [← hl.2]
                  exact (((Blk.new wr [.int .i64 0, .int .i64 0, .int .i64 0, .int .i64 0] 3).alloc _).grown hgrow (fun e => by have := hlb _ e; omega)).other _ (by simp; omega)
                · simp [set1]
          · intro b hb
            rw [ho b (by omega)]; exact hown0 b hb
          · rw [ho _ (by omega)]; exact hbx
    · obtain rfl : r = f := by omega
      have hbA : Below (w.heap.size + 1) (w.alloc (.cells #[.int .i64 r, .int .i64 s, .int .i64 e] 35)) wr := hbl
      clear c4 f4 hi hz0 hz1 hz2 i0
      obtain ⟨i1, gi, gz0, gz1, gz2⟩ := info_parts Tryz.infoEntry
      go_wp2
      clear k0 hlt
      go_loopg [5] s (fun k i wx => ∃ (q : Nat) (own : Nat → Nat × Nat) (vS : Value), q + k = s ∧ i = .int .i64 q ∧ Below (w.heap.size + 1) (w.alloc (.cells #[.int .i64 r, .int .i64 s, .int .i64 e] 35)) wx ∧
        RefRep0 own id wx (w.heap.size + 1) (mk r s e r q 0) 0 (.slice none 0 0) vB vS (.slice none 0 0) (.slice none 0 0) bs ∧ (∀ b, b < w.heap.size → own b = own0 b) ∧ (own w.heap.size).1 ≠ id)
      case atStart => exact ⟨0, own, _, by omega, rfl, hbl, hrep, hown0, hbx⟩
      case round =>
        clear hrep hown0 hbx hbl hbA hr hbs
        clear own
        obtain ⟨wq, rfl⟩ : ∃ wq : World, wq = wr := ⟨_, rfl⟩
        obtain ⟨q, own, vS, hq, rfl, hbl, hrep, hown0, hbx⟩ := hrel
        have k1 : wq.cell? ⟨w.heap.size, 1, none⟩ = some (.int .i64 s) := (hbl.cell (p := ⟨w.heap.size, 1, none⟩) (by simp)).trans (by simp)
        have c5 := hrep.blk.cell 5
        have f5 := hrep.blk.frozen 5
        simp at c5
        by_cases hlt : q < s
        · have hS := hrep.rS
          simp only [mk, List.length_replicate] at hS
          obtain ⟨ao, cap, g, hv, hao, _, _, hmx⟩ := hS.view
          have hS' := hS.alloc (.cells Ent.empty.cells.toArray 74)
          rw [hv] at c5 hS'
          have Hv : Hid (vS = .slice ao q cap) := hv
          clear hv hao
          go_wp2_with (at_builtin; refine wpList_append_lies _ rfl (.tmp 36) (.tmp 38) 49 rfl 0 74 i1 _ 5 40 Tryz.underlying49 gi gz0 gz1 gz2 rfl (by decide) (.slice ao q cap) q _ rfl hS' ⟨wq.heap.size, 0, none⟩ 1 1 Ent.empty.cells rfl rfl ?c1 ?c2 (by omega) ?b1 ?b2 (by omega) (wq.heap.size + 1) (by simp) ?nx)
          case c1 => exact World.news_of_block (B := wq.heap.size) (cs := Ent.empty.cells.toArray) (t := 74) (fr := (0, 0)) (Blk.new _ _ _)
          case c2 => intro u hu; simp [Ent.cells] at hu; rcases hu with rfl | rfl | rfl | rfl | rfl <;> rfl
          case b1 => unfold maxLen; omega
          case b2 => omega
          case nx =>
            intro g1 cap1 w1 hown hgrow hat hlt1
            rw [← Hv.out] at hgrow hat
            have hbe : Below wq.heap.size wq (wq.alloc (.cells Ent.empty.cells.toArray 74)) := (Below.refl _ _).alloc (Nat.le_refl _) _
            have hm1 := (hrep.blk.alloc (.cells Ent.empty.cells.toArray 74)).grown hgrow (fun e => by have := hrep.tS _ e; rw [hrep.tm] at this; simp at this)
            have d5 := hm1.cell 5
            have e5 := hm1.frozen 5
            simp at d5
            rw [Hv.out] at d5
            go_wp2
            go_roundg (gk - 1)
            case measure => omega
            case rel =>
              have hsz : w.heap.size + 2 ≤ wq.heap.size := by have := hrep.blk.lt; omega
              have hnew := hrep.appS (w1 := w1) (g := g1) (cap := cap1) Ent.empty (by simpa [mk] using hown) hgrow hat
              refine ⟨q + 1, set1 own (wq.heap.size + 1) (id, 3), .slice (some ⟨g1, 0, none⟩) (q + 1) cap1, by omega, by go_num, ?_, ?_, ?_, ?_⟩
              · exact ((hbl.trans (hbe.mono (by omega))).grown hgrow (by simp; omega) (fun k hk => above hid hown0 hbx (hrep.tS k hk))).setCell (by simp) _
              · simpa [mk, List.replicate_succ'] using hnew
              · intro b hb
                rw [set1_old (n := wq.heap.size) (by omega) b (by omega)]; exact hown0 b hb
              · rw [set1_old (n := wq.heap.size) (by omega) _ (by omega)]; exact hbx
        · obtain rfl : q = s := by omega
          clear c5 f5 gi gz0 gz1 gz2 i1
          obtain ⟨i2, gi, gz0, gz1, gz2⟩ := info_parts Tryz.infoBool
          obtain ⟨i3, ki, kz0, kz1, kz2⟩ := info_parts Tryz.infoKeptP
          go_wp2
          clear k1 hlt hq
          go_loopg [6] e (fun k i wx => ∃ (p : Nat) (own : Nat → Nat × Nat) (vA vK : Value), p + k = e ∧ i = .int .i64 p ∧ Below (w.heap.size + 1) (w.alloc (.cells #[.int .i64 r, .int .i64 q, .int .i64 e] 35)) wx ∧
            RefRep0 own id wx (w.heap.size + 1) (mk r q e r q p) p (.slice none 0 0) vB vS vA vK bs ∧ (∀ b, b < w.heap.size → own b = own0 b) ∧ (own w.heap.size).1 ≠ id)
          case atStart => exact ⟨0, own, _, _, by omega, rfl, hbl, hrep, hown0, hbx⟩
          case round =>
            clear hrep hown0 hbx hbl
            clear own
            obtain ⟨wp, rfl⟩ : ∃ wp : World, wp = wr := ⟨_, rfl⟩
            obtain ⟨p, own, vA, vK, hp, rfl, hbl, hrep, hown0, hbx⟩ := hrel
            have k2 : wp.cell? ⟨w.heap.size, 2, none⟩ = some (.int .i64 e) := (hbl.cell (p := ⟨w.heap.size, 2, none⟩) (by simp)).trans (by simp)
            have c7 := hrep.blk.cell 7
            simp at c7
            by_cases hlt : p < e
            · have hA := hrep.rA
              simp only [mk, List.length_replicate] at hA
              obtain ⟨ao, cap, g, hv, hao, _, _, hmx⟩ := hA.view
              have hA' := hA.alloc (.cells [.bool true].toArray 4)
              rw [hv] at c7 hA'
              have Hv : Hid (vA = .slice ao p cap) := hv
              clear hv hao
              go_wp2_with (at_builtin; refine wpList_append_lies _ rfl (.tmp 52) (.tmp 53) 69 rfl 0 4 i2 _ 1 1 Tryz.underlying69 gi gz0 gz1 gz2 rfl (by decide) (.slice ao p cap) p _ rfl hA' ⟨wp.heap.size, 0, none⟩ 1 1 [.bool true] rfl rfl ?c1 ?c2 (by omega) ?b1 ?b2 (by omega) (wp.heap.size + 1) (by simp) ?nx)
              case c1 => exact World.news_of_block (B := wp.heap.size) (cs := [.bool true].toArray) (t := 4) (fr := (0, 0)) (Blk.new _ _ _)
              case c2 => intro u hu; simp at hu; subst hu; rfl
              case b1 => unfold maxLen; omega
              case b2 => omega
              case nx =>
                intro g1 cap1 w1 hown hgrow hat hlt1
                rw [← Hv.out] at hgrow hat
                have hbe : Below wp.heap.size wp (wp.alloc (.cells [.bool true].toArray 4)) := (Below.refl _ _).alloc (Nat.le_refl _) _
                have hm1 := (hrep.blk.alloc (.cells [.bool true].toArray 4)).grown hgrow (fun e => by have := hrep.tA _ e; rw [hrep.tm] at this; simp at this)
                have d7 := hm1.cell 7
                have e7 := hm1.frozen 7
                simp at d7
                rw [Hv.out] at d7
                have hsz : w.heap.size + 2 ≤ wp.heap.size := by have := hrep.blk.lt; omega
                have hnew := hrep.appA (w1 := w1) (g := g1) (cap := cap1) true (by simpa [mk] using hown) hgrow hat
                have hblA := ((hbl.trans (hbe.mono (by omega))).grown hgrow (by simp; omega) (fun k hk => above hid hown0 hbx (hrep.tA k hk))).setCell (p := ⟨w.heap.size + 1, 7, none⟩) (by simp) (.slice (some ⟨g1, 0, none⟩) (p + 1) cap1)
                have hsz2 : wp.heap.size ≤ w1.heap.size := by have := hgrow.size; simp at this; omega
                have ho1 : ∀ b, b < w.heap.size → set1 own (wp.heap.size + 1) (id, 4) b = own0 b := fun b hb => by rw [set1_old (n := wp.heap.size) (by omega) b (by omega)]; exact hown0 b hb
                have hx1 : (set1 own (wp.heap.size + 1) (id, 4) w.heap.size).1 ≠ id := by rw [set1_old (n := wp.heap.size) (by omega) _ (by omega)]; exact hbx
                simp only [mk, List.length_replicate] at hnew
                have Hs1 : Hid ( (w1.setCell ⟨w.heap.size + 1, 7, none⟩ (.slice (some ⟨g1, 0, none⟩) (p + 1) cap1)).heap.size = w1.heap.size) := by unfold Hid; simp
                obtain ⟨ao2, cap2, g2, hv2, hao2, _, _, hmx2⟩ := hnew.rK.view
                have hK' := hnew.rK.alloc (.cells [.pointer none].toArray 121)
                have d8 := hm1.cell 8
                have e8 := hm1.frozen 8
                simp at d8
                rw [hv2] at d8 hK'
                have Hv2 : Hid (vK = .slice ao2 p cap2) := hv2
                clear hv2 hao2 hrep hown hgrow hat hA' hA Hv hown0 hbx hm1 hbe
                go_wp2_with (at_builtin; refine wpList_append_lies _ rfl (.tmp 61) (.tmp 62) 70 rfl 0 121 i3 _ 1 8 Tryz.underlying70 ki kz0 kz1 kz2 rfl (by decide) (.slice ao2 p cap2) p _ rfl hK' ⟨w1.heap.size, 0, none⟩ 1 1 [.pointer none] rfl rfl ?c1 ?c2 (by omega) ?b1 ?b2 (by omega) (w1.heap.size + 1) (by simp) ?nx)
                case c1 => exact World.news_of_block (B := w1.heap.size) (cs := [.pointer none].toArray) (t := 121) (fr := (0, 0)) (Blk.at (w1.setCell ⟨w.heap.size + 1, 7, none⟩ (.slice (some ⟨g1, 0, none⟩) (p + 1) cap1)) [.pointer none] _ _ Hs1.out.symm)
                case c2 => intro u hu; simp at hu; subst hu; rfl
                case b1 => unfold maxLen; omega
                case b2 => omega
                case nx =>
                  intro g3 cap3 w3 hown3 hgrow3 hat3 hlt3
                  rw [← Hv2.out] at hgrow3 hat3
                  have hnew3 := hnew.appK (w1 := w3) (g := g3) (cap := cap3) hown3 hgrow3 (by rw [Hs1.out]; exact hat3)
                  have hm3 := (hnew.blk.alloc (.cells [.pointer none].toArray 121)).grown hgrow3 (fun e => by have := hnew.tK _ e; rw [hnew.tm] at this; simp at this)
                  have d9 := hm3.cell 8
                  have e9 := hm3.frozen 8
                  simp at d9
                  rw [Hv2.out] at d9
                  go_wp2
                  go_roundg (gk - 1)
                  case measure => omega
                  case rel =>
                    rw [Hs1.out] at hnew3
                    refine ⟨p + 1, _, _, _, by omega, by go_num, ?_, by simpa [mk, List.replicate_succ'] using hnew3, ?_, ?_⟩
                    · exact ((hblA.alloc (by simp; omega) _).grown hgrow3 (by simp; omega) (fun k hk => above hid ho1 hx1 (hnew.tK k hk))).setCell (by simp) _
                    · intro b hb
                      rw [set1_old (n := w1.heap.size) (by omega) b (by omega)]; exact ho1 b hb
                    · rw [set1_old (n := w1.heap.size) (by omega) _ (by omega)]; exact hx1
            · obtain rfl : p = e := by omega
              go_wp2
              go_ret
              exact ⟨own, _, _, _, _, _, _, _, rfl, ((Below.refl _ _).alloc (Nat.le_refl _) _).trans (hbl.mono (by omega)), hrep, hown0⟩
end Go.Proofs.YtinlkcmdbjcofaaGreat
