import Derived.BigQuiet
import Derived.Deep.AppendLies
import Derived.Deep.DeepCutAuto
import Derived.Deep.DeepMust
import Derived.Deep.DrawnRows
import Derived.Deep.LoopGhost
import Derived.Deep.QuietTactic
import Derived.Deep.RegionHeld3
import Derived.KernelRfl
import Derived.Test.YtnolplmpanbmhaaGreatProg
import Derived.WalkKit
import Derived.WalkLawsBesides
import Derived.WalkSpells
import GoSem.Core.Value
/-
  The document's machine, as plain data (no program, no memory).
-/
namespace Go.Proofs.YtnolplmpanbmhaaGreat
set_option linter.unusedVariables false

/-- A right that was ever made. -/
structure RR where
  h : Int
  env : Int
  fr : Int
  wr : Bool
  frm : Int
  ended : Bool

structure Ent where
  used : Bool
  env : Int
  page : Int
  fr : Int
  wr : Bool

def Ent.empty : Ent := ⟨false, 0, 0, 0, false⟩

structure RSt where
  nf : Nat
  ns : Nat
  ne : Nat
  rights : List RR
  bytes : List (List Int)
  slots : List Ent
  turn : Int
  alive : List Bool

def RSt.fresh (f s e : Nat) : RSt := ⟨f, s, e, [], List.replicate f [0, 0, 0, 0], List.replicate s Ent.empty, 0, List.replicate e true⟩

def I (n : Int) : Value := .int .i64 n
def RR.cells (r : RR) : List Value := [.int .i64 r.h, .int .i64 r.env, .int .i64 r.fr, .bool r.wr, .int .i64 r.frm, .bool r.ended]
def Ent.cells (e : Ent) : List Value := [.bool e.used, .int .i64 e.env, .int .i64 e.page, .int .i64 e.fr, .bool e.wr]

theorem flat_length {α : Type} (f : α → List Value) (k : Nat) (hf : ∀ x, (f x).length = k) (xs : List α) : (xs.flatMap f).length = xs.length * k := by
  induction xs with
  | nil => simp
  | cons x xs ih => simp [hf, ih, Nat.add_mul, Nat.add_comm]

theorem flat_get {α : Type} (f : α → List Value) (k : Nat) (hf : ∀ x, (f x).length = k) (xs : List α) (i j : Nat) (x : α) (hx : xs[i]? = some x) (hj : j < k) :
    (xs.flatMap f)[i * k + j]? = (f x)[j]? := by
  induction xs generalizing i with
  | nil => simp at hx
  | cons y ys ih =>
    cases i with
    | zero =>
      simp at hx
      subst hx
      simp [List.getElem?_append, hf, hj]
    | succ i =>
      simp at hx
      have := ih i hx
      simp only [List.flatMap_cons]
      rw [List.getElem?_append_right (by rw [hf]; simp [Nat.add_mul]; omega), hf]
      rw [show (i + 1) * k + j - k = i * k + j by simp [Nat.add_mul]; omega]
      exact this

end Go.Proofs.YtnolplmpanbmhaaGreat

/-
  The document's machine as plain functions: which rights are alive, and what each call does.
-/
namespace Go.Proofs.YtnolplmpanbmhaaGreat
set_option linter.unusedVariables false

/-- Each right comes of an earlier one, or of none. -/
def Ordered (rs : List RR) : Prop := ∀ (i : Nat) (r : RR), rs[i]? = some r → -1 ≤ r.frm ∧ r.frm < i

def lvF (rs : List RR) : Nat → Int → Bool
  | 0, _ => true
  | n + 1, i => if i < 0 then true else match rs[i.toNat]? with
    | none => true
    | some r => if r.ended then false else lvF rs n r.frm

/-- Is the right at place i alive? -/
def lv (rs : List RR) (i : Int) : Bool := lvF rs (i + 1).toNat i

theorem lvF_enough {rs : List RR} (ho : Ordered rs) : ∀ (n m : Nat) (i : Int), (i + 1).toNat ≤ n → (i + 1).toNat ≤ m → lvF rs n i = lvF rs m i := by
  intro n
  induction n with
  | zero =>
    intro m i h1 _
    have : i < 0 := by omega
    cases m <;> simp [lvF, this]
  | succ n ih =>
    intro m i h1 h2
    by_cases hi : i < 0
    · cases m <;> simp [lvF, hi]
    · cases m with
      | zero => omega
      | succ m =>
        simp only [lvF, if_neg hi]
        cases hr : rs[i.toNat]? with
        | none => rfl
        | some r =>
          have := ho _ _ hr
          by_cases he : r.ended <;> simp [he]
          exact ih m r.frm (by omega) (by omega)

theorem lv_neg {rs : List RR} {i : Int} (h : i < 0) : lv rs i = true := by
  unfold lv; rw [show (i + 1).toNat = 0 by omega]; rfl

theorem lv_step {rs : List RR} (ho : Ordered rs) {i : Nat} {r : RR} (hr : rs[i]? = some r) : lv rs i = (!r.ended && lv rs r.frm) := by
  have := ho _ _ hr
  unfold lv
  rw [show ((i : Int) + 1).toNat = i + 1 by omega]
  simp only [lvF, Int.toNat_natCast, hr]
  rw [if_neg (by omega)]
  cases r.ended
  · simp only [Bool.false_eq_true, if_false, Bool.not_false, Bool.true_and]
    exact lvF_enough ho _ _ _ (by omega) (by omega)
  · simp

/-- How many of the first n are alive. -/
def cntTo (rs : List RR) (n : Nat) : Nat := ((List.range n).filter fun i : Nat => lv rs i).length
def cnt (rs : List RR) : Nat := cntTo rs rs.length
theorem cntTo_succ (rs : List RR) (n : Nat) : cntTo rs (n + 1) = cntTo rs n + if lv rs n then 1 else 0 := by
  unfold cntTo
  rw [List.range_succ, List.filter_append]
  cases h : lv rs n <;> simp [h]
theorem cntTo_le (rs : List RR) (n : Nat) : cntTo rs n ≤ n := by
  unfold cntTo
  have := List.length_filter_le (fun i : Nat => lv rs i) (List.range n)
  simpa using this

/-- Is right i alive, one of env to frame, by which one may write if that is asked? -/
def ownsB (rs : List RR) (env fr : Int) (wr : Bool) (i : Nat) : Bool := match rs[i]? with
  | none => false
  | some r => lv rs i && (r.env == env && (r.fr == fr && (r.wr || !wr)))
def owned (rs : List RR) (env fr : Int) (wr : Bool) : Bool := (List.range rs.length).any (ownsB rs env fr wr)

def freeB (s : RSt) (f : Nat) : Bool := !(List.range s.ne).any fun e => owned s.rights e f false
/-- The least free frame; nf, if there is none. -/
def leastFree (s : RSt) : Option Nat := (List.range s.nf).find? (freeB s)

def aliveB (s : RSt) (env : Int) : Bool := decide (0 ≤ env) && (decide (env < s.ne) && s.alive[env.toNat]?.getD false)

/-- The error of an environment that must be alive and raw (where none is kept). -/
def rawE (s : RSt) (env : Int) : Int := if aliveB s env then 0 else 2

/-- The right that a call names: its place and the error. -/
def rightE (s : RSt) (env h : Int) : Int × Int :=
  if rawE s env ≠ 0 then (-1, rawE s env)
  else match (if 1 ≤ h ∧ h ≤ s.rights.length then s.rights[(h - 1).toNat]? else none) with
    | none => (-1, 9)
    | some r => if r.env ≠ env then (-1, 9) else if lv s.rights (h - 1) then (h - 1, 0) else (-1, 9)

def sweepS (s : RSt) : RSt := { s with slots := s.slots.map fun e => if e.used && !owned s.rights e.env e.fr e.wr then Ent.empty else e }

def addR (s : RSt) (env fr : Int) (wr : Bool) (frm : Int) : RSt := { s with rights := s.rights ++ [⟨s.rights.length + 1, env, fr, wr, frm, false⟩] }

end Go.Proofs.YtnolplmpanbmhaaGreat

/-
  The ground of this seat's walks: small laws on worlds, said of whole blocks.
-/
namespace Go.Proofs.YtnolplmpanbmhaaGreat
open Go.RowKit
set_option linter.unusedVariables false

/-- Block b holds just the cells cs, of element type t, none of them frozen. -/
def Blk (w : World) (b : Nat) (cs : List Value) (t : TypeId) : Prop := w.heap[b]? = some (.cells cs.toArray t (0, 0))

theorem Blk.lt {w : World} {b : Nat} {cs : List Value} {t : TypeId} (h : Blk w b cs t) : b < w.heap.size := by
  unfold Blk at h
  exact (Array.getElem?_eq_some_iff.1 h).1

theorem Blk.cell {w : World} {b : Nat} {cs : List Value} {t : TypeId} (h : Blk w b cs t) (j : Nat) : w.cell? ⟨b, j, none⟩ = cs[j]? := by
  rw [cell_of_row w b j _ t (0, 0) h]; simp

theorem Blk.frozen {w : World} {b : Nat} {cs : List Value} {t : TypeId} (h : Blk w b cs t) (j : Nat) : w.frozen? ⟨b, j, none⟩ = false :=
  frozen_of_row w b j _ t h

theorem Blk.of {w w' : World} {b : Nat} {cs : List Value} {t : TypeId} (h : Blk w b cs t) (hb : w'.heap[b]? = w.heap[b]?) : Blk w' b cs t := hb.trans h

theorem Blk.drew {w : World} {b : Nat} {cs : List Value} {t : TypeId} (h : Blk w b cs t) : Blk w.drew b cs t := h

theorem Blk.alloc {w : World} {b : Nat} {cs : List Value} {t : TypeId} (h : Blk w b cs t) (o : Obj) : Blk (w.alloc o) b cs t :=
  h.of (Below.heap_alloc w o b h.lt)

theorem Blk.new (w : World) (cs : List Value) (t : TypeId) : Blk (w.alloc (.cells cs.toArray t)) w.heap.size cs t := heap_alloc_new w _

theorem Blk.at (w : World) (cs : List Value) (t : TypeId) (n : Nat) (hn : n = w.heap.size) : Blk (w.alloc (.cells cs.toArray t)) n cs t := by subst hn; exact Blk.new w cs t

theorem Blk.below {w w' : World} {b B : Nat} {cs : List Value} {t : TypeId} (h : Blk w b cs t) (hb : Below B w w') (hlt : b < B) : Blk w' b cs t :=
  h.of (hb.block b hlt)

theorem Blk.set {w : World} {b : Nat} {cs : List Value} {t : TypeId} (h : Blk w b cs t) (j : Nat) (v : Value) : Blk (w.setCell ⟨b, j, none⟩ v) b (cs.set j v) t := by
  unfold Blk
  rw [heap_setCell_same w b j _ t v h]; simp

theorem Blk.other {w : World} {b : Nat} {cs : List Value} {t : TypeId} (h : Blk w b cs t) {a : Addr} (v : Value) (hne : b ≠ a.block) : Blk (w.setCell a v) b cs t :=
  h.of (heap_setCell_other w a b v hne)

theorem Blk.same {w : World} {b : Nat} {cs ds : List Value} {t u : TypeId} (h : Blk w b cs t) (k : Blk w b ds u) : cs = ds ∧ t = u := by
  unfold Blk at h k
  rw [h] at k
  simp at k
  exact ⟨by simpa using k.1, k.2⟩

/-- Of the blocks below B only those of which S holds may have turned. -/
structure Touch (B : Nat) (S : Nat → Prop) (w w' : World) : Prop where
  os : w'.os = w.os
  tape : w'.tape = w.tape
  output : w'.output = w.output
  size : w.heap.size ≤ w'.heap.size
  block : ∀ k, k < B → ¬ S k → w'.heap[k]? = w.heap[k]?

theorem Touch.refl (B : Nat) (S : Nat → Prop) (w : World) : Touch B S w w := ⟨rfl, rfl, rfl, Nat.le_refl _, fun _ _ _ => rfl⟩
theorem Touch.trans {B : Nat} {S : Nat → Prop} {a b c : World} (h : Touch B S a b) (k : Touch B S b c) : Touch B S a c :=
  ⟨k.os.trans h.os, k.tape.trans h.tape, k.output.trans h.output, Nat.le_trans h.size k.size, fun i hi hn => (k.block i hi hn).trans (h.block i hi hn)⟩
theorem Touch.mono {B B' : Nat} {S S' : Nat → Prop} {w w' : World} (h : Touch B S w w') (hB : B' ≤ B) (hf : ∀ k, k < B' → S k → S' k) : Touch B' S' w w' :=
  ⟨h.os, h.tape, h.output, h.size, fun k hk hn => h.block k (by omega) (fun hm => hn (hf k hk hm))⟩
theorem Touch.drew {B : Nat} {S : Nat → Prop} {a w : World} (h : Touch B S a w) : Touch B S a w.drew := ⟨h.os, h.tape, h.output, h.size, h.block⟩
theorem Touch.of_below {B : Nat} {w w' : World} (h : Below B w w') (S : Nat → Prop) : Touch B S w w' := ⟨h.os, h.tape, h.output, h.size, fun k hk _ => h.block k hk⟩
theorem Touch.below {B : Nat} {S : Nat → Prop} {w w' : World} (h : Touch B S w w') (hS : ∀ k, k < B → ¬ S k) : Below B w w' := ⟨h.os, h.tape, h.output, h.size, fun k hk => h.block k hk (hS k hk)⟩
theorem Touch.alloc {B : Nat} {S : Nat → Prop} {a w : World} (h : Touch B S a w) (hB : B ≤ w.heap.size) (o : Obj) : Touch B S a (w.alloc o) :=
  h.trans (Touch.of_below ((Below.refl _ _).alloc hB o) S)
theorem Touch.setCell {B : Nat} {S : Nat → Prop} {a w : World} (h : Touch B S a w) {p : Addr} (hp : S p.block ∨ B ≤ p.block) (u : Value) : Touch B S a (w.setCell p u) :=
  h.trans ⟨rfl, rfl, rfl, by simp [World.setCell], fun k hk hn => Below.heap_setCell _ _ _ _ (by rcases hp with hp | hp; exact fun e => hn (e ▸ hp); omega)⟩
theorem Touch.grown {B : Nat} {S : Nat → Prop} {a w w' : World} {row : Option Nat} (h : Touch B S a w) (hg : w.grownBy w' row) (hB : B ≤ w.heap.size) (hr : ∀ k, row = some k → S k ∨ B ≤ k) : Touch B S a w' :=
  h.trans ⟨hg.os, hg.tape, hg.output, hg.size, fun k hk hn => hg.block k (by omega) (fun e => by rcases hr k e.symm with h | h; exact hn h; omega)⟩
/-- A read-only call behind a touching one. -/
theorem Touch.then_below {B : Nat} {S : Nat → Prop} {a b c : World} (h : Touch B S a b) (k : Below b.heap.size b c) (hB : B ≤ b.heap.size) : Touch B S a c :=
  h.trans (Touch.of_below (k.mono hB) S)

theorem Blk.grown {w w' : World} {b : Nat} {cs : List Value} {t : TypeId} {row : Option Nat} (h : Blk w b cs t) (hg : w.grownBy w' row) (hn : row ≠ some b) : Blk w' b cs t :=
  h.of (hg.block b h.lt (fun e => hn e.symm))

/-- A slice whose whole row is its own: n elements of k cells each; xs: all their cells. -/
def Row (w : World) (v : Value) (e k n : Nat) (xs : List Value) : Prop := w.ownsRow 0 e k v n xs
/-- The row's block, if it has one, bears the mark t. -/
def Tg (own : Nat → Nat × Nat) (v : Value) (t : Nat × Nat) : Prop := ∀ b, v.ownBlock = some b → own b = t

theorem Tg.nil (own : Nat → Nat × Nat) (t : Nat × Nat) : Tg own (.slice none 0 0) t := by intro b h; simp [Value.ownBlock] at h
theorem Tg.congr {own own' : Nat → Nat × Nat} {v : Value} {t : Nat × Nat} {w : World} {e k n : Nat} {xs : List Value} (h : Tg own v t) (hr : Row w v e k n xs) (ho : ∀ b, b < w.heap.size → own' b = own b) : Tg own' v t :=
  fun b hb => (ho b (World.ownsRow.lt hr b hb).2).trans (h b hb)
theorem Tg.mk {own : Nat → Nat × Nat} {t : Nat × Nat} {g n cap : Nat} (h : own g = t) : Tg own (.slice (some ⟨g, 0, none⟩) n cap) t := by
  intro b hb; simp [Value.ownBlock] at hb; exact hb ▸ h

theorem Row.nil (w : World) (e k : Nat) : Row w (.slice none 0 0) e k 0 [] := World.ownsRow_nil w 0 e k
theorem Row.of {w w' : World} {v : Value} {e k n : Nat} {xs : List Value} (h : Row w v e k n xs) (hb : ∀ b, v.ownBlock = some b → w'.heap[b]? = w.heap[b]?) : Row w' v e k n xs := by
  refine ⟨h.1, ?_⟩
  rcases h.2 with hn | ⟨g, cap, cur, rfl, hb0, hgg, rest⟩
  · exact .inl hn
  · exact .inr ⟨g, cap, cur, rfl, hb0, (hb g (by simp [Value.ownBlock])).trans hgg, rest⟩
theorem Row.lt {w : World} {v : Value} {e k n : Nat} {xs : List Value} (h : Row w v e k n xs) : ∀ b, v.ownBlock = some b → b < w.heap.size :=
  fun b hb => (World.ownsRow.lt h b hb).2
theorem Row.drew {w : World} {v : Value} {e k n : Nat} {xs : List Value} (h : Row w v e k n xs) : Row w.drew v e k n xs := h
theorem Row.alloc {w : World} {v : Value} {e k n : Nat} {xs : List Value} (h : Row w v e k n xs) (o : Obj) : Row (w.alloc o) v e k n xs := World.ownsRow.alloc h o
theorem Row.other {w : World} {v : Value} {e k n : Nat} {xs : List Value} (h : Row w v e k n xs) {a : Addr} (u : Value) (hn : v.ownBlock ≠ some a.block) : Row (w.setCell a u) v e k n xs :=
  h.of fun b hb => Below.heap_setCell _ _ _ _ (fun e => hn (e ▸ hb))
/-- What bears the mark t has not turned. -/
theorem Row.kept {own : Nat → Nat × Nat} {t : Nat × Nat} {w w' : World} {v : Value} {e k n : Nat} {xs : List Value} (h : Row w v e k n xs) (ht : Tg own v t) (hk : ∀ b, b < w.heap.size → own b = t → w'.heap[b]? = w.heap[b]?) : Row w' v e k n xs :=
  h.of fun b hb => hk b (h.lt b hb) (ht b hb)
theorem Row.below {w w' : World} {v : Value} {e k n : Nat} {xs : List Value} (h : Row w v e k n xs) (ht : Below w.heap.size w w') : Row w' v e k n xs :=
  h.of fun b hb => ht.block b (h.lt b hb)
theorem Row.set {w : World} {g e k n cap : Nat} {xs : List Value} (h : Row w (.slice (some ⟨g, 0, none⟩) n cap) e k n xs) (j : Nat) (u : Value) :
    Row (w.setCell ⟨g, j, none⟩ u) (.slice (some ⟨g, 0, none⟩) n cap) e k n (xs.set j u) := (World.ownsRow.stored h j u).1
/-- What a slice looks like, and its cells. -/
theorem Row.form {w : World} {v : Value} {e k n : Nat} {xs : List Value} (h : Row w v e k n xs) (hn : 0 < n) :
    ∃ g cap, v = .slice (some ⟨g, 0, none⟩) n cap ∧ (∀ j, j < n * k → w.cell? ⟨g, j, none⟩ = xs[j]?) ∧ ∀ j, w.frozen? ⟨g, j, none⟩ = false := by
  obtain ⟨g, cap, rfl, _, _⟩ := World.ownsRow.form h hn
  exact ⟨g, cap, rfl, fun j hj => World.ownsRow.cellAt h j hj, fun j => World.ownsRow.frozenAt h j⟩
/-- The shape, n whatever it is. -/
theorem Row.view {w : World} {v : Value} {e k n : Nat} {xs : List Value} (h : Row w v e k n xs) :
    ∃ ao cap g, v = .slice ao n cap ∧ (0 < n → ao = some ⟨g, 0, none⟩) ∧ (∀ j, j < n * k → w.cell? ⟨g, j, none⟩ = xs[j]?) ∧ (0 < n → ∀ j, w.frozen? ⟨g, j, none⟩ = false) ∧ n ≤ maxLen := by
  rcases h.2 with ⟨hv, hn⟩ | ⟨g, cap, cur, hv, _, _, h1, h2, _⟩
  · subst hn
    exact ⟨none, 0, 0, hv, by omega, fun j hj => by simp at hj, by omega, by simp [maxLen]⟩
  · subst hv
    exact ⟨_, cap, g, rfl, fun _ => rfl, fun j hj => World.ownsRow.cellAt h j hj, fun _ j => World.ownsRow.frozenAt h j, by omega⟩
theorem Row.len {w : World} {v : Value} {e k n : Nat} {xs : List Value} (h : Row w v e k n xs) : xs.length = n * k := h.1

/-- Both machines' test of a config. -/
def mayB (a b c : Int) : Bool := decide (1 ≤ a ∧ a ≤ 16 ∧ 1 ≤ b ∧ b ≤ 8 ∧ 1 ≤ c ∧ c ≤ 4)

theorem mayB_nat {a b c : Int} (h : mayB a b c = true) : ∃ f s e : Nat, a = f ∧ b = s ∧ c = e ∧ 1 ≤ f ∧ f ≤ 16 ∧ 1 ≤ s ∧ s ≤ 8 ∧ 1 ≤ e ∧ e ≤ 4 := by
  simp [mayB] at h
  exact ⟨a.toNat, b.toNat, c.toNat, by omega, by omega, by omega, by omega, by omega, by omega, by omega, by omega, by omega⟩

theorem ret_bool {a b : Bool} (h : a = b) : Ending.returned (.bool a) = .returned (.bool b) := by rw [h]

end Go.Proofs.YtnolplmpanbmhaaGreat

/-
  How the document's machine lies in memory.
-/
namespace Go.Proofs.YtnolplmpanbmhaaGreat
open Go.RowKit
set_option linter.unusedVariables false

def sl4 (b : Nat) : Value := .slice (some ⟨b, 0, none⟩) 4 4

/-- 'own' says whose each block is: (id, 0): the struct; 1: Rights, 2: Bytes, 3: Slots, 4: Alive, 5: Kept; 6 + i: the bytes of frame i. -/
structure RefRep (own : Nat → Nat × Nat) (id : Nat) (w : World) (m : Nat) (s : RSt) (nk : Nat) (vR vB vS vA vK : Value) (bs : List Nat) : Prop where
  blk : Blk w m [.int .i64 s.nf, .int .i64 s.ns, .int .i64 s.ne, vR, vB, vS, .int .i64 s.turn, vA, vK] 65
  rR : Row w vR 112 6 s.rights.length (s.rights.flatMap RR.cells)
  rB : Row w vB 66 1 s.bytes.length (bs.map sl4)
  rI : ∀ (i : Nat) (l : List Int), s.bytes[i]? = some l → ∃ b, bs[i]? = some b ∧ l.length = 4 ∧ Blk w b (l.map (.int .i64)) 3 ∧ own b = (id, 6 + i)
  rS : Row w vS 68 5 s.slots.length (s.slots.flatMap Ent.cells)
  rA : Row w vA 4 1 s.alive.length (s.alive.map .bool)
  rK : Row w vK 117 1 nk (List.replicate nk (.pointer none))
  tm : own m = (id, 0)
  tR : Tg own vR (id, 1)
  tB : Tg own vB (id, 2)
  tS : Tg own vS (id, 3)
  tA : Tg own vA (id, 4)
  tK : Tg own vK (id, 5)

/-- What is not its own has turned at the most. -/
theorem RefRep.of {own own' : Nat → Nat × Nat} {id : Nat} {w w' : World} {m : Nat} {s : RSt} {nk : Nat} {vR vB vS vA vK : Value} {bs : List Nat} (h : RefRep own id w m s nk vR vB vS vA vK bs)
    (ho : ∀ b, b < w.heap.size → own' b = own b) (hb : ∀ b, b < w.heap.size → (own b).1 = id → w'.heap[b]? = w.heap[b]?) : RefRep own' id w' m s nk vR vB vS vA vK bs := by
  refine ⟨h.blk.of (hb m h.blk.lt (by rw [h.tm])), h.rR.kept h.tR fun b hl ht => hb b hl (by rw [ht]), h.rB.kept h.tB fun b hl ht => hb b hl (by rw [ht]), ?_,
    h.rS.kept h.tS fun b hl ht => hb b hl (by rw [ht]), h.rA.kept h.tA fun b hl ht => hb b hl (by rw [ht]), h.rK.kept h.tK fun b hl ht => hb b hl (by rw [ht]),
    (ho m h.blk.lt).trans h.tm, h.tR.congr h.rR ho, h.tB.congr h.rB ho, h.tS.congr h.rS ho, h.tA.congr h.rA ho, h.tK.congr h.rK ho⟩
  intro i l hl
  obtain ⟨b, h1, h2, h3, h4⟩ := h.rI i l hl
  exact ⟨b, h1, h2, h3.of (hb b h3.lt (by rw [h4])), (ho b h3.lt).trans h4⟩

theorem RefRep.below {own : Nat → Nat × Nat} {id : Nat} {w w' : World} {m : Nat} {s : RSt} {nk : Nat} {vR vB vS vA vK : Value} {bs : List Nat} (h : RefRep own id w m s nk vR vB vS vA vK bs)
    (hb : Below w.heap.size w w') : RefRep own id w' m s nk vR vB vS vA vK bs := h.of (fun _ _ => rfl) fun b hm _ => hb.block b hm

def set1 (own : Nat → Nat × Nat) (b : Nat) (t : Nat × Nat) : Nat → Nat × Nat := fun x => if x = b then t else own x
theorem set1_old {own : Nat → Nat × Nat} {b : Nat} {t : Nat × Nat} {n : Nat} (h : n ≤ b) : ∀ x, x < n → set1 own b t x = own x := by
  intro x hx; simp [set1]; omega
theorem set1_at (own : Nat → Nat × Nat) (b : Nat) (t : Nat × Nat) : set1 own b t b = t := by simp [set1]

theorem Tg.app {own : Nat → Nat × Nat} {v : Value} {t : Nat × Nat} {H g n cap : Nat} (ht : Tg own v t) (hlt : ∀ b, v.ownBlock = some b → b < H) (hat : v.ownBlock = some g ∨ g = H) :
    Tg (set1 own H t) (.slice (some ⟨g, 0, none⟩) n cap) t := by
  refine Tg.mk ?_
  rcases hat with h | h
  · have := hlt g h
    simp [set1]
    intro _
    exact ht g h
  · subst h; exact set1_at _ _ _

/-- Behind an append to a field's row and the store into the field: what is neither the struct's nor that row's is as it was. -/
theorem app_keep {own : Nat → Nat × Nat} {w w2 w1 : World} {m : Nat} {vX v' : Value} {t0 t : Nat × Nat} {a : Addr} (tm : own m = t0) (tX : Tg own vX t) (h2 : Below w.heap.size w w2)
    (hg : w2.grownBy w1 vX.ownBlock) (ha : a.block = m) : ∀ b, b < w.heap.size → own b ≠ t0 → own b ≠ t → (w1.setCell a v').heap[b]? = w.heap[b]? := by
  intro b hb n0 nt
  rw [heap_setCell_other w1 a b v' (by rw [ha]; intro e; subst e; exact n0 tm), hg.block b (Nat.lt_of_lt_of_le hb h2.size) (fun e => nt (tX b e.symm)), h2.block b hb]

section
variable {own own' : Nat → Nat × Nat} {id : Nat} {w W : World} {m : Nat} {s : RSt} {nk : Nat} {vR vB vS vA vK v' : Value} {bs : List Nat}

theorem RefRep.inner (h : RefRep own id w m s nk vR vB vS vA vK bs) (ho : ∀ b, b < w.heap.size → own' b = own b) (j : Nat) (hj : j < 6)
    (hW : ∀ b, b < w.heap.size → own b ≠ (id, 0) → own b ≠ (id, j) → W.heap[b]? = w.heap[b]?) :
    ∀ (i : Nat) (l : List Int), s.bytes[i]? = some l → ∃ b, bs[i]? = some b ∧ l.length = 4 ∧ Blk W b (l.map (.int .i64)) 3 ∧ own' b = (id, 6 + i) := by
  intro i l hl
  obtain ⟨b, h1, h2, h3, h4⟩ := h.rI i l hl
  exact ⟨b, h1, h2, h3.of (hW b h3.lt (by rw [h4]; simp) (by rw [h4]; simp; omega)), (ho b h3.lt).trans h4⟩

theorem RefRep.putB (h : RefRep own id w m s nk vR vB vS vA vK bs) (ho : ∀ b, b < w.heap.size → own' b = own b)
    (hW : ∀ b, b < w.heap.size → own b ≠ (id, 0) → own b ≠ (id, 2) → W.heap[b]? = w.heap[b]?) {bytes' : List (List Int)} {bs' : List Nat}
    (hm : Blk W m [.int .i64 s.nf, .int .i64 s.ns, .int .i64 s.ne, vR, v', vS, .int .i64 s.turn, vA, vK] 65)
    (hr : Row W v' 66 1 bytes'.length (bs'.map sl4)) (ht : Tg own' v' (id, 2))
    (hI : ∀ (i : Nat) (l : List Int), bytes'[i]? = some l → ∃ b, bs'[i]? = some b ∧ l.length = 4 ∧ Blk W b (l.map (.int .i64)) 3 ∧ own' b = (id, 6 + i)) :
    RefRep own' id W m { s with bytes := bytes' } nk vR v' vS vA vK bs' :=
  ⟨hm, h.rR.kept h.tR fun b hl ht => hW b hl (by rw [ht]; simp) (by rw [ht]; simp), hr, hI,
    h.rS.kept h.tS fun b hl ht => hW b hl (by rw [ht]; simp) (by rw [ht]; simp), h.rA.kept h.tA fun b hl ht => hW b hl (by rw [ht]; simp) (by rw [ht]; simp),
    h.rK.kept h.tK fun b hl ht => hW b hl (by rw [ht]; simp) (by rw [ht]; simp), (ho m h.blk.lt).trans h.tm, h.tR.congr h.rR ho, ht, h.tS.congr h.rS ho, h.tA.congr h.rA ho, h.tK.congr h.rK ho⟩

theorem RefRep.putS (h : RefRep own id w m s nk vR vB vS vA vK bs) (ho : ∀ b, b < w.heap.size → own' b = own b)
    (hW : ∀ b, b < w.heap.size → own b ≠ (id, 0) → own b ≠ (id, 3) → W.heap[b]? = w.heap[b]?) {slots' : List Ent}
    (hm : Blk W m [.int .i64 s.nf, .int .i64 s.ns, .int .i64 s.ne, vR, vB, v', .int .i64 s.turn, vA, vK] 65)
    (hr : Row W v' 68 5 slots'.length (slots'.flatMap Ent.cells)) (ht : Tg own' v' (id, 3)) :
    RefRep own' id W m { s with slots := slots' } nk vR vB v' vA vK bs :=
  ⟨hm, h.rR.kept h.tR fun b hl ht => hW b hl (by rw [ht]; simp) (by rw [ht]; simp), h.rB.kept h.tB fun b hl ht => hW b hl (by rw [ht]; simp) (by rw [ht]; simp), h.inner ho 3 (by omega) hW,
    hr, h.rA.kept h.tA fun b hl ht => hW b hl (by rw [ht]; simp) (by rw [ht]; simp),
    h.rK.kept h.tK fun b hl ht => hW b hl (by rw [ht]; simp) (by rw [ht]; simp), (ho m h.blk.lt).trans h.tm, h.tR.congr h.rR ho, h.tB.congr h.rB ho, ht, h.tA.congr h.rA ho, h.tK.congr h.rK ho⟩

theorem RefRep.putA (h : RefRep own id w m s nk vR vB vS vA vK bs) (ho : ∀ b, b < w.heap.size → own' b = own b)
    (hW : ∀ b, b < w.heap.size → own b ≠ (id, 0) → own b ≠ (id, 4) → W.heap[b]? = w.heap[b]?) {alive' : List Bool}
    (hm : Blk W m [.int .i64 s.nf, .int .i64 s.ns, .int .i64 s.ne, vR, vB, vS, .int .i64 s.turn, v', vK] 65)
    (hr : Row W v' 4 1 alive'.length (alive'.map .bool)) (ht : Tg own' v' (id, 4)) :
    RefRep own' id W m { s with alive := alive' } nk vR vB vS v' vK bs :=
  ⟨hm, h.rR.kept h.tR fun b hl ht => hW b hl (by rw [ht]; simp) (by rw [ht]; simp), h.rB.kept h.tB fun b hl ht => hW b hl (by rw [ht]; simp) (by rw [ht]; simp), h.inner ho 4 (by omega) hW,
    h.rS.kept h.tS fun b hl ht => hW b hl (by rw [ht]; simp) (by rw [ht]; simp), hr,
    h.rK.kept h.tK fun b hl ht => hW b hl (by rw [ht]; simp) (by rw [ht]; simp), (ho m h.blk.lt).trans h.tm, h.tR.congr h.rR ho, h.tB.congr h.rB ho, h.tS.congr h.rS ho, ht, h.tK.congr h.rK ho⟩

theorem RefRep.putK (h : RefRep own id w m s nk vR vB vS vA vK bs) (ho : ∀ b, b < w.heap.size → own' b = own b)
    (hW : ∀ b, b < w.heap.size → own b ≠ (id, 0) → own b ≠ (id, 5) → W.heap[b]? = w.heap[b]?) {nk' : Nat}
    (hm : Blk W m [.int .i64 s.nf, .int .i64 s.ns, .int .i64 s.ne, vR, vB, vS, .int .i64 s.turn, vA, v'] 65)
    (hr : Row W v' 117 1 nk' (List.replicate nk' (.pointer none))) (ht : Tg own' v' (id, 5)) :
    RefRep own' id W m s nk' vR vB vS vA v' bs :=
  ⟨hm, h.rR.kept h.tR fun b hl ht => hW b hl (by rw [ht]; simp) (by rw [ht]; simp), h.rB.kept h.tB fun b hl ht => hW b hl (by rw [ht]; simp) (by rw [ht]; simp), h.inner ho 5 (by omega) hW,
    h.rS.kept h.tS fun b hl ht => hW b hl (by rw [ht]; simp) (by rw [ht]; simp), h.rA.kept h.tA fun b hl ht => hW b hl (by rw [ht]; simp) (by rw [ht]; simp),
    hr, (ho m h.blk.lt).trans h.tm, h.tR.congr h.rR ho, h.tB.congr h.rB ho, h.tS.congr h.rS ho, h.tA.congr h.rA ho, ht⟩

theorem RefRep.putR (h : RefRep own id w m s nk vR vB vS vA vK bs) (ho : ∀ b, b < w.heap.size → own' b = own b)
    (hW : ∀ b, b < w.heap.size → own b ≠ (id, 0) → own b ≠ (id, 1) → W.heap[b]? = w.heap[b]?) {rights' : List RR}
    (hm : Blk W m [.int .i64 s.nf, .int .i64 s.ns, .int .i64 s.ne, v', vB, vS, .int .i64 s.turn, vA, vK] 65)
    (hr : Row W v' 112 6 rights'.length (rights'.flatMap RR.cells)) (ht : Tg own' v' (id, 1)) :
    RefRep own' id W m { s with rights := rights' } nk v' vB vS vA vK bs :=
  ⟨hm, hr, h.rB.kept h.tB fun b hl ht => hW b hl (by rw [ht]; simp) (by rw [ht]; simp), h.inner ho 1 (by omega) hW,
    h.rS.kept h.tS fun b hl ht => hW b hl (by rw [ht]; simp) (by rw [ht]; simp), h.rA.kept h.tA fun b hl ht => hW b hl (by rw [ht]; simp) (by rw [ht]; simp),
    h.rK.kept h.tK fun b hl ht => hW b hl (by rw [ht]; simp) (by rw [ht]; simp), (ho m h.blk.lt).trans h.tm, ht, h.tB.congr h.rB ho, h.tS.congr h.rS ho, h.tA.congr h.rA ho, h.tK.congr h.rK ho⟩
end

end Go.Proofs.YtnolplmpanbmhaaGreat

/-
  What the document's machine answers: the calls that only look.
-/
namespace Go.Proofs.YtnolplmpanbmhaaGreat
open Go.RowKit
set_option linter.unusedVariables false

section
variable {own : Nat → Nat × Nat} {id : Nat} {w : World} {m : Nat} {s : RSt} {nk : Nat} {vR vB vS vA vK : Value} {bs : List Nat}

/-- The cells of right i. -/
theorem RefRep.right (h : RefRep own id w m s nk vR vB vS vA vK bs) {i : Nat} {r : RR} (hr : s.rights[i]? = some r) :
    ∃ g cap, vR = .slice (some ⟨g, 0, none⟩) s.rights.length cap ∧ own g = (id, 1) ∧ w.cell? ⟨g, i * 6, none⟩ = some (.int .i64 r.h) ∧ w.cell? ⟨g, i * 6 + 1, none⟩ = some (.int .i64 r.env) ∧ w.cell? ⟨g, i * 6 + 2, none⟩ = some (.int .i64 r.fr) ∧
      w.cell? ⟨g, i * 6 + 3, none⟩ = some (.bool r.wr) ∧ w.cell? ⟨g, i * 6 + 4, none⟩ = some (.int .i64 r.frm) ∧ w.cell? ⟨g, i * 6 + 5, none⟩ = some (.bool r.ended) ∧ ∀ j, w.frozen? ⟨g, j, none⟩ = false := by
  have hi := (List.getElem?_eq_some_iff.1 hr).1
  obtain ⟨g, cap, hv, hc, hf⟩ := h.rR.form (by omega)
  have hx : ∀ j, j < 6 → w.cell? ⟨g, i * 6 + j, none⟩ = r.cells[j]? := fun j hj => by
    rw [hc _ (by omega), flat_get RR.cells 6 (fun _ => rfl) _ _ j _ hr hj]
  exact ⟨g, cap, hv, h.tR g (by rw [hv]; rfl), hx 0 (by omega), hx 1 (by omega), hx 2 (by omega), hx 3 (by omega), hx 4 (by omega), hx 5 (by omega), hf⟩

set_option maxHeartbeats 1000000 in
set_option maxRecDepth 100000 in
theorem living_any (h : RefRep own id w m s nk vR vB vS vA vK bs) (ho : Ordered s.rights) (hm : s.rights.length ≤ 4611686018427387904) (i : Int) (hi : i < s.rights.length) (hi0 : -1 ≤ i) :
    Calls Tryz.prog 86 #[.pointer (some ⟨m, 0, none⟩), .int .i64 i] w fun e w' => e = .returned (.bool (lv s.rights i)) ∧ w' = w := by
  have k3 := h.blk.cell 3
  simp at k3
  go_enter Tryz.func86, Tryz.ntmps86
  go_wp2_with fail
  go_loopg [1] (i + 1).toNat (fun k x wr => ∃ q : Int, x = .int .i64 q ∧ (q + 1).toNat ≤ k ∧ -1 ≤ q ∧ q < s.rights.length ∧ lv s.rights q = lv s.rights i ∧ wr = w)
  case atStart => exact ⟨i, rfl, Nat.le_refl _, hi0, hi, rfl, rfl⟩
  case round =>
    obtain ⟨q, rfl, hk, hq0, hq1, hlv, rfl⟩ := hrel
    have HL : Hid (lv s.rights q = lv s.rights i) := hlv
    clear hlv
    by_cases hq : 0 ≤ q
    · obtain ⟨j, rfl⟩ := Int.eq_ofNat_of_zero_le hq
      have hj : j < s.rights.length := by omega
      obtain ⟨r, hr⟩ : ∃ r, s.rights[j]? = some r := ⟨s.rights[j], by simp⟩
      obtain ⟨g, cap, hv, _, _, _, _, _, c4, c5, _⟩ := h.right hr
      have hst := lv_step ho hr
      have hbd := ho j r hr
      rw [hv] at k3
      have HS : Hid (lv s.rights j = (!r.ended && lv s.rights r.frm)) := hst
      clear hst hv
      cases he : r.ended
      · rw [he] at c5
        go_wp2_with fail
        go_roundg ((r.frm + 1).toNat)
        case measure => omega
        case rel => exact ⟨r.frm, rfl, Nat.le_refl _, hbd.1, by omega, by rw [← HL.out, HS.out, he]; rfl, rfl⟩
      · rw [he] at c5
        go_wp2_with fail
        go_ret
        exact ⟨ret_bool (by rw [← HL.out, HS.out, he]; rfl), rfl⟩
    · go_wp2_with fail
      go_ret
      exact ⟨ret_bool (by rw [← HL.out, lv_neg (by omega)]), rfl⟩

theorem ret_int {a b : Int} (h : a = b) : Ending.returned (.int .i64 a) = .returned (.int .i64 b) := by rw [h]

set_option maxHeartbeats 1000000 in
set_option maxRecDepth 100000 in
theorem count_any (h : RefRep own id w m s nk vR vB vS vA vK bs) (ho : Ordered s.rights) (hm : s.rights.length ≤ 4611686018427387904) :
    Calls Tryz.prog 75 #[.pointer (some ⟨m, 0, none⟩)] w fun e w' => e = .returned (.int .i64 (cnt s.rights)) ∧ w' = w := by
  have k3 := h.blk.cell 3
  simp at k3
  obtain ⟨ao, cap, g, hv, _⟩ := h.rR.view
  rw [hv] at k3
  have Hv : Hid (vR = .slice ao s.rights.length cap) := hv
  clear hv
  go_enter Tryz.func75, Tryz.ntmps75
  go_wp2_with fail
  go_loopg [3, 4] s.rights.length (fun k n x wr => ∃ q : Nat, x = .int .i64 q ∧ q + k = s.rights.length ∧ n = .int .i64 (cntTo s.rights q) ∧ wr = w)
  case atStart => exact ⟨0, rfl, by omega, rfl, rfl⟩
  case round =>
    obtain ⟨q, rfl, hk, rfl, rfl⟩ := hrel
    have hle := cntTo_le s.rights q
    have HK : Hid (q + gk = s.rights.length) := hk
    have hq : q ≤ s.rights.length := by omega
    clear hk
    by_cases hlt : q < s.rights.length
    · go_wp2_with fail
      refine (living_any h ho hm q (by omega) (by omega)).mono ?_
      rintro e w2 ⟨rfl, rfl⟩
      have hsc := cntTo_succ s.rights q
      cases hl : lv s.rights q
      · rw [hl] at hsc
        have HS : Hid (cntTo s.rights (q + 1) = cntTo s.rights q) := by unfold Hid; simpa using hsc
        clear hsc hl
        go_wp2_with fail
        go_roundg (gk - 1)
        case measure => have := HK.out; omega
        case rel => exact ⟨q + 1, by go_num, by have := HK.out; omega, by rw [HS.out], rfl⟩
      · rw [hl] at hsc
        have HS : Hid (cntTo s.rights (q + 1) = cntTo s.rights q + 1) := by unfold Hid; simpa using hsc
        clear hsc hl
        go_wp2_with fail
        go_roundg (gk - 1)
        case measure => have := HK.out; omega
        case rel => exact ⟨q + 1, by go_num, by have := HK.out; omega, by rw [HS.out]; go_num, rfl⟩
    · go_wp2_with fail
      go_ret
      exact ⟨ret_int (by rw [show q = s.rights.length by omega]; rfl), rfl⟩

theorem ownsB_at {rs : List RR} {i : Nat} {r : RR} (hr : rs[i]? = some r) (env fr : Int) (wr : Bool) : ownsB rs env fr wr i = (lv rs i && (r.env == env && (r.fr == fr && (r.wr || !wr)))) := by
  unfold ownsB; rw [hr]

set_option maxHeartbeats 2000000 in
set_option maxRecDepth 100000 in
theorem owned_any (h : RefRep own id w m s nk vR vB vS vA vK bs) (ho : Ordered s.rights) (hm : s.rights.length ≤ 4611686018427387904) (env fr : Int) (wt : Bool) :
    Calls Tryz.prog 107 #[.pointer (some ⟨m, 0, none⟩), .int .i64 env, .int .i64 fr, .bool wt] w fun e w' => e = .returned (.bool (owned s.rights env fr wt)) ∧ Below w.heap.size w w' := by
  obtain ⟨ao, cap, g, hv, _⟩ := h.rR.view
  go_enter Tryz.func107, Tryz.ntmps107
  go_wp2_with fail
  go_loopg [9] s.rights.length (fun k x wr => ∃ q : Nat, x = .int .i64 q ∧ q + k = s.rights.length ∧ (List.range q).any (ownsB s.rights env fr wt) = false ∧ Below w.heap.size w wr)
  case atStart => exact ⟨0, rfl, by omega, rfl, Below.refl _ _⟩
  case round =>
    obtain ⟨q, rfl, hk, hno, hbl⟩ := hrel
    have h' := h.below hbl
    have k3 := h'.blk.cell 3
    simp at k3
    have HK : Hid (q + gk = s.rights.length) := hk
    have HN : Hid ((List.range q).any (ownsB s.rights env fr wt) = false) := hno
    have hq : q ≤ s.rights.length := by omega
    clear hk hno
    by_cases hlt : q < s.rights.length
    · obtain ⟨r, hr⟩ : ∃ r, s.rights[q]? = some r := ⟨s.rights[q], by simp⟩
      obtain ⟨g', cap', hv', _, c0, c1, c2, c3, _, _, _⟩ := h'.right hr
      rw [hv'] at k3
      have hlen : ∀ a, s.rights[q]? = some a → True := fun _ _ => trivial
      have HE : Hid (ownsB s.rights env fr wt q = (lv s.rights q && (r.env == env && (r.fr == fr && (r.wr || !wt))))) := ownsB_at hr env fr wt
      clear hv' hv
      go_wp2_with fail
      refine (living_any h' ho hm q (by omega) (by omega)).mono ?_
      rintro e w2 ⟨rfl, rfl⟩
      have hyes : (lv s.rights q && (r.env == env && (r.fr == fr && (r.wr || !wt)))) = true → owned s.rights env fr wt = true := fun hy => by
        unfold owned
        rw [List.any_eq_true]
        exact ⟨q, List.mem_range.2 hlt, by rw [HE.out]; exact hy⟩
      have hnext : (lv s.rights q && (r.env == env && (r.fr == fr && (r.wr || !wt)))) = false → (List.range (q + 1)).any (ownsB s.rights env fr wt) = false := fun hy => by
        rw [List.range_succ, List.any_append, HN.out]
        simp [HE.out, hy]
      have HY : Hid ((lv s.rights q && (r.env == env && (r.fr == fr && (r.wr || !wt)))) = true → owned s.rights env fr wt = true) := hyes
      have HX : Hid ((lv s.rights q && (r.env == env && (r.fr == fr && (r.wr || !wt)))) = false → (List.range (q + 1)).any (ownsB s.rights env fr wt) = false) := hnext
      clear hyes hnext hr hlen h'
      cases hl : lv s.rights q
      · rw [hl] at HX
        clear HY HE hl
        go_wp2_with fail
        go_roundg (gk - 1)
        case measure => have := HK.out; omega
        case rel => exact ⟨q + 1, by go_num, by have := HK.out; omega, HX.out (by simp), hbl.alloc (by have := hbl.size; omega) _⟩
      · rw [hl] at HX HY
        clear HE hl
        cases he : (r.env == env)
        · rw [he] at HX
          go_wp2_with fail
          go_roundg (gk - 1)
          case measure => have := HK.out; omega
          case rel => exact ⟨q + 1, by go_num, by have := HK.out; omega, HX.out (by simp), hbl.alloc (by have := hbl.size; omega) _⟩
        · cases hf : (r.fr == fr)
          · rw [hf] at HX
            go_wp2_with fail
            go_roundg (gk - 1)
            case measure => have := HK.out; omega
            case rel => exact ⟨q + 1, by go_num, by have := HK.out; omega, HX.out (by simp), hbl.alloc (by have := hbl.size; omega) _⟩
          · rw [he, hf] at HX HY
            cases hw : r.wr
            · rw [hw] at HX HY c3
              cases wt
              · go_wp2_with fail
                go_ret
                exact ⟨ret_bool (HY.out (by simp)).symm, hbl.alloc (by have := hbl.size; omega) _⟩
              · go_wp2_with fail
                go_roundg (gk - 1)
                case measure => have := HK.out; omega
                case rel => exact ⟨q + 1, by go_num, by have := HK.out; omega, HX.out (by simp), hbl.alloc (by have := hbl.size; omega) _⟩
            · rw [hw] at HX HY c3
              go_wp2_with fail
              go_ret
              exact ⟨ret_bool (HY.out (by simp)).symm, hbl.alloc (by have := hbl.size; omega) _⟩
    · obtain rfl : q = s.rights.length := by omega
      rw [hv] at k3
      go_wp2_with fail
      go_ret
      exact ⟨ret_bool (by unfold owned; rw [HN.out]), hbl⟩

set_option maxHeartbeats 1000000 in
set_option maxRecDepth 100000 in
theorem alive_any (h : RefRep own id w m s nk vR vB vS vA vK bs) (ha : s.alive.length = s.ne) (hn : s.ne ≤ 4) (env : Int) :
    Calls Tryz.prog 83 #[.pointer (some ⟨m, 0, none⟩), .int .i64 env] w fun e w' => e = .returned (.bool (aliveB s env)) ∧ w' = w := by
  have k2 := h.blk.cell 2
  have k7 := h.blk.cell 7
  simp at k2 k7
  by_cases h1 : 0 ≤ env
  · by_cases h2 : env < s.ne
    · obtain ⟨j, rfl⟩ := Int.eq_ofNat_of_zero_le h1
      have hj : j < s.alive.length := by omega
      obtain ⟨g, cap, hv, hc, _⟩ := h.rA.form (by omega)
      obtain ⟨b, hb⟩ : ∃ b, s.alive[j]? = some b := ⟨s.alive[j], by simp⟩
      have c0 : w.cell? ⟨g, j, none⟩ = some (.bool b) := by rw [hc _ (by omega), List.getElem?_map, hb]; rfl
      rw [hv] at k7
      have hr : aliveB s j = b := by simp [aliveB, h2, hb]
      rw [hr]
      clear hv hr hb
      have hl : (j : Int) < (s.alive.length : Int) := by omega
      go_enter Tryz.func83, Tryz.ntmps83
      go_wp2_with fail
      go_ret
      exact ⟨rfl, rfl⟩
    · have hr : aliveB s env = false := by simp [aliveB]; omega
      rw [hr]
      go_enter Tryz.func83, Tryz.ntmps83
      go_wp2_with fail
      go_ret
      exact ⟨rfl, rfl⟩
  · have hr : aliveB s env = false := by simp [aliveB]; omega
    rw [hr]
    go_enter Tryz.func83, Tryz.ntmps83
    go_wp2_with fail
    go_ret
    exact ⟨rfl, rfl⟩

theorem aliveB_nat {s : RSt} {env : Int} (h : aliveB s env = true) : ∃ j : Nat, env = j ∧ j < s.ne := by
  simp [aliveB] at h
  exact ⟨env.toNat, by omega, by omega⟩

set_option maxHeartbeats 1000000 in
set_option maxRecDepth 100000 in
theorem raw_any (h : RefRep own id w m s nk vR vB vS vA vK bs) (ha : s.alive.length = s.ne) (hn : s.ne ≤ 4) (hk : nk = s.ne) (env : Int) :
    Calls Tryz.prog 70 #[.pointer (some ⟨m, 0, none⟩), .int .i64 env] w fun e w' => e = .returned (.int .i64 (rawE s env)) ∧ w' = w := by
  have k8 := h.blk.cell 8
  simp at k8
  go_enter Tryz.func70, Tryz.ntmps70
  go_wp2_with fail
  refine (alive_any h ha hn env).mono ?_
  rintro e w2 ⟨rfl, rfl⟩
  cases hal : aliveB s env
  · have HR : Hid (rawE s env = 2) := by simp [Hid, rawE, hal]
    clear hal
    go_wp2_with fail
    go_ret
    exact ⟨ret_int HR.out.symm, rfl⟩
  · have HR : Hid (rawE s env = 0) := by simp [Hid, rawE, hal]
    obtain ⟨j, rfl, hj⟩ := aliveB_nat hal
    subst hk
    obtain ⟨g, cap, hv, hc, _⟩ := h.rK.form (by omega)
    have c0 : w2.cell? ⟨g, j, none⟩ = some (.pointer none) := by rw [hc _ (by omega)]; simp [hj]
    rw [hv] at k8
    have hl : (j : Int) < (s.ne : Int) := by omega
    clear hal hv
    go_wp2_with fail
    go_ret
    exact ⟨ret_int HR.out.symm, rfl⟩
end
end Go.Proofs.YtnolplmpanbmhaaGreat

namespace Go.Proofs.YtnolplmpanbmhaaGreat
open Go.RowKit
set_option linter.unusedVariables false

section
variable {own : Nat → Nat × Nat} {id : Nat} {w : World} {m : Nat} {s : RSt} {nk : Nat} {vR vB vS vA vK : Value} {bs : List Nat}

theorem ret_int2 {a b c d : Int} (h : a = c) (h' : b = d) : Ending.returned (.tuple #[.int .i64 a, .int .i64 b]) = .returned (.tuple #[.int .i64 c, .int .i64 d]) := by rw [h, h']

set_option maxHeartbeats 2000000 in
set_option maxRecDepth 100000 in
theorem right_any (h : RefRep own id w m s nk vR vB vS vA vK bs) (ha : s.alive.length = s.ne) (hn : s.ne ≤ 4) (hk : nk = s.ne) (ho : Ordered s.rights) (hm : s.rights.length ≤ 4611686018427387904) (env hd : Int)
    (hd0 : -9223372036854775808 ≤ hd) :
    Calls Tryz.prog 74 #[.pointer (some ⟨m, 0, none⟩), .int .i64 env, .int .i64 hd] w fun e w' => e = .returned (.tuple #[.int .i64 (rightE s env hd).1, .int .i64 (rightE s env hd).2]) ∧ w' = w := by
  have k3 := h.blk.cell 3
  simp at k3
  obtain ⟨ao, cap, g0, hv, _⟩ := h.rR.view
  cases hal : aliveB s env
  · have hr : rawE s env = 2 := by simp [rawE, hal]
    have HR : Hid (rightE s env hd = (-1, 2)) := by simp [Hid, rightE, hr]
    clear hal
    go_enter Tryz.func74, Tryz.ntmps74
    go_wp2_with fail
    refine (raw_any h ha hn hk env).mono ?_
    rintro e w2 ⟨rfl, rfl⟩
    rw [hr]
    clear hr
    go_wp2_with fail
    go_ret2
    exact ⟨ret_int2 (by rw [HR.out]) (by rw [HR.out]), rfl⟩
  · have hr : rawE s env = 0 := by simp [rawE, hal]
    by_cases h1 : 1 ≤ hd ∧ hd ≤ s.rights.length
    · obtain ⟨h1, h2⟩ := h1
      obtain ⟨j, rfl⟩ : ∃ j : Nat, hd = (j : Int) + 1 := ⟨(hd - 1).toNat, by omega⟩
      have hj : j < s.rights.length := by omega
      obtain ⟨r, hrr⟩ : ∃ r, s.rights[j]? = some r := ⟨s.rights[j], by simp⟩
      obtain ⟨g, cap', hv', _, _, c1, _⟩ := h.right hrr
      rw [hv'] at k3
      have hc1 : ¬ (j : Int) + 1 < 1 := by omega
      have hc2 : ¬ (s.rights.length : Int) < (j : Int) + 1 := by omega
      have hi1 : (0 : Int) ≤ (j : Int) := by omega
      have hi2 : (j : Int) < (s.rights.length : Int) := by omega
      have hs1 : (j : Int) + 1 - 1 = j := by omega
      by_cases he : r.env = env
      · have he' : (r.env != env) = false := by simp [he]
        cases hl : lv s.rights j
        · have HR : Hid (rightE s env (j + 1) = (-1, 9)) := by
            have h1' : (1 : Int) ≤ (j : Int) + 1 ∧ (j : Int) + 1 ≤ s.rights.length := ⟨h1, h2⟩
            simp only [Hid, rightE, hr, if_pos h1', hs1, Int.toNat_natCast, hrr, he, hl]; simp
          clear hal hv hv' h1 h2 he
          go_enter Tryz.func74, Tryz.ntmps74
          go_wp2_with fail
          refine (raw_any h ha hn hk env).mono ?_
          rintro e w2 ⟨rfl, rfl⟩
          rw [hr]
          clear hr
          go_wp2_with fail
          refine (living_any h ho hm j (by omega) (by omega)).mono ?_
          rintro e w3 ⟨rfl, rfl⟩
          rw [hl]
          clear hl
          go_wp2_with fail
          go_ret2
          exact ⟨ret_int2 (by rw [HR.out]) (by rw [HR.out]), rfl⟩
        · have HR : Hid (rightE s env (j + 1) = ((j : Int), 0)) := by
            have h1' : (1 : Int) ≤ (j : Int) + 1 ∧ (j : Int) + 1 ≤ s.rights.length := ⟨h1, h2⟩
            simp only [Hid, rightE, hr, if_pos h1', hs1, Int.toNat_natCast, hrr, he, hl]; simp
          clear hal hv hv' h1 h2 he
          go_enter Tryz.func74, Tryz.ntmps74
          go_wp2_with fail
          refine (raw_any h ha hn hk env).mono ?_
          rintro e w2 ⟨rfl, rfl⟩
          rw [hr]
          clear hr
          go_wp2_with fail
          refine (living_any h ho hm j (by omega) (by omega)).mono ?_
          rintro e w3 ⟨rfl, rfl⟩
          rw [hl]
          clear hl
          go_wp2_with fail
          go_ret2
          exact ⟨ret_int2 (by rw [HR.out]) (by rw [HR.out]), rfl⟩
      · have he' : (r.env != env) = true := by simp [he]
        have HR : Hid (rightE s env (j + 1) = (-1, 9)) := by
          have h1' : (1 : Int) ≤ (j : Int) + 1 ∧ (j : Int) + 1 ≤ s.rights.length := ⟨h1, h2⟩
          simp only [Hid, rightE, hr, if_pos h1', hs1, Int.toNat_natCast, hrr]; simp [he]
        clear hal hv hv' h1 h2 he
        go_enter Tryz.func74, Tryz.ntmps74
        go_wp2_with fail
        refine (raw_any h ha hn hk env).mono ?_
        rintro e w2 ⟨rfl, rfl⟩
        rw [hr]
        clear hr
        go_wp2_with fail
        go_ret2
        exact ⟨ret_int2 (by rw [HR.out]) (by rw [HR.out]), rfl⟩
    · have HR : Hid (rightE s env hd = (-1, 9)) := by simp only [Hid, rightE, hr, if_neg h1]; simp
      rw [hv] at k3
      by_cases h2 : hd < 1
      · clear hal hv h1
        go_enter Tryz.func74, Tryz.ntmps74
        go_wp2_with fail
        refine (raw_any h ha hn hk env).mono ?_
        rintro e w2 ⟨rfl, rfl⟩
        rw [hr]
        clear hr
        go_wp2_with fail
        go_ret2
        exact ⟨ret_int2 (by rw [HR.out]) (by rw [HR.out]), rfl⟩
      · have h3 : (s.rights.length : Int) < hd := by omega
        clear hal hv h1
        go_enter Tryz.func74, Tryz.ntmps74
        go_wp2_with fail
        refine (raw_any h ha hn hk env).mono ?_
        rintro e w2 ⟨rfl, rfl⟩
        rw [hr]
        clear hr
        go_wp2_with fail
        go_ret2
        exact ⟨ret_int2 (by rw [HR.out]) (by rw [HR.out]), rfl⟩
end
end Go.Proofs.YtnolplmpanbmhaaGreat
