/-
  The ground of this seat's walks: small laws on worlds, said of whole blocks.
-/
import Derived.Test.YtkonobbhohfjlaaProg
import Derived.KernelRfl
import Derived.WalkKit
import Derived.WalkSpells
import Derived.WalkLawsBesides
import Derived.Deep.AppendLies
import Derived.Deep.RegionHeld3
import Derived.Deep.QuietTactic
import Derived.BigQuiet
import Derived.Deep.DrawnRows
import Derived.Deep.LoopGhost
import Derived.Deep.DeepCutAuto
import Derived.Deep.DeepMust
import Derived.Test.YtkonobbhohfjlaaRPure
namespace Go.Proofs.Ytkonobbhohfjlaa
open Go.RowKit
set_option linter.unusedVariables false

/-- Block b holds just the cells cs, of element type t, none of them frozen. -/
def Blk (w : World) (b : Nat) (cs : List Value) (t : TypeId) : Prop := w.heap[b]? = some (.cells cs.toArray t (0, 0))

theorem Blk.lt {w : World} {b : Nat} {cs : List Value} {t : TypeId} (h : Blk w b cs t) : b < w.heap.size := by
  unfold Blk at h
  exact (Array.getElem?_eq_some_iff.1 h).1

theorem Blk.cell {w : World} {b : Nat} {cs : List Value} {t : TypeId} (h : Blk w b cs t) (j : Nat) : w.cell? ⟨b, j, none⟩ = cs[j]? := by
  rw [cell_of_row w b j _ t (0, 0) h]; simp

theorem Blk.frozen {w : World} {b : Nat} {cs : List Value} {t : TypeId} (h : Blk w b cs t) (j : Nat) : w.frozen? ⟨b, j, none⟩ = false :=
  frozen_of_row w b j _ t h

theorem Blk.of {w w' : World} {b : Nat} {cs : List Value} {t : TypeId} (h : Blk w b cs t) (hb : w'.heap[b]? = w.heap[b]?) : Blk w' b cs t := hb.trans h

theorem Blk.drew {w : World} {b : Nat} {cs : List Value} {t : TypeId} (h : Blk w b cs t) : Blk w.drew b cs t := h

theorem Blk.alloc {w : World} {b : Nat} {cs : List Value} {t : TypeId} (h : Blk w b cs t) (o : Obj) : Blk (w.alloc o) b cs t :=
  h.of (Below.heap_alloc w o b h.lt)

theorem Blk.new (w : World) (cs : List Value) (t : TypeId) : Blk (w.alloc (.cells cs.toArray t)) w.heap.size cs t := heap_alloc_new w _

theorem Blk.at (w : World) (cs : List Value) (t : TypeId) (n : Nat) (hn : n = w.heap.size) : Blk (w.alloc (.cells cs.toArray t)) n cs t := by subst hn; exact Blk.new w cs t

theorem Blk.below {w w' : World} {b B : Nat} {cs : List Value} {t : TypeId} (h : Blk w b cs t) (hb : Below B w w') (hlt : b < B) : Blk w' b cs t :=
  h.of (hb.block b hlt)

theorem Blk.set {w : World} {b : Nat} {cs : List Value} {t : TypeId} (h : Blk w b cs t) (j : Nat) (v : Value) : Blk (w.setCell ⟨b, j, none⟩ v) b (cs.set j v) t := by
  unfold Blk
  rw [heap_setCell_same w b j _ t v h]; simp

theorem Blk.other {w : World} {b : Nat} {cs : List Value} {t : TypeId} (h : Blk w b cs t) {a : Addr} (v : Value) (hne : b ≠ a.block) : Blk (w.setCell a v) b cs t :=
  h.of (heap_setCell_other w a b v hne)

theorem Blk.same {w : World} {b : Nat} {cs ds : List Value} {t u : TypeId} (h : Blk w b cs t) (k : Blk w b ds u) : cs = ds ∧ t = u := by
  unfold Blk at h k
  rw [h] at k
  simp at k
  exact ⟨by simpa using k.1, k.2⟩

/-- Of the blocks below B only those of which S holds may have turned. -/
structure Touch (B : Nat) (S : Nat → Prop) (w w' : World) : Prop where
  os : w'.os = w.os
  tape : w'.tape = w.tape
  output : w'.output = w.output
  size : w.heap.size ≤ w'.heap.size
  block : ∀ k, k < B → ¬ S k → w'.heap[k]? = w.heap[k]?

theorem Touch.refl (B : Nat) (S : Nat → Prop) (w : World) : Touch B S w w := ⟨rfl, rfl, rfl, Nat.le_refl _, fun _ _ _ => rfl⟩
theorem Touch.trans {B : Nat} {S : Nat → Prop} {a b c : World} (h : Touch B S a b) (k : Touch B S b c) : Touch B S a c :=
  ⟨k.os.trans h.os, k.tape.trans h.tape, k.output.trans h.output, Nat.le_trans h.size k.size, fun i hi hn => (k.block i hi hn).trans (h.block i hi hn)⟩
theorem Touch.mono {B B' : Nat} {S S' : Nat → Prop} {w w' : World} (h : Touch B S w w') (hB : B' ≤ B) (hf : ∀ k, k < B' → S k → S' k) : Touch B' S' w w' :=
  ⟨h.os, h.tape, h.output, h.size, fun k hk hn => h.block k (by omega) (fun hm => hn (hf k hk hm))⟩
theorem Touch.drew {B : Nat} {S : Nat → Prop} {a w : World} (h : Touch B S a w) : Touch B S a w.drew := ⟨h.os, h.tape, h.output, h.size, h.block⟩
theorem Touch.of_below {B : Nat} {w w' : World} (h : Below B w w') (S : Nat → Prop) : Touch B S w w' := ⟨h.os, h.tape, h.output, h.size, fun k hk _ => h.block k hk⟩
theorem Touch.below {B : Nat} {S : Nat → Prop} {w w' : World} (h : Touch B S w w') (hS : ∀ k, k < B → ¬ S k) : Below B w w' := ⟨h.os, h.tape, h.output, h.size, fun k hk => h.block k hk (hS k hk)⟩
theorem Touch.alloc {B : Nat} {S : Nat → Prop} {a w : World} (h : Touch B S a w) (hB : B ≤ w.heap.size) (o : Obj) : Touch B S a (w.alloc o) :=
  h.trans (Touch.of_below ((Below.refl _ _).alloc hB o) S)
theorem Touch.setCell {B : Nat} {S : Nat → Prop} {a w : World} (h : Touch B S a w) {p : Addr} (hp : S p.block ∨ B ≤ p.block) (u : Value) : Touch B S a (w.setCell p u) :=
  h.trans ⟨rfl, rfl, rfl, by simp [World.setCell], fun k hk hn => Below.heap_setCell _ _ _ _ (by rcases hp with hp | hp; exact fun e => hn (e ▸ hp); omega)⟩
theorem Touch.grown {B : Nat} {S : Nat → Prop} {a w w' : World} {row : Option Nat} (h : Touch B S a w) (hg : w.grownBy w' row) (hB : B ≤ w.heap.size) (hr : ∀ k, row = some k → S k ∨ B ≤ k) : Touch B S a w' :=
  h.trans ⟨hg.os, hg.tape, hg.output, hg.size, fun k hk hn => hg.block k (by omega) (fun e => by rcases hr k e.symm with h | h; exact hn h; omega)⟩
/-- A read-only call behind a touching one. -/
theorem Touch.then_below {B : Nat} {S : Nat → Prop} {a b c : World} (h : Touch B S a b) (k : Below b.heap.size b c) (hB : B ≤ b.heap.size) : Touch B S a c :=
  h.trans (Touch.of_below (k.mono hB) S)

theorem Blk.grown {w w' : World} {b : Nat} {cs : List Value} {t : TypeId} {row : Option Nat} (h : Blk w b cs t) (hg : w.grownBy w' row) (hn : row ≠ some b) : Blk w' b cs t :=
  h.of (hg.block b h.lt (fun e => hn e.symm))

/-- A slice whose whole row is its own: n elements of k cells each; xs: all their cells. -/
def Row (w : World) (v : Value) (e k n : Nat) (xs : List Value) : Prop := w.ownsRow 0 e k v n xs
/-- The row's block, if it has one, bears the mark t. -/
def Tg (own : Nat → Nat × Nat) (v : Value) (t : Nat × Nat) : Prop := ∀ b, v.ownBlock = some b → own b = t

theorem Tg.nil (own : Nat → Nat × Nat) (t : Nat × Nat) : Tg own (.slice none 0 0) t := by intro b h; simp [Value.ownBlock] at h
theorem Tg.congr {own own' : Nat → Nat × Nat} {v : Value} {t : Nat × Nat} {w : World} {e k n : Nat} {xs : List Value} (h : Tg own v t) (hr : Row w v e k n xs) (ho : ∀ b, b < w.heap.size → own' b = own b) : Tg own' v t :=
  fun b hb => (ho b (World.ownsRow.lt hr b hb).2).trans (h b hb)
theorem Tg.mk {own : Nat → Nat × Nat} {t : Nat × Nat} {g n cap : Nat} (h : own g = t) : Tg own (.slice (some ⟨g, 0, none⟩) n cap) t := by
  intro b hb; simp [Value.ownBlock] at hb; exact hb ▸ h

theorem Row.nil (w : World) (e k : Nat) : Row w (.slice none 0 0) e k 0 [] := World.ownsRow_nil w 0 e k
theorem Row.of {w w' : World} {v : Value} {e k n : Nat} {xs : List Value} (h : Row w v e k n xs) (hb : ∀ b, v.ownBlock = some b → w'.heap[b]? = w.heap[b]?) : Row w' v e k n xs := by
  refine ⟨h.1, ?_⟩
  rcases h.2 with hn | ⟨g, cap, cur, rfl, hb0, hgg, rest⟩
  · exact .inl hn
  · exact .inr ⟨g, cap, cur, rfl, hb0, (hb g (by simp [Value.ownBlock])).trans hgg, rest⟩
theorem Row.lt {w : World} {v : Value} {e k n : Nat} {xs : List Value} (h : Row w v e k n xs) : ∀ b, v.ownBlock = some b → b < w.heap.size :=
  fun b hb => (World.ownsRow.lt h b hb).2
theorem Row.drew {w : World} {v : Value} {e k n : Nat} {xs : List Value} (h : Row w v e k n xs) : Row w.drew v e k n xs := h
theorem Row.alloc {w : World} {v : Value} {e k n : Nat} {xs : List Value} (h : Row w v e k n xs) (o : Obj) : Row (w.alloc o) v e k n xs := World.ownsRow.alloc h o
theorem Row.other {w : World} {v : Value} {e k n : Nat} {xs : List Value} (h : Row w v e k n xs) {a : Addr} (u : Value) (hn : v.ownBlock ≠ some a.block) : Row (w.setCell a u) v e k n xs :=
  h.of fun b hb => Below.heap_setCell _ _ _ _ (fun e => hn (e ▸ hb))
/-- What bears the mark t has not turned. -/
theorem Row.kept {own : Nat → Nat × Nat} {t : Nat × Nat} {w w' : World} {v : Value} {e k n : Nat} {xs : List Value} (h : Row w v e k n xs) (ht : Tg own v t) (hk : ∀ b, b < w.heap.size → own b = t → w'.heap[b]? = w.heap[b]?) : Row w' v e k n xs :=
  h.of fun b hb => hk b (h.lt b hb) (ht b hb)
theorem Row.below {w w' : World} {v : Value} {e k n : Nat} {xs : List Value} (h : Row w v e k n xs) (ht : Below w.heap.size w w') : Row w' v e k n xs :=
  h.of fun b hb => ht.block b (h.lt b hb)
theorem Row.set {w : World} {g e k n cap : Nat} {xs : List Value} (h : Row w (.slice (some ⟨g, 0, none⟩) n cap) e k n xs) (j : Nat) (u : Value) :
    Row (w.setCell ⟨g, j, none⟩ u) (.slice (some ⟨g, 0, none⟩) n cap) e k n (xs.set j u) := (World.ownsRow.stored h j u).1
/-- What a slice looks like, and its cells. -/
theorem Row.form {w : World} {v : Value} {e k n : Nat} {xs : List Value} (h : Row w v e k n xs) (hn : 0 < n) :
    ∃ g cap, v = .slice (some ⟨g, 0, none⟩) n cap ∧ (∀ j, j < n * k → w.cell? ⟨g, j, none⟩ = xs[j]?) ∧ ∀ j, w.frozen? ⟨g, j, none⟩ = false := by
  obtain ⟨g, cap, rfl, _, _⟩ := World.ownsRow.form h hn
  exact ⟨g, cap, rfl, fun j hj => World.ownsRow.cellAt h j hj, fun j => World.ownsRow.frozenAt h j⟩
/-- The shape, n whatever it is. -/
theorem Row.view {w : World} {v : Value} {e k n : Nat} {xs : List Value} (h : Row w v e k n xs) :
    ∃ ao cap g, v = .slice ao n cap ∧ (0 < n → ao = some ⟨g, 0, none⟩) ∧ (∀ j, j < n * k → w.cell? ⟨g, j, none⟩ = xs[j]?) ∧ (0 < n → ∀ j, w.frozen? ⟨g, j, none⟩ = false) ∧ n ≤ maxLen := by
  rcases h.2 with ⟨hv, hn⟩ | ⟨g, cap, cur, hv, _, _, h1, h2, _⟩
  · subst hn
    exact ⟨none, 0, 0, hv, by omega, fun j hj => by simp at hj, by omega, by simp [maxLen]⟩
  · subst hv
    exact ⟨_, cap, g, rfl, fun _ => rfl, fun j hj => World.ownsRow.cellAt h j hj, fun _ j => World.ownsRow.frozenAt h j, by omega⟩
theorem Row.len {w : World} {v : Value} {e k n : Nat} {xs : List Value} (h : Row w v e k n xs) : xs.length = n * k := h.1

/-- Both machines' test of a config. -/
def mayB (a b c : Int) : Bool := decide (1 ≤ a ∧ a ≤ 16 ∧ 1 ≤ b ∧ b ≤ 8 ∧ 1 ≤ c ∧ c ≤ 4)

theorem mayB_nat {a b c : Int} (h : mayB a b c = true) : ∃ f s e : Nat, a = f ∧ b = s ∧ c = e ∧ 1 ≤ f ∧ f ≤ 16 ∧ 1 ≤ s ∧ s ≤ 8 ∧ 1 ≤ e ∧ e ≤ 4 := by
  simp [mayB] at h
  exact ⟨a.toNat, b.toNat, c.toNat, by omega, by omega, by omega, by omega, by omega, by omega, by omega, by omega, by omega⟩

theorem ret_bool {a b : Bool} (h : a = b) : Ending.returned (.bool a) = .returned (.bool b) := by rw [h]

end Go.Proofs.Ytkonobbhohfjlaa
