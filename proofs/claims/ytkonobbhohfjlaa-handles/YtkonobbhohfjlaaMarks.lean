/-
  'marks': every place is written, and sixteen behind the last.
-/
import Derived.Test.YtkonobbhohfjlaaHolds
namespace Go.Proofs.Ytkonobbhohfjlaa
open Go.RowKit
set_option linter.unusedVariables false

/-- A list of one kind while it is marked: v: the slice that is appended to; v0: the list itself; vM: the slices that came of it. -/
structure Grp (own : Nat → Nat × Nat) (w : World) (t tM : Nat × Nat) (e eS k : Nat) (c : List Value) (v v0 vM : Value) (a m : Nat) (xs : List Value) : Prop where
  row : Row w v e k a (List.replicate a c).flatten
  tg : Tg own v t
  s0 : SA own t w c k a v0
  more : Row w vM eS 1 m xs
  tgM : Tg own vM tM
  all : ∀ x, x ∈ xs → SA own t w c k a x

section
variable {own own' : Nat → Nat × Nat} {w w' : World} {t tM : Nat × Nat} {e eS k : Nat} {c : List Value} {v v0 vM : Value} {a m : Nat} {xs : List Value}

theorem Grp.of (h : Grp own w t tM e eS k c v v0 vM a m xs) (ho : ∀ b, b < w.heap.size → own' b = own b) (hs : w.heap.size ≤ w'.heap.size) (hk : ∀ b, b < w.heap.size → own b = t ∨ own b = tM → w'.heap[b]? = w.heap[b]?) : Grp own' w' t tM e eS k c v v0 vM a m xs := by
  have hc : ∀ b, b < w.heap.size → own b = t → ∀ j, j < a * k → w'.cell? ⟨b, j, none⟩ = w.cell? ⟨b, j, none⟩ := fun b hb ht j _ => World.cell?_of_block (a := ⟨b, j, none⟩) (hk b hb (.inl ht))
  exact ⟨h.row.kept h.tg (fun b hb ht => hk b hb (.inl ht)), h.tg.congr h.row ho, h.s0.of ho hs hc, h.more.kept h.tgM (fun b hb ht => hk b hb (.inr ht)), h.tgM.congr h.more ho, fun x hx => (h.all x hx).of ho hs hc⟩

theorem rep_flat (a : Nat) (c : List Value) (i j : Nat) (hi : i < a) (hj : j < c.length) : (List.replicate a c).flatten[i * c.length + j]? = c[j]? := by
  have := flat_get (fun x : List Value => if x.length = c.length then x else c) c.length (fun x => by split <;> simp_all) (List.replicate a c) i j c (by simp [hi]) hj
  simp only [if_true] at this
  rw [← this]
  congr 1
  rw [List.flatMap_def]
  congr 1
  simp

/-- One element more is appended. -/
theorem Grp.app {o1 : Obj} {g cap : Nat} (h : Grp own w t tM e eS k c v v0 vM a m xs) (hkc : c.length = k) (hne : t ≠ tM)
    (hown : w'.ownsRow 0 e k (.slice (some ⟨g, 0, none⟩) (a + 1) cap) (a + 1) ((List.replicate a c).flatten ++ c)) (hg : (w.alloc o1).grownBy w' v.ownBlock) (hat : v.ownBlock = some g ∨ g = w.heap.size + 1)
    (hold : ∀ b, v.ownBlock = some b → ∀ j, j < a * k → w'.cell? ⟨b, j, none⟩ = (w.alloc o1).cell? ⟨b, j, none⟩) :
    Grp (set1 own (w.heap.size + 1) t) w' t tM e eS k c (.slice (some ⟨g, 0, none⟩) (a + 1) cap) v0 vM (a + 1) m xs := by
  have ho : ∀ b, b < w.heap.size → set1 own (w.heap.size + 1) t b = own b := set1_old (by omega)
  have hs : w.heap.size ≤ w'.heap.size := by have := hg.size; simp at this; omega
  have hblk : ∀ b, b < w.heap.size → v.ownBlock ≠ some b → w'.heap[b]? = w.heap[b]? := fun b hb hn => by
    rw [hg.block b (by simp; omega) (fun e => hn e.symm), Below.heap_alloc _ _ _ hb]
  have hc : ∀ b, b < w.heap.size → own b = t → ∀ j, j < a * k → w'.cell? ⟨b, j, none⟩ = w.cell? ⟨b, j, none⟩ := fun b hb ht j hj => by
    by_cases hv : v.ownBlock = some b
    · rw [hold b hv j hj]
      exact World.cell?_of_block (a := ⟨b, j, none⟩) (Below.heap_alloc _ _ _ hb)
    · exact World.cell?_of_block (a := ⟨b, j, none⟩) (hblk b hb hv)
  refine ⟨?_, h.tg.app (fun b hb => by have := h.row.lt b hb; omega) hat, (h.s0.of ho hs hc).mono (by omega), h.more.kept h.tgM (fun b hb ht => hblk b hb (fun e => hne ((h.tg b e).symm.trans ht))), h.tgM.congr h.more ho, fun x hx => ((h.all x hx).of ho hs hc).mono (by omega)⟩
  have : (List.replicate (a + 1) c).flatten = (List.replicate a c).flatten ++ c := by rw [List.replicate_succ']; simp
  rw [this]
  exact hown

/-- The slice itself, all of whose elements are marked. -/
theorem Grp.self {g cap : Nat} (h : Grp own w t tM e eS k c (.slice (some ⟨g, 0, none⟩) a cap) v0 vM a m xs) (hkc : c.length = k) : SA own t w c k a (.slice (some ⟨g, 0, none⟩) a cap) := by
  refine ⟨_, a, cap, g, rfl, Nat.le_refl _, .inr ⟨rfl, h.tg g rfl, h.row.lt g rfl, fun i j hi hj => ?_⟩⟩
  have hlt : i * k + j < a * k := by
    have : (i + 1) * k ≤ a * k := Nat.mul_le_mul_right k (by omega)
    rw [Nat.add_mul] at this; omega
  rw [h.row.cellAt' _ hlt, ← hkc, rep_flat a c i j hi (by omega)]

/-- The slice goes into the list of those that came of it, which is stored into the struct at hb. -/
theorem Grp.push {o1 : Obj} {g cap gM capM hb j : Nat} {u : Value} (h : Grp own w t tM e eS k c (.slice (some ⟨g, 0, none⟩) a cap) v0 vM a m xs) (hkc : c.length = k) (hne : t ≠ tM) (hhb : own hb ≠ t) (hhb2 : own hb ≠ tM) (hhl : hb < w.heap.size)
    (hown : w'.ownsRow 0 eS 1 (.slice (some ⟨gM, 0, none⟩) (m + 1) capM) (m + 1) (xs ++ [.slice (some ⟨g, 0, none⟩) a cap])) (hg : (w.alloc o1).grownBy w' vM.ownBlock) (hat : vM.ownBlock = some gM ∨ gM = w.heap.size + 1) :
    Grp (set1 own (w.heap.size + 1) tM) (w'.setCell ⟨hb, j, none⟩ u) t tM e eS k c (.slice (some ⟨g, 0, none⟩) a cap) v0 (.slice (some ⟨gM, 0, none⟩) (m + 1) capM) a (m + 1) (xs ++ [.slice (some ⟨g, 0, none⟩) a cap]) := by
  have ho : ∀ b, b < w.heap.size → set1 own (w.heap.size + 1) tM b = own b := set1_old (by omega)
  have hs : w.heap.size ≤ (w'.setCell ⟨hb, j, none⟩ u).heap.size := by have := hg.size; simp at this ⊢; omega
  have hblk : ∀ b, b < w.heap.size → own b = t → (w'.setCell ⟨hb, j, none⟩ u).heap[b]? = w.heap[b]? := fun b hb' ht => by
    rw [Below.heap_setCell _ _ _ _ (fun e => hhb (by rw [← ht, e])), hg.block b (by simp; omega) (fun e => hne (ht.symm.trans (h.tgM b e.symm))), Below.heap_alloc _ _ _ hb']
  have hc : ∀ b, b < w.heap.size → own b = t → ∀ j', j' < a * k → (w'.setCell ⟨hb, j, none⟩ u).cell? ⟨b, j', none⟩ = w.cell? ⟨b, j', none⟩ := fun b hb' ht j' _ => World.cell?_of_block (a := ⟨b, j', none⟩) (hblk b hb' ht)
  refine ⟨h.row.kept h.tg hblk, h.tg.congr h.row ho, h.s0.of ho hs hc, ?_, h.tgM.app (fun b hb' => by have := h.more.lt b hb'; omega) hat, fun x hx => ?_⟩
  · refine Row.other (w := w') hown u (fun e => ?_)
    simp [Value.ownBlock] at e
    rcases hat with h1 | h1
    · exact hhb2 (by rw [← e]; exact h.tgM gM h1)
    · omega
  · rcases List.mem_append.1 hx with hx | hx
    · exact (h.all x hx).of ho hs hc
    · simp at hx
      subst hx
      exact (h.self hkc).of ho hs hc
end

/-- The whole list while it is marked. -/
structure MarkSt (own : Nat → Nat × Nat) (id : Nat) (w : World) (hb br be : Nat) (n : Int) (vI vMI vR vMR vE vME v7 v8 v9 : Value) (a b c mi mr me : Nat) (xI xR xE : List Value) : Prop where
  blk : Blk w hb [vI, vMI, vR, vMR, vE, vME, .int .i64 n] 105
  bR : Blk w br (mR n) 64
  bE : Blk w be (mE n) 99
  gI : Grp own w (id, 1) (id, 2) 3 65 1 (mI n) v7 vI vMI a mi xI
  gR : Grp own w (id, 3) (id, 4) 64 58 4 (mR n) v8 vR vMR b mr xR
  gE : Grp own w (id, 5) (id, 6) 99 93 5 (mE n) v9 vE vME c me xE
  t0 : own hb = (id, 0)
  t7 : own br = (id, 7)
  t8 : own be = (id, 8)

section
variable {own own' : Nat → Nat × Nat} {id : Nat} {w w' : World} {hb br be : Nat} {n : Int} {vI vMI vR vMR vE vME v7 v8 v9 : Value} {a b c mi mr me : Nat} {xI xR xE : List Value}

/-- What is not of the marks in J has not turned. -/
theorem MarkSt.keepB (h : MarkSt own id w hb br be n vI vMI vR vMR vE vME v7 v8 v9 a b c mi mr me xI xR xE) {o1 : Obj} {v : Value} {t : Nat × Nat} (hv : Tg own v t) (hg : (w.alloc o1).grownBy w' v.ownBlock) : ∀ x, x < w.heap.size → own x ≠ t → w'.heap[x]? = w.heap[x]? := fun x hx hn => by
  rw [hg.block x (by simp; omega) (fun e => hn (hv x e.symm)), Below.heap_alloc _ _ _ hx]

theorem MarkSt.appI {o1 : Obj} {g cap : Nat} (h : MarkSt own id w hb br be n vI vMI vR vMR vE vME v7 v8 v9 a b c mi mr me xI xR xE)
    (hown : w'.ownsRow 0 3 1 (.slice (some ⟨g, 0, none⟩) (a + 1) cap) (a + 1) ((List.replicate a (mI n)).flatten ++ mI n)) (hg : (w.alloc o1).grownBy w' v7.ownBlock) (hat : v7.ownBlock = some g ∨ g = w.heap.size + 1)
    (hold : ∀ b, v7.ownBlock = some b → ∀ j, j < a * 1 → w'.cell? ⟨b, j, none⟩ = (w.alloc o1).cell? ⟨b, j, none⟩) :
    MarkSt (set1 own (w.heap.size + 1) (id, 1)) id w' hb br be n vI vMI vR vMR vE vME (.slice (some ⟨g, 0, none⟩) (a + 1) cap) v8 v9 (a + 1) b c mi mr me xI xR xE := by
  have hk := h.keepB h.gI.tg hg
  have ho : ∀ x, x < w.heap.size → set1 own (w.heap.size + 1) (id, 1) x = own x := set1_old (by omega)
  have hs : w.heap.size ≤ w'.heap.size := by have := hg.size; simp at this; omega
  exact ⟨h.blk.of (hk hb h.blk.lt (by rw [h.t0]; simp)), h.bR.of (hk br h.bR.lt (by rw [h.t7]; simp)), h.bE.of (hk be h.bE.lt (by rw [h.t8]; simp)), h.gI.app rfl (by simp) hown hg hat hold,
    h.gR.of ho hs (fun x hx ht => hk x hx (by rcases ht with ht | ht <;> rw [ht] <;> simp)), h.gE.of ho hs (fun x hx ht => hk x hx (by rcases ht with ht | ht <;> rw [ht] <;> simp)), (ho hb h.blk.lt).trans h.t0, (ho br h.bR.lt).trans h.t7, (ho be h.bE.lt).trans h.t8⟩
theorem MarkSt.appR {o1 : Obj} {g cap : Nat} (h : MarkSt own id w hb br be n vI vMI vR vMR vE vME v7 v8 v9 a b c mi mr me xI xR xE)
    (hown : w'.ownsRow 0 64 4 (.slice (some ⟨g, 0, none⟩) (b + 1) cap) (b + 1) ((List.replicate b (mR n)).flatten ++ mR n)) (hg : (w.alloc o1).grownBy w' v8.ownBlock) (hat : v8.ownBlock = some g ∨ g = w.heap.size + 1)
    (hold : ∀ x, v8.ownBlock = some x → ∀ j, j < b * 4 → w'.cell? ⟨x, j, none⟩ = (w.alloc o1).cell? ⟨x, j, none⟩) :
    MarkSt (set1 own (w.heap.size + 1) (id, 3)) id w' hb br be n vI vMI vR vMR vE vME v7 (.slice (some ⟨g, 0, none⟩) (b + 1) cap) v9 a (b + 1) c mi mr me xI xR xE := by
  have hk := h.keepB h.gR.tg hg
  have ho : ∀ x, x < w.heap.size → set1 own (w.heap.size + 1) (id, 3) x = own x := set1_old (by omega)
  have hs : w.heap.size ≤ w'.heap.size := by have := hg.size; simp at this; omega
  exact ⟨h.blk.of (hk hb h.blk.lt (by rw [h.t0]; simp)), h.bR.of (hk br h.bR.lt (by rw [h.t7]; simp)), h.bE.of (hk be h.bE.lt (by rw [h.t8]; simp)),
    h.gI.of ho hs (fun x hx ht => hk x hx (by rcases ht with ht | ht <;> rw [ht] <;> simp)), h.gR.app rfl (by simp) hown hg hat hold, h.gE.of ho hs (fun x hx ht => hk x hx (by rcases ht with ht | ht <;> rw [ht] <;> simp)), (ho hb h.blk.lt).trans h.t0, (ho br h.bR.lt).trans h.t7, (ho be h.bE.lt).trans h.t8⟩
theorem MarkSt.appE {o1 : Obj} {g cap : Nat} (h : MarkSt own id w hb br be n vI vMI vR vMR vE vME v7 v8 v9 a b c mi mr me xI xR xE)
    (hown : w'.ownsRow 0 99 5 (.slice (some ⟨g, 0, none⟩) (c + 1) cap) (c + 1) ((List.replicate c (mE n)).flatten ++ mE n)) (hg : (w.alloc o1).grownBy w' v9.ownBlock) (hat : v9.ownBlock = some g ∨ g = w.heap.size + 1)
    (hold : ∀ x, v9.ownBlock = some x → ∀ j, j < c * 5 → w'.cell? ⟨x, j, none⟩ = (w.alloc o1).cell? ⟨x, j, none⟩) :
    MarkSt (set1 own (w.heap.size + 1) (id, 5)) id w' hb br be n vI vMI vR vMR vE vME v7 v8 (.slice (some ⟨g, 0, none⟩) (c + 1) cap) a b (c + 1) mi mr me xI xR xE := by
  have hk := h.keepB h.gE.tg hg
  have ho : ∀ x, x < w.heap.size → set1 own (w.heap.size + 1) (id, 5) x = own x := set1_old (by omega)
  have hs : w.heap.size ≤ w'.heap.size := by have := hg.size; simp at this; omega
  exact ⟨h.blk.of (hk hb h.blk.lt (by rw [h.t0]; simp)), h.bR.of (hk br h.bR.lt (by rw [h.t7]; simp)), h.bE.of (hk be h.bE.lt (by rw [h.t8]; simp)),
    h.gI.of ho hs (fun x hx ht => hk x hx (by rcases ht with ht | ht <;> rw [ht] <;> simp)), h.gR.of ho hs (fun x hx ht => hk x hx (by rcases ht with ht | ht <;> rw [ht] <;> simp)), h.gE.app rfl (by simp) hown hg hat hold, (ho hb h.blk.lt).trans h.t0, (ho br h.bR.lt).trans h.t7, (ho be h.bE.lt).trans h.t8⟩

theorem MarkSt.keepM (h : MarkSt own id w hb br be n vI vMI vR vMR vE vME v7 v8 v9 a b c mi mr me xI xR xE) {o1 : Obj} {v u : Value} {t : Nat × Nat} {j : Nat} (hv : Tg own v t) (hg : (w.alloc o1).grownBy w' v.ownBlock) :
    ∀ x, x < w.heap.size → own x ≠ t → own x ≠ (id, 0) → (w'.setCell ⟨hb, j, none⟩ u).heap[x]? = w.heap[x]? := fun x hx hn h0 => by
  rw [Below.heap_setCell _ _ _ _ (fun e => h0 (by simp at e; rw [e]; exact h.t0))]
  exact h.keepB hv hg x hx hn

theorem MarkSt.pushI {o1 : Obj} {g cap gM capM : Nat} (h : MarkSt own id w hb br be n vI vMI vR vMR vE vME (.slice (some ⟨g, 0, none⟩) a cap) v8 v9 a b c mi mr me xI xR xE)
    (hown : w'.ownsRow 0 65 1 (.slice (some ⟨gM, 0, none⟩) (mi + 1) capM) (mi + 1) (xI ++ [.slice (some ⟨g, 0, none⟩) a cap])) (hg : (w.alloc o1).grownBy w' vMI.ownBlock) (hat : vMI.ownBlock = some gM ∨ gM = w.heap.size + 1) :
    MarkSt (set1 own (w.heap.size + 1) (id, 2)) id (w'.setCell ⟨hb, 1, none⟩ (.slice (some ⟨gM, 0, none⟩) (mi + 1) capM)) hb br be n vI (.slice (some ⟨gM, 0, none⟩) (mi + 1) capM) vR vMR vE vME (.slice (some ⟨g, 0, none⟩) a cap) v8 v9 a b c (mi + 1) mr me (xI ++ [.slice (some ⟨g, 0, none⟩) a cap]) xR xE := by
  have hk := h.keepM (u := .slice (some ⟨gM, 0, none⟩) (mi + 1) capM) (j := 1) h.gI.tgM hg
  have ho : ∀ x, x < w.heap.size → set1 own (w.heap.size + 1) (id, 2) x = own x := set1_old (by omega)
  have hs : w.heap.size ≤ (w'.setCell ⟨hb, 1, none⟩ (.slice (some ⟨gM, 0, none⟩) (mi + 1) capM)).heap.size := by have := hg.size; simp at this ⊢; omega
  have hblk := (h.blk.of (h.keepB h.gI.tgM hg hb h.blk.lt (by rw [h.t0]; simp))).set 1 (.slice (some ⟨gM, 0, none⟩) (mi + 1) capM)
  exact ⟨hblk, h.bR.of (hk br h.bR.lt (by rw [h.t7]; simp) (by rw [h.t7]; simp)), h.bE.of (hk be h.bE.lt (by rw [h.t8]; simp) (by rw [h.t8]; simp)), h.gI.push rfl (by simp) (by rw [h.t0]; simp) (by rw [h.t0]; simp) h.blk.lt hown hg hat,
    h.gR.of ho hs (fun x hx ht => hk x hx (by rcases ht with ht | ht <;> rw [ht] <;> simp) (by rcases ht with ht | ht <;> rw [ht] <;> simp)), h.gE.of ho hs (fun x hx ht => hk x hx (by rcases ht with ht | ht <;> rw [ht] <;> simp) (by rcases ht with ht | ht <;> rw [ht] <;> simp)), (ho hb h.blk.lt).trans h.t0, (ho br h.bR.lt).trans h.t7, (ho be h.bE.lt).trans h.t8⟩
theorem MarkSt.pushR {o1 : Obj} {g cap gM capM : Nat} (h : MarkSt own id w hb br be n vI vMI vR vMR vE vME v7 (.slice (some ⟨g, 0, none⟩) b cap) v9 a b c mi mr me xI xR xE)
    (hown : w'.ownsRow 0 58 1 (.slice (some ⟨gM, 0, none⟩) (mr + 1) capM) (mr + 1) (xR ++ [.slice (some ⟨g, 0, none⟩) b cap])) (hg : (w.alloc o1).grownBy w' vMR.ownBlock) (hat : vMR.ownBlock = some gM ∨ gM = w.heap.size + 1) :
    MarkSt (set1 own (w.heap.size + 1) (id, 4)) id (w'.setCell ⟨hb, 3, none⟩ (.slice (some ⟨gM, 0, none⟩) (mr + 1) capM)) hb br be n vI vMI vR (.slice (some ⟨gM, 0, none⟩) (mr + 1) capM) vE vME v7 (.slice (some ⟨g, 0, none⟩) b cap) v9 a b c mi (mr + 1) me xI (xR ++ [.slice (some ⟨g, 0, none⟩) b cap]) xE := by
  have hk := h.keepM (u := .slice (some ⟨gM, 0, none⟩) (mr + 1) capM) (j := 3) h.gR.tgM hg
  have ho : ∀ x, x < w.heap.size → set1 own (w.heap.size + 1) (id, 4) x = own x := set1_old (by omega)
  have hs : w.heap.size ≤ (w'.setCell ⟨hb, 3, none⟩ (.slice (some ⟨gM, 0, none⟩) (mr + 1) capM)).heap.size := by have := hg.size; simp at this ⊢; omega
  have hblk := (h.blk.of (h.keepB h.gR.tgM hg hb h.blk.lt (by rw [h.t0]; simp))).set 3 (.slice (some ⟨gM, 0, none⟩) (mr + 1) capM)
  exact ⟨hblk, h.bR.of (hk br h.bR.lt (by rw [h.t7]; simp) (by rw [h.t7]; simp)), h.bE.of (hk be h.bE.lt (by rw [h.t8]; simp) (by rw [h.t8]; simp)),
    h.gI.of ho hs (fun x hx ht => hk x hx (by rcases ht with ht | ht <;> rw [ht] <;> simp) (by rcases ht with ht | ht <;> rw [ht] <;> simp)), h.gR.push rfl (by simp) (by rw [h.t0]; simp) (by rw [h.t0]; simp) h.blk.lt hown hg hat, h.gE.of ho hs (fun x hx ht => hk x hx (by rcases ht with ht | ht <;> rw [ht] <;> simp) (by rcases ht with ht | ht <;> rw [ht] <;> simp)), (ho hb h.blk.lt).trans h.t0, (ho br h.bR.lt).trans h.t7, (ho be h.bE.lt).trans h.t8⟩
theorem MarkSt.pushE {o1 : Obj} {g cap gM capM : Nat} (h : MarkSt own id w hb br be n vI vMI vR vMR vE vME v7 v8 (.slice (some ⟨g, 0, none⟩) c cap) a b c mi mr me xI xR xE)
    (hown : w'.ownsRow 0 93 1 (.slice (some ⟨gM, 0, none⟩) (me + 1) capM) (me + 1) (xE ++ [.slice (some ⟨g, 0, none⟩) c cap])) (hg : (w.alloc o1).grownBy w' vME.ownBlock) (hat : vME.ownBlock = some gM ∨ gM = w.heap.size + 1) :
    MarkSt (set1 own (w.heap.size + 1) (id, 6)) id (w'.setCell ⟨hb, 5, none⟩ (.slice (some ⟨gM, 0, none⟩) (me + 1) capM)) hb br be n vI vMI vR vMR vE (.slice (some ⟨gM, 0, none⟩) (me + 1) capM) v7 v8 (.slice (some ⟨g, 0, none⟩) c cap) a b c mi mr (me + 1) xI xR (xE ++ [.slice (some ⟨g, 0, none⟩) c cap]) := by
  have hk := h.keepM (u := .slice (some ⟨gM, 0, none⟩) (me + 1) capM) (j := 5) h.gE.tgM hg
  have ho : ∀ x, x < w.heap.size → set1 own (w.heap.size + 1) (id, 6) x = own x := set1_old (by omega)
  have hs : w.heap.size ≤ (w'.setCell ⟨hb, 5, none⟩ (.slice (some ⟨gM, 0, none⟩) (me + 1) capM)).heap.size := by have := hg.size; simp at this ⊢; omega
  have hblk := (h.blk.of (h.keepB h.gE.tgM hg hb h.blk.lt (by rw [h.t0]; simp))).set 5 (.slice (some ⟨gM, 0, none⟩) (me + 1) capM)
  exact ⟨hblk, h.bR.of (hk br h.bR.lt (by rw [h.t7]; simp) (by rw [h.t7]; simp)), h.bE.of (hk be h.bE.lt (by rw [h.t8]; simp) (by rw [h.t8]; simp)),
    h.gI.of ho hs (fun x hx ht => hk x hx (by rcases ht with ht | ht <;> rw [ht] <;> simp) (by rcases ht with ht | ht <;> rw [ht] <;> simp)), h.gR.of ho hs (fun x hx ht => hk x hx (by rcases ht with ht | ht <;> rw [ht] <;> simp) (by rcases ht with ht | ht <;> rw [ht] <;> simp)), h.gE.push rfl (by simp) (by rw [h.t0]; simp) (by rw [h.t0]; simp) h.blk.lt hown hg hat, (ho hb h.blk.lt).trans h.t0, (ho br h.bR.lt).trans h.t7, (ho be h.bE.lt).trans h.t8⟩
end
end Go.Proofs.Ytkonobbhohfjlaa
