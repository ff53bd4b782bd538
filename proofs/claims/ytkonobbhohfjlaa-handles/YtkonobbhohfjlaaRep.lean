/-
  How the document's machine lies in memory.
-/
import Derived.Test.YtkonobbhohfjlaaBase
namespace Go.Proofs.Ytkonobbhohfjlaa
open Go.RowKit
set_option linter.unusedVariables false

def sl4 (b : Nat) : Value := .slice (some ⟨b, 0, none⟩) 4 4

/-- 'own' says whose each block is: (id, 0): the struct; 1: Rights, 2: Bytes, 3: Slots, 4: Alive, 5: Kept; 6 + i: the bytes of frame i. -/
structure RefRep (own : Nat → Nat × Nat) (id : Nat) (w : World) (m : Nat) (s : RSt) (nk : Nat) (vR vB vS vA vK : Value) (bs : List Nat) : Prop where
  blk : Blk w m [.int .i64 s.nf, .int .i64 s.ns, .int .i64 s.ne, vR, vB, vS, .int .i64 s.turn, vA, vK] 97
  rR : Row w vR 136 6 s.rights.length (s.rights.flatMap RR.cells)
  rB : Row w vB 65 1 s.bytes.length (bs.map sl4)
  rI : ∀ (i : Nat) (l : List Int), s.bytes[i]? = some l → ∃ b, bs[i]? = some b ∧ l.length = 4 ∧ Blk w b (l.map (.int .i64)) 3 ∧ own b = (id, 6 + i)
  rS : Row w vS 99 5 s.slots.length (s.slots.flatMap Ent.cells)
  rA : Row w vA 4 1 s.alive.length (s.alive.map .bool)
  rK : Row w vK 139 1 nk (List.replicate nk (.pointer none))
  tm : own m = (id, 0)
  tR : Tg own vR (id, 1)
  tB : Tg own vB (id, 2)
  tS : Tg own vS (id, 3)
  tA : Tg own vA (id, 4)
  tK : Tg own vK (id, 5)

/-- What is not its own has turned at the most. -/
theorem RefRep.of {own own' : Nat → Nat × Nat} {id : Nat} {w w' : World} {m : Nat} {s : RSt} {nk : Nat} {vR vB vS vA vK : Value} {bs : List Nat} (h : RefRep own id w m s nk vR vB vS vA vK bs)
    (ho : ∀ b, b < w.heap.size → own' b = own b) (hb : ∀ b, b < w.heap.size → (own b).1 = id → w'.heap[b]? = w.heap[b]?) : RefRep own' id w' m s nk vR vB vS vA vK bs := by
  refine ⟨h.blk.of (hb m h.blk.lt (by rw [h.tm])), h.rR.kept h.tR fun b hl ht => hb b hl (by rw [ht]), h.rB.kept h.tB fun b hl ht => hb b hl (by rw [ht]), ?_,
    h.rS.kept h.tS fun b hl ht => hb b hl (by rw [ht]), h.rA.kept h.tA fun b hl ht => hb b hl (by rw [ht]), h.rK.kept h.tK fun b hl ht => hb b hl (by rw [ht]),
    (ho m h.blk.lt).trans h.tm, h.tR.congr h.rR ho, h.tB.congr h.rB ho, h.tS.congr h.rS ho, h.tA.congr h.rA ho, h.tK.congr h.rK ho⟩
  intro i l hl
  obtain ⟨b, h1, h2, h3, h4⟩ := h.rI i l hl
  exact ⟨b, h1, h2, h3.of (hb b h3.lt (by rw [h4])), (ho b h3.lt).trans h4⟩

theorem RefRep.below {own : Nat → Nat × Nat} {id : Nat} {w w' : World} {m : Nat} {s : RSt} {nk : Nat} {vR vB vS vA vK : Value} {bs : List Nat} (h : RefRep own id w m s nk vR vB vS vA vK bs)
    (hb : Below w.heap.size w w') : RefRep own id w' m s nk vR vB vS vA vK bs := h.of (fun _ _ => rfl) fun b hm _ => hb.block b hm

def set1 (own : Nat → Nat × Nat) (b : Nat) (t : Nat × Nat) : Nat → Nat × Nat := fun x => if x = b then t else own x
theorem set1_old {own : Nat → Nat × Nat} {b : Nat} {t : Nat × Nat} {n : Nat} (h : n ≤ b) : ∀ x, x < n → set1 own b t x = own x := by
  intro x hx; simp [set1]; omega
theorem set1_at (own : Nat → Nat × Nat) (b : Nat) (t : Nat × Nat) : set1 own b t b = t := by simp [set1]

theorem Tg.app {own : Nat → Nat × Nat} {v : Value} {t : Nat × Nat} {H g n cap : Nat} (ht : Tg own v t) (hlt : ∀ b, v.ownBlock = some b → b < H) (hat : v.ownBlock = some g ∨ g = H) :
    Tg (set1 own H t) (.slice (some ⟨g, 0, none⟩) n cap) t := by
  refine Tg.mk ?_
  rcases hat with h | h
  · have := hlt g h
    simp [set1]
    intro _
    exact ht g h
  · subst h; exact set1_at _ _ _

/-- Behind an append to a field's row and the store into the field: what is neither the struct's nor that row's is as it was. -/
theorem app_keep {own : Nat → Nat × Nat} {w w2 w1 : World} {m : Nat} {vX v' : Value} {t0 t : Nat × Nat} {a : Addr} (tm : own m = t0) (tX : Tg own vX t) (h2 : Below w.heap.size w w2)
    (hg : w2.grownBy w1 vX.ownBlock) (ha : a.block = m) : ∀ b, b < w.heap.size → own b ≠ t0 → own b ≠ t → (w1.setCell a v').heap[b]? = w.heap[b]? := by
  intro b hb n0 nt
  rw [heap_setCell_other w1 a b v' (by rw [ha]; intro e; subst e; exact n0 tm), hg.block b (Nat.lt_of_lt_of_le hb h2.size) (fun e => nt (tX b e.symm)), h2.block b hb]

section
variable {own own' : Nat → Nat × Nat} {id : Nat} {w W : World} {m : Nat} {s : RSt} {nk : Nat} {vR vB vS vA vK v' : Value} {bs : List Nat}

theorem RefRep.inner (h : RefRep own id w m s nk vR vB vS vA vK bs) (ho : ∀ b, b < w.heap.size → own' b = own b) (j : Nat) (hj : j < 6)
    (hW : ∀ b, b < w.heap.size → own b ≠ (id, 0) → own b ≠ (id, j) → W.heap[b]? = w.heap[b]?) :
    ∀ (i : Nat) (l : List Int), s.bytes[i]? = some l → ∃ b, bs[i]? = some b ∧ l.length = 4 ∧ Blk W b (l.map (.int .i64)) 3 ∧ own' b = (id, 6 + i) := by
  intro i l hl
  obtain ⟨b, h1, h2, h3, h4⟩ := h.rI i l hl
  exact ⟨b, h1, h2, h3.of (hW b h3.lt (by rw [h4]; simp) (by rw [h4]; simp; omega)), (ho b h3.lt).trans h4⟩

theorem RefRep.putB (h : RefRep own id w m s nk vR vB vS vA vK bs) (ho : ∀ b, b < w.heap.size → own' b = own b)
    (hW : ∀ b, b < w.heap.size → own b ≠ (id, 0) → own b ≠ (id, 2) → W.heap[b]? = w.heap[b]?) {bytes' : List (List Int)} {bs' : List Nat}
    (hm : Blk W m [.int .i64 s.nf, .int .i64 s.ns, .int .i64 s.ne, vR, v', vS, .int .i64 s.turn, vA, vK] 97)
    (hr : Row W v' 65 1 bytes'.length (bs'.map sl4)) (ht : Tg own' v' (id, 2))
    (hI : ∀ (i : Nat) (l : List Int), bytes'[i]? = some l → ∃ b, bs'[i]? = some b ∧ l.length = 4 ∧ Blk W b (l.map (.int .i64)) 3 ∧ own' b = (id, 6 + i)) :
    RefRep own' id W m { s with bytes := bytes' } nk vR v' vS vA vK bs' :=
  ⟨hm, h.rR.kept h.tR fun b hl ht => hW b hl (by rw [ht]; simp) (by rw [ht]; simp), hr, hI,
    h.rS.kept h.tS fun b hl ht => hW b hl (by rw [ht]; simp) (by rw [ht]; simp), h.rA.kept h.tA fun b hl ht => hW b hl (by rw [ht]; simp) (by rw [ht]; simp),
    h.rK.kept h.tK fun b hl ht => hW b hl (by rw [ht]; simp) (by rw [ht]; simp), (ho m h.blk.lt).trans h.tm, h.tR.congr h.rR ho, ht, h.tS.congr h.rS ho, h.tA.congr h.rA ho, h.tK.congr h.rK ho⟩

theorem RefRep.putS (h : RefRep own id w m s nk vR vB vS vA vK bs) (ho : ∀ b, b < w.heap.size → own' b = own b)
    (hW : ∀ b, b < w.heap.size → own b ≠ (id, 0) → own b ≠ (id, 3) → W.heap[b]? = w.heap[b]?) {slots' : List Ent}
    (hm : Blk W m [.int .i64 s.nf, .int .i64 s.ns, .int .i64 s.ne, vR, vB, v', .int .i64 s.turn, vA, vK] 97)
    (hr : Row W v' 99 5 slots'.length (slots'.flatMap Ent.cells)) (ht : Tg own' v' (id, 3)) :
    RefRep own' id W m { s with slots := slots' } nk vR vB v' vA vK bs :=
  ⟨hm, h.rR.kept h.tR fun b hl ht => hW b hl (by rw [ht]; simp) (by rw [ht]; simp), h.rB.kept h.tB fun b hl ht => hW b hl (by rw [ht]; simp) (by rw [ht]; simp), h.inner ho 3 (by omega) hW,
    hr, h.rA.kept h.tA fun b hl ht => hW b hl (by rw [ht]; simp) (by rw [ht]; simp),
    h.rK.kept h.tK fun b hl ht => hW b hl (by rw [ht]; simp) (by rw [ht]; simp), (ho m h.blk.lt).trans h.tm, h.tR.congr h.rR ho, h.tB.congr h.rB ho, ht, h.tA.congr h.rA ho, h.tK.congr h.rK ho⟩

theorem RefRep.putA (h : RefRep own id w m s nk vR vB vS vA vK bs) (ho : ∀ b, b < w.heap.size → own' b = own b)
    (hW : ∀ b, b < w.heap.size → own b ≠ (id, 0) → own b ≠ (id, 4) → W.heap[b]? = w.heap[b]?) {alive' : List Bool}
    (hm : Blk W m [.int .i64 s.nf, .int .i64 s.ns, .int .i64 s.ne, vR, vB, vS, .int .i64 s.turn, v', vK] 97)
    (hr : Row W v' 4 1 alive'.length (alive'.map .bool)) (ht : Tg own' v' (id, 4)) :
    RefRep own' id W m { s with alive := alive' } nk vR vB vS v' vK bs :=
  ⟨hm, h.rR.kept h.tR fun b hl ht => hW b hl (by rw [ht]; simp) (by rw [ht]; simp), h.rB.kept h.tB fun b hl ht => hW b hl (by rw [ht]; simp) (by rw [ht]; simp), h.inner ho 4 (by omega) hW,
    h.rS.kept h.tS fun b hl ht => hW b hl (by rw [ht]; simp) (by rw [ht]; simp), hr,
    h.rK.kept h.tK fun b hl ht => hW b hl (by rw [ht]; simp) (by rw [ht]; simp), (ho m h.blk.lt).trans h.tm, h.tR.congr h.rR ho, h.tB.congr h.rB ho, h.tS.congr h.rS ho, ht, h.tK.congr h.rK ho⟩

theorem RefRep.putK (h : RefRep own id w m s nk vR vB vS vA vK bs) (ho : ∀ b, b < w.heap.size → own' b = own b)
    (hW : ∀ b, b < w.heap.size → own b ≠ (id, 0) → own b ≠ (id, 5) → W.heap[b]? = w.heap[b]?) {nk' : Nat}
    (hm : Blk W m [.int .i64 s.nf, .int .i64 s.ns, .int .i64 s.ne, vR, vB, vS, .int .i64 s.turn, vA, v'] 97)
    (hr : Row W v' 139 1 nk' (List.replicate nk' (.pointer none))) (ht : Tg own' v' (id, 5)) :
    RefRep own' id W m s nk' vR vB vS vA v' bs :=
  ⟨hm, h.rR.kept h.tR fun b hl ht => hW b hl (by rw [ht]; simp) (by rw [ht]; simp), h.rB.kept h.tB fun b hl ht => hW b hl (by rw [ht]; simp) (by rw [ht]; simp), h.inner ho 5 (by omega) hW,
    h.rS.kept h.tS fun b hl ht => hW b hl (by rw [ht]; simp) (by rw [ht]; simp), h.rA.kept h.tA fun b hl ht => hW b hl (by rw [ht]; simp) (by rw [ht]; simp),
    hr, (ho m h.blk.lt).trans h.tm, h.tR.congr h.rR ho, h.tB.congr h.rB ho, h.tS.congr h.rS ho, h.tA.congr h.rA ho, ht⟩

theorem RefRep.putR (h : RefRep own id w m s nk vR vB vS vA vK bs) (ho : ∀ b, b < w.heap.size → own' b = own b)
    (hW : ∀ b, b < w.heap.size → own b ≠ (id, 0) → own b ≠ (id, 1) → W.heap[b]? = w.heap[b]?) {rights' : List RR}
    (hm : Blk W m [.int .i64 s.nf, .int .i64 s.ns, .int .i64 s.ne, v', vB, vS, .int .i64 s.turn, vA, vK] 97)
    (hr : Row W v' 136 6 rights'.length (rights'.flatMap RR.cells)) (ht : Tg own' v' (id, 1)) :
    RefRep own' id W m { s with rights := rights' } nk v' vB vS vA vK bs :=
  ⟨hm, hr, h.rB.kept h.tB fun b hl ht => hW b hl (by rw [ht]; simp) (by rw [ht]; simp), h.inner ho 1 (by omega) hW,
    h.rS.kept h.tS fun b hl ht => hW b hl (by rw [ht]; simp) (by rw [ht]; simp), h.rA.kept h.tA fun b hl ht => hW b hl (by rw [ht]; simp) (by rw [ht]; simp),
    h.rK.kept h.tK fun b hl ht => hW b hl (by rw [ht]; simp) (by rw [ht]; simp), (ho m h.blk.lt).trans h.tm, ht, h.tB.congr h.rB ho, h.tS.congr h.rS ho, h.tA.congr h.rA ho, h.tK.congr h.rK ho⟩
end

end Go.Proofs.Ytkonobbhohfjlaa
