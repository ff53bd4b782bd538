import Derived.Test.YtinlkcmdbjcofaaGreatM01
/-
  How the document's machine lies in memory.
-/
namespace Go.Proofs.YtinlkcmdbjcofaaGreat
open Go.RowKit
set_option linter.unusedVariables false

def kptr (x : Option Nat) : Value := match x with
  | none => .pointer none
  | some b => .pointer (some ⟨b, 0, none⟩)
def ucells (u : Int × Bool) : List Value := [.int .i64 u.1, .bool u.2]
/-- The marks of what belongs to the kept memory of environment i. -/
def kt (i j : Nat) : Nat := 7 + 2 * (16 * i + j)
def KSt.cells (k : KSt) (vB vU vI vY vC vD vO : Value) : List Value := [.int .i64 k.quota, .int .i64 k.policy, vB, vU, vI, vY, vC, vD, vO, .int .i64 k.refills, .int .i64 k.ins, .int .i64 k.outs, .int .i64 0]

/-- A kept memory at b. -/
structure KRep (own : Nat → Nat × Nat) (id i : Nat) (w : World) (b : Nat) (k : KSt) (vB vU vI vY vC vD vO : Value) : Prop where
  blk : Blk w b (k.cells vB vU vI vY vC vD vO) 133
  rB : Row w vB 3 1 k.bytes.length (k.bytes.map (.int .i64))
  rU : Row w vU 150 2 k.uses.length (k.uses.flatMap ucells)
  rI : Row w vI 3 1 k.inp.length (k.inp.map (.int .i64))
  rY : Row w vY 3 1 k.hnd.length (k.hnd.map (.int .i64))
  rC : Row w vC 4 1 k.chg.length (k.chg.map .bool)
  rD : Row w vD 4 1 k.dty.length (k.dty.map .bool)
  rO : Row w vO 4 1 k.out.length (k.out.map .bool)
  tm : own b = (id, kt i 0)
  tB : Tg own vB (id, kt i 1)
  tU : Tg own vU (id, kt i 2)
  tI : Tg own vI (id, kt i 3)
  tY : Tg own vY (id, kt i 4)
  tC : Tg own vC (id, kt i 5)
  tD : Tg own vD (id, kt i 6)
  tO : Tg own vO (id, kt i 7)
def KAt (own : Nat → Nat × Nat) (id i : Nat) (w : World) (b : Nat) (k : KSt) : Prop := ∃ vB vU vI vY vC vD vO, KRep own id i w b k vB vU vI vY vC vD vO

theorem KAt.of {own own' : Nat → Nat × Nat} {id i : Nat} {w w' : World} {b : Nat} {k : KSt} (h : KAt own id i w b k) (ho : ∀ x, x < w.heap.size → (own x).1 = id → own' x = own x)
    (hb : ∀ x, x < w.heap.size → ∀ j, j < 16 → own x = (id, kt i j) → w'.heap[x]? = w.heap[x]?) : KAt own' id i w' b k := by
  obtain ⟨vB, vU, vI, vY, vC, vD, vO, h⟩ := h
  have ht : ∀ {v : Value} {e c n : Nat} {xs : List Value} {j : Nat}, Row w v e c n xs → Tg own v (id, kt i j) → Tg own' v (id, kt i j) := fun hr ht x hx => (ho x (hr.lt x hx) (by rw [ht x hx])).trans (ht x hx)
  exact ⟨vB, vU, vI, vY, vC, vD, vO, h.blk.of (hb b h.blk.lt 0 (by omega) h.tm), h.rB.kept h.tB (fun x hx e => hb x hx 1 (by omega) e), h.rU.kept h.tU (fun x hx e => hb x hx 2 (by omega) e), h.rI.kept h.tI (fun x hx e => hb x hx 3 (by omega) e), h.rY.kept h.tY (fun x hx e => hb x hx 4 (by omega) e),
    h.rC.kept h.tC (fun x hx e => hb x hx 5 (by omega) e), h.rD.kept h.tD (fun x hx e => hb x hx 6 (by omega) e), h.rO.kept h.tO (fun x hx e => hb x hx 7 (by omega) e),
    (ho b h.blk.lt (by rw [h.tm])).trans h.tm, ht h.rB h.tB, ht h.rU h.tU, ht h.rI h.tI, ht h.rY h.tY, ht h.rC h.tC, ht h.rD h.tD, ht h.rO h.tO⟩

/-- The kept memories: their pointers, and what lies there. -/
structure KAll (own : Nat → Nat × Nat) (id : Nat) (w : World) (vK : Value) (nk : Nat) (kept : List (Option KSt)) (ks : List (Option Nat)) : Prop where
  row : Row w vK 121 1 nk (ks.map kptr)
  len : kept.length = nk
  no : ∀ i : Nat, kept[i]? = some none → ks[i]? = some none
  yes : ∀ (i : Nat) (k : KSt), kept[i]? = some (some k) → ∃ b, ks[i]? = some (some b) ∧ KAt own id i w b k
def KRow (own : Nat → Nat × Nat) (id : Nat) (w : World) (vK : Value) (nk : Nat) (kept : List (Option KSt)) : Prop := ∃ ks, KAll own id w vK nk kept ks

theorem KRow.lt {own : Nat → Nat × Nat} {id : Nat} {w : World} {vK : Value} {nk : Nat} {kept : List (Option KSt)} (h : KRow own id w vK nk kept) : ∀ b, vK.ownBlock = some b → b < w.heap.size := by
  obtain ⟨ks, h⟩ := h
  exact h.row.lt
theorem KRow.of {own own' : Nat → Nat × Nat} {id : Nat} {w w' : World} {vK : Value} {nk : Nat} {kept : List (Option KSt)} (h : KRow own id w vK nk kept) (ht : Tg own vK (id, 5)) (ho : ∀ x, x < w.heap.size → (own x).1 = id → own' x = own x)
    (h5 : ∀ x, x < w.heap.size → own x = (id, 5) → w'.heap[x]? = w.heap[x]?) (hk : ∀ x, x < w.heap.size → ∀ j, own x = (id, 7 + 2 * j) → w'.heap[x]? = w.heap[x]?) : KRow own' id w' vK nk kept := by
  obtain ⟨ks, h⟩ := h
  refine ⟨ks, h.row.kept ht h5, h.len, h.no, fun i k hi => ?_⟩
  obtain ⟨b, h1, h2⟩ := h.yes i k hi
  exact ⟨b, h1, h2.of ho (fun x hx j _ e => hk x hx _ e)⟩
theorem KRow.keep {own own' : Nat → Nat × Nat} {id : Nat} {w w' : World} {vK : Value} {nk : Nat} {kept : List (Option KSt)} (h : KRow own id w vK nk kept) (ht : Tg own vK (id, 5)) (ho : ∀ x, x < w.heap.size → own' x = own x) {j : Nat} (hj : j < 5) (hW : ∀ b, b < w.heap.size → own b ≠ (id, 0) → own b ≠ (id, j) → w'.heap[b]? = w.heap[b]?) : KRow own' id w' vK nk kept :=
  h.of ht (fun x hx _ => ho x hx) (fun x hx e => hW x hx (by rw [e]; simp) (by rw [e]; simp; omega)) (fun x hx j e => hW x hx (by rw [e]; simp) (by rw [e]; simp; omega))
theorem KRow.congr {own own' : Nat → Nat × Nat} {id : Nat} {w : World} {vK : Value} {nk : Nat} {kept : List (Option KSt)} (h : KRow own id w vK nk kept) (ht : Tg own vK (id, 5)) (ho : ∀ x, x < w.heap.size → own' x = own x) : Tg own' vK (id, 5) := by
  obtain ⟨ks, h⟩ := h
  exact ht.congr h.row ho

/-- 'own' says whose each block is: (id, 0): the struct; 1: Rights, 2: Bytes, 3: Slots, 4: Alive, 5: Kept; 6 + 2 * i: the bytes of frame i. -/
structure RefRep (own : Nat → Nat × Nat) (id : Nat) (w : World) (m : Nat) (s : RSt) (nk : Nat) (vR vB vS vA vK : Value) (bs : List Nat) : Prop where
  blk : Blk w m [.int .i64 s.nf, .int .i64 s.ns, .int .i64 s.ne, vR, vB, vS, .int .i64 s.turn, vA, vK] 72
  rR : Row w vR 116 6 s.rights.length (s.rights.flatMap RR.cells)
  rB : Row w vB 62 1 s.bytes.length (bs.map sl4)
  rI : ∀ (i : Nat) (l : List Int), s.bytes[i]? = some l → ∃ b, bs[i]? = some b ∧ l.length = 4 ∧ Blk w b (l.map (.int .i64)) 3 ∧ own b = (id, 6 + 2 * i)
  rS : Row w vS 74 5 s.slots.length (s.slots.flatMap Ent.cells)
  rA : Row w vA 4 1 s.alive.length (s.alive.map .bool)
  rK : KRow own id w vK nk s.kept
  tm : own m = (id, 0)
  tR : Tg own vR (id, 1)
  tB : Tg own vB (id, 2)
  tS : Tg own vS (id, 3)
  tA : Tg own vA (id, 4)
  tK : Tg own vK (id, 5)

/-- What is not its own has turned at the most. -/
theorem RefRep.of {own own' : Nat → Nat × Nat} {id : Nat} {w w' : World} {m : Nat} {s : RSt} {nk : Nat} {vR vB vS vA vK : Value} {bs : List Nat} (h : RefRep own id w m s nk vR vB vS vA vK bs)
    (ho : ∀ b, b < w.heap.size → own' b = own b) (hb : ∀ b, b < w.heap.size → (own b).1 = id → w'.heap[b]? = w.heap[b]?) : RefRep own' id w' m s nk vR vB vS vA vK bs := by
  refine ⟨h.blk.of (hb m h.blk.lt (by rw [h.tm])), h.rR.kept h.tR fun b hl ht => hb b hl (by rw [ht]), h.rB.kept h.tB fun b hl ht => hb b hl (by rw [ht]), ?_,
    h.rS.kept h.tS fun b hl ht => hb b hl (by rw [ht]), h.rA.kept h.tA fun b hl ht => hb b hl (by rw [ht]), h.rK.of h.tK (fun x hx _ => ho x hx) (fun b hl ht => hb b hl (by rw [ht])) (fun b hl j ht => hb b hl (by rw [ht])),
    (ho m h.blk.lt).trans h.tm, h.tR.congr h.rR ho, h.tB.congr h.rB ho, h.tS.congr h.rS ho, h.tA.congr h.rA ho, h.rK.congr h.tK ho⟩
  intro i l hl
  obtain ⟨b, h1, h2, h3, h4⟩ := h.rI i l hl
  exact ⟨b, h1, h2, h3.of (hb b h3.lt (by rw [h4])), (ho b h3.lt).trans h4⟩

theorem RefRep.below {own : Nat → Nat × Nat} {id : Nat} {w w' : World} {m : Nat} {s : RSt} {nk : Nat} {vR vB vS vA vK : Value} {bs : List Nat} (h : RefRep own id w m s nk vR vB vS vA vK bs)
    (hb : Below w.heap.size w w') : RefRep own id w' m s nk vR vB vS vA vK bs := h.of (fun _ _ => rfl) fun b hm _ => hb.block b hm

section
variable {own own' : Nat → Nat × Nat} {id : Nat} {w W : World} {m : Nat} {s : RSt} {nk : Nat} {vR vB vS vA vK v' : Value} {bs : List Nat}

theorem RefRep.inner (h : RefRep own id w m s nk vR vB vS vA vK bs) (ho : ∀ b, b < w.heap.size → own' b = own b) (j : Nat) (hj : j < 6)
    (hW : ∀ b, b < w.heap.size → own b ≠ (id, 0) → own b ≠ (id, j) → W.heap[b]? = w.heap[b]?) :
    ∀ (i : Nat) (l : List Int), s.bytes[i]? = some l → ∃ b, bs[i]? = some b ∧ l.length = 4 ∧ Blk W b (l.map (.int .i64)) 3 ∧ own' b = (id, 6 + 2 * i) := by
  intro i l hl
  obtain ⟨b, h1, h2, h3, h4⟩ := h.rI i l hl
  exact ⟨b, h1, h2, h3.of (hW b h3.lt (by rw [h4]; simp) (by rw [h4]; simp; omega)), (ho b h3.lt).trans h4⟩

theorem RefRep.putB (h : RefRep own id w m s nk vR vB vS vA vK bs) (ho : ∀ b, b < w.heap.size → own' b = own b)
    (hW : ∀ b, b < w.heap.size → own b ≠ (id, 0) → own b ≠ (id, 2) → W.heap[b]? = w.heap[b]?) {bytes' : List (List Int)} {bs' : List Nat}
    (hm : Blk W m [.int .i64 s.nf, .int .i64 s.ns, .int .i64 s.ne, vR, v', vS, .int .i64 s.turn, vA, vK] 72)
    (hr : Row W v' 62 1 bytes'.length (bs'.map sl4)) (ht : Tg own' v' (id, 2))
    (hI : ∀ (i : Nat) (l : List Int), bytes'[i]? = some l → ∃ b, bs'[i]? = some b ∧ l.length = 4 ∧ Blk W b (l.map (.int .i64)) 3 ∧ own' b = (id, 6 + 2 * i)) :
    RefRep own' id W m { s with bytes := bytes' } nk vR v' vS vA vK bs' :=
  ⟨hm, h.rR.kept h.tR fun b hl ht => hW b hl (by rw [ht]; simp) (by rw [ht]; simp), hr, hI,
    h.rS.kept h.tS fun b hl ht => hW b hl (by rw [ht]; simp) (by rw [ht]; simp), h.rA.kept h.tA fun b hl ht => hW b hl (by rw [ht]; simp) (by rw [ht]; simp),
    h.rK.keep h.tK ho (by omega) hW, (ho m h.blk.lt).trans h.tm, h.tR.congr h.rR ho, ht, h.tS.congr h.rS ho, h.tA.congr h.rA ho, h.rK.congr h.tK ho⟩

theorem RefRep.putS (h : RefRep own id w m s nk vR vB vS vA vK bs) (ho : ∀ b, b < w.heap.size → own' b = own b)
    (hW : ∀ b, b < w.heap.size → own b ≠ (id, 0) → own b ≠ (id, 3) → W.heap[b]? = w.heap[b]?) {slots' : List Ent}
    (hm : Blk W m [.int .i64 s.nf, .int .i64 s.ns, .int .i64 s.ne, vR, vB, v', .int .i64 s.turn, vA, vK] 72)
    (hr : Row W v' 74 5 slots'.length (slots'.flatMap Ent.cells)) (ht : Tg own' v' (id, 3)) :
    RefRep own' id W m { s with slots := slots' } nk vR vB v' vA vK bs :=
  ⟨hm, h.rR.kept h.tR fun b hl ht => hW b hl (by rw [ht]; simp) (by rw [ht]; simp), h.rB.kept h.tB fun b hl ht => hW b hl (by rw [ht]; simp) (by rw [ht]; simp), h.inner ho 3 (by omega) hW,
    hr, h.rA.kept h.tA fun b hl ht => hW b hl (by rw [ht]; simp) (by rw [ht]; simp),
    h.rK.keep h.tK ho (by omega) hW, (ho m h.blk.lt).trans h.tm, h.tR.congr h.rR ho, h.tB.congr h.rB ho, ht, h.tA.congr h.rA ho, h.rK.congr h.tK ho⟩

theorem RefRep.putA (h : RefRep own id w m s nk vR vB vS vA vK bs) (ho : ∀ b, b < w.heap.size → own' b = own b)
    (hW : ∀ b, b < w.heap.size → own b ≠ (id, 0) → own b ≠ (id, 4) → W.heap[b]? = w.heap[b]?) {alive' : List Bool}
    (hm : Blk W m [.int .i64 s.nf, .int .i64 s.ns, .int .i64 s.ne, vR, vB, vS, .int .i64 s.turn, v', vK] 72)
    (hr : Row W v' 4 1 alive'.length (alive'.map .bool)) (ht : Tg own' v' (id, 4)) :
    RefRep own' id W m { s with alive := alive' } nk vR vB vS v' vK bs :=
  ⟨hm, h.rR.kept h.tR fun b hl ht => hW b hl (by rw [ht]; simp) (by rw [ht]; simp), h.rB.kept h.tB fun b hl ht => hW b hl (by rw [ht]; simp) (by rw [ht]; simp), h.inner ho 4 (by omega) hW,
    h.rS.kept h.tS fun b hl ht => hW b hl (by rw [ht]; simp) (by rw [ht]; simp), hr,
    h.rK.keep h.tK ho (by omega) hW, (ho m h.blk.lt).trans h.tm, h.tR.congr h.rR ho, h.tB.congr h.rB ho, h.tS.congr h.rS ho, ht, h.rK.congr h.tK ho⟩

theorem RefRep.putK (h : RefRep own id w m s nk vR vB vS vA vK bs) (ho : ∀ b, b < w.heap.size → own' b = own b)
    (hW : ∀ b, b < w.heap.size → own b ≠ (id, 0) → own b ≠ (id, 5) → (∀ j, own b ≠ (id, 7 + 2 * j)) → W.heap[b]? = w.heap[b]?) {kept' : List (Option KSt)}
    (hm : Blk W m [.int .i64 s.nf, .int .i64 s.ns, .int .i64 s.ne, vR, vB, vS, .int .i64 s.turn, vA, v'] 72)
    (hr : KRow own' id W v' nk kept') (ht : Tg own' v' (id, 5)) :
    RefRep own' id W m { s with kept := kept' } nk vR vB vS vA v' bs := by
  refine ⟨hm, h.rR.kept h.tR fun b hl ht => hW b hl (by rw [ht]; simp) (by rw [ht]; simp) (fun j => by rw [ht]; simp; omega), h.rB.kept h.tB fun b hl ht => hW b hl (by rw [ht]; simp) (by rw [ht]; simp) (fun j => by rw [ht]; simp; omega), ?_,
    h.rS.kept h.tS fun b hl ht => hW b hl (by rw [ht]; simp) (by rw [ht]; simp) (fun j => by rw [ht]; simp; omega), h.rA.kept h.tA fun b hl ht => hW b hl (by rw [ht]; simp) (by rw [ht]; simp) (fun j => by rw [ht]; simp; omega),
    hr, (ho m h.blk.lt).trans h.tm, h.tR.congr h.rR ho, h.tB.congr h.rB ho, h.tS.congr h.rS ho, h.tA.congr h.rA ho, ht⟩
  intro i l hl
  obtain ⟨b, h1, h2, h3, h4⟩ := h.rI i l hl
  exact ⟨b, h1, h2, h3.of (hW b h3.lt (by rw [h4]; simp) (by rw [h4]; simp; omega) (fun j => by rw [h4]; simp; omega)), (ho b h3.lt).trans h4⟩

theorem RefRep.putR (h : RefRep own id w m s nk vR vB vS vA vK bs) (ho : ∀ b, b < w.heap.size → own' b = own b)
    (hW : ∀ b, b < w.heap.size → own b ≠ (id, 0) → own b ≠ (id, 1) → W.heap[b]? = w.heap[b]?) {rights' : List RR}
    (hm : Blk W m [.int .i64 s.nf, .int .i64 s.ns, .int .i64 s.ne, v', vB, vS, .int .i64 s.turn, vA, vK] 72)
    (hr : Row W v' 116 6 rights'.length (rights'.flatMap RR.cells)) (ht : Tg own' v' (id, 1)) :
    RefRep own' id W m { s with rights := rights' } nk v' vB vS vA vK bs :=
  ⟨hm, hr, h.rB.kept h.tB fun b hl ht => hW b hl (by rw [ht]; simp) (by rw [ht]; simp), h.inner ho 1 (by omega) hW,
    h.rS.kept h.tS fun b hl ht => hW b hl (by rw [ht]; simp) (by rw [ht]; simp), h.rA.kept h.tA fun b hl ht => hW b hl (by rw [ht]; simp) (by rw [ht]; simp),
    h.rK.keep h.tK ho (by omega) hW, (ho m h.blk.lt).trans h.tm, ht, h.tB.congr h.rB ho, h.tS.congr h.rS ho, h.tA.congr h.rA ho, h.rK.congr h.tK ho⟩

theorem RefRep0.full (h : RefRep0 own id w m s nk vR vB vS vA vK bs) (hk : s.kept = List.replicate nk none) : RefRep own id w m s nk vR vB vS vA vK bs := by
  refine ⟨h.blk, h.rR, h.rB, h.rI, h.rS, h.rA, ⟨List.replicate nk none, ?_, by rw [hk]; simp, fun i hi => ?_, fun i k hi => ?_⟩, h.tm, h.tR, h.tB, h.tS, h.tA, h.tK⟩
  · have := h.rK
    rw [List.map_replicate]
    exact this
  · rw [hk, List.getElem?_replicate] at hi
    rw [List.getElem?_replicate]
    split at hi
    · rename_i hlt; rw [if_pos hlt]
    · simp at hi
  · rw [hk] at hi; simp [List.getElem?_replicate] at hi
end

theorem begin_any (own0 : Nat → Nat × Nat) (id f s e : Nat) (w : World) (hf : f ≤ 16) (hs : s ≤ 8) (he : e ≤ 4) (hid : ∀ b, b < w.heap.size → (own0 b).1 ≠ id) :
    Calls Tryz.prog 19 #[.agg #[.int .i64 f, .int .i64 s, .int .i64 e]] w fun en w' => ∃ own m vR vB vS vA vK bs, en = .returned (.pointer (some ⟨m, 0, none⟩)) ∧ Below w.heap.size w w' ∧
      RefRep own id w' m (RSt.fresh f s e) e vR vB vS vA vK bs ∧ (∀ b, b < w.heap.size → own b = own0 b) := by
  refine (begin0_any own0 id f s e w hf hs he hid).mono ?_
  rintro en w' ⟨own, m, vR, vB, vS, vA, vK, bs, h1, h2, h3, h4⟩
  exact ⟨own, m, vR, vB, vS, vA, vK, bs, h1, h2, h3.full rfl, h4⟩

end Go.Proofs.YtinlkcmdbjcofaaGreat

/-
  What the document's machine answers: the calls that only look.
-/
namespace Go.Proofs.YtinlkcmdbjcofaaGreat
open Go.RowKit
set_option linter.unusedVariables false

section
variable {own : Nat → Nat × Nat} {id : Nat} {w : World} {m : Nat} {s : RSt} {nk : Nat} {vR vB vS vA vK : Value} {bs : List Nat}

/-- The cells of right i. -/
theorem RefRep.right (h : RefRep own id w m s nk vR vB vS vA vK bs) {i : Nat} {r : RR} (hr : s.rights[i]? = some r) :
    ∃ g cap, vR = .slice (some ⟨g, 0, none⟩) s.rights.length cap ∧ own g = (id, 1) ∧ w.cell? ⟨g, i * 6, none⟩ = some (.int .i64 r.h) ∧ w.cell? ⟨g, i * 6 + 1, none⟩ = some (.int .i64 r.env) ∧ w.cell? ⟨g, i * 6 + 2, none⟩ = some (.int .i64 r.fr) ∧
      w.cell? ⟨g, i * 6 + 3, none⟩ = some (.bool r.wr) ∧ w.cell? ⟨g, i * 6 + 4, none⟩ = some (.int .i64 r.frm) ∧ w.cell? ⟨g, i * 6 + 5, none⟩ = some (.bool r.ended) ∧ ∀ j, w.frozen? ⟨g, j, none⟩ = false := by
  have hi := (List.getElem?_eq_some_iff.1 hr).1
  obtain ⟨g, cap, hv, hc, hf⟩ := h.rR.form (by omega)
  have hx : ∀ j, j < 6 → w.cell? ⟨g, i * 6 + j, none⟩ = r.cells[j]? := fun j hj => by
    rw [hc _ (by omega), flat_get RR.cells 6 (fun _ => rfl) _ _ j _ hr hj]
  exact ⟨g, cap, hv, h.tR g (by rw [hv]; rfl), hx 0 (by omega), hx 1 (by omega), hx 2 (by omega), hx 3 (by omega), hx 4 (by omega), hx 5 (by omega), hf⟩

set_option maxHeartbeats 1000000 in
set_option maxRecDepth 100000 in
theorem living_any (h : RefRep own id w m s nk vR vB vS vA vK bs) (ho : Ordered s.rights) (hm : s.rights.length ≤ 4611686018427387904) (i : Int) (hi : i < s.rights.length) (hi0 : -1 ≤ i) :
    Calls Tryz.prog 90 #[.pointer (some ⟨m, 0, none⟩), .int .i64 i] w fun e w' => e = .returned (.bool (lv s.rights i)) ∧ w' = w := by
  have k3 := h.blk.cell 3
  simp at k3
  go_enter Tryz.func90, Tryz.ntmps90
  go_wp2_with fail
  go_loopg [1] (i + 1).toNat (fun k x wr => ∃ q : Int, x = .int .i64 q ∧ (q + 1).toNat ≤ k ∧ -1 ≤ q ∧ q < s.rights.length ∧ lv s.rights q = lv s.rights i ∧ wr = w)
  case atStart => exact ⟨i, rfl, Nat.le_refl _, hi0, hi, rfl, rfl⟩
  case round =>
    obtain ⟨q, rfl, hk, hq0, hq1, hlv, rfl⟩ := hrel
    have HL : Hid (lv s.rights q = lv s.rights i) := hlv
    clear hlv
    by_cases hq : 0 ≤ q
    · obtain ⟨j, rfl⟩ := Int.eq_ofNat_of_zero_le hq
      have hj : j < s.rights.length := by omega
      obtain ⟨r, hr⟩ : ∃ r, s.rights[j]? = some r := ⟨s.rights[j], by simp⟩
      obtain ⟨g, cap, hv, _, _, _, _, _, c4, c5, _⟩ := h.right hr
      have hst := lv_step ho hr
      have hbd := ho j r hr
      rw [hv] at k3
      have HS : Hid (lv s.rights j = (!r.ended && lv s.rights r.frm)) := hst
      clear hst hv
      cases he : r.ended
      · rw [he] at c5
        go_wp2_with fail
        go_roundg ((r.frm + 1).toNat)
        case measure => omega
        case rel => exact ⟨r.frm, rfl, Nat.le_refl _, hbd.1, by omega, by rw [← HL.out, HS.out, he]; rfl, rfl⟩
      · rw [he] at c5
        go_wp2_with fail
        go_ret
        exact ⟨ret_bool (by rw [← HL.out, HS.out, he]; rfl), rfl⟩
    · go_wp2_with fail
      go_ret
      exact ⟨ret_bool (by rw [← HL.out, lv_neg (by omega)]), rfl⟩

theorem ret_int {a b : Int} (h : a = b) : Ending.returned (.int .i64 a) = .returned (.int .i64 b) := by rw [h]

set_option maxHeartbeats 1000000 in
set_option maxRecDepth 100000 in
theorem count_any (h : RefRep own id w m s nk vR vB vS vA vK bs) (ho : Ordered s.rights) (hm : s.rights.length ≤ 4611686018427387904) :
    Calls Tryz.prog 79 #[.pointer (some ⟨m, 0, none⟩)] w fun e w' => e = .returned (.int .i64 (cnt s.rights)) ∧ w' = w := by
  have k3 := h.blk.cell 3
  simp at k3
  obtain ⟨ao, cap, g, hv, _⟩ := h.rR.view
  rw [hv] at k3
  have Hv : Hid (vR = .slice ao s.rights.length cap) := hv
  clear hv
  go_enter Tryz.func79, Tryz.ntmps79
  go_wp2_with fail
  go_loopg [3, 4] s.rights.length (fun k n x wr => ∃ q : Nat, x = .int .i64 q ∧ q + k = s.rights.length ∧ n = .int .i64 (cntTo s.rights q) ∧ wr = w)
  case atStart => exact ⟨0, rfl, by omega, rfl, rfl⟩
  case round =>
    obtain ⟨q, rfl, hk, rfl, rfl⟩ := hrel
    have hle := cntTo_le s.rights q
    have HK : Hid (q + gk = s.rights.length) := hk
    have hq : q ≤ s.rights.length := by omega
    clear hk
    by_cases hlt : q < s.rights.length
    · go_wp2_with fail
      refine (living_any h ho hm q (by omega) (by omega)).mono ?_
      rintro e w2 ⟨rfl, rfl⟩
      have hsc := cntTo_succ s.rights q
      cases hl : lv s.rights q
      · rw [hl] at hsc
        have HS : Hid (cntTo s.rights (q + 1) = cntTo s.rights q) := by unfold Hid; simpa using hsc
        clear hsc hl
        go_wp2_with fail
        go_roundg (gk - 1)
        case measure => have := HK.out; omega
        case rel => exact ⟨q + 1, by go_num, by have := HK.out; omega, by rw [HS.out], rfl⟩
      · rw [hl] at hsc
        have HS : Hid (cntTo s.rights (q + 1) = cntTo s.rights q + 1) := by unfold Hid; simpa using hsc
        clear hsc hl
        go_wp2_with fail
        go_roundg (gk - 1)
        case measure => have := HK.out; omega
        case rel => exact ⟨q + 1, by go_num, by have := HK.out; omega, by rw [HS.out]; go_num, rfl⟩
    · go_wp2_with fail
      go_ret
      exact ⟨ret_int (by rw [show q = s.rights.length by omega]; rfl), rfl⟩

theorem ownsB_at {rs : List RR} {i : Nat} {r : RR} (hr : rs[i]? = some r) (env fr : Int) (wr : Bool) : ownsB rs env fr wr i = (lv rs i && (r.env == env && (r.fr == fr && (r.wr || !wr)))) := by
  unfold ownsB; rw [hr]

set_option maxHeartbeats 2000000 in
set_option maxRecDepth 100000 in
theorem owned_any (h : RefRep own id w m s nk vR vB vS vA vK bs) (ho : Ordered s.rights) (hm : s.rights.length ≤ 4611686018427387904) (env fr : Int) (wt : Bool) :
    Calls Tryz.prog 124 #[.pointer (some ⟨m, 0, none⟩), .int .i64 env, .int .i64 fr, .bool wt] w fun e w' => e = .returned (.bool (owned s.rights env fr wt)) ∧ Below w.heap.size w w' := by
  obtain ⟨ao, cap, g, hv, _⟩ := h.rR.view
  go_enter Tryz.func124, Tryz.ntmps124
  go_wp2_with fail
  go_loopg [9] s.rights.length (fun k x wr => ∃ q : Nat, x = .int .i64 q ∧ q + k = s.rights.length ∧ (List.range q).any (ownsB s.rights env fr wt) = false ∧ Below w.heap.size w wr)
  case atStart => exact ⟨0, rfl, by omega, rfl, Below.refl _ _⟩
  case round =>
    obtain ⟨q, rfl, hk, hno, hbl⟩ := hrel
    have h' := h.below hbl
    have k3 := h'.blk.cell 3
    simp at k3
    have HK : Hid (q + gk = s.rights.length) := hk
    have HN : Hid ((List.range q).any (ownsB s.rights env fr wt) = false) := hno
    have hq : q ≤ s.rights.length := by omega
    clear hk hno
    by_cases hlt : q < s.rights.length
    · obtain ⟨r, hr⟩ : ∃ r, s.rights[q]? = some r := ⟨s.rights[q], by simp⟩
      obtain ⟨g', cap', hv', _, c0, c1, c2, c3, _, _, _⟩ := h'.right hr
      rw [hv'] at k3
      have hlen : ∀ a, s.rights[q]? = some a → True := fun _ _ => trivial
      have HE : Hid (ownsB s.rights env fr wt q = (lv s.rights q && (r.env == env && (r.fr == fr && (r.wr || !wt))))) := ownsB_at hr env fr wt
      clear hv' hv
      go_wp2_with fail
      refine (living_any h' ho hm q (by omega) (by omega)).mono ?_
      rintro e w2 ⟨rfl, rfl⟩
      have hyes : (lv s.rights q && (r.env == env && (r.fr == fr && (r.wr || !wt)))) = true → owned s.rights env fr wt = true := fun hy => by
        unfold owned
        rw [List.any_eq_true]
        exact ⟨q, List.mem_range.2 hlt, by rw [HE.out]; exact hy⟩
      have hnext : (lv s.rights q && (r.env == env && (r.fr == fr && (r.wr || !wt)))) = false → (List.range (q + 1)).any (ownsB s.rights env fr wt) = false := fun hy => by
        rw [List.range_succ, List.any_append, HN.out]
        simp [HE.out, hy]
      have HY : Hid ((lv s.rights q && (r.env == env && (r.fr == fr && (r.wr || !wt)))) = true → owned s.rights env fr wt = true) := hyes
      have HX : Hid ((lv s.rights q && (r.env == env && (r.fr == fr && (r.wr || !wt)))) = false → (List.range (q + 1)).any (ownsB s.rights env fr wt) = false) := hnext
      clear hyes hnext hr hlen h'
      cases hl : lv s.rights q
      · rw [hl] at HX
        clear HY HE hl
        go_wp2_with fail
        go_roundg (gk - 1)
        case measure => have := HK.out; omega
        case rel => exact ⟨q + 1, by go_num, by have := HK.out; omega, HX.out (by simp), hbl.alloc (by have := hbl.size; omega) _⟩
      · rw [hl] at HX HY
        clear HE hl
        cases he : (r.env == env)
        · rw [he] at HX
          go_wp2_with fail
          go_roundg (gk - 1)
          case measure => have := HK.out; omega
          case rel => exact ⟨q + 1, by go_num, by have := HK.out; omega, HX.out (by simp), hbl.alloc (by have := hbl.size; omega) _⟩
        · cases hf : (r.fr == fr)
          · rw [hf] at HX
            go_wp2_with fail
            go_roundg (gk - 1)
            case measure => have := HK.out; omega
            case rel => exact ⟨q + 1, by go_num, by have := HK.out; omega, HX.out (by simp), hbl.alloc (by have := hbl.size; omega) _⟩
          · rw [he, hf] at HX HY
            cases hw : r.wr
            · rw [hw] at HX HY c3
              cases wt
              · go_wp2_with fail
                go_ret
                exact ⟨ret_bool (HY.out (by simp)).symm, hbl.alloc (by have := hbl.size; omega) _⟩
              · go_wp2_with fail
                go_roundg (gk - 1)
                case measure => have := HK.out; omega
                case rel => exact ⟨q + 1, by go_num, by have := HK.out; omega, HX.out (by simp), hbl.alloc (by have := hbl.size; omega) _⟩
            · rw [hw] at HX HY c3
              go_wp2_with fail
              go_ret
              exact ⟨ret_bool (HY.out (by simp)).symm, hbl.alloc (by have := hbl.size; omega) _⟩
    · obtain rfl : q = s.rights.length := by omega
      rw [hv] at k3
      go_wp2_with fail
      go_ret
      exact ⟨ret_bool (by unfold owned; rw [HN.out]), hbl⟩

set_option maxHeartbeats 1000000 in
set_option maxRecDepth 100000 in
theorem alive_any (h : RefRep own id w m s nk vR vB vS vA vK bs) (ha : s.alive.length = s.ne) (hn : s.ne ≤ 4) (env : Int) :
    Calls Tryz.prog 87 #[.pointer (some ⟨m, 0, none⟩), .int .i64 env] w fun e w' => e = .returned (.bool (aliveB s env)) ∧ w' = w := by
  have k2 := h.blk.cell 2
  have k7 := h.blk.cell 7
  simp at k2 k7
  by_cases h1 : 0 ≤ env
  · by_cases h2 : env < s.ne
    · obtain ⟨j, rfl⟩ := Int.eq_ofNat_of_zero_le h1
      have hj : j < s.alive.length := by omega
      obtain ⟨g, cap, hv, hc, _⟩ := h.rA.form (by omega)
      obtain ⟨b, hb⟩ : ∃ b, s.alive[j]? = some b := ⟨s.alive[j], by simp⟩
      have c0 : w.cell? ⟨g, j, none⟩ = some (.bool b) := by rw [hc _ (by omega), List.getElem?_map, hb]; rfl
      rw [hv] at k7
      have hr : aliveB s j = b := by simp [aliveB, h2, hb]
      rw [hr]
      clear hv hr hb
      have hl : (j : Int) < (s.alive.length : Int) := by omega
      go_enter Tryz.func87, Tryz.ntmps87
      go_wp2_with fail
      go_ret
      exact ⟨rfl, rfl⟩
    · have hr : aliveB s env = false := by simp [aliveB]; omega
      rw [hr]
      go_enter Tryz.func87, Tryz.ntmps87
      go_wp2_with fail
      go_ret
      exact ⟨rfl, rfl⟩
  · have hr : aliveB s env = false := by simp [aliveB]; omega
    rw [hr]
    go_enter Tryz.func87, Tryz.ntmps87
    go_wp2_with fail
    go_ret
    exact ⟨rfl, rfl⟩

theorem aliveB_nat {s : RSt} {env : Int} (h : aliveB s env = true) : ∃ j : Nat, env = j ∧ j < s.ne := by
  simp [aliveB] at h
  exact ⟨env.toNat, by omega, by omega⟩

/-- The pointer of environment j's kept memory, and what it points to. -/
theorem RefRep.keptAt (h : RefRep own id w m s nk vR vB vS vA vK bs) {j : Nat} (hj : j < nk) :
    ∃ g cap v, vK = .slice (some ⟨g, 0, none⟩) nk cap ∧ (∀ q, w.frozen? ⟨g, q, none⟩ = false) ∧ w.cell? ⟨g, j, none⟩ = some v ∧ ((v = .pointer none ∧ keptO s j = none) ∨ ∃ k b, v = .pointer (some ⟨b, 0, none⟩) ∧ keptO s j = some k ∧ KAt own id j w b k) := by
  obtain ⟨ks, hK⟩ := h.rK
  obtain ⟨g, cap, hv, hc, hfz⟩ := hK.row.form (by omega)
  have hl := hK.row.len
  simp at hl
  have hj2 : j < s.kept.length := by rw [hK.len]; exact hj
  have hjk : j < ks.length := by omega
  have c0 : w.cell? ⟨g, j, none⟩ = some (kptr ks[j]) := by rw [hc _ (by omega), List.getElem?_map, List.getElem?_eq_getElem hjk]; rfl
  refine ⟨g, cap, _, hv, hfz, c0, ?_⟩
  cases hx : s.kept[j] with
  | none =>
    have h1 : s.kept[j]? = some none := by rw [List.getElem?_eq_getElem hj2, hx]
    have h2 := hK.no j h1
    rw [List.getElem?_eq_getElem hjk] at h2
    simp only [Option.some.injEq] at h2
    exact .inl ⟨by rw [h2]; rfl, by simp [keptO, h1]⟩
  | some k =>
    have h1 : s.kept[j]? = some (some k) := by rw [List.getElem?_eq_getElem hj2, hx]
    obtain ⟨b, h2, h3⟩ := hK.yes j k h1
    rw [List.getElem?_eq_getElem hjk] at h2
    simp only [Option.some.injEq] at h2
    exact .inr ⟨k, b, by rw [h2]; rfl, by simp [keptO, h1], h3⟩

set_option maxHeartbeats 1000000 in
set_option maxRecDepth 100000 in
theorem raw_any (h : RefRep own id w m s nk vR vB vS vA vK bs) (ha : s.alive.length = s.ne) (hn : s.ne ≤ 4) (hk : nk = s.ne) (env : Int) :
    Calls Tryz.prog 73 #[.pointer (some ⟨m, 0, none⟩), .int .i64 env] w fun e w' => e = .returned (.int .i64 (rawE s env)) ∧ w' = w := by
  have k8 := h.blk.cell 8
  simp at k8
  go_enter Tryz.func73, Tryz.ntmps73
  go_wp2_with fail
  refine (alive_any h ha hn env).mono ?_
  rintro e w2 ⟨rfl, rfl⟩
  cases hal : aliveB s env
  · have HR : Hid (rawE s env = 2) := by simp [Hid, rawE, hal]
    clear hal
    go_wp2_with fail
    go_ret
    exact ⟨ret_int HR.out.symm, rfl⟩
  · obtain ⟨j, rfl, hj⟩ := aliveB_nat hal
    subst hk
    obtain ⟨g, cap, b, hv, -, c0, hb⟩ := h.keptAt (j := j) hj
    rw [hv] at k8
    have hl : (j : Int) < (s.ne : Int) := by omega
    rcases hb with ⟨rfl, hO⟩ | ⟨k, b', rfl, hO, -⟩
    · have HR : Hid (rawE s j = 0) := by simp [Hid, rawE, hal, keptB, hO]
      clear hal hv hO
      go_wp2_with fail
      go_ret
      exact ⟨ret_int HR.out.symm, rfl⟩
    · have HR : Hid (rawE s j = 4) := by simp [Hid, rawE, hal, keptB, hO]
      clear hal hv hO
      go_wp2_with fail
      go_ret
      exact ⟨ret_int HR.out.symm, rfl⟩

set_option maxHeartbeats 1000000 in
set_option maxRecDepth 100000 in
theorem held_any (h : RefRep own id w m s nk vR vB vS vA vK bs) (ha : s.alive.length = s.ne) (hn : s.ne ≤ 4) (hk : nk = s.ne) (env : Int) :
    Calls Tryz.prog 108 #[.pointer (some ⟨m, 0, none⟩), .int .i64 env] w fun e w' => e = .returned (.int .i64 (heldE s env)) ∧ w' = w := by
  have k8 := h.blk.cell 8
  simp at k8
  go_enter Tryz.func108, Tryz.ntmps108
  go_wp2_with fail
  refine (alive_any h ha hn env).mono ?_
  rintro e w2 ⟨rfl, rfl⟩
  cases hal : aliveB s env
  · have HR : Hid (heldE s env = 2) := by simp [Hid, heldE, hal]
    clear hal
    go_wp2_with fail
    go_ret
    exact ⟨ret_int HR.out.symm, rfl⟩
  · obtain ⟨j, rfl, hj⟩ := aliveB_nat hal
    subst hk
    obtain ⟨g, cap, b, hv, -, c0, hb⟩ := h.keptAt (j := j) hj
    rw [hv] at k8
    have hl : (j : Int) < (s.ne : Int) := by omega
    rcases hb with ⟨rfl, hO⟩ | ⟨k, b', rfl, hO, -⟩
    · have HR : Hid (heldE s j = 5) := by simp [Hid, heldE, hal, keptB, hO]
      clear hal hv hO
      go_wp2_with fail
      go_ret
      exact ⟨ret_int HR.out.symm, rfl⟩
    · have HR : Hid (heldE s j = 0) := by simp [Hid, heldE, hal, keptB, hO]
      clear hal hv hO
      go_wp2_with fail
      go_ret
      exact ⟨ret_int HR.out.symm, rfl⟩
end
end Go.Proofs.YtinlkcmdbjcofaaGreat

namespace Go.Proofs.YtinlkcmdbjcofaaGreat
open Go.RowKit
set_option linter.unusedVariables false

section
variable {own : Nat → Nat × Nat} {id : Nat} {w : World} {m : Nat} {s : RSt} {nk : Nat} {vR vB vS vA vK : Value} {bs : List Nat}

theorem ret_int2 {a b c d : Int} (h : a = c) (h' : b = d) : Ending.returned (.tuple #[.int .i64 a, .int .i64 b]) = .returned (.tuple #[.int .i64 c, .int .i64 d]) := by rw [h, h']

set_option maxHeartbeats 2000000 in
set_option maxRecDepth 100000 in
theorem right_any (h : RefRep own id w m s nk vR vB vS vA vK bs) (ha : s.alive.length = s.ne) (hn : s.ne ≤ 4) (hk : nk = s.ne) (ho : Ordered s.rights) (hm : s.rights.length ≤ 4611686018427387904) (env hd : Int)
    (hd0 : -9223372036854775808 ≤ hd) :
    Calls Tryz.prog 78 #[.pointer (some ⟨m, 0, none⟩), .int .i64 env, .int .i64 hd] w fun e w' => e = .returned (.tuple #[.int .i64 (rightE s env hd).1, .int .i64 (rightE s env hd).2]) ∧ w' = w := by
  have k3 := h.blk.cell 3
  simp at k3
  obtain ⟨ao, cap, g0, hv, _⟩ := h.rR.view
  rcases rawE_cases s env with ⟨y, hr, hy⟩ | ⟨hr, hal⟩
  · have hy0 : (y != 0) = true := by rcases hy with rfl | rfl <;> rfl
    have HR : Hid (rightE s env hd = (-1, y)) := by rcases hy with rfl | rfl <;> simp [Hid, rightE, hr]
    clear hy
    go_enter Tryz.func78, Tryz.ntmps78
    go_wp2_with fail
    refine (raw_any h ha hn hk env).mono ?_
    rintro e w2 ⟨rfl, rfl⟩
    rw [hr]
    clear hr
    go_wp2_with fail
    go_ret2
    exact ⟨ret_int2 (by rw [HR.out]) (by rw [HR.out]), rfl⟩
  · by_cases h1 : 1 ≤ hd ∧ hd ≤ s.rights.length
    · obtain ⟨h1, h2⟩ := h1
      obtain ⟨j, rfl⟩ : ∃ j : Nat, hd = (j : Int) + 1 := ⟨(hd - 1).toNat, by omega⟩
      have hj : j < s.rights.length := by omega
      obtain ⟨r, hrr⟩ : ∃ r, s.rights[j]? = some r := ⟨s.rights[j], by simp⟩
      obtain ⟨g, cap', hv', _, _, c1, _⟩ := h.right hrr
      rw [hv'] at k3
      have hc1 : ¬ (j : Int) + 1 < 1 := by omega
      have hc2 : ¬ (s.rights.length : Int) < (j : Int) + 1 := by omega
      have hi1 : (0 : Int) ≤ (j : Int) := by omega
      have hi2 : (j : Int) < (s.rights.length : Int) := by omega
      have hs1 : (j : Int) + 1 - 1 = j := by omega
      by_cases he : r.env = env
      · have he' : (r.env != env) = false := by simp [he]
        cases hl : lv s.rights j
        · have HR : Hid (rightE s env (j + 1) = (-1, 9)) := by
            have h1' : (1 : Int) ≤ (j : Int) + 1 ∧ (j : Int) + 1 ≤ s.rights.length := ⟨h1, h2⟩
            simp only [Hid, rightE, hr, if_pos h1', hs1, Int.toNat_natCast, hrr, he, hl]; simp
          clear hal hv hv' h1 h2 he
          go_enter Tryz.func78, Tryz.ntmps78
          go_wp2_with fail
          refine (raw_any h ha hn hk env).mono ?_
          rintro e w2 ⟨rfl, rfl⟩
          rw [hr]
          clear hr
          go_wp2_with fail
          refine (living_any h ho hm j (by omega) (by omega)).mono ?_
          rintro e w3 ⟨rfl, rfl⟩
          rw [hl]
          clear hl
          go_wp2_with fail
          go_ret2
          exact ⟨ret_int2 (by rw [HR.out]) (by rw [HR.out]), rfl⟩
        · have HR : Hid (rightE s env (j + 1) = ((j : Int), 0)) := by
            have h1' : (1 : Int) ≤ (j : Int) + 1 ∧ (j : Int) + 1 ≤ s.rights.length := ⟨h1, h2⟩
            simp only [Hid, rightE, hr, if_pos h1', hs1, Int.toNat_natCast, hrr, he, hl]; simp
          clear hal hv hv' h1 h2 he
          go_enter Tryz.func78, Tryz.ntmps78
          go_wp2_with fail
          refine (raw_any h ha hn hk env).mono ?_
          rintro e w2 ⟨rfl, rfl⟩
          rw [hr]
          clear hr
          go_wp2_with fail
          refine (living_any h ho hm j (by omega) (by omega)).mono ?_
          rintro e w3 ⟨rfl, rfl⟩
          rw [hl]
          clear hl
          go_wp2_with fail
          go_ret2
          exact ⟨ret_int2 (by rw [HR.out]) (by rw [HR.out]), rfl⟩
      · have he' : (r.env != env) = true := by simp [he]
        have HR : Hid (rightE s env (j + 1) = (-1, 9)) := by
          have h1' : (1 : Int) ≤ (j : Int) + 1 ∧ (j : Int) + 1 ≤ s.rights.length := ⟨h1, h2⟩
          simp only [Hid, rightE, hr, if_pos h1', hs1, Int.toNat_natCast, hrr]; simp [he]
        clear hal hv hv' h1 h2 he
        go_enter Tryz.func78, Tryz.ntmps78
        go_wp2_with fail
        refine (raw_any h ha hn hk env).mono ?_
        rintro e w2 ⟨rfl, rfl⟩
        rw [hr]
        clear hr
        go_wp2_with fail
        go_ret2
        exact ⟨ret_int2 (by rw [HR.out]) (by rw [HR.out]), rfl⟩
    · have HR : Hid (rightE s env hd = (-1, 9)) := by simp only [Hid, rightE, hr, if_neg h1]; simp
      rw [hv] at k3
      by_cases h2 : hd < 1
      · clear hal hv h1
        go_enter Tryz.func78, Tryz.ntmps78
        go_wp2_with fail
        refine (raw_any h ha hn hk env).mono ?_
        rintro e w2 ⟨rfl, rfl⟩
        rw [hr]
        clear hr
        go_wp2_with fail
        go_ret2
        exact ⟨ret_int2 (by rw [HR.out]) (by rw [HR.out]), rfl⟩
      · have h3 : (s.rights.length : Int) < hd := by omega
        clear hal hv h1
        go_enter Tryz.func78, Tryz.ntmps78
        go_wp2_with fail
        refine (raw_any h ha hn hk env).mono ?_
        rintro e w2 ⟨rfl, rfl⟩
        rw [hr]
        clear hr
        go_wp2_with fail
        go_ret2
        exact ⟨ret_int2 (by rw [HR.out]) (by rw [HR.out]), rfl⟩
end
end Go.Proofs.YtinlkcmdbjcofaaGreat

namespace Go.Proofs.YtinlkcmdbjcofaaGreat
open Go.RowKit
set_option linter.unusedVariables false

section
variable {own : Nat → Nat × Nat} {id : Nat} {w : World} {m : Nat} {s : RSt} {nk : Nat} {vR vB vS vA vK : Value} {bs : List Nat}

def usedTo (s : RSt) (f e : Nat) : Bool := (List.range e).any fun e => owned s.rights e f false
theorem usedTo_succ (s : RSt) (f e : Nat) : usedTo s f (e + 1) = (usedTo s f e || owned s.rights e f false) := by simp [usedTo, List.range_succ]

/-- The least free frame as 'free' answers it. -/
def freeE (s : RSt) : Int := match leastFree s with
  | some f => f
  | none => -1

theorem leastFree_some {s : RSt} {f : Nat} (hlt : f < s.nf) (hno : ∀ g, g < f → freeB s g = false) (hy : freeB s f = true) : leastFree s = some f := by
  unfold leastFree
  rw [List.find?_range_eq_some]
  exact ⟨hy, List.mem_range.2 hlt, fun j hj => by simpa using hno j hj⟩
theorem leastFree_none {s : RSt} (hno : ∀ g, g < s.nf → freeB s g = false) : leastFree s = none := by
  unfold leastFree
  rw [List.find?_eq_none]
  intro x hx
  simp [hno x (List.mem_range.1 hx)]

set_option maxHeartbeats 2000000 in
set_option maxRecDepth 100000 in
theorem free_any (h : RefRep own id w m s nk vR vB vS vA vK bs) (hn : s.ne ≤ 4) (hf : s.nf ≤ 16) (ho : Ordered s.rights) (hm : s.rights.length ≤ 4611686018427387904) :
    Calls Tryz.prog 120 #[.pointer (some ⟨m, 0, none⟩)] w fun e w' => e = .returned (.int .i64 (freeE s)) ∧ Below w.heap.size w w' := by
  go_enter Tryz.func120, Tryz.ntmps120
  go_wp2_with fail
  go_loopg [3] s.nf (fun k x wr => ∃ f : Nat, x = .int .i64 f ∧ f + k = s.nf ∧ (∀ g, g < f → freeB s g = false) ∧ Below w.heap.size w wr)
  case atStart => exact ⟨0, rfl, by omega, fun g hg => by omega, Below.refl _ _⟩
  case round =>
    obtain ⟨f, rfl, hk, hno, hbl⟩ := hrel
    have k0 := (h.below hbl).blk.cell 0
    simp at k0
    have HK : Hid (f + gk = s.nf) := hk
    have hfl : f ≤ s.nf := by omega
    have HN : Hid (∀ g, g < f → freeB s g = false) := hno
    clear hk hno
    by_cases hlt : f < s.nf
    · go_wp2_with fail
      obtain ⟨wo, rfl⟩ : ∃ wo : World, wo = wr := ⟨_, rfl⟩
      obtain ⟨go, rfl⟩ : ∃ go : Nat, go = gk := ⟨_, rfl⟩
      go_loopg [4, 5] s.ne (fun k u x wr => ∃ e : Nat, x = .int .i64 e ∧ e + k = s.ne ∧ u = .bool (usedTo s f e) ∧ Below w.heap.size w wr)
      case atStart => exact ⟨0, rfl, by omega, rfl, hbl⟩
      case round =>
        clear hbl k0
        obtain ⟨e, rfl, hk, rfl, hbl⟩ := hrel
        have h' := h.below hbl
        have k2 := h'.blk.cell 2
        simp at k2
        have HE : Hid (e + gk = s.ne) := hk
        have hel : e ≤ s.ne := by omega
        have hsu := usedTo_succ s f e
        have HU : Hid (usedTo s f (e + 1) = (usedTo s f e || owned s.rights e f false)) := hsu
        clear hk hsu
        by_cases hlt2 : e < s.ne
        · go_wp2_with fail
          refine (owned_any h' ho hm _ _ _).mono ?_
          rintro en w2 ⟨rfl, hb2⟩
          have hbl2 : Below w.heap.size w w2 := hbl.trans (hb2.mono (by have := hbl.size; omega))
          cases hu : usedTo s f e
          · rw [hu] at HU
            clear hu
            go_wp2_with fail
            go_roundg (gk - 1)
            case measure => have := HE.out; omega
            case rel => exact ⟨e + 1, by go_num, by have := HE.out; omega, by rw [HU.out]; simp, hbl2⟩
          · rw [hu] at HU
            clear hu
            go_wp2_with fail
            go_roundg (gk - 1)
            case measure => have := HE.out; omega
            case rel => exact ⟨e + 1, by go_num, by have := HE.out; omega, by rw [HU.out]; simp, hbl2⟩
        · obtain rfl : e = s.ne := by omega
          have hfb : freeB s f = !usedTo s f s.ne := rfl
          cases hu : usedTo s f s.ne
          · rw [hu] at hfb
            have HF : Hid (leastFree s = some f) := leastFree_some hlt HN.out hfb
            clear hu hfb
            go_wp2_with fail
            go_ret
            exact ⟨ret_int (by rw [freeE, HF.out]), hbl⟩
          · rw [hu] at hfb
            have HF : Hid (freeB s f = false) := hfb
            clear hu hfb
            go_wp2_with fail
            go_roundg (go - 1)
            case measure => have := HK.out; omega
            case rel => exact ⟨f + 1, by go_num, by have := HK.out; omega, fun g hg => by
              rcases Nat.lt_or_ge g f with hgf | hgf
              · exact HN.out g hgf
              · obtain rfl : g = f := by omega
                exact HF.out, hbl⟩
    · obtain rfl : f = s.nf := by omega
      go_wp2_with fail
      go_ret
      exact ⟨ret_int (by rw [freeE, leastFree_none HN.out]), hbl⟩

theorem Tryz.infoRight : (Tryz.prog.info? 116).map (fun i => (i.zero, i.size, i.bytes)) = some (some (.agg #[.int .i64 0, .int .i64 0, .int .i64 0, .bool false, .int .i64 0, .bool false]), 6, 48) := by kernel_rfl

theorem oneCell_right (r : RR) : ∀ u ∈ r.cells, u.oneCell' = true := by
  intro u hu; simp [RR.cells] at hu; rcases hu with rfl | rfl | rfl | rfl | rfl | rfl <;> rfl

theorem RefRep.appR {w1 : World} {g cap : Nat} (h : RefRep own id w m s nk vR vB vS vA vK bs) (x : RR)
    (hown : w1.ownsRow 0 116 6 (.slice (some ⟨g, 0, none⟩) (s.rights.length + 1) cap) (s.rights.length + 1) (s.rights.flatMap RR.cells ++ x.cells))
    (hg : (w.alloc (.cells x.cells.toArray 116)).grownBy w1 vR.ownBlock) (hat : vR.ownBlock = some g ∨ g = w.heap.size + 1) :
    RefRep (set1 own (w.heap.size + 1) (id, 1)) id (w1.setCell ⟨m, 3, none⟩ (.slice (some ⟨g, 0, none⟩) (s.rights.length + 1) cap)) m { s with rights := s.rights ++ [x] } nk (.slice (some ⟨g, 0, none⟩) (s.rights.length + 1) cap) vB vS vA vK bs := by
  have hbe : Below w.heap.size w (w.alloc (.cells x.cells.toArray 116)) := (Below.refl _ _).alloc (Nat.le_refl _) _
  have hmlt := h.blk.lt
  have hm1 := (h.blk.alloc (.cells x.cells.toArray 116)).grown hg (fun e => by have := h.tR _ e; rw [h.tm] at this; simp at this)
  refine h.putR (set1_old (by omega)) (app_keep (a := ⟨m, 3, none⟩) h.tm h.tR hbe hg rfl) (hm1.set 3 _) ?_ (h.tR.app (fun b hb => by have := h.rR.lt b hb; omega) hat)
  have := Row.field (j := 3) (u := .slice (some ⟨g, 0, none⟩) (s.rights.length + 1) cap) hown h.tm h.tR (by simp) hat (by omega)
  simpa using this

/-- What a call on a machine may leave: the machine with a new state, its own blocks alone turned. -/
def RefNext (own : Nat → Nat × Nat) (id : Nat) (w : World) (m : Nat) (nk : Nat) (w' : World) (s' : RSt) : Prop :=
  ∃ (own' : Nat → Nat × Nat) (vR vB vS vA vK : Value) (bs : List Nat), RefRep own' id w' m s' nk vR vB vS vA vK bs ∧ (∀ b, b < w.heap.size → own' b = own b) ∧ Touch w.heap.size (fun b => (own b).1 = id) w w'

theorem RefNext.refl (h : RefRep own id w m s nk vR vB vS vA vK bs) : RefNext own id w m nk w s := ⟨own, vR, vB, vS, vA, vK, bs, h, fun _ _ => rfl, Touch.refl _ _ _⟩
theorem RefNext.of_below {w' : World} (h : RefRep own id w m s nk vR vB vS vA vK bs) (hb : Below w.heap.size w w') : RefNext own id w m nk w' s := ⟨own, vR, vB, vS, vA, vK, bs, h.below hb, fun _ _ => rfl, Touch.of_below hb _⟩
theorem Touch.next {own own' : Nat → Nat × Nat} {id : Nat} {w w1 w2 : World} (h1 : Touch w.heap.size (fun b => (own b).1 = id) w w1) (ho : ∀ b, b < w.heap.size → own' b = own b) (h2 : Touch w1.heap.size (fun b => (own' b).1 = id) w1 w2) :
    Touch w.heap.size (fun b => (own b).1 = id) w w2 :=
  h1.trans (h2.mono h1.size (fun k hk hs => by rw [ho k hk] at hs; exact hs))

/-- The same of a call that makes a right at the most: the table, who is alive and who is kept stand. -/
def RefNextF (own : Nat → Nat × Nat) (id : Nat) (w : World) (m : Nat) (nk : Nat) (vS vA vK : Value) (w' : World) (s' : RSt) : Prop :=
  ∃ (own' : Nat → Nat × Nat) (vR vB : Value) (bs : List Nat), RefRep own' id w' m s' nk vR vB vS vA vK bs ∧ (∀ b, b < w.heap.size → own' b = own b) ∧ Touch w.heap.size (fun b => own b = (id, 0) ∨ own b = (id, 1) ∨ own b = (id, 2)) w w'
theorem RefNextF.next {w' : World} {s' : RSt} (h : RefNextF own id w m nk vS vA vK w' s') : RefNext own id w m nk w' s' := by
  obtain ⟨own', vR', vB', bs', h1, h2, h3⟩ := h
  exact ⟨own', vR', vB', vS, vA, vK, bs', h1, h2, h3.mono (Nat.le_refl _) (fun x _ e => by rcases e with e | e | e <;> rw [e])⟩
theorem RefNextF.of_below {w' : World} (h : RefRep own id w m s nk vR vB vS vA vK bs) (hb : Below w.heap.size w w') : RefNextF own id w m nk vS vA vK w' s := ⟨own, vR, vB, bs, h.below hb, fun _ _ => rfl, Touch.of_below hb _⟩

set_option maxHeartbeats 2000000 in
set_option maxRecDepth 100000 in
theorem made_at (h : RefRep own id w m s nk vR vB vS vA vK bs) (hm : (s.rights.length + 1) * 48 ≤ 140737488355328) (env fr : Int) (wt : Bool) (frm : Int) :
    Calls Tryz.prog 80 #[.pointer (some ⟨m, 0, none⟩), .int .i64 env, .int .i64 fr, .bool wt, .int .i64 frm] w fun e w' => e = .returned (.int .i64 (s.rights.length + 1)) ∧ RefNextF own id w m nk vS vA vK w' (addR s env fr wt frm) := by
  obtain ⟨i0, hi, hz0, hz1, hz2⟩ := info_parts Tryz.infoRight
  have k3 := h.blk.cell 3
  have f3 := h.blk.frozen 3
  simp at k3
  obtain ⟨ao, cap, g0, hv, _⟩ := h.rR.view
  have hR' := h.rR.alloc (.cells (RR.cells ⟨s.rights.length + 1, env, fr, wt, frm, false⟩).toArray 116)
  rw [hv] at k3 hR'
  have hmlt := h.blk.lt
  have Hv : Hid (vR = .slice ao s.rights.length cap) := hv
  clear hv
  go_enter Tryz.func80, Tryz.ntmps80
  go_wp2_with (at_builtin; refine wpList_append_lies _ rfl (.tmp 22) (.tmp 30) 67 rfl 0 116 i0 _ 6 48 Tryz.underlying67 hi hz0 hz1 hz2 rfl (by decide) (.slice ao s.rights.length cap) s.rights.length _ rfl hR' ⟨w.heap.size, 0, none⟩ 1 1 (RR.cells ⟨s.rights.length + 1, env, fr, wt, frm, false⟩) rfl rfl ?c1 ?c2 (by omega) ?b1 ?b2 (by omega) (w.heap.size + 1) (by simp) ?nx)
  case c1 => exact World.news_of_block (B := w.heap.size) (cs := (RR.cells ⟨s.rights.length + 1, env, fr, wt, frm, false⟩).toArray) (t := 116) (fr := (0, 0)) (Blk.new _ _ _)
  case c2 => exact oneCell_right _
  case b1 => unfold maxLen; omega
  case b2 => omega
  case nx =>
    intro g1 cap1 w1 hown hgrow hat hlt1
    rw [← Hv.out] at hgrow hat
    have hbe : Below w.heap.size w (w.alloc (.cells (RR.cells ⟨s.rights.length + 1, env, fr, wt, frm, false⟩).toArray 116)) := (Below.refl _ _).alloc (Nat.le_refl _) _
    have hm1 := (h.blk.alloc (.cells (RR.cells ⟨s.rights.length + 1, env, fr, wt, frm, false⟩).toArray 116)).grown hgrow (fun e => by have := h.tR _ e; rw [h.tm] at this; simp at this)
    have d3 := hm1.cell 3
    have e3 := hm1.frozen 3
    simp at d3
    rw [Hv.out] at d3
    go_wp2
    go_ret
    refine ⟨rfl, set1 own (w.heap.size + 1) (id, 1), _, vB, bs, h.appR ⟨s.rights.length + 1, env, fr, wt, frm, false⟩ hown hgrow hat, set1_old (by omega), ?_⟩
    exact ((Touch.of_below hbe _).grown hgrow (by simp) (fun k hk => .inl (.inr (.inl (h.tR k hk))))).setCell (.inl (.inl h.tm)) _
theorem made_any (h : RefRep own id w m s nk vR vB vS vA vK bs) (hm : (s.rights.length + 1) * 48 ≤ 140737488355328) (env fr : Int) (wt : Bool) (frm : Int) :
    Calls Tryz.prog 80 #[.pointer (some ⟨m, 0, none⟩), .int .i64 env, .int .i64 fr, .bool wt, .int .i64 frm] w fun e w' => e = .returned (.int .i64 (s.rights.length + 1)) ∧ RefNext own id w m nk w' (addR s env fr wt frm) := by
  refine (made_at h hm env fr wt frm).mono ?_
  rintro e w' ⟨rfl, hn⟩
  exact ⟨rfl, hn.next⟩
end
end Go.Proofs.YtinlkcmdbjcofaaGreat

namespace Go.Proofs.YtinlkcmdbjcofaaGreat
open Go.RowKit
set_option linter.unusedVariables false

theorem flat_at {α : Type} (f : α → List Value) (k : Nat) (hk : 0 < k) (hf : ∀ x, (f x).length = k) (xs : List α) (p : Nat) : (xs.flatMap f)[p]? = (xs[p / k]?).bind fun x => (f x)[p % k]? := by
  cases hx : xs[p / k]? with
  | none =>
    have h1 : xs.length ≤ p / k := List.getElem?_eq_none_iff.1 hx
    have h2 : xs.length * k ≤ p := Nat.le_trans (Nat.mul_le_mul_right k h1) (Nat.div_mul_le_self p k)
    rw [List.getElem?_eq_none (by rw [flat_length f k hf]; exact h2)]; rfl
  | some x =>
    have h3 : p = p / k * k + p % k := by rw [Nat.mul_comm]; exact (Nat.div_add_mod p k).symm
    show _ = (f x)[p % k]?
    conv => lhs; rw [h3]
    exact flat_get f k hf xs _ _ x hx (Nat.mod_lt _ hk)

section
variable {own : Nat → Nat × Nat} {id : Nat} {w : World} {m : Nat} {s : RSt} {nk : Nat} {vR vB vS vA vK : Value} {bs : List Nat}

theorem RefRep.bsLen (h : RefRep own id w m s nk vR vB vS vA vK bs) : bs.length = s.bytes.length := by have := h.rB.len; simpa using this

/-- A frame's bytes are laid anew. -/
theorem RefRep.setB {g cap : Nat} (h : RefRep own id w m s nk vR vB vS vA vK bs) (hv : vB = .slice (some ⟨g, 0, none⟩) s.bytes.length cap) (f : Nat) (hf : f < s.bytes.length) (l : List Int) (hl : l.length = 4) :
    RefRep (set1 own w.heap.size (id, 6 + 2 * f)) id ((w.alloc (.cells (l.map (.int .i64)).toArray 3)).setCell ⟨g, f, none⟩ (sl4 w.heap.size)) m { s with bytes := s.bytes.set f l } nk vR vB vS vA vK (bs.set f w.heap.size) := by
  have hg : own g = (id, 2) := h.tB g (by rw [hv]; rfl)
  have hglt : g < w.heap.size := h.rB.lt g (by rw [hv]; rfl)
  have hW : ∀ b, b < w.heap.size → own b ≠ (id, 2) → ((w.alloc (.cells (l.map (.int .i64)).toArray 3)).setCell ⟨g, f, none⟩ (sl4 w.heap.size)).heap[b]? = w.heap[b]? := by
    intro b hb h2
    rw [Below.heap_setCell _ _ _ _ (fun e => h2 (by simp at e; rw [e]; exact hg)), Below.heap_alloc _ _ _ hb]
  have hW' : ∀ b, b < w.heap.size → own b ≠ (id, 0) → own b ≠ (id, 2) → ((w.alloc (.cells (l.map (.int .i64)).toArray 3)).setCell ⟨g, f, none⟩ (sl4 w.heap.size)).heap[b]? = w.heap[b]? := fun b hb _ h2 => hW b hb h2
  refine h.putB (set1_old (Nat.le_refl _)) hW' (h.blk.of (hW m h.blk.lt (by rw [h.tm]; simp))) ?_ (h.tB.congr h.rB (set1_old (Nat.le_refl _))) ?_
  · have h1 := h.rB.alloc (.cells (l.map (.int .i64)).toArray 3)
    rw [hv] at h1 ⊢
    have h2 := h1.set f (sl4 w.heap.size)
    rw [List.length_set, List.map_set]
    exact h2
  · intro i l' hl'
    by_cases e : i = f
    · subst e
      rw [List.getElem?_set_self hf] at hl'
      simp at hl'
      subst hl'
      refine ⟨w.heap.size, by rw [List.getElem?_set_self (by rw [h.bsLen]; exact hf)], hl, ?_, set1_at _ _ _⟩
      exact (Blk.new w _ _).of (Below.heap_setCell _ _ _ _ (by simp; omega))
    · rw [List.getElem?_set_ne (fun e' => e e'.symm)] at hl'
      obtain ⟨b, h1, h2, h3, h4⟩ := h.rI i l' hl'
      refine ⟨b, by rw [List.getElem?_set_ne (fun e' => e e'.symm)]; exact h1, h2, h3.of (hW b h3.lt (by rw [h4]; simp; omega)), ?_⟩
      rw [set1_old (Nat.le_refl _) b h3.lt]; exact h4

/-- 'first': a first right of env, if one can be made. -/
def firstS (s : RSt) (env : Int) : Option RSt := match leastFree s with
  | some f => if cnt s.rights < 32 then some (addR { s with bytes := s.bytes.set f [0, 0, 0, 0] } env f true (-1)) else none
  | none => none

theorem leastFree_lt {s : RSt} {f : Nat} (h : leastFree s = some f) : f < s.nf := by
  have := List.mem_of_find?_eq_some h
  simpa using this

set_option maxHeartbeats 2000000 in
set_option maxRecDepth 100000 in
theorem first_at (h : RefRep own id w m s nk vR vB vS vA vK bs) (hn : s.ne ≤ 4) (hf : s.nf ≤ 16) (hby : s.bytes.length = s.nf) (ho : Ordered s.rights) (hm : (s.rights.length + 1) * 48 ≤ 140737488355328) (env : Int) :
    Calls Tryz.prog 74 #[.pointer (some ⟨m, 0, none⟩), .int .i64 env] w fun e w' =>
      (firstS s env = none ∧ e = .returned (.int .i64 0) ∧ RefNextF own id w m nk vS vA vK w' s) ∨ ∃ s', firstS s env = some s' ∧ e = .returned (.int .i64 (s.rights.length + 1)) ∧ RefNextF own id w m nk vS vA vK w' s' := by
  cases hlf : leastFree s with
  | none =>
    have HF : Hid (freeE s = -1) := by unfold Hid freeE; rw [hlf]
    have HS : Hid (firstS s env = none) := by unfold Hid firstS; rw [hlf]
    clear hlf
    go_enter Tryz.func74, Tryz.ntmps74
    go_wp2_with fail
    refine (free_any h hn hf ho (by omega)).mono ?_
    rintro e w2 ⟨rfl, hb2⟩
    rw [HF.out]
    go_wp2_with fail
    refine (count_any (h.below hb2) ho (by omega)).mono ?_
    rintro e w3 ⟨rfl, rfl⟩
    go_wp2_with fail
    go_ret
    exact .inl ⟨HS.out, rfl, RefNextF.of_below h hb2⟩
  | some f =>
    have hflt := leastFree_lt hlf
    have HF : Hid (freeE s = f) := by unfold Hid freeE; rw [hlf]
    by_cases hc : cnt s.rights < 32
    · have HS : Hid (firstS s env = some (addR { s with bytes := s.bytes.set f [0, 0, 0, 0] } env f true (-1))) := by unfold Hid firstS; rw [hlf]; simp [hc]
      clear hlf
      have hnf : ¬ (f : Int) < 0 := by omega
      have hnc : ¬ (32 : Int) ≤ (cnt s.rights : Int) := by omega
      go_enter Tryz.func74, Tryz.ntmps74
      go_wp2_with fail
      refine (free_any h hn hf ho (by omega)).mono ?_
      rintro e w2 ⟨rfl, hb2⟩
      rw [HF.out]
      have h2 := h.below hb2
      go_wp2_with fail
      refine (count_any h2 ho (by omega)).mono ?_
      rintro e w3 ⟨rfl, rfl⟩
      obtain ⟨g, cap, hv, hcell, hfz⟩ := h2.rB.form (by omega)
      have k4 := h2.blk.cell 4
      simp at k4
      rw [hv] at k4
      obtain ⟨b, hb⟩ : ∃ b, bs[f]? = some b := ⟨bs[f]'(by rw [h2.bsLen]; omega), by simp⟩
      have c0 : w3.cell? ⟨g, f, none⟩ = some (.slice (some ⟨b, 0, none⟩) 4 4) := by rw [hcell _ (by omega), List.getElem?_map, hb]; rfl
      have z0 := hfz f
      have hl : (f : Int) < (s.bytes.length : Int) := by omega
      have hglt : g < w3.heap.size := h2.rB.lt g (by rw [hv]; rfl)
      have hst := h2.setB hv f (by omega) [0, 0, 0, 0] rfl
      rw [World.setCell_alloc_past _ _ _ _ hglt] at hst
      have hgt : own g = (id, 2) := h2.tB g (by rw [hv]; rfl)
      clear hcell hfz hb hv hc
      go_wp2_with fail
      refine (made_at hst (by exact hm) env f true (-1)).mono ?_
      rintro e w4 ⟨rfl, hnx⟩
      go_wp2_with fail
      go_ret
      refine .inr ⟨_, HS.out, rfl, ?_⟩
      obtain ⟨own', vR', vB', bs', hr', ho', ht'⟩ := hnx
      have hsz := hb2.size
      have hs0 : w3.heap.size ≤ ((w3.setCell ⟨g, f, none⟩ (sl4 w3.heap.size)).alloc (.cells (List.map (Value.int .i64) [0, 0, 0, 0]).toArray 3)).heap.size := by simp
      refine ⟨own', vR', vB', bs', hr', fun x hx => ?_, ?_⟩
      · rw [ho' x (by omega), set1_old (Nat.le_refl _) x (by omega)]
      · refine (((Touch.of_below hb2 _).setCell (.inl (.inr (.inr hgt))) _).alloc (by simpa using hsz) _).trans (ht'.mono (by omega) (fun k hk hs => ?_))
        rw [set1_old (n := w3.heap.size) (Nat.le_refl _) k (by omega)] at hs
        exact hs
    · have HS : Hid (firstS s env = none) := by unfold Hid firstS; rw [hlf]; simp [hc]
      clear hlf
      have hnf : ¬ (f : Int) < 0 := by omega
      have hnc : (32 : Int) ≤ (cnt s.rights : Int) := by omega
      go_enter Tryz.func74, Tryz.ntmps74
      go_wp2_with fail
      refine (free_any h hn hf ho (by omega)).mono ?_
      rintro e w2 ⟨rfl, hb2⟩
      rw [HF.out]
      go_wp2_with fail
      refine (count_any (h.below hb2) ho (by omega)).mono ?_
      rintro e w3 ⟨rfl, rfl⟩
      clear hc
      go_wp2_with fail
      go_ret
      exact .inl ⟨HS.out, rfl, RefNextF.of_below h hb2⟩
theorem first_any (h : RefRep own id w m s nk vR vB vS vA vK bs) (hn : s.ne ≤ 4) (hf : s.nf ≤ 16) (hby : s.bytes.length = s.nf) (ho : Ordered s.rights) (hm : (s.rights.length + 1) * 48 ≤ 140737488355328) (env : Int) :
    Calls Tryz.prog 74 #[.pointer (some ⟨m, 0, none⟩), .int .i64 env] w fun e w' =>
      (firstS s env = none ∧ e = .returned (.int .i64 0) ∧ RefNext own id w m nk w' s) ∨ ∃ s', firstS s env = some s' ∧ e = .returned (.int .i64 (s.rights.length + 1)) ∧ RefNext own id w m nk w' s' := by
  refine (first_at h hn hf hby ho hm env).mono ?_
  rintro e w' (⟨h1, h2, h3⟩ | ⟨s', h1, h2, h3⟩)
  · exact .inl ⟨h1, h2, h3.next⟩
  · exact .inr ⟨s', h1, h2, h3.next⟩
end
end Go.Proofs.YtinlkcmdbjcofaaGreat
