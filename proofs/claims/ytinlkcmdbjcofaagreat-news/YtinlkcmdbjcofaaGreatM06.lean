import Derived.Test.YtinlkcmdbjcofaaGreatM05
/-
  A kept memory is turned: its fields and rows.
-/
namespace Go.Proofs.YtinlkcmdbjcofaaGreat
open Go.RowKit
set_option linter.unusedVariables false

section
variable {own own' : Nat → Nat × Nat} {id i : Nat} {w W : World} {b : Nat} {k : KSt} {vB vU vI vY vC vD vO : Value}

theorem kt_ne {i j t : Nat} (h : j ≠ t) : kt i j ≠ kt i t := by unfold kt; omega
/-- Only the block with the mark j has turned: the rows with other marks stand. -/
theorem Row.mark {v : Value} {e c n j t : Nat} {xs : List Value} (h : Row w v e c n xs) (ht : Tg own v (id, kt i t)) (hW : ∀ x, x < w.heap.size → own x ≠ (id, kt i j) → W.heap[x]? = w.heap[x]?) (hne : t ≠ j) : Row W v e c n xs :=
  h.kept ht (fun x hx e => hW x hx (by rw [e]; intro e2; simp only [Prod.mk.injEq, true_and] at e2; exact kt_ne hne e2))

/-- A cell of the struct is written. -/
theorem KRep.field (h : KRep own id i w b k vB vU vI vY vC vD vO) (c : Nat) (v : Value) : ∀ x, x < w.heap.size → own x ≠ (id, kt i 0) → (w.setCell ⟨b, c, none⟩ v).heap[x]? = w.heap[x]? :=
  fun x hx hn => Below.heap_setCell _ _ _ _ (fun e => hn (by simp at e; rw [e]; exact h.tm))
theorem KRep.putN (h : KRep own id i w b k vB vU vI vY vC vD vO) {k' : KSt} {c : Nat} {v : Value} (hc : (k.cells vB vU vI vY vC vD vO).set c v = k'.cells vB vU vI vY vC vD vO)
    (e1 : k'.bytes = k.bytes) (e2 : k'.uses = k.uses) (e3 : k'.inp = k.inp) (e4 : k'.hnd = k.hnd) (e5 : k'.chg = k.chg) (e6 : k'.dty = k.dty) (e7 : k'.out = k.out) : KRep own id i (w.setCell ⟨b, c, none⟩ v) b k' vB vU vI vY vC vD vO := by
  have hW := h.field c v
  refine ⟨by rw [← hc]; exact h.blk.set c v, by rw [e1]; exact h.rB.mark h.tB hW (by omega), by rw [e2]; exact h.rU.mark h.tU hW (by omega), by rw [e3]; exact h.rI.mark h.tI hW (by omega), by rw [e4]; exact h.rY.mark h.tY hW (by omega),
    by rw [e5]; exact h.rC.mark h.tC hW (by omega), by rw [e6]; exact h.rD.mark h.tD hW (by omega), by rw [e7]; exact h.rO.mark h.tO hW (by omega), h.tm, h.tB, h.tU, h.tI, h.tY, h.tC, h.tD, h.tO⟩
theorem KRep.setOuts (h : KRep own id i w b k vB vU vI vY vC vD vO) (n : Int) : KRep own id i (w.setCell ⟨b, 11, none⟩ (.int .i64 n)) b { k with outs := n } vB vU vI vY vC vD vO := h.putN rfl rfl rfl rfl rfl rfl rfl rfl
theorem KRep.setIns (h : KRep own id i w b k vB vU vI vY vC vD vO) (n : Int) : KRep own id i (w.setCell ⟨b, 10, none⟩ (.int .i64 n)) b { k with ins := n } vB vU vI vY vC vD vO := h.putN rfl rfl rfl rfl rfl rfl rfl rfl
theorem KRep.setRefills (h : KRep own id i w b k vB vU vI vY vC vD vO) (n : Int) : KRep own id i (w.setCell ⟨b, 9, none⟩ (.int .i64 n)) b { k with refills := n } vB vU vI vY vC vD vO := h.putN rfl rfl rfl rfl rfl rfl rfl rfl
theorem KRep.setQuota (h : KRep own id i w b k vB vU vI vY vC vD vO) (n : Int) : KRep own id i (w.setCell ⟨b, 0, none⟩ (.int .i64 n)) b { k with quota := n } vB vU vI vY vC vD vO := h.putN rfl rfl rfl rfl rfl rfl rfl rfl

/-- A cell of a row is written. -/
theorem KRep.rowW {v : Value} {g n cap t j : Nat} (hv : v = .slice (some ⟨g, 0, none⟩) n cap) (ht : Tg own v (id, kt i t)) (u : Value) : ∀ x, x < w.heap.size → own x ≠ (id, kt i t) → (w.setCell ⟨g, j, none⟩ u).heap[x]? = w.heap[x]? :=
  fun x hx hn => Below.heap_setCell _ _ _ _ (fun e => hn (by simp at e; rw [e]; exact ht g (by rw [hv]; rfl)))
theorem Blk.mark {t : Nat} (h : KRep own id i w b k vB vU vI vY vC vD vO) (hW : ∀ x, x < w.heap.size → own x ≠ (id, kt i t) → W.heap[x]? = w.heap[x]?) (hne : t ≠ 0) : Blk W b (k.cells vB vU vI vY vC vD vO) 133 :=
  h.blk.of (hW b h.blk.lt (by rw [h.tm]; intro e2; simp only [Prod.mk.injEq, true_and] at e2; exact kt_ne (Ne.symm hne) e2))
theorem KRep.setChg {g cap : Nat} (h : KRep own id i w b k vB vU vI vY vC vD vO) (hv : vC = .slice (some ⟨g, 0, none⟩) k.chg.length cap) (p : Nat) (v : Bool) : KRep own id i (w.setCell ⟨g, p, none⟩ (.bool v)) b { k with chg := k.chg.set p v } vB vU vI vY vC vD vO := by
  have hW := KRep.rowW (w := w) (j := p) hv h.tC (.bool v)
  have hb0 := Blk.mark h hW (by omega)
  refine ⟨hb0, h.rB.mark h.tB hW (by omega), h.rU.mark h.tU hW (by omega), h.rI.mark h.tI hW (by omega), h.rY.mark h.tY hW (by omega), ?_, h.rD.mark h.tD hW (by omega), h.rO.mark h.tO hW (by omega), h.tm, h.tB, h.tU, h.tI, h.tY, h.tC, h.tD, h.tO⟩
  have h1 := h.rC
  rw [hv] at h1 ⊢
  rw [List.length_set, List.map_set]
  exact h1.set _ _
theorem KRep.setDty {g cap : Nat} (h : KRep own id i w b k vB vU vI vY vC vD vO) (hv : vD = .slice (some ⟨g, 0, none⟩) k.dty.length cap) (p : Nat) (v : Bool) : KRep own id i (w.setCell ⟨g, p, none⟩ (.bool v)) b { k with dty := k.dty.set p v } vB vU vI vY vC vD vO := by
  have hW := KRep.rowW (w := w) (j := p) hv h.tD (.bool v)
  have hb0 := Blk.mark h hW (by omega)
  refine ⟨hb0, h.rB.mark h.tB hW (by omega), h.rU.mark h.tU hW (by omega), h.rI.mark h.tI hW (by omega), h.rY.mark h.tY hW (by omega), h.rC.mark h.tC hW (by omega), ?_, h.rO.mark h.tO hW (by omega), h.tm, h.tB, h.tU, h.tI, h.tY, h.tC, h.tD, h.tO⟩
  have h1 := h.rD
  rw [hv] at h1 ⊢
  rw [List.length_set, List.map_set]
  exact h1.set _ _
theorem KRep.setOut {g cap : Nat} (h : KRep own id i w b k vB vU vI vY vC vD vO) (hv : vO = .slice (some ⟨g, 0, none⟩) k.out.length cap) (p : Nat) (v : Bool) : KRep own id i (w.setCell ⟨g, p, none⟩ (.bool v)) b { k with out := k.out.set p v } vB vU vI vY vC vD vO := by
  have hW := KRep.rowW (w := w) (j := p) hv h.tO (.bool v)
  have hb0 := Blk.mark h hW (by omega)
  refine ⟨hb0, h.rB.mark h.tB hW (by omega), h.rU.mark h.tU hW (by omega), h.rI.mark h.tI hW (by omega), h.rY.mark h.tY hW (by omega), h.rC.mark h.tC hW (by omega), h.rD.mark h.tD hW (by omega), ?_, h.tm, h.tB, h.tU, h.tI, h.tY, h.tC, h.tD, h.tO⟩
  have h1 := h.rO
  rw [hv] at h1 ⊢
  rw [List.length_set, List.map_set]
  exact h1.set _ _
theorem KRep.setHnd {g cap : Nat} (h : KRep own id i w b k vB vU vI vY vC vD vO) (hv : vY = .slice (some ⟨g, 0, none⟩) k.hnd.length cap) (p : Nat) (v : Int) : KRep own id i (w.setCell ⟨g, p, none⟩ (.int .i64 v)) b { k with hnd := k.hnd.set p v } vB vU vI vY vC vD vO := by
  have hW := KRep.rowW (w := w) (j := p) hv h.tY (.int .i64 v)
  have hb0 := Blk.mark h hW (by omega)
  refine ⟨hb0, h.rB.mark h.tB hW (by omega), h.rU.mark h.tU hW (by omega), h.rI.mark h.tI hW (by omega), ?_, h.rC.mark h.tC hW (by omega), h.rD.mark h.tD hW (by omega), h.rO.mark h.tO hW (by omega), h.tm, h.tB, h.tU, h.tI, h.tY, h.tC, h.tD, h.tO⟩
  have h1 := h.rY
  rw [hv] at h1 ⊢
  rw [List.length_set, List.map_set]
  exact h1.set _ _
theorem KRep.setKByte {g cap : Nat} (h : KRep own id i w b k vB vU vI vY vC vD vO) (hv : vB = .slice (some ⟨g, 0, none⟩) k.bytes.length cap) (p : Nat) (v : Int) : KRep own id i (w.setCell ⟨g, p, none⟩ (.int .i64 v)) b { k with bytes := k.bytes.set p v } vB vU vI vY vC vD vO := by
  have hW := KRep.rowW (w := w) (j := p) hv h.tB (.int .i64 v)
  have hb0 := Blk.mark h hW (by omega)
  refine ⟨hb0, ?_, h.rU.mark h.tU hW (by omega), h.rI.mark h.tI hW (by omega), h.rY.mark h.tY hW (by omega), h.rC.mark h.tC hW (by omega), h.rD.mark h.tD hW (by omega), h.rO.mark h.tO hW (by omega), h.tm, h.tB, h.tU, h.tI, h.tY, h.tC, h.tD, h.tO⟩
  have h1 := h.rB
  rw [hv] at h1 ⊢
  rw [List.length_set, List.map_set]
  exact h1.set _ _

/-- A new list of the pages that are in. -/
theorem KRep.setIn (h : KRep own id i w b k vB vU vI vY vC vD vO) {v : Value} {L : List Int} (hr : Row w v 3 1 L.length (L.map (.int .i64))) (ht : Tg own v (id, kt i 3)) : KRep own id i (w.setCell ⟨b, 4, none⟩ v) b { k with inp := L } vB vU v vY vC vD vO := by
  have hW := h.field 4 v
  exact ⟨h.blk.set 4 v, h.rB.mark h.tB hW (by omega), h.rU.mark h.tU hW (by omega), hr.mark ht hW (by omega), h.rY.mark h.tY hW (by omega), h.rC.mark h.tC hW (by omega), h.rD.mark h.tD hW (by omega), h.rO.mark h.tO hW (by omega), h.tm, h.tB, h.tU, ht, h.tY, h.tC, h.tD, h.tO⟩
theorem KRep.setUses (h : KRep own id i w b k vB vU vI vY vC vD vO) {v : Value} {L : List (Int × Bool)} (hr : Row w v 150 2 L.length (L.flatMap ucells)) (ht : Tg own v (id, kt i 2)) : KRep own id i (w.setCell ⟨b, 3, none⟩ v) b { k with uses := L } vB v vI vY vC vD vO := by
  have hW := h.field 3 v
  exact ⟨h.blk.set 3 v, h.rB.mark h.tB hW (by omega), hr.mark ht hW (by omega), h.rI.mark h.tI hW (by omega), h.rY.mark h.tY hW (by omega), h.rC.mark h.tC hW (by omega), h.rD.mark h.tD hW (by omega), h.rO.mark h.tO hW (by omega), h.tm, h.tB, ht, h.tI, h.tY, h.tC, h.tD, h.tO⟩
/-- New marks where there were none. -/
theorem KRep.more (h : KRep own id i w b k vB vU vI vY vC vD vO) (ho : ∀ x, x < w.heap.size → own' x = own x) : KRep own' id i w b k vB vU vI vY vC vD vO :=
  ⟨h.blk, h.rB, h.rU, h.rI, h.rY, h.rC, h.rD, h.rO, (ho b h.blk.lt).trans h.tm, h.tB.congr h.rB ho, h.tU.congr h.rU ho, h.tI.congr h.rI ho, h.tY.congr h.rY ho, h.tC.congr h.rC ho, h.tD.congr h.rD ho, h.tO.congr h.rO ho⟩
end
end Go.Proofs.YtinlkcmdbjcofaaGreat

/-
  A page goes out.
-/
namespace Go.Proofs.YtinlkcmdbjcofaaGreat
open Go.RowKit
set_option linter.unusedVariables false
attribute [local go_sem ↓] Go.wp_at_zero Go.wp_at_succ

/-- The lengths and bounds of a kept memory. -/
structure KLen (k : KSt) : Prop where
  by_ : k.bytes.length = 64
  inp : k.inp.length ≤ 16
  hnd : k.hnd.length = 16
  chg : k.chg.length = 16
  dty : k.dty.length = 16
  out : k.out.length = 16
  uses : (k.uses.length + 2) * 48 ≤ 140737488355328
  r0 : 0 ≤ k.refills
  r1 : k.refills ≤ k.uses.length
  i0 : 0 ≤ k.ins
  i1 : k.ins ≤ k.uses.length
  o0 : 0 ≤ k.outs
  o1 : k.outs ≤ k.uses.length

def chgB (k : KSt) (page : Nat) : Bool := (k.chg[page]?).getD false
def leaveK (k : KSt) (page : Nat) : KSt :=
  { k with inp := k.inp.filter (fun x => !(x == (page : Int))), outs := if chgB k page then k.outs + 1 else k.outs, out := if chgB k page then k.out.set page true else k.out, chg := k.chg.set page false }
def putK (s : RSt) (env : Nat) (k : KSt) : RSt := { s with kept := s.kept.set env (some k) }
def leavesS (s : RSt) (k : KSt) (env page : Nat) : RSt := goneS (putK s env (leaveK k page)) env page
def leftTo (k : KSt) (page : Nat) (q : Nat) : List Int := (k.inp.take q).filter (fun x => !(x == (page : Int)))
theorem leftTo_succ {k : KSt} {page q : Nat} {x : Int} (h : k.inp[q]? = some x) : leftTo k page (q + 1) = leftTo k page q ++ if x == (page : Int) then [] else [x] := by
  obtain ⟨hq, he⟩ := List.getElem?_eq_some_iff.1 h
  unfold leftTo
  rw [List.take_succ_eq_append_getElem hq, List.filter_append, he]
  cases hx : (x == (page : Int)) <;> simp [hx]
theorem leftTo_le (k : KSt) (page q : Nat) : (leftTo k page q).length ≤ q := by
  unfold leftTo
  have := List.length_filter_le (fun x => !(x == (page : Int))) (k.inp.take q)
  simp at this ⊢
  omega

section
variable {own : Nat → Nat × Nat} {id : Nat} {w : World} {m : Nat} {s : RSt} {nk : Nat} {vR vB vS vA vK : Value} {bs : List Nat} {k : KSt}

/-- Marks for a new list. -/
theorem mark_new {w0 w1 : World} {v : Value} {t : Nat × Nat} {n : Nat} (own : Nat → Nat × Nat) (hn : ∀ x, v.ownBlock = some x → n ≤ x) : ∃ own' : Nat → Nat × Nat, (∀ x, x < n → own' x = own x) ∧ Tg own' v t :=
  ⟨fun x => if v.ownBlock = some x then t else own x, fun x hx => if_neg (fun e => by have := hn x e; omega), fun x hx => if_pos hx⟩

set_option maxHeartbeats 4000000 in
set_option maxRecDepth 100000 in
theorem rleaves_at (h : RefRep own id w m s nk vR vB vS vA vK bs) (hw : RWf s nk) {env page b : Nat} (he : env < nk) (hp : page < 16) (hO : keptO s env = some k) (hP : KPtr vK nk w env b) (hl : KLen k) :
    Calls Tryz.prog 117 #[.pointer (some ⟨m, 0, none⟩), .int .i64 env, .int .i64 page] w fun e w' => e = .returned (.int .i64 ((k.hnd[page]?).getD 0)) ∧ ∃ own' : Nat → Nat × Nat, RefRep own' id w' m (leavesS s k env page) nk vR vB vS vA vK bs ∧ KAt own' id env w' b (leaveK k page) ∧ KPtr vK nk w' env b ∧ (∀ x, x < w.heap.size → own' x = own x) ∧ Touch w.heap.size (fun x => (own x).1 = id) w w' := by
  obtain ⟨i0, gi, gz0, gz1, gz2⟩ := info_parts Tryz.infoIntK
  have k8 := h.blk.cell 8
  simp at k8
  obtain ⟨g, cap, b', hv, hg, c0, hK, put⟩ := h.keptPut he hO
  obtain rfl : b = b' := hP.uniq ⟨g, cap, hv, c0⟩
  have hPl := h.rK.lt
  rw [hv] at k8
  have hPut : Hid (∀ (own' : Nat → Nat × Nat) (W : World) (k' : KSt), (∀ x, x < w.heap.size → own' x = own x) → (∀ x, x < w.heap.size → (∀ t, t < 16 → own x ≠ (id, kt env t)) → W.heap[x]? = w.heap[x]?) → KAt own' id env W b k' →
        RefRep own' id W m { s with kept := s.kept.set env (some k') } nk vR vB vS vA vK bs) := put
  obtain ⟨vB', vU, vI, vY, vC, vD, vO, hk⟩ := hK
  have q4 := hk.blk.cell 4
  simp [KSt.cells] at q4
  obtain ⟨aoI, capI, hvI, hcI⟩ := hk.rI.shapeK
  rw [hvI] at q4
  have HvI : Hid (vI = .slice aoI k.inp.length capI) := hvI
  have hln := hl.inp
  have hel : (env : Int) < (nk : Int) := by omega
  have he0 : (0 : Int) ≤ (env : Int) := by omega
  clear hv hvI put
  go_enter Tryz.func117, Tryz.ntmps117
  go_wp2_with fail
  go_loopg [8, 9] k.inp.length (fun n v x wr => ∃ q : Nat, q + n = k.inp.length ∧ x = .int .i64 q ∧ Below w.heap.size w wr ∧ Row wr v 3 1 (leftTo k page q).length ((leftTo k page q).map (.int .i64)) ∧ ∀ x, v.ownBlock = some x → w.heap.size ≤ x)
  case atStart => exact ⟨0, by omega, rfl, Below.refl _ _, Row.nil _ _ _, by simp [Value.ownBlock]⟩
  case round =>
    obtain ⟨q, hqk, rfl, hbl, hrow, hnew⟩ := hrel
    have HK : Hid (q + gk = k.inp.length) := hqk
    have hq : q ≤ k.inp.length := by omega
    have hk' := hk.below hbl
    have hsz := hbl.size
    have hle := leftTo_le k page q
    have j4 := hk'.blk.cell 4
    simp [KSt.cells] at j4
    rw [HvI.out] at j4
    obtain ⟨aoL, capL, hvL, -⟩ := hrow.shapeK
    subst hvL
    clear hqk
    by_cases hlt : q < k.inp.length
    · obtain ⟨x, hx⟩ : ∃ x, k.inp[q]? = some x := ⟨k.inp[q], by simp⟩
      obtain ⟨gI, rfl⟩ : ∃ g, aoI = some ⟨g, 0, none⟩ := by
        rcases hcI with h0 | h0
        · omega
        · exact h0
      have d0 : wr.cell? ⟨gI, q, none⟩ = some (.int .i64 x) := by
        have h1 := hk'.rI
        rw [HvI.out] at h1
        rw [h1.cellK q (by omega), List.getElem?_map, hx]; rfl
      have HS : Hid (leftTo k page (q + 1) = leftTo k page q ++ if x == (page : Int) then [] else [x]) := leftTo_succ hx
      have hq0 : (0 : Int) ≤ (q : Int) := by omega
      have hq1 : (q : Int) < (k.inp.length : Int) := by omega
      clear hx
      cases hxp : (x == (page : Int))
      · have HW : Hid (leftTo k page (q + 1) = leftTo k page q ++ [x]) := by have := HS.out; rw [hxp] at this; simpa [Hid] using this
        have hxn : (x != (page : Int)) = true := by simp [bne, hxp]
        clear HS
        have hR' := hrow.alloc (.cells [.int .i64 x].toArray 3)
        have hN := Blk.new wr [Value.int .i64 x] 3
        go_wp2_with (at_builtin; refine wpList_append_lies _ rfl (.tmp 35) (.tmp 43) 62 rfl 0 3 i0 _ 1 8 Tryz.underlying62 gi gz0 gz1 gz2 rfl (by decide) (.slice aoL (leftTo k page q).length capL) (leftTo k page q).length _ rfl hR' ⟨wr.heap.size, 0, none⟩ 1 1 [.int .i64 x] rfl rfl ?c1 ?c2 (by omega) ?b1 ?b2 (by omega) (wr.heap.size + 1) (by simp) ?nx)
        case c1 => exact World.news_of_block hN
        case c2 => first | rfl | exact oneCell_intK _
        case b1 => unfold maxLen; omega
        case b2 => omega
        case nx =>
          intro g1 cap1 w4 hown hgrow hat hlt1
          go_wp2
          go_roundg (gk - 1)
          case measure => have := HK.out; omega
          case rel =>
            refine ⟨q + 1, by have := HK.out; omega, by go_num, (hbl.alloc hsz _).grown hgrow (by simp; omega) hnew, ?_, ?_⟩
            · rw [HW.out]
              simp only [List.length_append, List.map_append, List.length_cons, List.length_nil, List.map_cons, List.map_nil]
              exact hown
            · intro x hb
              simp [Value.ownBlock] at hb
              subst hb
              rcases hat with h | h
              · exact hnew _ h
              · omega
      · have HW : Hid (leftTo k page (q + 1) = leftTo k page q) := by have := HS.out; rw [hxp] at this; simpa [Hid] using this
        have hxn : (x != (page : Int)) = false := by simp [bne, hxp]
        clear HS
        go_wp2_with fail
        go_roundg (gk - 1)
        case measure => have := HK.out; omega
        case rel => exact ⟨q + 1, by have := HK.out; omega, by go_num, hbl, by rw [HW.out]; exact hrow, hnew⟩
    · have hqe : q = k.inp.length := by omega
      have HW : Hid (leftTo k page q = (leaveK k page).inp) := by unfold Hid leftTo leaveK; rw [hqe, List.take_length]
      clear hqe
      obtain ⟨gC, capC, hvC, hcC, hfC⟩ := hk'.rC.form (by rw [hl.chg]; omega)
      obtain ⟨gO, capO, hvO, hcO, hfO⟩ := hk'.rO.form (by rw [hl.out]; omega)
      obtain ⟨gY, capY, hvY, hcY, -⟩ := hk'.rY.form (by rw [hl.hnd]; omega)
      have tC : own gC = (id, kt env 5) := hk'.tC gC (by rw [hvC]; rfl)
      have tO : own gO = (id, kt env 7) := hk'.tO gO (by rw [hvO]; rfl)
      have tY : own gY = (id, kt env 4) := hk'.tY gY (by rw [hvY]; rfl)
      have tb := hk'.tm
      have nn : ∀ {x y p r : Nat}, own x = (id, kt env p) → own y = (id, kt env r) → p ≠ r → x ≠ y := fun h1 h2 hne e => by
        rw [e, h2] at h1
        simp only [Prod.mk.injEq, true_and] at h1
        exact kt_ne (Ne.symm hne) h1
      have n1 : b ≠ gC := nn tb tC (by omega)
      have n2 : gC ≠ b := nn tC tb (by omega)
      have n3 : b ≠ gO := nn tb tO (by omega)
      have n4 : gO ≠ b := nn tO tb (by omega)
      have n5 : gC ≠ gO := nn tC tO (by omega)
      have n6 : gO ≠ gC := nn tO tC (by omega)
      have n7 : b ≠ gY := nn tb tY (by omega)
      have n8 : gY ≠ b := nn tY tb (by omega)
      obtain ⟨cv, hcv⟩ : ∃ c, k.chg[page]? = some c := ⟨k.chg[page]'(by rw [hl.chg]; exact hp), by simp⟩
      obtain ⟨ov, hov⟩ : ∃ c, k.out[page]? = some c := ⟨k.out[page]'(by rw [hl.out]; exact hp), by simp⟩
      obtain ⟨yv, hyv⟩ : ∃ c, k.hnd[page]? = some c := ⟨k.hnd[page]'(by rw [hl.hnd]; exact hp), by simp⟩
      have dC : wr.cell? ⟨gC, page, none⟩ = some (.bool cv) := by rw [hcC _ (by rw [hl.chg]; omega), List.getElem?_map, hcv]; rfl
      have dO : wr.cell? ⟨gO, page, none⟩ = some (.bool ov) := by rw [hcO _ (by rw [hl.out]; omega), List.getElem?_map, hov]; rfl
      have fC := hfC page
      have fO := hfO page
      have j5 := hk'.blk.cell 5
      have j6 := hk'.blk.cell 6
      have j8 := hk'.blk.cell 8
      have j11 := hk'.blk.cell 11
      simp [KSt.cells] at j5 j6 j8 j11
      rw [hvC] at j6
      rw [hvO] at j8
      rw [hvY] at j5
      have z4 := hk'.blk.frozen 4
      have z11 := hk'.blk.frozen 11
      have ho0 := hl.o0
      have ho1 := hl.o1
      have huu := hl.uses
      have hw1 : IntKind.i64.wrap (k.outs + 1) = k.outs + 1 := by rw [IntKind.wrap_i64]; omega
      have hp0 : (0 : Int) ≤ (page : Int) := by omega
      have hp1 : (page : Int) < (k.chg.length : Int) := by rw [hl.chg]; omega
      have hp2 : (page : Int) < (k.out.length : Int) := by rw [hl.out]; omega
      have hp3 : (page : Int) < (k.hnd.length : Int) := by rw [hl.hnd]; omega
      cases cv
      · go_wp2_with fail
        have hin : ∀ {x p : Nat}, own x = (id, kt env p) → (own x).1 = id := fun e => by rw [e]
        obtain ⟨own', ho, htg⟩ := mark_new (w0 := w) (w1 := wr) (t := (id, kt env 3)) own hnew
        have hrow2 : Row wr (.slice aoL (leftTo k page q).length capL) 3 1 (leaveK k page).inp.length ((leaveK k page).inp.map (.int .i64)) := by rw [← HW.out]; exact hrow
        have hk1 := ((hk.more ho).below hbl).setIn hrow2 htg
        have hkF : KRep own' id env ((wr.setCell ⟨b, 4, none⟩ (.slice aoL (leftTo k page q).length capL)).setCell ⟨gC, page, none⟩ (.bool false)) b (leaveK k page) vB' vU (.slice aoL (leftTo k page q).length capL) vY vC vD vO := by
          have h1 := hk1.setChg hvC page false
          have e : leaveK k page = { k with inp := (leaveK k page).inp, chg := k.chg.set page false } := by unfold leaveK chgB; rw [hcv]; rfl
          rw [e]
          exact h1
        have hWk : ∀ x, x < w.heap.size → (∀ t, t < 16 → own x ≠ (id, kt env t)) → ((wr.setCell ⟨b, 4, none⟩ (.slice aoL (leftTo k page q).length capL)).setCell ⟨gC, page, none⟩ (.bool false)).heap[x]? = w.heap[x]? := fun x hx hne => by
          have e1 : x ≠ b := fun e => hne 0 (by omega) (by rw [e]; exact hk.tm)
          have e2 : x ≠ gC := fun e => hne 5 (by omega) (by rw [e]; exact tC)
          have e3 : x ≠ gO := fun e => hne 7 (by omega) (by rw [e]; exact tO)
          rw [Below.heap_setCell _ _ _ _ e2, Below.heap_setCell _ _ _ _ e1]
          exact hbl.block x hx
        have hR := hPut.out own' _ (leaveK k page) ho hWk ⟨_, _, _, _, _, _, _, hkF⟩
        have hTW : Touch w.heap.size (fun x => (own x).1 = id) w ((wr.setCell ⟨b, 4, none⟩ (.slice aoL (leftTo k page q).length capL)).setCell ⟨gC, page, none⟩ (.bool false)) := ((Touch.of_below hbl _).setCell (.inl (hin hk.tm)) _).setCell (.inl (hin tC)) _
        have hsW := hTW.size
        refine (gone_at hR hw.sl env page).mono ?_
        rintro e w9 ⟨rfl, hR9, ht9⟩
        have hb9 := hkF.blk.of (ht9.block b hkF.blk.lt (by rw [hkF.tm]; simp [kt]; omega))
        have hy9 : Row w9 vY 3 1 (leaveK k page).hnd.length ((leaveK k page).hnd.map (.int .i64)) := hkF.rY.of (fun x hx => ht9.block x (hkF.rY.lt x hx) (by rw [hkF.tY x hx]; simp [kt]; omega))
        have u5 := hb9.cell 5
        simp [KSt.cells] at u5
        rw [hvY] at u5 hy9
        have uY : w9.cell? ⟨gY, page, none⟩ = some (.int .i64 yv) := by
          have h1 : (leaveK k page).hnd = k.hnd := rfl
          rw [h1] at hy9
          rw [hy9.cellK page (by rw [hl.hnd]; omega), List.getElem?_map, hyv]; rfl
        have HY : Hid ((k.hnd[page]?).getD 0 = yv) := by unfold Hid; rw [hyv]; rfl
        have hKA : KAt own' id env w9 b (leaveK k page) := KAt.of ⟨_, _, _, _, _, _, _, hkF⟩ (fun _ _ _ => rfl) (fun x hx t _ e => ht9.block x hx (by rw [e]; simp [kt]; omega))
        have hKP : KPtr vK nk w9 env b := hP.of h.tK hPl (fun x hx e => (ht9.block x (Nat.lt_of_lt_of_le hx hsW) (by rw [ho x hx, e]; simp)).trans (hWk x hx (fun t _ => by rw [e]; simp [kt]; omega)))
        have hN9 : ∃ own' : Nat → Nat × Nat, RefRep own' id w9 m (leavesS s k env page) nk vR vB vS vA vK bs ∧ KAt own' id env w9 b (leaveK k page) ∧ KPtr vK nk w9 env b ∧ (∀ x, x < w.heap.size → own' x = own x) ∧ Touch w.heap.size (fun x => (own x).1 = id) w w9 := ⟨own', hR9, hKA, hKP, ho, hTW.trans (ht9.mono hsW (fun x hx e => by rw [← ho x hx, e]))⟩
        clear hR hR9 hKA hKP hkF hk1 hb9 hy9 hvY hvC hvO hcC hcO hcY hfC hfO hyv hcv hov
        go_wp2_with fail
        go_ret
        exact ⟨ret_int HY.out.symm, hN9⟩
      · go_wp2_with fail
        have hin : ∀ {x p : Nat}, own x = (id, kt env p) → (own x).1 = id := fun e => by rw [e]
        obtain ⟨own', ho, htg⟩ := mark_new (w0 := w) (w1 := wr) (t := (id, kt env 3)) own hnew
        have hrow2 : Row wr (.slice aoL (leftTo k page q).length capL) 3 1 (leaveK k page).inp.length ((leaveK k page).inp.map (.int .i64)) := by rw [← HW.out]; exact hrow
        have hk1 := ((hk.more ho).below hbl).setIn hrow2 htg
        have hkF : KRep own' id env ((((wr.setCell ⟨b, 4, none⟩ (.slice aoL (leftTo k page q).length capL)).setCell ⟨b, 11, none⟩ (.int .i64 (k.outs + 1))).setCell ⟨gO, page, none⟩ (.bool true)).setCell ⟨gC, page, none⟩ (.bool false)) b (leaveK k page) vB' vU (.slice aoL (leftTo k page q).length capL) vY vC vD vO := by
          have h1 := ((hk1.setOuts (k.outs + 1)).setOut hvO page true).setChg hvC page false
          have e : leaveK k page = { k with inp := (leaveK k page).inp, outs := k.outs + 1, out := k.out.set page true, chg := k.chg.set page false } := by unfold leaveK chgB; rw [hcv]; rfl
          rw [e]
          exact h1
        have hWk : ∀ x, x < w.heap.size → (∀ t, t < 16 → own x ≠ (id, kt env t)) → ((((wr.setCell ⟨b, 4, none⟩ (.slice aoL (leftTo k page q).length capL)).setCell ⟨b, 11, none⟩ (.int .i64 (k.outs + 1))).setCell ⟨gO, page, none⟩ (.bool true)).setCell ⟨gC, page, none⟩ (.bool false)).heap[x]? = w.heap[x]? := fun x hx hne => by
          have e1 : x ≠ b := fun e => hne 0 (by omega) (by rw [e]; exact hk.tm)
          have e2 : x ≠ gC := fun e => hne 5 (by omega) (by rw [e]; exact tC)
          have e3 : x ≠ gO := fun e => hne 7 (by omega) (by rw [e]; exact tO)
          rw [Below.heap_setCell _ _ _ _ e2, Below.heap_setCell _ _ _ _ e3, Below.heap_setCell _ _ _ _ e1, Below.heap_setCell _ _ _ _ e1]
          exact hbl.block x hx
        have hR := hPut.out own' _ (leaveK k page) ho hWk ⟨_, _, _, _, _, _, _, hkF⟩
        have hTW : Touch w.heap.size (fun x => (own x).1 = id) w ((((wr.setCell ⟨b, 4, none⟩ (.slice aoL (leftTo k page q).length capL)).setCell ⟨b, 11, none⟩ (.int .i64 (k.outs + 1))).setCell ⟨gO, page, none⟩ (.bool true)).setCell ⟨gC, page, none⟩ (.bool false)) := ((((Touch.of_below hbl _).setCell (.inl (hin hk.tm)) _).setCell (.inl (hin hk.tm)) _).setCell (.inl (hin tO)) _).setCell (.inl (hin tC)) _
        have hsW := hTW.size
        refine (gone_at hR hw.sl env page).mono ?_
        rintro e w9 ⟨rfl, hR9, ht9⟩
        have hb9 := hkF.blk.of (ht9.block b hkF.blk.lt (by rw [hkF.tm]; simp [kt]; omega))
        have hy9 : Row w9 vY 3 1 (leaveK k page).hnd.length ((leaveK k page).hnd.map (.int .i64)) := hkF.rY.of (fun x hx => ht9.block x (hkF.rY.lt x hx) (by rw [hkF.tY x hx]; simp [kt]; omega))
        have u5 := hb9.cell 5
        simp [KSt.cells] at u5
        rw [hvY] at u5 hy9
        have uY : w9.cell? ⟨gY, page, none⟩ = some (.int .i64 yv) := by
          have h1 : (leaveK k page).hnd = k.hnd := rfl
          rw [h1] at hy9
          rw [hy9.cellK page (by rw [hl.hnd]; omega), List.getElem?_map, hyv]; rfl
        have HY : Hid ((k.hnd[page]?).getD 0 = yv) := by unfold Hid; rw [hyv]; rfl
        have hKA : KAt own' id env w9 b (leaveK k page) := KAt.of ⟨_, _, _, _, _, _, _, hkF⟩ (fun _ _ _ => rfl) (fun x hx t _ e => ht9.block x hx (by rw [e]; simp [kt]; omega))
        have hKP : KPtr vK nk w9 env b := hP.of h.tK hPl (fun x hx e => (ht9.block x (Nat.lt_of_lt_of_le hx hsW) (by rw [ho x hx, e]; simp)).trans (hWk x hx (fun t _ => by rw [e]; simp [kt]; omega)))
        have hN9 : ∃ own' : Nat → Nat × Nat, RefRep own' id w9 m (leavesS s k env page) nk vR vB vS vA vK bs ∧ KAt own' id env w9 b (leaveK k page) ∧ KPtr vK nk w9 env b ∧ (∀ x, x < w.heap.size → own' x = own x) ∧ Touch w.heap.size (fun x => (own x).1 = id) w w9 := ⟨own', hR9, hKA, hKP, ho, hTW.trans (ht9.mono hsW (fun x hx e => by rw [← ho x hx, e]))⟩
        clear hR hR9 hKA hKP hkF hk1 hb9 hy9 hvY hvC hvO hcC hcO hcY hfC hfO hyv hcv hov
        go_wp2_with fail
        go_ret
        exact ⟨ret_int HY.out.symm, hN9⟩
end
end Go.Proofs.YtinlkcmdbjcofaaGreat

/-
  Counts, Dirty, Clean.
-/
namespace Go.Proofs.YtinlkcmdbjcofaaGreat
open Go.RowKit
set_option linter.unusedVariables false
attribute [local go_sem ↓] Go.wp_at_zero Go.wp_at_succ

/-- The kept memory that a call names; its error. -/
theorem heldE_cases (s : RSt) (env : Int) : (∃ y, heldE s env = y ∧ (y = 2 ∨ y = 5)) ∨ (∃ (j : Nat) (k : KSt), heldE s env = 0 ∧ env = j ∧ j < s.ne ∧ keptO s j = some k) := by
  unfold heldE
  cases ha : aliveB s env with
  | false => exact .inl ⟨2, by simp, .inl rfl⟩
  | true =>
    cases hk : keptB s env with
    | false => exact .inl ⟨5, by simp, .inr rfl⟩
    | true =>
      obtain ⟨j, rfl, hj⟩ := aliveB_nat ha
      obtain ⟨k, hk2⟩ := Option.isSome_iff_exists.1 hk
      exact .inr ⟨j, k, by simp, rfl, hj, hk2⟩
def countsR (s : RSt) (env : Int) : (Int × Int × Int × Int) × Int := if heldE s env ≠ 0 then ((0, 0, 0, 0), heldE s env) else match keptO s env with
  | none => ((0, 0, 0, 0), 0)
  | some k => ((k.refills, k.ins, k.outs, (k.inp.length : Int)), 0)

section
variable {own : Nat → Nat × Nat} {id : Nat} {w : World} {m : Nat} {s : RSt} {nk : Nat} {vR vB vS vA vK : Value} {bs : List Nat} {k : KSt}

set_option maxHeartbeats 4000000 in
set_option maxRecDepth 100000 in
theorem rcounts_any (h : RefRep own id w m s nk vR vB vS vA vK bs) (hw : RWf s nk) (env : Int) (hl : ∀ k, keptO s env = some k → KLen k) :
    Calls Tryz.prog 59 #[.pointer (some ⟨m, 0, none⟩), .int .i64 env] w fun e w' => e = .returned (.tuple #[.agg #[.int .i64 (countsR s env).1.1, .int .i64 (countsR s env).1.2.1, .int .i64 (countsR s env).1.2.2.1, .int .i64 (countsR s env).1.2.2.2], .int .i64 (countsR s env).2]) ∧ Below w.heap.size w w' := by
  have k8 := h.blk.cell 8
  simp at k8
  rcases heldE_cases s env with ⟨y, hr, hy⟩ | ⟨j, k, hr, rfl, hj, hO⟩
  · have hy0 : (y != 0) = true := by rcases hy with rfl | rfl <;> rfl
    have HA : Hid (countsR s env = ((0, 0, 0, 0), y)) := by rcases hy with rfl | rfl <;> simp [Hid, countsR, hr]
    clear hy
    have h' := h.below ((Below.refl _ _).alloc (Nat.le_refl _) (.cells #[.int .i64 0, .int .i64 0, .int .i64 0, .int .i64 0] 97))
    go_enter Tryz.func59, Tryz.ntmps59
    go_wp2_with fail
    refine (held_any h' hw.al hw.ne hw.nk env).mono ?_
    rintro e w2 ⟨rfl, hw2⟩
    subst hw2
    rw [hr]
    clear hr
    go_wp2_with fail
    exact bodyPost_ret (v := .tuple #[.agg #[.int .i64 0, .int .i64 0, .int .i64 0, .int .i64 0], .int .i64 y]) (by simp [results, Tryz.results59, go_sem]) rfl ⟨by rw [HA.out], (Below.refl _ _).alloc (Nat.le_refl _) _⟩
  · have hln := (hl k hO).inp
    have HA : Hid (countsR s j = ((k.refills, k.ins, k.outs, (k.inp.length : Int)), 0)) := by simp [Hid, countsR, hr, hO]
    have hba : Below w.heap.size w (w.alloc (.cells #[.int .i64 0, .int .i64 0, .int .i64 0, .int .i64 0] 97)) := (Below.refl _ _).alloc (Nat.le_refl _) _
    have h' := h.below hba
    obtain ⟨g, cap, b, hv, hg, c0, hK, -⟩ := h.keptPut (by rw [hw.nk]; exact hj) hO
    rw [hv] at k8
    obtain ⟨vB', vU, vI, vY, vC, vD, vO, hk⟩ := hK
    have q4 := hk.blk.cell 4
    have q9 := hk.blk.cell 9
    have q10 := hk.blk.cell 10
    have q11 := hk.blk.cell 11
    have q12 := hk.blk.cell 12
    simp [KSt.cells] at q4 q9 q10 q11 q12
    obtain ⟨aoI, capI, hvI, -⟩ := hk.rI.shapeK
    rw [hvI] at q4
    have hmlt := h.blk.lt
    have hblt := hk.blk.lt
    have hglt : g < w.heap.size := h.rK.lt g (by rw [hv]; rfl)
    have hjl : (j : Int) < (nk : Int) := by rw [hw.nk]; omega
    have hj0 : (0 : Int) ≤ (j : Int) := by omega
    clear hv hvI hO
    go_enter Tryz.func59, Tryz.ntmps59
    go_wp2_with fail
    refine (held_any h' hw.al hw.ne hw.nk j).mono ?_
    rintro e w2 ⟨rfl, hw2⟩
    subst hw2
    rw [hr]
    clear hr
    go_wp2_with fail
    exact bodyPost_ret (v := .tuple #[.agg #[.int .i64 k.refills, .int .i64 k.ins, .int .i64 k.outs, .int .i64 k.inp.length], .int .i64 0]) (by simp [results, Tryz.results59, go_sem]) rfl ⟨by rw [HA.out], ((Below.refl _ _).alloc (Nat.le_refl _) _).alloc (by simp) _⟩

def cleanR (s : RSt) (env : Int) : Int × RSt := if heldE s env ≠ 0 then (heldE s env, s) else match keptO s env with
  | none => (0, s)
  | some k => (0, putK s env.toNat { k with dty := List.replicate 16 false })
def clTo (k : KSt) (q : Nat) : List Bool := List.replicate q false ++ k.dty.drop q
theorem clTo_len (k : KSt) (hl : k.dty.length = 16) {q : Nat} (hq : q ≤ 16) : (clTo k q).length = 16 := by simp [clTo]; omega
theorem clTo_set (k : KSt) (hl : k.dty.length = 16) {q : Nat} (hq : q < 16) : (clTo k q).set q false = clTo k (q + 1) := by
  apply List.ext_getElem?
  intro i
  unfold clTo
  rw [List.getElem?_set]
  simp only [List.getElem?_append, List.length_replicate, List.getElem?_replicate, List.getElem?_drop, List.length_append, List.length_drop, hl]
  by_cases h1 : q = i
  · subst h1
    rw [if_pos rfl, if_pos (by omega), if_pos (by omega), if_pos (by omega)]
  · rw [if_neg h1]
    by_cases h2 : i < q
    · rw [if_pos h2, if_pos h2, if_pos (by omega), if_pos (by omega)]
    · rw [if_neg h2, if_neg (by omega)]
      congr 1; omega

set_option maxHeartbeats 4000000 in
set_option maxRecDepth 100000 in
theorem rclean_any (h : RefRep own id w m s nk vR vB vS vA vK bs) (hw : RWf s nk) (env : Int) (hl : ∀ k, keptO s env = some k → KLen k) :
    Calls Tryz.prog 64 #[.pointer (some ⟨m, 0, none⟩), .int .i64 env] w fun e w' => e = .returned (.int .i64 (cleanR s env).1) ∧ RefNext own id w m nk w' (cleanR s env).2 := by
  rcases heldE_cases s env with ⟨y, hr, hy⟩ | ⟨j, k, hr, rfl, hj, hO⟩
  · have hy0 : (y != 0) = true := by rcases hy with rfl | rfl <;> rfl
    have HA : Hid (cleanR s env = (y, s)) := by rcases hy with rfl | rfl <;> simp [Hid, cleanR, hr]
    clear hy
    go_enter Tryz.func64, Tryz.ntmps64
    go_wp2_with fail
    refine (held_any h hw.al hw.ne hw.nk env).mono ?_
    rintro e w2 ⟨rfl, hw2⟩
    subst hw2
    rw [hr]
    clear hr
    go_wp2_with fail
    go_ret
    exact ⟨ret_int' (by rw [HA.out]), by rw [HA.out]; exact RefNext.refl h⟩
  · have hL := hl k hO
    have HA : Hid (cleanR s j = (0, putK s j { k with dty := List.replicate 16 false })) := by simp [Hid, cleanR, hr, hO]
    obtain ⟨g, cap, b, hv, hg, c0, hK, put⟩ := h.keptPut (by rw [hw.nk]; exact hj) hO
    have hPut : Hid (∀ (own' : Nat → Nat × Nat) (W : World) (k' : KSt), (∀ x, x < w.heap.size → own' x = own x) → (∀ x, x < w.heap.size → (∀ t, t < 16 → own x ≠ (id, kt j t)) → W.heap[x]? = w.heap[x]?) → KAt own' id j W b k' →
        RefRep own' id W m { s with kept := s.kept.set j (some k') } nk vR vB vS vA vK bs) := put
    have k8 := h.blk.cell 8
    simp at k8
    rw [hv] at k8
    have HV : Hid (vK = .slice (some ⟨g, 0, none⟩) nk cap) := hv
    obtain ⟨vB', vU, vI, vY, vC, vD, vO, hk⟩ := hK
    obtain ⟨gD, capD, hvD, -, -⟩ := hk.rD.form (by rw [hL.dty]; omega)
    have HVD : Hid (vD = .slice (some ⟨gD, 0, none⟩) 16 capD) := by unfold Hid; rw [hvD, hL.dty]
    have tD : own gD = (id, kt j 6) := hk.tD gD (by rw [hvD]; rfl)
    have hjl : (j : Int) < (nk : Int) := by rw [hw.nk]; omega
    have hj0 : (0 : Int) ≤ (j : Int) := by omega
    have ng : g ≠ gD := fun e => by rw [e, tD] at hg; simp [kt] at hg; omega
    have nm : m ≠ gD := fun e => by have := h.tm; rw [e, tD] at this; simp [kt] at this
    have hmlt := h.blk.lt
    have hglt : g < w.heap.size := h.rK.lt g (by rw [hv]; rfl)
    clear hv hvD put
    go_enter Tryz.func64, Tryz.ntmps64
    go_wp2_with fail
    refine (held_any h hw.al hw.ne hw.nk j).mono ?_
    rintro e w2 ⟨rfl, hw2⟩
    subst hw2
    rw [hr]
    clear hr
    go_wp2_with fail
    go_loopg [6] 16 (fun n x wr => ∃ q : Nat, q + n = 16 ∧ x = .int .i64 q ∧ KRep own id j wr b { k with dty := clTo k q } vB' vU vI vY vC vD vO ∧ Touch w2.heap.size (fun x => x = gD) w2 wr)
    case atStart => exact ⟨0, by omega, rfl, by simpa [clTo] using hk, Touch.refl _ _ _⟩
    case round =>
      obtain ⟨q, hqk, rfl, hk', ht⟩ := hrel
      have HK : Hid (q + gk = 16) := hqk
      have hq : q ≤ 16 := by omega
      clear hqk
      by_cases hlt : q < 16
      · have hcl := clTo_len k hL.dty hq
        have hst := hk'.setDty (g := gD) (cap := capD) (by simp only [hcl]; exact HVD.out) q false
        obtain ⟨dv, hdv⟩ : ∃ v, (clTo k q)[q]? = some v := ⟨(clTo k q)[q]'(by omega), by simp⟩
        have d0 : wr.cell? ⟨gD, q, none⟩ = some (.bool dv) := by
          have h1 := hk'.rD
          simp only [hcl] at h1
          rw [HVD.out] at h1
          rw [h1.cellK q (by omega), List.getElem?_map, hdv]; rfl
        have z0 : wr.frozen? ⟨gD, q, none⟩ = false := by
          have h1 := hk'.rD
          simp only [hcl] at h1
          rw [HVD.out] at h1
          exact World.ownsRow.frozenAt h1 q
        have q7 := hk'.blk.cell 7
        simp [KSt.cells] at q7
        rw [HVD.out] at q7
        have m8 : wr.cell? ⟨m, 8, none⟩ = some (.slice (some ⟨g, 0, none⟩) nk cap) := ((h.blk.of (ht.block m hmlt nm)).cell 8).trans (by simp [HV.out])
        have g8 : wr.cell? ⟨g, j, none⟩ = some (.pointer (some ⟨b, 0, none⟩)) := by rw [← c0]; exact World.cell?_of_block (a := ⟨g, j, none⟩) (ht.block g hglt ng)
        have HC : Hid ((clTo k q).set q false = clTo k (q + 1)) := clTo_set k hL.dty hlt
        have hq0 : (0 : Int) ≤ (q : Int) := by omega
        have hq1 : (q : Int) < 16 := by omega
        clear hdv hcl
        go_wp2_with fail
        go_roundg (gk - 1)
        case measure => have := HK.out; omega
        case rel => exact ⟨q + 1, by have := HK.out; omega, by go_num, by rw [← HC.out]; exact hst, ht.setCell (.inl rfl) _⟩
      · obtain rfl : q = 16 := by omega
        have e16 : clTo k 16 = List.replicate 16 false := by unfold clTo; rw [List.drop_of_length_le (by rw [hL.dty]; omega)]; simp
        rw [e16] at hk'
        have hR := hPut.out own wr _ (fun _ _ => rfl) (fun x hx hne => ht.block x hx (fun e => hne 6 (by omega) (by rw [e]; exact tD))) ⟨_, _, _, _, _, _, _, hk'⟩
        clear e16
        go_wp2_with fail
        go_ret
        exact ⟨ret_int' (by rw [HA.out]), by rw [HA.out]; exact ⟨own, _, _, _, _, _, _, hR, fun _ _ => rfl, ht.mono (Nat.le_refl _) (fun x _ e => by rw [e, tD])⟩⟩
end
end Go.Proofs.YtinlkcmdbjcofaaGreat
