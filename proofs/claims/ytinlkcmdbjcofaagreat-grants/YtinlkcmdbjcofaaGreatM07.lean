import Derived.Test.YtinlkcmdbjcofaaGreatM06
/-
  A page comes in.
-/
namespace Go.Proofs.YtinlkcmdbjcofaaGreat
open Go.RowKit
set_option linter.unusedVariables false
attribute [local go_sem ↓] Go.wp_at_zero Go.wp_at_succ

section
variable {own own' : Nat → Nat × Nat} {id i : Nat} {w w1 : World} {b g cap : Nat} {k : KSt} {vB vU vI vY vC vD vO : Value}

/-- A page more is in. -/
theorem KRep.appIn (h : KRep own id i w b k vB vU vI vY vC vD vO) {p : Int} (hown : w1.ownsRow 0 3 1 (.slice (some ⟨g, 0, none⟩) (k.inp.length + 1) cap) (k.inp.length + 1) (k.inp.map (.int .i64) ++ [.int .i64 p]))
    (hg : (w.alloc (.cells [.int .i64 p].toArray 3)).grownBy w1 vI.ownBlock) (hat : vI.ownBlock = some g ∨ g = w.heap.size + 1) :
    KRep (set1 own (w.heap.size + 1) (id, kt i 3)) id i (w1.setCell ⟨b, 4, none⟩ (.slice (some ⟨g, 0, none⟩) (k.inp.length + 1) cap)) b { k with inp := k.inp ++ [p] } vB vU (.slice (some ⟨g, 0, none⟩) (k.inp.length + 1) cap) vY vC vD vO ∧
      (∀ x, x < w.heap.size → own x ≠ (id, kt i 0) → own x ≠ (id, kt i 3) → (w1.setCell ⟨b, 4, none⟩ (.slice (some ⟨g, 0, none⟩) (k.inp.length + 1) cap)).heap[x]? = w.heap[x]?) ∧ Blk w1 b (k.cells vB vU vI vY vC vD vO) 133 ∧ ∀ x, x < w.heap.size → own x ≠ (id, kt i 3) → w1.heap[x]? = w.heap[x]? := by
  have hblt := h.blk.lt
  have ho : ∀ x, x < w.heap.size → set1 own (w.heap.size + 1) (id, kt i 3) x = own x := set1_old (by omega)
  have hW1 : ∀ x, x < w.heap.size → own x ≠ (id, kt i 3) → w1.heap[x]? = w.heap[x]? := fun x hx hn =>
    (hg.block x (by simp; omega) (fun e => hn (h.tI x e.symm))).trans (Below.heap_alloc w _ x hx)
  have hW : ∀ x, x < w.heap.size → own x ≠ (id, kt i 0) → own x ≠ (id, kt i 3) → (w1.setCell ⟨b, 4, none⟩ (.slice (some ⟨g, 0, none⟩) (k.inp.length + 1) cap)).heap[x]? = w.heap[x]? := fun x hx h0 h3 =>
    (Below.heap_setCell _ _ _ _ (fun e => h0 (by simp at e; rw [e]; exact h.tm))).trans (hW1 x hx h3)
  have hr : ∀ {v : Value} {e c n t : Nat} {xs : List Value}, Row w v e c n xs → Tg own v (id, kt i t) → t ≠ 0 → t ≠ 3 → Row (w1.setCell ⟨b, 4, none⟩ (.slice (some ⟨g, 0, none⟩) (k.inp.length + 1) cap)) v e c n xs := fun hr ht h0 h3 =>
    hr.kept ht (fun x hx e => hW x hx (by rw [e]; intro e2; simp only [Prod.mk.injEq, true_and] at e2; exact kt_ne h0 e2) (by rw [e]; intro e2; simp only [Prod.mk.injEq, true_and] at e2; exact kt_ne h3 e2))
  have hbk : Blk w1 b (k.cells vB vU vI vY vC vD vO) 133 := h.blk.of (hW1 b hblt (by rw [h.tm]; intro e2; simp only [Prod.mk.injEq, true_and] at e2; exact kt_ne (by omega) e2))
  have hgb : g ≠ b := fun e => by
    rcases hat with h1 | h1
    · have := h.tI g h1
      rw [e, h.tm] at this
      simp only [Prod.mk.injEq, true_and] at this
      exact kt_ne (by omega) this
    · omega
  refine ⟨⟨hbk.set 4 _, hr h.rB h.tB (by omega) (by omega), hr h.rU h.tU (by omega) (by omega), ?_, hr h.rY h.tY (by omega) (by omega), hr h.rC h.tC (by omega) (by omega), hr h.rD h.tD (by omega) (by omega), hr h.rO h.tO (by omega) (by omega),
    (ho b hblt).trans h.tm, h.tB.congr h.rB ho, h.tU.congr h.rU ho, ?_, h.tY.congr h.rY ho, h.tC.congr h.rC ho, h.tD.congr h.rD ho, h.tO.congr h.rO ho⟩, hW, hbk, hW1⟩
  · have h1 : Row w1 (.slice (some ⟨g, 0, none⟩) (k.inp.length + 1) cap) 3 1 (k.inp.length + 1) (k.inp.map (.int .i64) ++ [.int .i64 p]) := hown
    have h2 := h1.other (a := ⟨b, 4, none⟩) (.slice (some ⟨g, 0, none⟩) (k.inp.length + 1) cap) (fun e => hgb (by simpa [Value.ownBlock] using e))
    simpa using h2
  · exact h.tI.app (fun x hx => by have := h.rI.lt x hx; omega) hat
end

theorem keptO_put {s : RSt} {env : Nat} {k k' : KSt} (h : keptO s env = some k) : keptO (putK s env k') env = some k' := by
  unfold keptO putK at *
  simp only [Int.toNat_natCast] at *
  cases hx : s.kept[env]? with
  | none => rw [hx] at h; simp at h
  | some x =>
    have := (List.getElem?_eq_some_iff.1 hx).1
    rw [List.getElem?_set_self this]
    rfl

/-- A page that comes in by the right h. -/
def inK (k : KSt) (page : Nat) (h : Int) : KSt := { k with inp := k.inp ++ [(page : Int)], hnd := k.hnd.set page h, ins := if (k.out[page]?).getD false then k.ins + 1 else k.ins }
def comesS (s : RSt) (k : KSt) (env page : Nat) : Option RSt :=
  match (if (k.inp.length : Int) < k.quota then firstS s env else none) with
  | some s1 => some (putK s1 env (inK k page ((s.rights.length : Int) + 1)))
  | none => if 0 < k.inp.length then some (putK (leavesS s k env (pickK k).toNat) env (inK (leaveK k (pickK k).toNat) page ((k.hnd[(pickK k).toNat]?).getD 0))) else none
section
variable {own : Nat → Nat × Nat} {id : Nat} {w : World} {m : Nat} {s : RSt} {nk : Nat} {vR vB vS vA vK : Value} {bs : List Nat} {k : KSt}

set_option maxHeartbeats 8000000 in
set_option maxRecDepth 100000 in
theorem rcomes_at (h : RefRep own id w m s nk vR vB vS vA vK bs) (hw : RWf s nk) {env page b : Nat} (he : env < nk) (hp : page < 16) (hO : keptO s env = some k) (hP : KPtr vK nk w env b) (hl : KLen k) (hq0 : 1 ≤ k.quota) (hq1 : k.quota ≤ 16) (hfs : ∀ s1, firstS s env = some s1 → s1.kept = s.kept)
    (hpk : 1 ≤ k.inp.length → ∃ p : Nat, pickK k = p ∧ p < 16 ∧ 1 ≤ (k.hnd[p]?).getD 0 ∧ (k.hnd[p]?).getD 0 ≤ 4611686018427387904 ∧ 1 ≤ (metFrom k 0).length) :
    Calls Tryz.prog 131 #[.pointer (some ⟨m, 0, none⟩), .int .i64 env, .int .i64 page] w fun e w' => ∃ (own' : Nat → Nat × Nat) (vR' vB' : Value) (bs' : List Nat) (s' : RSt) (k' : KSt), RefRep own' id w' m s' nk vR' vB' vS vA vK bs' ∧ keptO s' env = some k' ∧ KPtr vK nk w' env b ∧ (∀ x, x < w.heap.size → own' x = own x) ∧ Touch w.heap.size (fun x => (own x).1 = id) w w' ∧
      ((comesS s k env page = none ∧ s' = s ∧ e = .returned (.bool false)) ∨ (comesS s k env page = some s' ∧ e = .returned (.bool true))) := by
  obtain ⟨i0, gi, gz0, gz1, gz2⟩ := info_parts Tryz.infoIntK
  have k8 := h.blk.cell 8
  simp at k8
  obtain ⟨g, cap, b0, hv, hg, c0, hK, -⟩ := h.keptPut he hO
  obtain rfl : b = b0 := hP.uniq ⟨g, cap, hv, c0⟩
  rw [hv] at k8
  obtain ⟨vB', vU, vI, vY, vC, vD, vO, hk⟩ := hK
  have q0 := hk.blk.cell 0
  have q4 := hk.blk.cell 4
  simp [KSt.cells] at q0 q4
  obtain ⟨ao0, cap0, hv0, -⟩ := hk.rI.shapeK
  rw [hv0] at q4
  have hln := hl.inp
  have hel : (env : Int) < (nk : Int) := by omega
  have he0 : (0 : Int) ≤ (env : Int) := by omega
  clear hv hv0
  by_cases hlt : (k.inp.length : Int) < k.quota
  · go_enter Tryz.func131, Tryz.ntmps131
    go_wp2_with fail
    go_quiet (fail)
    go_wp2_with fail
    have hdn := below_drewN (Below.refl w.heap.size w) nq
    have h0 := h.below hdn
    refine (first_at h0 hw.ne hw.nf hw.by_ hw.ord hw.size env).mono ?_
    rintro e w5 (⟨hf, rfl, own1, vR1, vB1', bs1, hR1, ho1, ht1⟩ | ⟨s5, hf, rfl, own5, vR5, vB5, bs5, hR5, ho5, ht5⟩)
    · obtain ⟨w1, rfl⟩ : ∃ w1 : World, w1 = w5 := ⟨_, rfl⟩
      have HFI : Hid ((if (k.inp.length : Int) < k.quota then firstS s env else none) = none) := by unfold Hid; rw [if_pos hlt, hf]
      have hT1 : Hid (Touch w.heap.size (fun x => (own x).1 = id) w w1) := (Touch.of_below hdn _).trans (ht1.mono (Nat.le_refl _) (fun x _ e => by rcases e with e | e | e <;> rw [e]))
      have hP1 : KPtr vK nk w1 env b := hP.of h.tK h.rK.lt (fun x hx e => (ht1.block x hx (by rw [e]; simp)))
      obtain ⟨g1', cap1', b1', hv1, hg1, c1', hK1, -⟩ := hR1.keptPut he hO
      obtain rfl : b = b1' := hP1.uniq ⟨g1', cap1', hv1, c1'⟩
      obtain ⟨vBa, vUa, vIa, vYa, vCa, vDa, vOa, hk1⟩ := hK1
      have r4 := hk1.blk.cell 4
      simp [KSt.cells] at r4
      obtain ⟨aoa, capa, hva, -⟩ := hk1.rI.shapeK
      rw [hva] at r4
      clear hv1 hva
      by_cases hz : k.inp.length = 0
      · have HCE : Hid (comesS s k env page = none) := by unfold Hid comesS; rw [HFI.out]; simp only [if_neg (show ¬ 0 < k.inp.length by omega)]
        have hzi : ¬ (0 : Int) < (k.inp.length : Int) := by omega
        go_wp2_with fail
        go_ret
        exact ⟨own1, vR1, vB1', bs1, s, k, hR1, hO, hP1, ho1, hT1.out, .inl ⟨HCE.out, rfl, rfl⟩⟩
      · have hzi : (0 : Int) < (k.inp.length : Int) := by omega
        go_wp2_with fail
        obtain ⟨p, hpp, hp16, hh1, hh2, hmet⟩ := hpk (by omega)
        refine (kpick_any hk1 (by omega) hl.inp hl.uses hmet).mono ?_
        rintro e w2 ⟨rfl, hb2⟩
        rw [hpp]
        have hR2 := hR1.below hb2
        have hP2 : KPtr vK nk w2 env b := hP1.of hR1.tK hR1.rK.lt (fun x hx _ => hb2.block x hx)
        go_wp2_with fail
        refine (rleaves_at hR2 hw he hp16 hO hP2 hl).mono ?_
        rintro e w5 ⟨rfl, own5, hR5, -, hP5, ho5', ht5⟩
        have hz1 := hT1.out.size
        have hz2 := hb2.size
        have ho5 : ∀ x, x < w.heap.size → own5 x = own x := fun x hx => (ho5' x (by omega)).trans (ho1 x hx)
        have HT5 : Hid (Touch w.heap.size (fun x => (own x).1 = id) w w5) := (hT1.out.trans (Touch.of_below (hb2.mono hz1) _)).trans (ht5.mono (by omega) (fun x hx e => by rw [← ho1 x hx]; exact e))
        have hO5 : keptO (leavesS s k env p) env = some (leaveK k p) := keptO_put hO
        have l1 : (leaveK k p).inp.length ≤ 16 := Nat.le_trans (List.length_filter_le _ _) hl.inp
        have l2 : (leaveK k p).hnd.length = 16 := hl.hnd
        have l3 : (leaveK k p).out.length = 16 := by unfold leaveK; simp only; split <;> simp [hl.out]
        have li0 : 0 ≤ (leaveK k p).ins := hl.i0
        have li1 : (leaveK k p).ins ≤ k.uses.length := hl.i1
        have lu := hl.uses
        obtain ⟨hh, hhe⟩ : ∃ hh, (k.hnd[p]?).getD 0 = hh := ⟨_, rfl⟩
        have HCE : Hid (comesS s k env page = some (putK (leavesS s k env p) env (inK (leaveK k p) page hh))) := by
          unfold Hid comesS
          rw [HFI.out, hpp]
          simp only [Int.toNat_natCast, if_pos (show 0 < k.inp.length by omega), hhe]
        rw [hhe] at hh1 hh2 ⊢
        obtain ⟨K, hKd⟩ : ∃ K, leaveK k p = K := ⟨_, rfl⟩
        obtain ⟨s5, hs5⟩ : ∃ s5, leavesS s k env p = s5 := ⟨_, rfl⟩
        rw [hKd] at hO5 l1 l2 l3 li0 li1 HCE
        rw [hs5] at hO5 HCE hR5
        have hne : (hh == 0) = false := beq_eq_false_iff_ne.2 (by omega)
        clear hKd hs5 hhe ht5 hk1 hR1 hR2 hP1 hP2
        have hin5 : ∀ x p, own5 x = (id, kt env p) → (own5 x).1 = id := fun x p e => by rw [e]
        obtain ⟨g5, cap5, b5, hv5, hg5, c5, hK5, put5⟩ := hR5.keptPut he hO5
        obtain rfl : b = b5 := hP5.uniq ⟨g5, cap5, hv5, c5⟩
        have hPut5 : Hid (∀ (own' : Nat → Nat × Nat) (W : World) (k' : KSt), (∀ x, x < w5.heap.size → own' x = own5 x) → (∀ x, x < w5.heap.size → (∀ t, t < 16 → own5 x ≠ (id, kt env t)) → W.heap[x]? = w5.heap[x]?) → KAt own' id env W b k' → RefRep own' id W m { s5 with kept := s5.kept.set env (some k') } nk vR1 vB1' vS vA vK bs1) := put5
        obtain ⟨vB1, vU1, vI1, vY1, vC1, vD1, vO1, hk5⟩ := hK5
        obtain ⟨aoI, capI, hvI, -⟩ := hk5.rI.shapeK
        have hRI := hk5.rI.alloc (.cells [.int .i64 page].toArray 3)
        have m4 := hk5.blk.cell 4
        simp [KSt.cells] at m4
        rw [hvI] at m4 hRI
        have HvI : Hid (vI1 = .slice aoI K.inp.length capI) := hvI
        obtain ⟨gY, capY, hvY, hcY, hfY⟩ := hk5.rY.form (by rw [l2]; omega)
        obtain ⟨gO, capO, hvO, hcO, -⟩ := hk5.rO.form (by rw [l3]; omega)
        obtain ⟨yv, hyv⟩ : ∃ c, K.hnd[page]? = some c := ⟨K.hnd[page]'(by rw [l2]; exact hp), by simp⟩
        obtain ⟨ov, hov⟩ : ∃ c, K.out[page]? = some c := ⟨K.out[page]'(by rw [l3]; exact hp), by simp⟩
        have tY : own5 gY = (id, kt env 4) := hk5.tY gY (by rw [hvY]; rfl)
        have tO : own5 gO = (id, kt env 7) := hk5.tO gO (by rw [hvO]; rfl)
        have yY : w5.cell? ⟨gY, page, none⟩ = some (.int .i64 yv) := by rw [hcY _ (by rw [l2]; omega), List.getElem?_map, hyv]; rfl
        have yO : w5.cell? ⟨gO, page, none⟩ = some (.bool ov) := by rw [hcO _ (by rw [l3]; omega), List.getElem?_map, hov]; rfl
        have yF := hfY page
        have hYl := hk5.rY.lt gY (by rw [hvY]; rfl)
        have hOl := hk5.rO.lt gO (by rw [hvO]; rfl)
        have hbl5 := hk5.blk.lt
        have HOV : Hid (K.out[page]? = some ov) := hov
        clear hv5 put5 hvI hcY hcO hfY hyv hov
        go_wp2_with (at_builtin; refine wpList_append_lies _ rfl (.tmp 52) (.tmp 54) 62 rfl 0 3 i0 _ 1 8 Tryz.underlying62 gi gz0 gz1 gz2 rfl (by decide) (.slice aoI K.inp.length capI) K.inp.length _ rfl hRI ⟨w5.heap.size, 0, none⟩ 1 1 [.int .i64 page] rfl rfl ?c1 ?c2 (by omega) ?b1 ?b2 (by omega) (w5.heap.size + 1) (by simp) ?nx)
        case c1 => exact World.news_of_block (Blk.new w5 [Value.int .i64 page] 3)
        case c2 => first | rfl | exact oneCell_intK _
        case b1 => unfold maxLen; omega
        case b2 => omega
        case nx =>
          intro g1 cap1 w6 hown hgrow hat hlt1
          rw [← HvI.out] at hgrow hat
          obtain ⟨hk6, hW6, hb6, hw6⟩ := hk5.appIn hown hgrow hat
          have kk : ∀ {x y p r : Nat}, own5 x = (id, kt env p) → own5 y = (id, kt env r) → p ≠ r → x ≠ y := fun h1 h2 hne e => by
            rw [e, h2] at h1
            simp only [Prod.mk.injEq, true_and] at h1
            exact kt_ne (Ne.symm hne) h1
          have tb := hk5.tm
          have n1 : b ≠ gY := kk tb tY (by omega)
          have n2 : gY ≠ b := kk tY tb (by omega)
          have n3 : b ≠ gO := kk tb tO (by omega)
          have n4 : gO ≠ b := kk tO tb (by omega)
          have n5 : gY ≠ gO := kk tY tO (by omega)
          have n6 : gO ≠ gY := kk tO tY (by omega)
          have wY := hw6 gY hYl (by rw [tY]; intro e2; simp only [Prod.mk.injEq, true_and] at e2; exact kt_ne (by omega) e2)
          have wO := hw6 gO hOl (by rw [tO]; intro e2; simp only [Prod.mk.injEq, true_and] at e2; exact kt_ne (by omega) e2)
          have cY : w6.cell? ⟨gY, page, none⟩ = some (.int .i64 yv) := (World.cell?_of_block (a := ⟨gY, page, none⟩) wY).trans yY
          have cO : w6.cell? ⟨gO, page, none⟩ = some (.bool ov) := (World.cell?_of_block (a := ⟨gO, page, none⟩) wO).trans yO
          have cF : w6.frozen? ⟨gY, page, none⟩ = false := (World.frozen?_of_block (a := ⟨gY, page, none⟩) wY).trans yF
          have d4 := hb6.cell 4
          have d5 := hb6.cell 5
          have d8 := hb6.cell 8
          have d10 := hb6.cell 10
          simp [KSt.cells] at d4 d5 d8 d10
          rw [HvI.out] at d4
          rw [hvY] at d5
          rw [hvO] at d8
          have z4 := hb6.frozen 4
          have z10 := hb6.frozen 10
          have hwi : IntKind.i64.wrap (K.ins + 1) = K.ins + 1 := by rw [IntKind.wrap_i64]; omega
          have hp0 : (0 : Int) ≤ (page : Int) := by omega
          have hp1 : (page : Int) < (K.hnd.length : Int) := by rw [l2]; omega
          have hp2 : (page : Int) < (K.out.length : Int) := by rw [l3]; omega
          have hk7 := hk6.setHnd hvY page hh
          have hT5 : Touch w.heap.size (fun x => (own x).1 = id) w w5 := HT5.out
          have hz5 := hT5.size
          have hin : ∀ x t, own5 x = (id, t) → (own x).1 = id ∨ w.heap.size ≤ x := fun x t e => by
            rcases Nat.lt_or_ge x w.heap.size with h1 | h1
            · left; rw [← ho5 x h1, e]
            · exact .inr h1
          have hT6 : Touch w.heap.size (fun x => (own x).1 = id) w ((w6.setCell ⟨b, 4, none⟩ (.slice (some ⟨g1, 0, none⟩) (K.inp.length + 1) cap1)).setCell ⟨gY, page, none⟩ (.int .i64 hh)) :=
            ((((hT5.alloc hz5 _).grown hgrow (by simp; omega) (fun x hx => hin x _ (hk5.tI x hx))).setCell (hin b _ tb) _).setCell (hin gY _ tY) _)
          have hW7 : ∀ x, x < w5.heap.size → (∀ t, t < 16 → own5 x ≠ (id, kt env t)) → ((w6.setCell ⟨b, 4, none⟩ (.slice (some ⟨g1, 0, none⟩) (K.inp.length + 1) cap1)).setCell ⟨gY, page, none⟩ (.int .i64 hh)).heap[x]? = w5.heap[x]? := fun x hx hne =>
            (Below.heap_setCell _ _ _ _ (fun e => hne 4 (by omega) (by simp at e; rw [e]; exact tY))).trans (hW6 x hx (hne 0 (by omega)) (hne 3 (by omega)))
          have hag : ∀ x, x < w.heap.size → set1 own5 (w5.heap.size + 1) (id, kt env 3) x = own x := fun x hx => (set1_old (n := w5.heap.size) (by omega) x (by omega)).trans (ho5 x hx)
          have hnow : ∀ W : World, (∀ x, x < w5.heap.size → (∀ t, t < 16 → own5 x ≠ (id, kt env t)) → W.heap[x]? = w5.heap[x]?) → KPtr vK nk W env b := fun W hW => hP5.of hR5.tK hR5.rK.lt (fun x hx e => hW x hx (fun t _ => by rw [e]; simp [kt]; omega))
          cases ov
          · have hkF : inK K page hh = { K with inp := K.inp ++ [(page : Int)], hnd := K.hnd.set page hh } := by unfold inK; rw [HOV.out]; rfl
            have hRF := hPut5.out (set1 own5 (w5.heap.size + 1) (id, kt env 3)) _ (inK K page hh) (set1_old (by omega)) hW7 (by rw [hkF]; exact ⟨_, _, _, _, _, _, _, hk7⟩)
            have hKF := hnow _ hW7
            clear hk7 hk6 hkF hnow
            go_wp2_with fail
            go_ret
            exact ⟨_, _, _, _, _, _, hRF, keptO_put hO5, hKF, hag, hT6, .inr ⟨HCE.out, rfl⟩⟩
          · have hkF : inK K page hh = { K with inp := K.inp ++ [(page : Int)], hnd := K.hnd.set page hh, ins := K.ins + 1 } := by unfold inK; rw [HOV.out]; rfl
            have hW8 : ∀ x, x < w5.heap.size → (∀ t, t < 16 → own5 x ≠ (id, kt env t)) → (((w6.setCell ⟨b, 4, none⟩ (.slice (some ⟨g1, 0, none⟩) (K.inp.length + 1) cap1)).setCell ⟨gY, page, none⟩ (.int .i64 hh)).setCell ⟨b, 10, none⟩ (.int .i64 (K.ins + 1))).heap[x]? = w5.heap[x]? := fun x hx hne =>
              (Below.heap_setCell _ _ _ _ (fun e => hne 0 (by omega) (by simp at e; rw [e]; exact tb))).trans (hW7 x hx hne)
            have hRF := hPut5.out (set1 own5 (w5.heap.size + 1) (id, kt env 3)) _ (inK K page hh) (set1_old (by omega)) hW8 (by rw [hkF]; exact ⟨_, _, _, _, _, _, _, hk7.setIns _⟩)
            have hKF := hnow _ hW8
            have hT8 := hT6.setCell (p := ⟨b, 10, none⟩) (hin b _ tb) (.int .i64 (K.ins + 1))
            clear hk7 hk6 hkF hnow
            go_wp2_with fail
            go_ret
            exact ⟨_, _, _, _, _, _, hRF, keptO_put hO5, hKF, hag, hT8, .inr ⟨HCE.out, rfl⟩⟩
    · have hO5 : keptO s5 env = some k := by unfold keptO at hO ⊢; rw [hfs s5 hf]; exact hO
      have hP5 : KPtr vK nk w5 env b := hP.of h.tK h.rK.lt (fun x hx e => (ht5.block x hx (by rw [e]; simp)))
      have l1 := hl.inp
      have l2 := hl.hnd
      have l3 := hl.out
      have hne : ((s.rights.length : Int) + 1 == 0) = false := beq_eq_false_iff_ne.2 (by omega)
      have hsz := hw.size
      have li0 := hl.i0
      have li1 := hl.i1
      have lu := hl.uses
      have HCE : Hid (comesS s k env page = some (putK s5 env (inK k page ((s.rights.length : Int) + 1)))) := by unfold Hid comesS; rw [if_pos hlt, hf]
      have hin5 : ∀ x p, own5 x = (id, kt env p) → (own5 x).1 = id := fun x p e => by rw [e]
      obtain ⟨g5, cap5, b5, hv5, hg5, c5, hK5, put5⟩ := hR5.keptPut he hO5
      obtain rfl : b = b5 := hP5.uniq ⟨g5, cap5, hv5, c5⟩
      have hPut5 : Hid (∀ (own' : Nat → Nat × Nat) (W : World) (k' : KSt), (∀ x, x < w5.heap.size → own' x = own5 x) → (∀ x, x < w5.heap.size → (∀ t, t < 16 → own5 x ≠ (id, kt env t)) → W.heap[x]? = w5.heap[x]?) → KAt own' id env W b k' → RefRep own' id W m { s5 with kept := s5.kept.set env (some k') } nk vR5 vB5 vS vA vK bs5) := put5
      obtain ⟨vB1, vU1, vI1, vY1, vC1, vD1, vO1, hk5⟩ := hK5
      obtain ⟨aoI, capI, hvI, -⟩ := hk5.rI.shapeK
      have hRI := hk5.rI.alloc (.cells [.int .i64 page].toArray 3)
      have m4 := hk5.blk.cell 4
      simp [KSt.cells] at m4
      rw [hvI] at m4 hRI
      have HvI : Hid (vI1 = .slice aoI k.inp.length capI) := hvI
      obtain ⟨gY, capY, hvY, hcY, hfY⟩ := hk5.rY.form (by rw [l2]; omega)
      obtain ⟨gO, capO, hvO, hcO, -⟩ := hk5.rO.form (by rw [l3]; omega)
      obtain ⟨yv, hyv⟩ : ∃ c, k.hnd[page]? = some c := ⟨k.hnd[page]'(by rw [l2]; exact hp), by simp⟩
      obtain ⟨ov, hov⟩ : ∃ c, k.out[page]? = some c := ⟨k.out[page]'(by rw [l3]; exact hp), by simp⟩
      have tY : own5 gY = (id, kt env 4) := hk5.tY gY (by rw [hvY]; rfl)
      have tO : own5 gO = (id, kt env 7) := hk5.tO gO (by rw [hvO]; rfl)
      have yY : w5.cell? ⟨gY, page, none⟩ = some (.int .i64 yv) := by rw [hcY _ (by rw [l2]; omega), List.getElem?_map, hyv]; rfl
      have yO : w5.cell? ⟨gO, page, none⟩ = some (.bool ov) := by rw [hcO _ (by rw [l3]; omega), List.getElem?_map, hov]; rfl
      have yF := hfY page
      have hYl := hk5.rY.lt gY (by rw [hvY]; rfl)
      have hOl := hk5.rO.lt gO (by rw [hvO]; rfl)
      have hbl5 := hk5.blk.lt
      have HOV : Hid (k.out[page]? = some ov) := hov
      clear hv5 put5 hvI hcY hcO hfY hyv hov
      go_wp2_with (at_builtin; refine wpList_append_lies _ rfl (.tmp 52) (.tmp 54) 62 rfl 0 3 i0 _ 1 8 Tryz.underlying62 gi gz0 gz1 gz2 rfl (by decide) (.slice aoI k.inp.length capI) k.inp.length _ rfl hRI ⟨w5.heap.size, 0, none⟩ 1 1 [.int .i64 page] rfl rfl ?c1 ?c2 (by omega) ?b1 ?b2 (by omega) (w5.heap.size + 1) (by simp) ?nx)
      case c1 => exact World.news_of_block (Blk.new w5 [Value.int .i64 page] 3)
      case c2 => first | rfl | exact oneCell_intK _
      case b1 => unfold maxLen; omega
      case b2 => omega
      case nx =>
        intro g1 cap1 w6 hown hgrow hat hlt1
        rw [← HvI.out] at hgrow hat
        obtain ⟨hk6, hW6, hb6, hw6⟩ := hk5.appIn hown hgrow hat
        have kk : ∀ {x y p r : Nat}, own5 x = (id, kt env p) → own5 y = (id, kt env r) → p ≠ r → x ≠ y := fun h1 h2 hne e => by
          rw [e, h2] at h1
          simp only [Prod.mk.injEq, true_and] at h1
          exact kt_ne (Ne.symm hne) h1
        have tb := hk5.tm
        have n1 : b ≠ gY := kk tb tY (by omega)
        have n2 : gY ≠ b := kk tY tb (by omega)
        have n3 : b ≠ gO := kk tb tO (by omega)
        have n4 : gO ≠ b := kk tO tb (by omega)
        have n5 : gY ≠ gO := kk tY tO (by omega)
        have n6 : gO ≠ gY := kk tO tY (by omega)
        have wY := hw6 gY hYl (by rw [tY]; intro e2; simp only [Prod.mk.injEq, true_and] at e2; exact kt_ne (by omega) e2)
        have wO := hw6 gO hOl (by rw [tO]; intro e2; simp only [Prod.mk.injEq, true_and] at e2; exact kt_ne (by omega) e2)
        have cY : w6.cell? ⟨gY, page, none⟩ = some (.int .i64 yv) := (World.cell?_of_block (a := ⟨gY, page, none⟩) wY).trans yY
        have cO : w6.cell? ⟨gO, page, none⟩ = some (.bool ov) := (World.cell?_of_block (a := ⟨gO, page, none⟩) wO).trans yO
        have cF : w6.frozen? ⟨gY, page, none⟩ = false := (World.frozen?_of_block (a := ⟨gY, page, none⟩) wY).trans yF
        have d4 := hb6.cell 4
        have d5 := hb6.cell 5
        have d8 := hb6.cell 8
        have d10 := hb6.cell 10
        simp [KSt.cells] at d4 d5 d8 d10
        rw [HvI.out] at d4
        rw [hvY] at d5
        rw [hvO] at d8
        have z4 := hb6.frozen 4
        have z10 := hb6.frozen 10
        have hwi : IntKind.i64.wrap (k.ins + 1) = k.ins + 1 := by rw [IntKind.wrap_i64]; omega
        have hp0 : (0 : Int) ≤ (page : Int) := by omega
        have hp1 : (page : Int) < (k.hnd.length : Int) := by rw [l2]; omega
        have hp2 : (page : Int) < (k.out.length : Int) := by rw [l3]; omega
        have hk7 := hk6.setHnd hvY page ((s.rights.length : Int) + 1)
        have hT5 : Touch w.heap.size (fun x => (own x).1 = id) w w5 := (Touch.of_below hdn _).trans (ht5.mono (Nat.le_refl _) (fun x _ e => by rcases e with e | e | e <;> rw [e]))
        have hz5 := hT5.size
        have hin : ∀ x t, own5 x = (id, t) → (own x).1 = id ∨ w.heap.size ≤ x := fun x t e => by
          rcases Nat.lt_or_ge x w.heap.size with h1 | h1
          · left; rw [← ho5 x h1, e]
          · exact .inr h1
        have hT6 : Touch w.heap.size (fun x => (own x).1 = id) w ((w6.setCell ⟨b, 4, none⟩ (.slice (some ⟨g1, 0, none⟩) (k.inp.length + 1) cap1)).setCell ⟨gY, page, none⟩ (.int .i64 ((s.rights.length : Int) + 1))) :=
          ((((hT5.alloc hz5 _).grown hgrow (by simp; omega) (fun x hx => hin x _ (hk5.tI x hx))).setCell (hin b _ tb) _).setCell (hin gY _ tY) _)
        have hW7 : ∀ x, x < w5.heap.size → (∀ t, t < 16 → own5 x ≠ (id, kt env t)) → ((w6.setCell ⟨b, 4, none⟩ (.slice (some ⟨g1, 0, none⟩) (k.inp.length + 1) cap1)).setCell ⟨gY, page, none⟩ (.int .i64 ((s.rights.length : Int) + 1))).heap[x]? = w5.heap[x]? := fun x hx hne =>
          (Below.heap_setCell _ _ _ _ (fun e => hne 4 (by omega) (by simp at e; rw [e]; exact tY))).trans (hW6 x hx (hne 0 (by omega)) (hne 3 (by omega)))
        have hag : ∀ x, x < w.heap.size → set1 own5 (w5.heap.size + 1) (id, kt env 3) x = own x := fun x hx => (set1_old (n := w5.heap.size) (by omega) x (by omega)).trans (ho5 x hx)
        have hnow : ∀ W : World, (∀ x, x < w5.heap.size → (∀ t, t < 16 → own5 x ≠ (id, kt env t)) → W.heap[x]? = w5.heap[x]?) → KPtr vK nk W env b := fun W hW => hP5.of hR5.tK hR5.rK.lt (fun x hx e => hW x hx (fun t _ => by rw [e]; simp [kt]; omega))
        cases ov
        · have hkF : inK k page ((s.rights.length : Int) + 1) = { k with inp := k.inp ++ [(page : Int)], hnd := k.hnd.set page ((s.rights.length : Int) + 1) } := by unfold inK; rw [HOV.out]; rfl
          have hRF := hPut5.out (set1 own5 (w5.heap.size + 1) (id, kt env 3)) _ (inK k page ((s.rights.length : Int) + 1)) (set1_old (by omega)) hW7 (by rw [hkF]; exact ⟨_, _, _, _, _, _, _, hk7⟩)
          have hKF := hnow _ hW7
          clear hk7 hk6 hkF hnow
          go_wp2_with fail
          go_ret
          exact ⟨_, _, _, _, _, _, hRF, keptO_put hO5, hKF, hag, hT6, .inr ⟨HCE.out, rfl⟩⟩
        · have hkF : inK k page ((s.rights.length : Int) + 1) = { k with inp := k.inp ++ [(page : Int)], hnd := k.hnd.set page ((s.rights.length : Int) + 1), ins := k.ins + 1 } := by unfold inK; rw [HOV.out]; rfl
          have hW8 : ∀ x, x < w5.heap.size → (∀ t, t < 16 → own5 x ≠ (id, kt env t)) → (((w6.setCell ⟨b, 4, none⟩ (.slice (some ⟨g1, 0, none⟩) (k.inp.length + 1) cap1)).setCell ⟨gY, page, none⟩ (.int .i64 ((s.rights.length : Int) + 1))).setCell ⟨b, 10, none⟩ (.int .i64 (k.ins + 1))).heap[x]? = w5.heap[x]? := fun x hx hne =>
            (Below.heap_setCell _ _ _ _ (fun e => hne 0 (by omega) (by simp at e; rw [e]; exact tb))).trans (hW7 x hx hne)
          have hRF := hPut5.out (set1 own5 (w5.heap.size + 1) (id, kt env 3)) _ (inK k page ((s.rights.length : Int) + 1)) (set1_old (by omega)) hW8 (by rw [hkF]; exact ⟨_, _, _, _, _, _, _, hk7.setIns _⟩)
          have hKF := hnow _ hW8
          have hT8 := hT6.setCell (p := ⟨b, 10, none⟩) (hin b _ tb) (.int .i64 (k.ins + 1))
          clear hk7 hk6 hkF hnow
          go_wp2_with fail
          go_ret
          exact ⟨_, _, _, _, _, _, hRF, keptO_put hO5, hKF, hag, hT8, .inr ⟨HCE.out, rfl⟩⟩
  · go_enter Tryz.func131, Tryz.ntmps131
    go_wp2_with fail
    go_quiet (fail)
    have hdn := below_drewN (Below.refl w.heap.size w) nq
    have hR1 := h.below hdn
    have hk1 := hk.below hdn
    have HFI : Hid ((if (k.inp.length : Int) < k.quota then firstS s env else none) = none) := by unfold Hid; rw [if_neg (by omega)]
    have hT1 : Hid (Touch w.heap.size (fun x => (own x).1 = id) w (w.drewN nq)) := Touch.of_below hdn _
    have hP1 : KPtr vK nk (w.drewN nq) env b := hP.of h.tK h.rK.lt (fun x hx e => hdn.block x hx)
    obtain ⟨own1, hown1⟩ : ∃ own1 : Nat → Nat × Nat, own1 = own := ⟨_, rfl⟩
    have ho1 : ∀ x, x < w.heap.size → own1 x = own x := fun x _ => by rw [hown1]
    have hR1' : RefRep own1 id (w.drewN nq) m s nk vR vB vS vA vK bs := by rw [hown1]; exact hR1
    have hk1' : KRep own1 id env (w.drewN nq) b k vB' vU vI vY vC vD vO := by rw [hown1]; exact hk1
    clear hown1 hR1 hk1
    have hR1 := hR1'
    have hk1 := hk1'
    clear hR1' hk1'
    have hz : ¬ k.inp.length = 0 := by omega
    have hzi : (0 : Int) < (k.inp.length : Int) := by omega
    go_wp2_with fail
    obtain ⟨p, hpp, hp16, hh1, hh2, hmet⟩ := hpk (by omega)
    refine (kpick_any hk1 (by omega) hl.inp hl.uses hmet).mono ?_
    rintro e w2 ⟨rfl, hb2⟩
    rw [hpp]
    have hR2 := hR1.below hb2
    have hP2 : KPtr vK nk w2 env b := hP1.of hR1.tK hR1.rK.lt (fun x hx _ => hb2.block x hx)
    go_wp2_with fail
    refine (rleaves_at hR2 hw he hp16 hO hP2 hl).mono ?_
    rintro e w5 ⟨rfl, own5, hR5, -, hP5, ho5', ht5⟩
    have hz1 := hT1.out.size
    have hz2 := hb2.size
    have ho5 : ∀ x, x < w.heap.size → own5 x = own x := fun x hx => (ho5' x (by omega)).trans (ho1 x hx)
    have HT5 : Hid (Touch w.heap.size (fun x => (own x).1 = id) w w5) := (hT1.out.trans (Touch.of_below (hb2.mono hz1) _)).trans (ht5.mono (by omega) (fun x hx e => by rw [← ho1 x hx]; exact e))
    have hO5 : keptO (leavesS s k env p) env = some (leaveK k p) := keptO_put hO
    have l1 : (leaveK k p).inp.length ≤ 16 := Nat.le_trans (List.length_filter_le _ _) hl.inp
    have l2 : (leaveK k p).hnd.length = 16 := hl.hnd
    have l3 : (leaveK k p).out.length = 16 := by unfold leaveK; simp only; split <;> simp [hl.out]
    have li0 : 0 ≤ (leaveK k p).ins := hl.i0
    have li1 : (leaveK k p).ins ≤ k.uses.length := hl.i1
    have lu := hl.uses
    obtain ⟨hh, hhe⟩ : ∃ hh, (k.hnd[p]?).getD 0 = hh := ⟨_, rfl⟩
    have HCE : Hid (comesS s k env page = some (putK (leavesS s k env p) env (inK (leaveK k p) page hh))) := by
      unfold Hid comesS
      rw [HFI.out, hpp]
      simp only [Int.toNat_natCast, if_pos (show 0 < k.inp.length by omega), hhe]
    rw [hhe] at hh1 hh2 ⊢
    obtain ⟨K, hKd⟩ : ∃ K, leaveK k p = K := ⟨_, rfl⟩
    obtain ⟨s5, hs5⟩ : ∃ s5, leavesS s k env p = s5 := ⟨_, rfl⟩
    rw [hKd] at hO5 l1 l2 l3 li0 li1 HCE
    rw [hs5] at hO5 HCE hR5
    have hne : (hh == 0) = false := beq_eq_false_iff_ne.2 (by omega)
    clear hKd hs5 hhe ht5 hk1 hR1 hR2 hP1 hP2
    have hin5 : ∀ x p, own5 x = (id, kt env p) → (own5 x).1 = id := fun x p e => by rw [e]
    obtain ⟨g5, cap5, b5, hv5, hg5, c5, hK5, put5⟩ := hR5.keptPut he hO5
    obtain rfl : b = b5 := hP5.uniq ⟨g5, cap5, hv5, c5⟩
    have hPut5 : Hid (∀ (own' : Nat → Nat × Nat) (W : World) (k' : KSt), (∀ x, x < w5.heap.size → own' x = own5 x) → (∀ x, x < w5.heap.size → (∀ t, t < 16 → own5 x ≠ (id, kt env t)) → W.heap[x]? = w5.heap[x]?) → KAt own' id env W b k' → RefRep own' id W m { s5 with kept := s5.kept.set env (some k') } nk vR vB vS vA vK bs) := put5
    obtain ⟨vB1, vU1, vI1, vY1, vC1, vD1, vO1, hk5⟩ := hK5
    obtain ⟨aoI, capI, hvI, -⟩ := hk5.rI.shapeK
    have hRI := hk5.rI.alloc (.cells [.int .i64 page].toArray 3)
    have m4 := hk5.blk.cell 4
    simp [KSt.cells] at m4
    rw [hvI] at m4 hRI
    have HvI : Hid (vI1 = .slice aoI K.inp.length capI) := hvI
    obtain ⟨gY, capY, hvY, hcY, hfY⟩ := hk5.rY.form (by rw [l2]; omega)
    obtain ⟨gO, capO, hvO, hcO, -⟩ := hk5.rO.form (by rw [l3]; omega)
    obtain ⟨yv, hyv⟩ : ∃ c, K.hnd[page]? = some c := ⟨K.hnd[page]'(by rw [l2]; exact hp), by simp⟩
    obtain ⟨ov, hov⟩ : ∃ c, K.out[page]? = some c := ⟨K.out[page]'(by rw [l3]; exact hp), by simp⟩
    have tY : own5 gY = (id, kt env 4) := hk5.tY gY (by rw [hvY]; rfl)
    have tO : own5 gO = (id, kt env 7) := hk5.tO gO (by rw [hvO]; rfl)
    have yY : w5.cell? ⟨gY, page, none⟩ = some (.int .i64 yv) := by rw [hcY _ (by rw [l2]; omega), List.getElem?_map, hyv]; rfl
    have yO : w5.cell? ⟨gO, page, none⟩ = some (.bool ov) := by rw [hcO _ (by rw [l3]; omega), List.getElem?_map, hov]; rfl
    have yF := hfY page
    have hYl := hk5.rY.lt gY (by rw [hvY]; rfl)
    have hOl := hk5.rO.lt gO (by rw [hvO]; rfl)
    have hbl5 := hk5.blk.lt
    have HOV : Hid (K.out[page]? = some ov) := hov
    clear hv5 put5 hvI hcY hcO hfY hyv hov
    go_wp2_with (at_builtin; refine wpList_append_lies _ rfl (.tmp 52) (.tmp 54) 62 rfl 0 3 i0 _ 1 8 Tryz.underlying62 gi gz0 gz1 gz2 rfl (by decide) (.slice aoI K.inp.length capI) K.inp.length _ rfl hRI ⟨w5.heap.size, 0, none⟩ 1 1 [.int .i64 page] rfl rfl ?c1 ?c2 (by omega) ?b1 ?b2 (by omega) (w5.heap.size + 1) (by simp) ?nx)
    case c1 => exact World.news_of_block (Blk.new w5 [Value.int .i64 page] 3)
    case c2 => first | rfl | exact oneCell_intK _
    case b1 => unfold maxLen; omega
    case b2 => omega
    case nx =>
      intro g1 cap1 w6 hown hgrow hat hlt1
      rw [← HvI.out] at hgrow hat
      obtain ⟨hk6, hW6, hb6, hw6⟩ := hk5.appIn hown hgrow hat
      have kk : ∀ {x y p r : Nat}, own5 x = (id, kt env p) → own5 y = (id, kt env r) → p ≠ r → x ≠ y := fun h1 h2 hne e => by
        rw [e, h2] at h1
        simp only [Prod.mk.injEq, true_and] at h1
        exact kt_ne (Ne.symm hne) h1
      have tb := hk5.tm
      have n1 : b ≠ gY := kk tb tY (by omega)
      have n2 : gY ≠ b := kk tY tb (by omega)
      have n3 : b ≠ gO := kk tb tO (by omega)
      have n4 : gO ≠ b := kk tO tb (by omega)
      have n5 : gY ≠ gO := kk tY tO (by omega)
      have n6 : gO ≠ gY := kk tO tY (by omega)
      have wY := hw6 gY hYl (by rw [tY]; intro e2; simp only [Prod.mk.injEq, true_and] at e2; exact kt_ne (by omega) e2)
      have wO := hw6 gO hOl (by rw [tO]; intro e2; simp only [Prod.mk.injEq, true_and] at e2; exact kt_ne (by omega) e2)
      have cY : w6.cell? ⟨gY, page, none⟩ = some (.int .i64 yv) := (World.cell?_of_block (a := ⟨gY, page, none⟩) wY).trans yY
      have cO : w6.cell? ⟨gO, page, none⟩ = some (.bool ov) := (World.cell?_of_block (a := ⟨gO, page, none⟩) wO).trans yO
      have cF : w6.frozen? ⟨gY, page, none⟩ = false := (World.frozen?_of_block (a := ⟨gY, page, none⟩) wY).trans yF
      have d4 := hb6.cell 4
      have d5 := hb6.cell 5
      have d8 := hb6.cell 8
      have d10 := hb6.cell 10
      simp [KSt.cells] at d4 d5 d8 d10
      rw [HvI.out] at d4
      rw [hvY] at d5
      rw [hvO] at d8
      have z4 := hb6.frozen 4
      have z10 := hb6.frozen 10
      have hwi : IntKind.i64.wrap (K.ins + 1) = K.ins + 1 := by rw [IntKind.wrap_i64]; omega
      have hp0 : (0 : Int) ≤ (page : Int) := by omega
      have hp1 : (page : Int) < (K.hnd.length : Int) := by rw [l2]; omega
      have hp2 : (page : Int) < (K.out.length : Int) := by rw [l3]; omega
      have hk7 := hk6.setHnd hvY page hh
      have hT5 : Touch w.heap.size (fun x => (own x).1 = id) w w5 := HT5.out
      have hz5 := hT5.size
      have hin : ∀ x t, own5 x = (id, t) → (own x).1 = id ∨ w.heap.size ≤ x := fun x t e => by
        rcases Nat.lt_or_ge x w.heap.size with h1 | h1
        · left; rw [← ho5 x h1, e]
        · exact .inr h1
      have hT6 : Touch w.heap.size (fun x => (own x).1 = id) w ((w6.setCell ⟨b, 4, none⟩ (.slice (some ⟨g1, 0, none⟩) (K.inp.length + 1) cap1)).setCell ⟨gY, page, none⟩ (.int .i64 hh)) :=
        ((((hT5.alloc hz5 _).grown hgrow (by simp; omega) (fun x hx => hin x _ (hk5.tI x hx))).setCell (hin b _ tb) _).setCell (hin gY _ tY) _)
      have hW7 : ∀ x, x < w5.heap.size → (∀ t, t < 16 → own5 x ≠ (id, kt env t)) → ((w6.setCell ⟨b, 4, none⟩ (.slice (some ⟨g1, 0, none⟩) (K.inp.length + 1) cap1)).setCell ⟨gY, page, none⟩ (.int .i64 hh)).heap[x]? = w5.heap[x]? := fun x hx hne =>
        (Below.heap_setCell _ _ _ _ (fun e => hne 4 (by omega) (by simp at e; rw [e]; exact tY))).trans (hW6 x hx (hne 0 (by omega)) (hne 3 (by omega)))
      have hag : ∀ x, x < w.heap.size → set1 own5 (w5.heap.size + 1) (id, kt env 3) x = own x := fun x hx => (set1_old (n := w5.heap.size) (by omega) x (by omega)).trans (ho5 x hx)
      have hnow : ∀ W : World, (∀ x, x < w5.heap.size → (∀ t, t < 16 → own5 x ≠ (id, kt env t)) → W.heap[x]? = w5.heap[x]?) → KPtr vK nk W env b := fun W hW => hP5.of hR5.tK hR5.rK.lt (fun x hx e => hW x hx (fun t _ => by rw [e]; simp [kt]; omega))
      cases ov
      · have hkF : inK K page hh = { K with inp := K.inp ++ [(page : Int)], hnd := K.hnd.set page hh } := by unfold inK; rw [HOV.out]; rfl
        have hRF := hPut5.out (set1 own5 (w5.heap.size + 1) (id, kt env 3)) _ (inK K page hh) (set1_old (by omega)) hW7 (by rw [hkF]; exact ⟨_, _, _, _, _, _, _, hk7⟩)
        have hKF := hnow _ hW7
        clear hk7 hk6 hkF hnow
        go_wp2_with fail
        go_ret
        exact ⟨_, _, _, _, _, _, hRF, keptO_put hO5, hKF, hag, hT6, .inr ⟨HCE.out, rfl⟩⟩
      · have hkF : inK K page hh = { K with inp := K.inp ++ [(page : Int)], hnd := K.hnd.set page hh, ins := K.ins + 1 } := by unfold inK; rw [HOV.out]; rfl
        have hW8 : ∀ x, x < w5.heap.size → (∀ t, t < 16 → own5 x ≠ (id, kt env t)) → (((w6.setCell ⟨b, 4, none⟩ (.slice (some ⟨g1, 0, none⟩) (K.inp.length + 1) cap1)).setCell ⟨gY, page, none⟩ (.int .i64 hh)).setCell ⟨b, 10, none⟩ (.int .i64 (K.ins + 1))).heap[x]? = w5.heap[x]? := fun x hx hne =>
          (Below.heap_setCell _ _ _ _ (fun e => hne 0 (by omega) (by simp at e; rw [e]; exact tb))).trans (hW7 x hx hne)
        have hRF := hPut5.out (set1 own5 (w5.heap.size + 1) (id, kt env 3)) _ (inK K page hh) (set1_old (by omega)) hW8 (by rw [hkF]; exact ⟨_, _, _, _, _, _, _, hk7.setIns _⟩)
        have hKF := hnow _ hW8
        have hT8 := hT6.setCell (p := ⟨b, 10, none⟩) (hin b _ tb) (.int .i64 (K.ins + 1))
        clear hk7 hk6 hkF hnow
        go_wp2_with fail
        go_ret
        exact ⟨_, _, _, _, _, _, hRF, keptO_put hO5, hKF, hag, hT8, .inr ⟨HCE.out, rfl⟩⟩
end
end Go.Proofs.YtinlkcmdbjcofaaGreat

/-
  Dirty.
-/
namespace Go.Proofs.YtinlkcmdbjcofaaGreat
open Go.RowKit
set_option linter.unusedVariables false
attribute [local go_sem ↓] Go.wp_at_zero Go.wp_at_succ

def dirtyTo (k : KSt) (q : Nat) : List Int := (List.range q).filterMap fun p : Nat => if (k.dty[p]?).getD false then some (p : Int) else none
theorem dirtyTo_succ (k : KSt) (q : Nat) : dirtyTo k (q + 1) = dirtyTo k q ++ if (k.dty[q]?).getD false then [(q : Int)] else [] := by
  unfold dirtyTo
  rw [List.range_succ, List.filterMap_append]
  congr 1
  simp only [List.filterMap_cons, List.filterMap_nil]
  cases (k.dty[q]?).getD false <;> rfl
theorem dirtyTo_le (k : KSt) (q : Nat) : (dirtyTo k q).length ≤ q := by
  unfold dirtyTo
  have := List.length_filterMap_le (fun p : Nat => if (k.dty[p]?).getD false then some (p : Int) else none) (List.range q)
  simpa using this
def dirtyR (s : RSt) (env : Int) : List Int × Int := if heldE s env ≠ 0 then ([], heldE s env) else match keptO s env with
  | none => ([], 0)
  | some k => (dirtyTo k 16, 0)

section
variable {own : Nat → Nat × Nat} {id : Nat} {w : World} {m : Nat} {s : RSt} {nk : Nat} {vR vB vS vA vK : Value} {bs : List Nat} {k : KSt}

set_option maxHeartbeats 4000000 in
set_option maxRecDepth 100000 in
theorem rdirty_any (h : RefRep own id w m s nk vR vB vS vA vK bs) (hw : RWf s nk) (env : Int) (hl : ∀ k, keptO s env = some k → KLen k) :
    Calls Tryz.prog 61 #[.pointer (some ⟨m, 0, none⟩), .int .i64 env] w fun e w' => ∃ v, e = .returned (.tuple #[v, .int .i64 (dirtyR s env).2]) ∧ Below w.heap.size w w' ∧ (∀ x, v.ownBlock = some x → w.heap.size ≤ x) ∧ Row w' v 3 1 (dirtyR s env).1.length ((dirtyR s env).1.map (.int .i64)) := by
  obtain ⟨i0, gi, gz0, gz1, gz2⟩ := info_parts Tryz.infoIntK
  rcases heldE_cases s env with ⟨y, hr, hy⟩ | ⟨j, k, hr, rfl, hj, hO⟩
  · have hy0 : (y != 0) = true := by rcases hy with rfl | rfl <;> rfl
    have HA : Hid (dirtyR s env = ([], y)) := by rcases hy with rfl | rfl <;> simp [Hid, dirtyR, hr]
    clear hy
    go_enter Tryz.func61, Tryz.ntmps61
    go_wp2_with fail
    refine (held_any h hw.al hw.ne hw.nk env).mono ?_
    rintro e w2 ⟨rfl, hw2⟩
    subst hw2
    rw [hr]
    clear hr
    go_wp2_with fail
    go_ret2
    rw [HA.out]
    exact ⟨_, rfl, Below.refl _ _, by simp [Value.ownBlock], Row.nil _ _ _⟩
  · have hL := hl k hO
    have HA : Hid (dirtyR s j = (dirtyTo k 16, 0)) := by simp [Hid, dirtyR, hr, hO]
    obtain ⟨g, cap, b, hv, hg, c0, hK, -⟩ := h.keptPut (by rw [hw.nk]; exact hj) hO
    obtain ⟨vB', vU, vI, vY, vC, vD, vO, hk⟩ := hK
    obtain ⟨gD, capD, hvD, hcD, -⟩ := hk.rD.form (by rw [hL.dty]; omega)
    have HD : Hid (∀ q : Nat, q < 16 → w.cell? ⟨gD, q, none⟩ = some (.bool ((k.dty[q]?).getD false))) := fun q hq => by
      rw [hcD _ (by rw [hL.dty]; omega), List.getElem?_map, List.getElem?_eq_getElem (by rw [hL.dty]; exact hq)]; rfl
    have hjl : (j : Int) < (nk : Int) := by rw [hw.nk]; omega
    have hj0 : (0 : Int) ≤ (j : Int) := by omega
    have hmlt := h.blk.lt
    have hglt : g < w.heap.size := h.rK.lt g (by rw [hv]; rfl)
    have hblt := hk.blk.lt
    have hDlt : gD < w.heap.size := hk.rD.lt gD (by rw [hvD]; rfl)
    have k8 := h.blk.cell 8
    simp at k8
    rw [hv] at k8
    have q7 := hk.blk.cell 7
    simp [KSt.cells] at q7
    rw [hvD, hL.dty] at q7
    clear hv hvD hcD hO
    go_enter Tryz.func61, Tryz.ntmps61
    go_wp2_with fail
    refine (held_any h hw.al hw.ne hw.nk j).mono ?_
    rintro e w2 ⟨rfl, hw2⟩
    subst hw2
    rw [hr]
    clear hr
    go_wp2_with fail
    go_loopg [7, 8] 16 (fun n v x wr => ∃ q : Nat, q + n = 16 ∧ x = .int .i64 q ∧ Below w2.heap.size w2 wr ∧ Row wr v 3 1 (dirtyTo k q).length ((dirtyTo k q).map (.int .i64)) ∧ ∀ x, v.ownBlock = some x → w2.heap.size ≤ x)
    case atStart => exact ⟨0, by omega, rfl, Below.refl _ _, Row.nil _ _ _, by simp [Value.ownBlock]⟩
    case round =>
      obtain ⟨q, hqk, rfl, hbl, hrow, hnew⟩ := hrel
      have HK : Hid (q + gk = 16) := hqk
      have hq : q ≤ 16 := by omega
      have hsz := hbl.size
      have hle := dirtyTo_le k q
      obtain ⟨aoL, capL, hvL, -⟩ := hrow.shapeK
      subst hvL
      clear hqk
      by_cases hlt : q < 16
      · have d8 := (hbl.cell (p := ⟨m, 8, none⟩) hmlt).trans k8
        have dg := (hbl.cell (p := ⟨g, j, none⟩) hglt).trans c0
        have d7 := (hbl.cell (p := ⟨b, 7, none⟩) hblt).trans q7
        have dD := (hbl.cell (p := ⟨gD, q, none⟩) hDlt).trans (HD.out q hlt)
        have HS := dirtyTo_succ k q
        have hq0 : (0 : Int) ≤ (q : Int) := by omega
        have hq1 : (q : Int) < 16 := by omega
        cases hd : (k.dty[q]?).getD false
        · rw [hd] at dD HS
          have HW : Hid (dirtyTo k (q + 1) = dirtyTo k q) := by simpa [Hid] using HS
          clear HS hd
          go_wp2_with fail
          go_roundg (gk - 1)
          case measure => have := HK.out; omega
          case rel => exact ⟨q + 1, by have := HK.out; omega, by go_num, hbl, by rw [HW.out]; exact hrow, hnew⟩
        · rw [hd] at dD HS
          have HW : Hid (dirtyTo k (q + 1) = dirtyTo k q ++ [(q : Int)]) := by simpa [Hid] using HS
          clear HS hd
          have hR' := hrow.alloc (.cells [.int .i64 q].toArray 3)
          have hN := Blk.new wr [Value.int .i64 q] 3
          go_wp2_with (at_builtin; refine wpList_append_lies _ rfl (.tmp 32) (.tmp 34) 62 rfl 0 3 i0 _ 1 8 Tryz.underlying62 gi gz0 gz1 gz2 rfl (by decide) (.slice aoL (dirtyTo k q).length capL) (dirtyTo k q).length _ rfl hR' ⟨wr.heap.size, 0, none⟩ 1 1 [.int .i64 q] rfl rfl ?c1 ?c2 (by omega) ?b1 ?b2 (by omega) (wr.heap.size + 1) (by simp) ?nx)
          case c1 => exact World.news_of_block hN
          case c2 => first | rfl | exact oneCell_intK _
          case b1 => unfold maxLen; omega
          case b2 => omega
          case nx =>
            intro g1 cap1 w4 hown hgrow hat hlt1
            go_wp2
            go_roundg (gk - 1)
            case measure => have := HK.out; omega
            case rel =>
              refine ⟨q + 1, by have := HK.out; omega, by go_num, (hbl.alloc hsz _).grown hgrow (by simp; omega) hnew, ?_, ?_⟩
              · rw [HW.out]
                simp only [List.length_append, List.map_append, List.length_cons, List.length_nil, List.map_cons, List.map_nil]
                exact hown
              · intro x hb
                simp [Value.ownBlock] at hb
                subst hb
                rcases hat with h | h
                · exact hnew _ h
                · omega
      · obtain rfl : q = 16 := by omega
        go_wp2_with fail
        go_ret2
        rw [HA.out]
        exact ⟨_, rfl, hbl, hnew, hrow⟩
end
end Go.Proofs.YtinlkcmdbjcofaaGreat

/-
  An access, Read, Write, Keep, Squeeze: what they do, as plain functions (their walks are still to be written).
-/
namespace Go.Proofs.YtinlkcmdbjcofaaGreat
open Go.RowKit
set_option linter.unusedVariables false

def useK (k : KSt) (page : Nat) (wt : Bool) : KSt := { k with uses := k.uses ++ [((page : Int), wt)] }
/-- The empty slot with the least number; -1, if there is none. -/
def leastEmpty (es : List Ent) : Int := match es.findIdx? (fun e => !e.used) with
  | some i => i
  | none => -1
/-- The slot that an entry goes to, where i is the slot of the one that is there, or -1. -/
def slotFor (s : RSt) (i : Int) : Int × RSt :=
  if 0 ≤ i then (i, s) else if 0 ≤ leastEmpty s.slots then (leastEmpty s.slots, s) else (s.turn, { s with turn := if s.turn + 1 = s.ns then 0 else s.turn + 1 })
def frameOf (s : RSt) (k : KSt) (page : Nat) : Int := ((s.rights[((k.hnd[page]?).getD 0 - 1).toNat]?).map RR.fr).getD 0
def refillS (s : RSt) (k : KSt) (env page : Nat) (wt : Bool) : RSt :=
  putK { (slotFor s (entI s env page)).2 with slots := s.slots.set (slotFor s (entI s env page)).1.toNat ⟨true, env, page, frameOf s k page, wt || chgB k page⟩ } env { k with refills := k.refills + 1 }
def dtyB (k : KSt) (page : Nat) : Bool := (k.dty[page]?).getD false
def markK (k : KSt) (page : Nat) (wt : Bool) : KSt := { k with chg := k.chg.set page (chgB k page || wt), dty := k.dty.set page (dtyB k page || wt) }
/-- Must an entry be put in? -/
def needB (s : RSt) (env page : Nat) (wt : Bool) : Bool := decide (entI s env page < 0) || (wt && !(((s.slots[(entI s env page).toNat]?).map Ent.wr).getD false))
/-- Behind the page has come in (or was in). -/
def touchS (s : RSt) (k : KSt) (env page : Nat) (wt : Bool) : RSt :=
  if needB s env page wt then putK (refillS (putK s env (useK k page wt)) (useK k page wt) env page wt) env (markK { useK k page wt with refills := k.refills + 1 } page wt)
  else putK s env (markK (useK k page wt) page wt)
def accessS (s : RSt) (k : KSt) (env page : Nat) (wt : Bool) : Option RSt :=
  if hasK k page then some (touchS s k env page wt) else match comesS s k env page with
    | none => none
    | some s1 => match keptO s1 env with
      | none => none
      | some k1 => some (touchS s1 k1 env page wt)
def readR (s : RSt) (env a : Int) : (Int × Int) × RSt :=
  if heldE s env ≠ 0 then ((0, heldE s env), s) else if a < 0 ∨ 63 < a then ((0, 6), s) else match keptO s env with
    | none => ((0, 0), s)
    | some k => match accessS s k env.toNat (a / 4).toNat false with
      | none => ((0, 12), s)
      | some s1 => ((((k.bytes[a.toNat]?).getD 0), 0), s1)
def writeR (s : RSt) (env a v : Int) : Int × RSt :=
  if heldE s env ≠ 0 then (heldE s env, s) else if a < 0 ∨ 63 < a ∨ v < 0 ∨ 255 < v then (6, s) else match keptO s env with
    | none => (0, s)
    | some k => match accessS s k env.toNat (a / 4).toNat true with
      | none => (12, s)
      | some s1 => match keptO s1 env with
        | none => (0, s1)
        | some k1 => (0, putK s1 env.toNat { k1 with bytes := k1.bytes.set a.toNat v })
def keepR (s : RSt) (env quota policy : Int) : Int × RSt :=
  if rawE s env ≠ 0 then (rawE s env, s) else if quota < 1 ∨ 16 < quota ∨ policy < 0 ∨ 2 < policy then (6, s) else if 0 < (listR s env).length then (15, s)
  else (0, putK s env.toNat (KSt.new quota policy))
end Go.Proofs.YtinlkcmdbjcofaaGreat
