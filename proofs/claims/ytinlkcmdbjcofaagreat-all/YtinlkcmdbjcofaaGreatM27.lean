import Derived.Test.YtinlkcmdbjcofaaGreatM26
/-
  The document's Keep.
-/
namespace Go.Proofs.YtinlkcmdbjcofaaGreat
open Go.RowKit
set_option linter.unusedVariables false
attribute [local go_sem ↓] Go.wp_at_zero Go.wp_at_succ

theorem Tryz.infoBoolK : (Tryz.prog.info? 4).map (fun i => (i.zero, i.size, i.bytes)) = some (some (.bool false), 1, 1) := by kernel_rfl
theorem oneCell_boolK (n : Bool) : ∀ u ∈ [Value.bool n], u.oneCell' = true := by
  intro u hu; simp at hu; subst hu; rfl
theorem oneCell_four : ∀ u ∈ [Value.int .i64 0, .int .i64 0, .int .i64 0, .int .i64 0], u.oneCell' = true := by
  intro u hu; simp at hu; subst hu; rfl
/-- A kept memory of which q pages are laid. -/
def partK (quota policy : Int) (q : Nat) : KSt := ⟨quota, policy, List.replicate (q * 4) 0, [], [], List.replicate q 0, List.replicate q false, List.replicate q false, List.replicate q false, 0, 0, 0⟩
theorem partK_all (quota policy : Int) : partK quota policy 16 = KSt.new quota policy := rfl
theorem partK_step (quota policy : Int) (q : Nat) : ({ partK quota policy q with hnd := (partK quota policy q).hnd ++ [0], chg := (partK quota policy q).chg ++ [false], dty := (partK quota policy q).dty ++ [false], out := (partK quota policy q).out ++ [false], bytes := (partK quota policy q).bytes ++ [0, 0, 0, 0] } : KSt) = partK quota policy (q + 1) := by
  have e : List.replicate (q * 4) (0 : Int) ++ [0, 0, 0, 0] = List.replicate ((q + 1) * 4) 0 := by
    rw [show (q + 1) * 4 = q * 4 + 4 by omega, ← List.replicate_append_replicate]; rfl
  unfold partK
  simp only [e, ← List.replicate_succ']

section
variable {own : Nat → Nat × Nat} {id : Nat} {w : World} {m : Nat} {s : RSt} {nk : Nat} {vR vB vS vA vK : Value} {bs : List Nat} {k : KSt}

/-- The pointer to a kept memory is written: the new one's. -/
theorem RefRep.layK {g cap b : Nat} (h : RefRep own id w m s nk vR vB vS vA vK bs) (hv : vK = .slice (some ⟨g, 0, none⟩) nk cap) (i : Nat) (hi : i < nk) {k : KSt} (hk : KAt own id i w b k) :
    RefRep own id (w.setCell ⟨g, i, none⟩ (.pointer (some ⟨b, 0, none⟩))) m { s with kept := s.kept.set i (some k) } nk vR vB vS vA vK bs := by
  have hg : own g = (id, 5) := h.tK g (by rw [hv]; rfl)
  have hW : ∀ b', b' < w.heap.size → own b' ≠ (id, 5) → (w.setCell ⟨g, i, none⟩ (.pointer (some ⟨b, 0, none⟩))).heap[b']? = w.heap[b']? := by
    intro b' hb h3
    exact Below.heap_setCell _ _ _ _ (fun e => h3 (by simp at e; rw [e]; exact hg))
  refine RefRep.putK (kept' := s.kept.set i (some k)) h (fun _ _ => rfl) (fun b hb _ h3 _ => hW b hb h3) (h.blk.of (hW m h.blk.lt (by rw [h.tm]; simp))) ?_ h.tK
  obtain ⟨ks, hK⟩ := h.rK
  have hl := hK.row.len
  simp at hl
  refine ⟨ks.set i (some b), ?_, by rw [List.length_set]; exact hK.len, fun q hq => ?_, fun q k2 hq => ?_⟩
  · have h1 := hK.row
    rw [hv] at h1 ⊢
    rw [List.map_set]
    exact h1.set _ _
  · by_cases e : i = q
    · subst e
      rw [List.getElem?_set_self (by rw [hK.len]; exact hi)] at hq
      simp at hq
    · rw [List.getElem?_set_ne e] at hq ⊢
      exact hK.no q hq
  · by_cases e : i = q
    · subst e
      rw [List.getElem?_set_self (by rw [hK.len]; exact hi)] at hq
      simp only [Option.some.injEq] at hq
      subst hq
      exact ⟨b, List.getElem?_set_self (by omega), hk.of (fun _ _ _ => rfl) (fun x hx j _ e2 => hW x hx (by rw [e2]; simp [kt]; omega))⟩
    · rw [List.getElem?_set_ne e] at hq ⊢
      obtain ⟨b2, h1, h2⟩ := hK.yes q k2 hq
      exact ⟨b2, h1, h2.of (fun _ _ _ => rfl) (fun x hx j _ e2 => hW x hx (by rw [e2]; simp [kt]; omega))⟩

set_option maxHeartbeats 8000000 in
set_option maxRecDepth 100000 in
theorem rkeep_any (h : RefRep own id w m s nk vR vB vS vA vK bs) (hw : RWf s nk) (env quota policy : Int) :
    Calls Tryz.prog 53 #[.pointer (some ⟨m, 0, none⟩), .int .i64 env, .int .i64 quota, .int .i64 policy] w fun e w' => e = .returned (.int .i64 (keepR s env quota policy).1) ∧ RefNext own id w m nk w' (keepR s env quota policy).2 := by
  rcases rawE_cases s env with ⟨y, hr, hy⟩ | ⟨hr, hal⟩
  · have hy0 : (y != 0) = true := by rcases hy with rfl | rfl <;> rfl
    have HA : Hid (keepR s env quota policy = (y, s)) := by rcases hy with rfl | rfl <;> simp [Hid, keepR, hr]
    clear hy
    go_enter Tryz.func53, Tryz.ntmps53
    go_wp2_with fail
    refine (raw_any h hw.al hw.ne hw.nk env).mono ?_
    rintro e w2 ⟨rfl, hw2⟩
    subst hw2
    rw [hr]
    clear hr
    go_wp2_with fail
    go_ret
    exact ⟨ret_int' (by rw [HA.out]), by rw [HA.out]; exact RefNext.refl h⟩
  by_cases hrg : quota < 1 ∨ 16 < quota ∨ policy < 0 ∨ 2 < policy
  · have HA : Hid (keepR s env quota policy = (6, s)) := by simp [Hid, keepR, hr, hrg]
    go_enter Tryz.func53, Tryz.ntmps53
    go_wp2_with fail
    refine (raw_any h hw.al hw.ne hw.nk env).mono ?_
    rintro e w2 ⟨rfl, hw2⟩
    subst hw2
    rw [hr]
    clear hr
    by_cases h0 : quota < 1
    · clear hrg
      go_wp2_with fail
      go_ret
      exact ⟨ret_int' (by rw [HA.out]), by rw [HA.out]; exact RefNext.refl h⟩
    · by_cases h1 : 16 < quota
      · clear hrg
        go_wp2_with fail
        go_ret
        exact ⟨ret_int' (by rw [HA.out]), by rw [HA.out]; exact RefNext.refl h⟩
      · by_cases h2 : policy < 0
        · clear hrg
          go_wp2_with fail
          go_ret
          exact ⟨ret_int' (by rw [HA.out]), by rw [HA.out]; exact RefNext.refl h⟩
        · have h3 : 2 < policy := by omega
          clear hrg
          go_wp2_with fail
          go_ret
          exact ⟨ret_int' (by rw [HA.out]), by rw [HA.out]; exact RefNext.refl h⟩
  have h0 : ¬ quota < 1 := by omega
  have h1 : ¬ 16 < quota := by omega
  have h2 : ¬ policy < 0 := by omega
  have h3 : ¬ 2 < policy := by omega
  have ht : toldR s env = listR s env := by unfold toldR; rw [hal]; rfl
  have hll := toldR_le s env
  have hsz := hw.size
  by_cases hlist : 0 < (listR s env).length
  · have HA : Hid (keepR s env quota policy = (15, s)) := by simp [Hid, keepR, hr, hrg, hlist]
    go_enter Tryz.func53, Tryz.ntmps53
    go_wp2_with fail
    refine (raw_any h hw.al hw.ne hw.nk env).mono ?_
    rintro e w2 ⟨rfl, hw2⟩
    subst hw2
    rw [hr]
    clear hr hrg
    go_wp2_with fail
    refine (rlist_uni h hw env).mono ?_
    rintro e w3 ⟨v, rfl, hb3, -, hrow⟩
    obtain ⟨ao, cap, hv, -⟩ := hrow.shapeK
    rw [ht] at hv hll
    have hpos : (0 : Int) < ((listR s env).length : Int) := by omega
    subst hv
    clear hrow
    go_wp2_with fail
    go_ret
    exact ⟨ret_int' (by rw [HA.out]), by rw [HA.out]; exact RefNext.of_below h hb3⟩
  · obtain ⟨j, rfl, hj⟩ := aliveB_nat hal
    have HA : Hid (keepR s j quota policy = (0, putK s j (KSt.new quota policy))) := by simp [Hid, keepR, hr, hrg, hlist]
    have hl0 : (listR s j).length = 0 := by omega
    have hjl : (j : Int) < (nk : Int) := by rw [hw.nk]; omega
    have hj0 : (0 : Int) ≤ (j : Int) := by omega
    obtain ⟨ks, hK⟩ := h.rK
    obtain ⟨g, cap, hv, hc, hfz⟩ := hK.row.form (by omega)
    have k8 := h.blk.cell 8
    simp at k8
    rw [hv] at k8
    have tg : own g = (id, 5) := h.tK g (by rw [hv]; rfl)
    have HV : Hid (vK = .slice (some ⟨g, 0, none⟩) nk cap) := hv
    have hglt : g < w.heap.size := h.rK.lt g (by rw [hv]; rfl)
    have hmlt := h.blk.lt
    have hkl := hK.len
    have hks : ks.length = nk := by have := hK.row.len; simpa using this
    obtain ⟨x0, hx0⟩ : ∃ x, ks[j]? = some x := ⟨ks[j]'(by omega), by simp⟩
    have cg : w.cell? ⟨g, j, none⟩ = some (kptr x0) := by rw [hc _ (by omega), List.getElem?_map, hx0]; rfl
    have zg := hfz j
    clear hv hc hfz
    obtain ⟨i0, gi, gz0, gz1, gz2⟩ := info_parts Tryz.infoIntK
    obtain ⟨j0, hi, hz0, hz1, hz2⟩ := info_parts Tryz.infoBoolK
    go_enter Tryz.func53, Tryz.ntmps53
    go_wp2_with fail
    refine (raw_any h hw.al hw.ne hw.nk j).mono ?_
    rintro e w2 ⟨rfl, hw2⟩
    subst hw2
    rw [hr]
    clear hr hrg
    go_wp2_with fail
    refine (rlist_uni h hw j).mono ?_
    rintro e w3 ⟨v, rfl, hb3, -, hrow⟩
    obtain ⟨ao, capL, hvL, -⟩ := hrow.shapeK
    rw [ht, hl0] at hvL
    subst hvL
    clear hrow ht hll
    have hR3 := h.below hb3
    have hs3 := hb3.size
    have hbk := Blk.new w3 ((partK quota policy 0).cells (.slice none 0 0) (.slice none 0 0) (.slice none 0 0) (.slice none 0 0) (.slice none 0 0) (.slice none 0 0) (.slice none 0 0)) 133
    have hba : Below w3.heap.size w3 (w3.alloc (.cells ((partK quota policy 0).cells (.slice none 0 0) (.slice none 0 0) (.slice none 0 0) (.slice none 0 0) (.slice none 0 0) (.slice none 0 0) (.slice none 0 0)).toArray 133)) := (Below.refl _ _).alloc (Nat.le_refl _) _
    obtain ⟨own0, hown0⟩ : ∃ own0, own0 = set1 own w3.heap.size (id, kt j 0) := ⟨_, rfl⟩
    have ho0 : ∀ x, x < w3.heap.size → own0 x = own x := fun x hx => by rw [hown0]; exact set1_old (n := w3.heap.size) (by omega) x hx
    have hot : own0 w3.heap.size = (id, kt j 0) := by rw [hown0]; unfold set1; simp
    have hk0 : KRep own0 id j (w3.alloc (.cells ((partK quota policy 0).cells (.slice none 0 0) (.slice none 0 0) (.slice none 0 0) (.slice none 0 0) (.slice none 0 0) (.slice none 0 0) (.slice none 0 0)).toArray 133)) w3.heap.size (partK quota policy 0) (.slice none 0 0) (.slice none 0 0) (.slice none 0 0) (.slice none 0 0) (.slice none 0 0) (.slice none 0 0) (.slice none 0 0) :=
      ⟨hbk, Row.nil _ _ _, Row.nil _ _ _, Row.nil _ _ _, Row.nil _ _ _, Row.nil _ _ _, Row.nil _ _ _, Row.nil _ _ _, hot, Tg.nil _ _, Tg.nil _ _, Tg.nil _ _, Tg.nil _ _, Tg.nil _ _, Tg.nil _ _, Tg.nil _ _⟩
    clear hown0 hbk
    go_wp2_with fail
    go_loopg [13] 16 (fun n x wr => ∃ (q : Nat) (own' : Nat → Nat × Nat) (vB' vY vC vD vO : Value), q + n = 16 ∧ x = .int .i64 q ∧ KRep own' id j wr w3.heap.size (partK quota policy q) vB' (.slice none 0 0) (.slice none 0 0) vY vC vD vO ∧ Below w3.heap.size w3 wr ∧ (∀ x, x < w3.heap.size → own' x = own x) ∧ (∀ x, vB'.ownBlock = some x → w3.heap.size ≤ x) ∧ (∀ x, vY.ownBlock = some x → w3.heap.size ≤ x) ∧ (∀ x, vC.ownBlock = some x → w3.heap.size ≤ x) ∧ (∀ x, vD.ownBlock = some x → w3.heap.size ≤ x) ∧ (∀ x, vO.ownBlock = some x → w3.heap.size ≤ x))
    case atStart => exact ⟨0, own0, _, _, _, _, _, by omega, rfl, hk0, hba, ho0, by simp [Value.ownBlock], by simp [Value.ownBlock], by simp [Value.ownBlock], by simp [Value.ownBlock], by simp [Value.ownBlock]⟩
    case round =>
      obtain ⟨q, own', vB', vY, vC, vD, vO, hqk, rfl, hk, hbl, ho', fB, fY, fC, fD, fO⟩ := hrel
      have HK : Hid (q + gk = 16) := hqk
      have hq : q ≤ 16 := by omega
      clear hqk hk0 hba ho0 hot
      by_cases hlt : q < 16
      · obtain ⟨ao0, cp0, hv0, -⟩ := hk.rY.shapeK
        have hR0 := hk.rY.alloc (.cells ([Value.int .i64 0] : List Value).toArray 3)
        have cc0 := hk.blk.cell 5
        simp [KSt.cells] at cc0
        rw [hv0] at cc0 hR0
        have Hv0 : Hid (vY = _) := hv0
        have hl0 : (partK quota policy q).hnd.length = q := by simp [partK]
        have hv0' : vY = .slice ao0 (q) cp0 := by rw [hv0]; show Value.slice ao0 (partK quota policy q).hnd.length cp0 = _; rw [hl0]
        have HV0 : Hid (vY = .slice ao0 (q) cp0) := hv0'
        have hR0' : Row (wr.alloc (.cells ([Value.int .i64 0] : List Value).toArray 3)) (.slice ao0 (q) cp0) 3 1 (q) ((partK quota policy q).hnd.map (.int .i64)) := by
          have h1 : Row (wr.alloc (.cells ([Value.int .i64 0] : List Value).toArray 3)) (.slice ao0 (partK quota policy q).hnd.length cp0) 3 1 (partK quota policy q).hnd.length ((partK quota policy q).hnd.map (.int .i64)) := hR0
          rw [hl0] at h1
          exact h1
        have cc0' : wr.cell? ⟨w3.heap.size, 5, none⟩ = some (.slice ao0 (q) cp0) := by
          have h1 : wr.cell? ⟨w3.heap.size, 5, none⟩ = some (.slice ao0 (partK quota policy q).hnd.length cp0) := cc0
          rw [hl0] at h1
          exact h1
        have hBlt0 := hk.blk.lt
        clear hv0 hR0 cc0 Hv0 hv0'
        go_wp2_with (at_builtin; refine wpList_append_lies _ rfl (.tmp 55) (.tmp 56) 62 rfl 0 3 i0 _ 1 8 Tryz.underlying62 gi gz0 gz1 gz2 rfl (by decide) (.slice ao0 (q) cp0) (q) _ rfl hR0' ⟨wr.heap.size, 0, none⟩ 1 1 [Value.int .i64 0] rfl rfl ?ca0 ?cb0 (by omega) ?ba0 ?bb0 (by omega) (wr.heap.size + 1) (by simp) ?nx0)
        try (case ca0 => exact World.news_of_block (Blk.new wr [Value.int .i64 0] 3))
        try (case cb0 => first | rfl | exact oneCell_intK _)
        case ba0 => unfold maxLen; omega
        case bb0 => omega
        case nx0 =>
          intro g0 cq0 wg0 hown hgrow hat hlt0
          rw [← HV0.out] at hgrow hat
          have hown' : wg0.ownsRow 0 3 1 (.slice (some ⟨g0, 0, none⟩) ((partK quota policy q).hnd.length + 1) cq0) ((partK quota policy q).hnd.length + 1) ((partK quota policy q).hnd.map (.int .i64) ++ [Value.int .i64 0]) := by rw [hl0]; exact hown
          obtain ⟨hk00, -, hbb0⟩ := hk.appHnd (p := 0) hown' hgrow hat
          have hbl00 : Below w3.heap.size w3 (wg0.setCell ⟨w3.heap.size, 5, none⟩ (.slice (some ⟨g0, 0, none⟩) ((partK quota policy q).hnd.length + 1) cq0)) :=
            ((hbl.alloc hbl.size _).grown hgrow (by have := hbl.size; simp; omega) (fun x hx => fY x hx)).setCell (Nat.le_refl _) _
          have fn0 : ∀ x, (Value.slice (some ⟨g0, 0, none⟩) ((partK quota policy q).hnd.length + 1) cq0).ownBlock = some x → w3.heap.size ≤ x := fun x hx => by
            have : g0 = x := by simpa [Value.ownBlock] using hx
            subst this
            rcases hat with h1 | h1
            · exact fY _ h1
            · have := hbl.size; omega
          have ho0 : ∀ x, x < w3.heap.size → set1 own' (wr.heap.size + 1) (id, kt j 4) x = own x := fun x hx => (set1_old (n := wr.heap.size) (by omega) x (by have := hbl.size; omega)).trans (ho' x hx)
          have dd0 := hbb0.cell 5
          simp [KSt.cells] at dd0
          have dd0' : ∃ v0, wg0.cell? ⟨w3.heap.size, 5, none⟩ = some v0 := ⟨_, dd0⟩
          obtain ⟨v00, dv0⟩ := dd0'
          have zz0 := hbb0.frozen 5
          obtain ⟨w10, hw0⟩ : ∃ W : World, wg0.setCell ⟨w3.heap.size, 5, none⟩ (.slice (some ⟨g0, 0, none⟩) ((partK quota policy q).hnd.length + 1) cq0) = W := ⟨_, rfl⟩
          have hw0' : Hid (wg0.setCell ⟨w3.heap.size, 5, none⟩ (.slice (some ⟨g0, 0, none⟩) (q + 1) cq0) = w10) := by rw [← hl0]; exact hw0
          obtain ⟨own10, how0⟩ : ∃ o, set1 own' (wr.heap.size + 1) (id, kt j 4) = o := ⟨_, rfl⟩
          obtain ⟨nv0, hnv0⟩ : ∃ v, Value.slice (some ⟨g0, 0, none⟩) ((partK quota policy q).hnd.length + 1) cq0 = v := ⟨_, rfl⟩
          rw [hw0, hnv0, how0] at hk00
          rw [hw0] at hbl00
          rw [hnv0] at fn0
          rw [how0] at ho0
          have hk0 := hk00
          have hbl0 := hbl00
          have ho0q := ho0
          clear hk00 hbl00 hown hown' hgrow hat hnv0 how0 hw0 dd0 hbb0 cc0' hR0' hk hbl
          go_upto_region 14 with fail
          rw [hw0'.out]
          obtain ⟨ao1, cp1, hv1, -⟩ := hk0.rC.shapeK
          have hR1 := hk0.rC.alloc (.cells ([Value.bool false] : List Value).toArray 4)
          have cc1 := hk0.blk.cell 6
          simp [KSt.cells] at cc1
          rw [hv1] at cc1 hR1
          have Hv1 : Hid (vC = _) := hv1
          have hl1 : (partK quota policy q).chg.length = q := by simp [partK]
          have hv1' : vC = .slice ao1 (q) cp1 := by rw [hv1]; show Value.slice ao1 (partK quota policy q).chg.length cp1 = _; rw [hl1]
          have HV1 : Hid (vC = .slice ao1 (q) cp1) := hv1'
          have hR1' : Row (w10.alloc (.cells ([Value.bool false] : List Value).toArray 4)) (.slice ao1 (q) cp1) 4 1 (q) ((partK quota policy q).chg.map .bool) := by
            have h1 : Row (w10.alloc (.cells ([Value.bool false] : List Value).toArray 4)) (.slice ao1 (partK quota policy q).chg.length cp1) 4 1 (partK quota policy q).chg.length ((partK quota policy q).chg.map .bool) := hR1
            rw [hl1] at h1
            exact h1
          have cc1' : w10.cell? ⟨w3.heap.size, 6, none⟩ = some (.slice ao1 (q) cp1) := by
            have h1 : w10.cell? ⟨w3.heap.size, 6, none⟩ = some (.slice ao1 (partK quota policy q).chg.length cp1) := cc1
            rw [hl1] at h1
            exact h1
          have hBlt1 := hk0.blk.lt
          clear hv1 hR1 cc1 Hv1 hv1'
          go_wp2_with (at_builtin; refine wpList_append_lies _ rfl (.tmp 64) (.tmp 65) 69 rfl 0 4 j0 _ 1 1 Tryz.underlying69 hi hz0 hz1 hz2 rfl (by decide) (.slice ao1 (q) cp1) (q) _ rfl hR1' ⟨w10.heap.size, 0, none⟩ 1 1 [Value.bool false] rfl rfl ?ca1 ?cb1 (by omega) ?ba1 ?bb1 (by omega) (w10.heap.size + 1) (by simp) ?nx1)
          try (case ca1 => exact World.news_of_block (Blk.new w10 [Value.bool false] 4))
          try (case cb1 => first | rfl | exact oneCell_boolK _)
          case ba1 => unfold maxLen; omega
          case bb1 => omega
          case nx1 =>
            intro g1 cq1 wg1 hown hgrow hat hlt1
            rw [← HV1.out] at hgrow hat
            have hown' : wg1.ownsRow 0 4 1 (.slice (some ⟨g1, 0, none⟩) ((partK quota policy q).chg.length + 1) cq1) ((partK quota policy q).chg.length + 1) ((partK quota policy q).chg.map .bool ++ [Value.bool false]) := by rw [hl1]; exact hown
            obtain ⟨hk10, -, hbb1⟩ := hk0.appChg (p := false) hown' hgrow hat
            have hbl10 : Below w3.heap.size w3 (wg1.setCell ⟨w3.heap.size, 6, none⟩ (.slice (some ⟨g1, 0, none⟩) ((partK quota policy q).chg.length + 1) cq1)) :=
              ((hbl0.alloc hbl0.size _).grown hgrow (by have := hbl0.size; simp; omega) (fun x hx => fC x hx)).setCell (Nat.le_refl _) _
            have fn1 : ∀ x, (Value.slice (some ⟨g1, 0, none⟩) ((partK quota policy q).chg.length + 1) cq1).ownBlock = some x → w3.heap.size ≤ x := fun x hx => by
              have : g1 = x := by simpa [Value.ownBlock] using hx
              subst this
              rcases hat with h1 | h1
              · exact fC _ h1
              · have := hbl0.size; omega
            have ho1 : ∀ x, x < w3.heap.size → set1 own10 (w10.heap.size + 1) (id, kt j 5) x = own x := fun x hx => (set1_old (n := w10.heap.size) (by omega) x (by have := hbl0.size; omega)).trans (ho0q x hx)
            have dd1 := hbb1.cell 6
            simp [KSt.cells] at dd1
            have dd1' : ∃ v0, wg1.cell? ⟨w3.heap.size, 6, none⟩ = some v0 := ⟨_, dd1⟩
            obtain ⟨v01, dv1⟩ := dd1'
            have zz1 := hbb1.frozen 6
            obtain ⟨w11, hw1⟩ : ∃ W : World, wg1.setCell ⟨w3.heap.size, 6, none⟩ (.slice (some ⟨g1, 0, none⟩) ((partK quota policy q).chg.length + 1) cq1) = W := ⟨_, rfl⟩
            have hw1' : Hid (wg1.setCell ⟨w3.heap.size, 6, none⟩ (.slice (some ⟨g1, 0, none⟩) (q + 1) cq1) = w11) := by rw [← hl1]; exact hw1
            obtain ⟨own11, how1⟩ : ∃ o, set1 own10 (w10.heap.size + 1) (id, kt j 5) = o := ⟨_, rfl⟩
            obtain ⟨nv1, hnv1⟩ : ∃ v, Value.slice (some ⟨g1, 0, none⟩) ((partK quota policy q).chg.length + 1) cq1 = v := ⟨_, rfl⟩
            rw [hw1, hnv1, how1] at hk10
            rw [hw1] at hbl10
            rw [hnv1] at fn1
            rw [how1] at ho1
            have hk1 := hk10
            have hbl1 := hbl10
            have ho1q := ho1
            clear hk10 hbl10 hown hown' hgrow hat hnv1 how1 hw1 dd1 hbb1 cc1' hR1' hk0 hbl0
            go_upto_region 15 with fail
            rw [hw1'.out]
            obtain ⟨ao2, cp2, hv2, -⟩ := hk1.rD.shapeK
            have hR2 := hk1.rD.alloc (.cells ([Value.bool false] : List Value).toArray 4)
            have cc2 := hk1.blk.cell 7
            simp [KSt.cells] at cc2
            rw [hv2] at cc2 hR2
            have Hv2 : Hid (vD = _) := hv2
            have hl2 : (partK quota policy q).dty.length = q := by simp [partK]
            have hv2' : vD = .slice ao2 (q) cp2 := by rw [hv2]; show Value.slice ao2 (partK quota policy q).dty.length cp2 = _; rw [hl2]
            have HV2 : Hid (vD = .slice ao2 (q) cp2) := hv2'
            have hR2' : Row (w11.alloc (.cells ([Value.bool false] : List Value).toArray 4)) (.slice ao2 (q) cp2) 4 1 (q) ((partK quota policy q).dty.map .bool) := by
              have h1 : Row (w11.alloc (.cells ([Value.bool false] : List Value).toArray 4)) (.slice ao2 (partK quota policy q).dty.length cp2) 4 1 (partK quota policy q).dty.length ((partK quota policy q).dty.map .bool) := hR2
              rw [hl2] at h1
              exact h1
            have cc2' : w11.cell? ⟨w3.heap.size, 7, none⟩ = some (.slice ao2 (q) cp2) := by
              have h1 : w11.cell? ⟨w3.heap.size, 7, none⟩ = some (.slice ao2 (partK quota policy q).dty.length cp2) := cc2
              rw [hl2] at h1
              exact h1
            have hBlt2 := hk1.blk.lt
            clear hv2 hR2 cc2 Hv2 hv2'
            go_wp2_with (at_builtin; refine wpList_append_lies _ rfl (.tmp 73) (.tmp 74) 69 rfl 0 4 j0 _ 1 1 Tryz.underlying69 hi hz0 hz1 hz2 rfl (by decide) (.slice ao2 (q) cp2) (q) _ rfl hR2' ⟨w11.heap.size, 0, none⟩ 1 1 [Value.bool false] rfl rfl ?ca2 ?cb2 (by omega) ?ba2 ?bb2 (by omega) (w11.heap.size + 1) (by simp) ?nx2)
            try (case ca2 => exact World.news_of_block (Blk.new w11 [Value.bool false] 4))
            try (case cb2 => first | rfl | exact oneCell_boolK _)
            case ba2 => unfold maxLen; omega
            case bb2 => omega
            case nx2 =>
              intro g2 cq2 wg2 hown hgrow hat hlt2
              rw [← HV2.out] at hgrow hat
              have hown' : wg2.ownsRow 0 4 1 (.slice (some ⟨g2, 0, none⟩) ((partK quota policy q).dty.length + 1) cq2) ((partK quota policy q).dty.length + 1) ((partK quota policy q).dty.map .bool ++ [Value.bool false]) := by rw [hl2]; exact hown
              obtain ⟨hk20, -, hbb2⟩ := hk1.appDty (p := false) hown' hgrow hat
              have hbl20 : Below w3.heap.size w3 (wg2.setCell ⟨w3.heap.size, 7, none⟩ (.slice (some ⟨g2, 0, none⟩) ((partK quota policy q).dty.length + 1) cq2)) :=
                ((hbl1.alloc hbl1.size _).grown hgrow (by have := hbl1.size; simp; omega) (fun x hx => fD x hx)).setCell (Nat.le_refl _) _
              have fn2 : ∀ x, (Value.slice (some ⟨g2, 0, none⟩) ((partK quota policy q).dty.length + 1) cq2).ownBlock = some x → w3.heap.size ≤ x := fun x hx => by
                have : g2 = x := by simpa [Value.ownBlock] using hx
                subst this
                rcases hat with h1 | h1
                · exact fD _ h1
                · have := hbl1.size; omega
              have ho2 : ∀ x, x < w3.heap.size → set1 own11 (w11.heap.size + 1) (id, kt j 6) x = own x := fun x hx => (set1_old (n := w11.heap.size) (by omega) x (by have := hbl1.size; omega)).trans (ho1q x hx)
              have dd2 := hbb2.cell 7
              simp [KSt.cells] at dd2
              have dd2' : ∃ v0, wg2.cell? ⟨w3.heap.size, 7, none⟩ = some v0 := ⟨_, dd2⟩
              obtain ⟨v02, dv2⟩ := dd2'
              have zz2 := hbb2.frozen 7
              obtain ⟨w12, hw2⟩ : ∃ W : World, wg2.setCell ⟨w3.heap.size, 7, none⟩ (.slice (some ⟨g2, 0, none⟩) ((partK quota policy q).dty.length + 1) cq2) = W := ⟨_, rfl⟩
              have hw2' : Hid (wg2.setCell ⟨w3.heap.size, 7, none⟩ (.slice (some ⟨g2, 0, none⟩) (q + 1) cq2) = w12) := by rw [← hl2]; exact hw2
              obtain ⟨own12, how2⟩ : ∃ o, set1 own11 (w11.heap.size + 1) (id, kt j 6) = o := ⟨_, rfl⟩
              obtain ⟨nv2, hnv2⟩ : ∃ v, Value.slice (some ⟨g2, 0, none⟩) ((partK quota policy q).dty.length + 1) cq2 = v := ⟨_, rfl⟩
              rw [hw2, hnv2, how2] at hk20
              rw [hw2] at hbl20
              rw [hnv2] at fn2
              rw [how2] at ho2
              have hk2 := hk20
              have hbl2 := hbl20
              have ho2q := ho2
              clear hk20 hbl20 hown hown' hgrow hat hnv2 how2 hw2 dd2 hbb2 cc2' hR2' hk1 hbl1
              go_upto_region 16 with fail
              rw [hw2'.out]
              obtain ⟨ao3, cp3, hv3, -⟩ := hk2.rO.shapeK
              have hR3 := hk2.rO.alloc (.cells ([Value.bool false] : List Value).toArray 4)
              have cc3 := hk2.blk.cell 8
              simp [KSt.cells] at cc3
              rw [hv3] at cc3 hR3
              have Hv3 : Hid (vO = _) := hv3
              have hl3 : (partK quota policy q).out.length = q := by simp [partK]
              have hv3' : vO = .slice ao3 (q) cp3 := by rw [hv3]; show Value.slice ao3 (partK quota policy q).out.length cp3 = _; rw [hl3]
              have HV3 : Hid (vO = .slice ao3 (q) cp3) := hv3'
              have hR3' : Row (w12.alloc (.cells ([Value.bool false] : List Value).toArray 4)) (.slice ao3 (q) cp3) 4 1 (q) ((partK quota policy q).out.map .bool) := by
                have h1 : Row (w12.alloc (.cells ([Value.bool false] : List Value).toArray 4)) (.slice ao3 (partK quota policy q).out.length cp3) 4 1 (partK quota policy q).out.length ((partK quota policy q).out.map .bool) := hR3
                rw [hl3] at h1
                exact h1
              have cc3' : w12.cell? ⟨w3.heap.size, 8, none⟩ = some (.slice ao3 (q) cp3) := by
                have h1 : w12.cell? ⟨w3.heap.size, 8, none⟩ = some (.slice ao3 (partK quota policy q).out.length cp3) := cc3
                rw [hl3] at h1
                exact h1
              have hBlt3 := hk2.blk.lt
              clear hv3 hR3 cc3 Hv3 hv3'
              go_wp2_with (at_builtin; refine wpList_append_lies _ rfl (.tmp 82) (.tmp 83) 69 rfl 0 4 j0 _ 1 1 Tryz.underlying69 hi hz0 hz1 hz2 rfl (by decide) (.slice ao3 (q) cp3) (q) _ rfl hR3' ⟨w12.heap.size, 0, none⟩ 1 1 [Value.bool false] rfl rfl ?ca3 ?cb3 (by omega) ?ba3 ?bb3 (by omega) (w12.heap.size + 1) (by simp) ?nx3)
              try (case ca3 => exact World.news_of_block (Blk.new w12 [Value.bool false] 4))
              try (case cb3 => first | rfl | exact oneCell_boolK _)
              case ba3 => unfold maxLen; omega
              case bb3 => omega
              case nx3 =>
                intro g3 cq3 wg3 hown hgrow hat hlt3
                rw [← HV3.out] at hgrow hat
                have hown' : wg3.ownsRow 0 4 1 (.slice (some ⟨g3, 0, none⟩) ((partK quota policy q).out.length + 1) cq3) ((partK quota policy q).out.length + 1) ((partK quota policy q).out.map .bool ++ [Value.bool false]) := by rw [hl3]; exact hown
                obtain ⟨hk30, -, hbb3⟩ := hk2.appOut (p := false) hown' hgrow hat
                have hbl30 : Below w3.heap.size w3 (wg3.setCell ⟨w3.heap.size, 8, none⟩ (.slice (some ⟨g3, 0, none⟩) ((partK quota policy q).out.length + 1) cq3)) :=
                  ((hbl2.alloc hbl2.size _).grown hgrow (by have := hbl2.size; simp; omega) (fun x hx => fO x hx)).setCell (Nat.le_refl _) _
                have fn3 : ∀ x, (Value.slice (some ⟨g3, 0, none⟩) ((partK quota policy q).out.length + 1) cq3).ownBlock = some x → w3.heap.size ≤ x := fun x hx => by
                  have : g3 = x := by simpa [Value.ownBlock] using hx
                  subst this
                  rcases hat with h1 | h1
                  · exact fO _ h1
                  · have := hbl2.size; omega
                have ho3 : ∀ x, x < w3.heap.size → set1 own12 (w12.heap.size + 1) (id, kt j 7) x = own x := fun x hx => (set1_old (n := w12.heap.size) (by omega) x (by have := hbl2.size; omega)).trans (ho2q x hx)
                have dd3 := hbb3.cell 8
                simp [KSt.cells] at dd3
                have dd3' : ∃ v0, wg3.cell? ⟨w3.heap.size, 8, none⟩ = some v0 := ⟨_, dd3⟩
                obtain ⟨v03, dv3⟩ := dd3'
                have zz3 := hbb3.frozen 8
                obtain ⟨w13, hw3⟩ : ∃ W : World, wg3.setCell ⟨w3.heap.size, 8, none⟩ (.slice (some ⟨g3, 0, none⟩) ((partK quota policy q).out.length + 1) cq3) = W := ⟨_, rfl⟩
                have hw3' : Hid (wg3.setCell ⟨w3.heap.size, 8, none⟩ (.slice (some ⟨g3, 0, none⟩) (q + 1) cq3) = w13) := by rw [← hl3]; exact hw3
                obtain ⟨own13, how3⟩ : ∃ o, set1 own12 (w12.heap.size + 1) (id, kt j 7) = o := ⟨_, rfl⟩
                obtain ⟨nv3, hnv3⟩ : ∃ v, Value.slice (some ⟨g3, 0, none⟩) ((partK quota policy q).out.length + 1) cq3 = v := ⟨_, rfl⟩
                rw [hw3, hnv3, how3] at hk30
                rw [hw3] at hbl30
                rw [hnv3] at fn3
                rw [how3] at ho3
                have hk3 := hk30
                have hbl3 := hbl30
                have ho3q := ho3
                clear hk30 hbl30 hown hown' hgrow hat hnv3 how3 hw3 dd3 hbb3 cc3' hR3' hk2 hbl2
                go_upto_region 17 with fail
                rw [hw3'.out]
                obtain ⟨ao4, cp4, hv4, -⟩ := hk3.rB.shapeK
                have hR4 := hk3.rB.alloc (.cells ([Value.int .i64 0, .int .i64 0, .int .i64 0, .int .i64 0] : List Value).toArray 3)
                have cc4 := hk3.blk.cell 2
                simp [KSt.cells] at cc4
                rw [hv4] at cc4 hR4
                have Hv4 : Hid (vB' = _) := hv4
                have hl4 : (partK quota policy q).bytes.length = q * 4 := by simp [partK]
                have hv4' : vB' = .slice ao4 (q * 4) cp4 := by rw [hv4]; show Value.slice ao4 (partK quota policy q).bytes.length cp4 = _; rw [hl4]
                have HV4 : Hid (vB' = .slice ao4 (q * 4) cp4) := hv4'
                have hR4' : Row (w13.alloc (.cells ([Value.int .i64 0, .int .i64 0, .int .i64 0, .int .i64 0] : List Value).toArray 3)) (.slice ao4 (q * 4) cp4) 3 1 (q * 4) ((partK quota policy q).bytes.map (.int .i64)) := by
                  have h1 : Row (w13.alloc (.cells ([Value.int .i64 0, .int .i64 0, .int .i64 0, .int .i64 0] : List Value).toArray 3)) (.slice ao4 (partK quota policy q).bytes.length cp4) 3 1 (partK quota policy q).bytes.length ((partK quota policy q).bytes.map (.int .i64)) := hR4
                  rw [hl4] at h1
                  exact h1
                have cc4' : w13.cell? ⟨w3.heap.size, 2, none⟩ = some (.slice ao4 (q * 4) cp4) := by
                  have h1 : w13.cell? ⟨w3.heap.size, 2, none⟩ = some (.slice ao4 (partK quota policy q).bytes.length cp4) := cc4
                  rw [hl4] at h1
                  exact h1
                have hBlt4 := hk3.blk.lt
                clear hv4 hR4 cc4 Hv4 hv4'
                go_wp2_with (at_builtin; refine wpList_append_lies _ rfl (.tmp 91) (.tmp 92) 62 rfl 0 3 i0 _ 1 8 Tryz.underlying62 gi gz0 gz1 gz2 rfl (by decide) (.slice ao4 (q * 4) cp4) (q * 4) _ rfl hR4' ⟨w13.heap.size, 0, none⟩ 4 4 [Value.int .i64 0, .int .i64 0, .int .i64 0, .int .i64 0] rfl rfl ?ca4 ?cb4 (by omega) ?ba4 ?bb4 (by omega) (w13.heap.size + 1) (by simp) ?nx4)
                try (case ca4 => exact World.news_of_block (Blk.new w13 [Value.int .i64 0, .int .i64 0, .int .i64 0, .int .i64 0] 3))
                try (case cb4 => first | rfl | exact oneCell_four)
                case ba4 => unfold maxLen; omega
                case bb4 => omega
                case nx4 =>
                  intro g4 cq4 wg4 hown hgrow hat hlt4
                  rw [← HV4.out] at hgrow hat
                  have hown' : wg4.ownsRow 0 3 1 (.slice (some ⟨g4, 0, none⟩) ((partK quota policy q).bytes.length + 4) cq4) ((partK quota policy q).bytes.length + 4) ((partK quota policy q).bytes.map (.int .i64) ++ [Value.int .i64 0, .int .i64 0, .int .i64 0, .int .i64 0]) := by rw [hl4]; exact hown
                  obtain ⟨hk40, -, hbb4⟩ := hk3.appBytes  hown' hgrow hat
                  have hbl40 : Below w3.heap.size w3 (wg4.setCell ⟨w3.heap.size, 2, none⟩ (.slice (some ⟨g4, 0, none⟩) ((partK quota policy q).bytes.length + 4) cq4)) :=
                    ((hbl3.alloc hbl3.size _).grown hgrow (by have := hbl3.size; simp; omega) (fun x hx => fB x hx)).setCell (Nat.le_refl _) _
                  have fn4 : ∀ x, (Value.slice (some ⟨g4, 0, none⟩) ((partK quota policy q).bytes.length + 4) cq4).ownBlock = some x → w3.heap.size ≤ x := fun x hx => by
                    have : g4 = x := by simpa [Value.ownBlock] using hx
                    subst this
                    rcases hat with h1 | h1
                    · exact fB _ h1
                    · have := hbl3.size; omega
                  have ho4 : ∀ x, x < w3.heap.size → set1 own13 (w13.heap.size + 1) (id, kt j 1) x = own x := fun x hx => (set1_old (n := w13.heap.size) (by omega) x (by have := hbl3.size; omega)).trans (ho3q x hx)
                  have dd4 := hbb4.cell 2
                  simp [KSt.cells] at dd4
                  have dd4' : ∃ v0, wg4.cell? ⟨w3.heap.size, 2, none⟩ = some v0 := ⟨_, dd4⟩
                  obtain ⟨v04, dv4⟩ := dd4'
                  have zz4 := hbb4.frozen 2
                  obtain ⟨w14, hw4⟩ : ∃ W : World, wg4.setCell ⟨w3.heap.size, 2, none⟩ (.slice (some ⟨g4, 0, none⟩) ((partK quota policy q).bytes.length + 4) cq4) = W := ⟨_, rfl⟩
                  have hw4' : Hid (wg4.setCell ⟨w3.heap.size, 2, none⟩ (.slice (some ⟨g4, 0, none⟩) (q * 4 + 4) cq4) = w14) := by rw [← hl4]; exact hw4
                  obtain ⟨own14, how4⟩ : ∃ o, set1 own13 (w13.heap.size + 1) (id, kt j 1) = o := ⟨_, rfl⟩
                  obtain ⟨nv4, hnv4⟩ : ∃ v, Value.slice (some ⟨g4, 0, none⟩) ((partK quota policy q).bytes.length + 4) cq4 = v := ⟨_, rfl⟩
                  rw [hw4, hnv4, how4] at hk40
                  rw [hw4] at hbl40
                  rw [hnv4] at fn4
                  rw [how4] at ho4
                  have hk4 := hk40
                  have hbl4 := hbl40
                  have ho4q := ho4
                  clear hk40 hbl40 hown hown' hgrow hat hnv4 how4 hw4 dd4 hbb4 cc4' hR4' hk3 hbl3
                  rw [partK_step] at hk4
                  go_wp2_with fail
                  rw [hw4'.out]
                  go_roundg (gk - 1)
                  case measure => have := HK.out; omega
                  case rel => exact ⟨q + 1, own14, _, _, _, _, _, by have := HK.out; omega, by go_num, hk4, hbl4, ho4q, fn4, fn0, fn1, fn2, fn3⟩
      · obtain rfl : q = 16 := by omega
        rw [partK_all] at hk
        have hRr := hR3.of ho' (fun b hb _ => hbl.block b hb)
        have hz3 := hbl.size
        have hRF := hRr.layK (b := w3.heap.size) (k := KSt.new quota policy) HV.out j (by rw [hw.nk]; exact hj) ⟨_, _, _, _, _, _, _, hk⟩
        have tg' : own' g = (id, 5) := by rw [ho' g (by omega)]; exact tg
        have m8 : wr.cell? ⟨m, 8, none⟩ = some (.slice (some ⟨g, 0, none⟩) nk cap) := (hRr.blk.cell 8).trans (by simp [HV.out])
        have gc : wr.cell? ⟨g, j, none⟩ = some (kptr x0) := ((hbl.cell (p := ⟨g, j, none⟩) (by show g < w3.heap.size; omega)).trans (hb3.cell (p := ⟨g, j, none⟩) hglt)).trans cg
        have gz : wr.frozen? ⟨g, j, none⟩ = false := ((World.frozen?_of_block (a := ⟨g, j, none⟩) (hbl.block g (by omega))).trans (World.frozen?_of_block (a := ⟨g, j, none⟩) (hb3.block g hglt))).trans zg
        have hT : Touch w2.heap.size (fun x => (own x).1 = id) w2 (wr.setCell ⟨g, j, none⟩ (.pointer (some ⟨w3.heap.size, 0, none⟩))) := (Touch.of_below (hb3.trans (hbl.mono hs3)) _).setCell (.inl (by rw [tg])) _
        clear hk hRr cg
        go_wp2_with fail
        go_ret
        exact ⟨ret_int' (by rw [HA.out]), by rw [HA.out]; exact ⟨own', _, _, _, _, _, _, hRF, fun x hx => ho' x (by omega), hT⟩⟩
end
end Go.Proofs.YtinlkcmdbjcofaaGreat

/-
  The document's Squeeze.
-/
namespace Go.Proofs.YtinlkcmdbjcofaaGreat
open Go.RowKit
set_option linter.unusedVariables false
attribute [local go_sem ↓] Go.wp_at_zero Go.wp_at_succ

theorem sqN_succ (n : Nat) (s : RSt) (env : Nat) : sqN (n + 1) s env = match keptO s env with | none => s | some k => sqN n (sq1 s env k) env := rfl
theorem sqN_last {env : Nat} : ∀ (n : Nat) (s : RSt) (k : KSt), keptO (sqN n s env) env = some k → sqN (n + 1) s env = sq1 (sqN n s env) env k := by
  intro n
  induction n with
  | zero =>
    intro s k h
    have h' : keptO s env = some k := h
    rw [sqN_succ, h']
    rfl
  | succ n ih =>
    intro s k h
    cases h0 : keptO s env with
    | none =>
      have e : sqN (n + 1) s env = s := by rw [sqN_succ, h0]
      rw [e, h0] at h
      simp at h
    | some k0 =>
      have e : sqN (n + 1) s env = sqN n (sq1 s env k0) env := by rw [sqN_succ, h0]
      rw [e] at h ⊢
      rw [sqN_succ, h0]
      exact ih _ _ h

section
variable {own : Nat → Nat × Nat} {id : Nat} {w : World} {m : Nat} {s : RSt} {nk : Nat} {vR vB vS vA vK : Value} {bs : List Nat} {k : KSt}

set_option maxHeartbeats 8000000 in
set_option maxRecDepth 100000 in
theorem rsqueeze_any (h : RefRep own id w m s nk vR vB vS vA vK bs) (hw : RWf s nk) (hS : SOk s) (hF : FewU s) (env quota : Int) :
    Calls Tryz.prog 66 #[.pointer (some ⟨m, 0, none⟩), .int .i64 env, .int .i64 quota] w fun e w' => e = .returned (.int .i64 (squeezeR s env quota).1) ∧ RefNext own id w m nk w' (squeezeR s env quota).2 := by
  rcases heldE_cases s env with ⟨y, hr, hy⟩ | ⟨j, k, hr, rfl, hj, hO⟩
  · have hy0 : (y != 0) = true := by rcases hy with rfl | rfl <;> rfl
    have HA : Hid (squeezeR s env quota = (y, s)) := by rcases hy with rfl | rfl <;> simp [Hid, squeezeR, hr]
    clear hy
    go_enter Tryz.func66, Tryz.ntmps66
    go_wp2_with fail
    refine (held_any h hw.al hw.ne hw.nk env).mono ?_
    rintro e w2 ⟨rfl, hw2⟩
    subst hw2
    rw [hr]
    clear hr
    go_wp2_with fail
    go_ret
    exact ⟨ret_int' (by rw [HA.out]), by rw [HA.out]; exact RefNext.refl h⟩
  by_cases hrg : quota < 1 ∨ 16 < quota
  · have HA : Hid (squeezeR s j quota = (6, s)) := by simp [Hid, squeezeR, hr, hrg]
    go_enter Tryz.func66, Tryz.ntmps66
    go_wp2_with fail
    refine (held_any h hw.al hw.ne hw.nk j).mono ?_
    rintro e w2 ⟨rfl, hw2⟩
    subst hw2
    rw [hr]
    clear hr
    by_cases h0 : quota < 1
    · clear hrg
      go_wp2_with fail
      go_ret
      exact ⟨ret_int' (by rw [HA.out]), by rw [HA.out]; exact RefNext.refl h⟩
    · have h1 : 16 < quota := by omega
      clear hrg
      go_wp2_with fail
      go_ret
      exact ⟨ret_int' (by rw [HA.out]), by rw [HA.out]; exact RefNext.refl h⟩
  have h0 : ¬ quota < 1 := by omega
  have h1 : ¬ 16 < quota := by omega
  obtain ⟨Q, rfl⟩ : ∃ Q : Nat, quota = Q := ⟨quota.toNat, by omega⟩
  have HA : Hid (squeezeR s j Q = (0, sweepS (sqN (k.inp.length - Q) (putK s j { k with quota := (Q : Int) }) j))) := by
    unfold Hid squeezeR
    rw [hr, hO]
    simp only [ne_eq, not_true_eq_false, if_false, if_neg hrg, Int.toNat_natCast]
  have hg0 := keptO_get hO
  have hL := (hS.kok.k1 j k hg0).len
  have hS1 : SOk (putK s j { k with quota := (Q : Int) }) := hS.putK hg0 rfl ⟨hL.by_, hL.hnd, hL.chg, hL.dty, hL.out, hL.r0, hL.r1, hL.i0, hL.i1, hL.o0, hL.o1, by show 1 ≤ (Q : Int); omega, by show (Q : Int) ≤ 16; omega, hL.p0, hL.p1, hL.nod, hL.pg, hL.met, hL.chi, hL.val⟩ rfl rfl
  have hO1 : (putK s j { k with quota := (Q : Int) }).kept[j]? = some (some { k with quota := (Q : Int) }) := by show (s.kept.set j _)[j]? = _; rw [List.getElem?_set_self (kept_lt hg0)]
  have hu := hF j k hg0
  have hsz := hw.size
  have HT : Hid (∀ r, r ≤ k.inp.length → ∃ kr, keptO (sqN r (putK s j { k with quota := (Q : Int) }) j) j = some kr ∧ KLen kr ∧ RWf (sqN r (putK s j { k with quota := (Q : Int) }) j) nk ∧ KOk (sqN r (putK s j { k with quota := (Q : Int) }) j) ∧ kr.inp.length + r = k.inp.length ∧ KOk1 (sqN r (putK s j { k with quota := (Q : Int) }) j) j kr (-1) kr.uses.length) := by
    intro r hr'
    obtain ⟨a, b, c, d, dl, kr, e1, e2, e3, e4, e5, e6, e7⟩ := sqN_ok r (putK s j { k with quota := (Q : Int) }) _ hS1.toSOk0.u hS1.hin hS1.kok hO1 (by show r ≤ k.inp.length; exact hr')
    have hkr : (sqN r (putK s j { k with quota := (Q : Int) }) j).kept[j]? = some (some kr) := by rw [e1, List.getElem?_set_self (kept_lt hO1)]
    have hk1 := c.k1 j kr hkr
    obtain ⟨d1, d2, d3, d4, d5, d6⟩ := d
    refine ⟨kr, keptO_at hkr, hk1.len.full (Nat.le_refl _) (by rw [e2]; exact hu), ⟨a.inv.ord, by rw [d3, d2]; exact hw.al, by rw [d2]; exact hw.ne, by rw [d1]; exact hw.nf, by rw [d4, d1]; exact hw.by_, by rw [d5]; exact hw.sl, by rw [d2]; exact hw.nk, by rw [dl]; exact hsz⟩, c, e7, hk1⟩
  obtain ⟨g, cap, b, hv, hg, c0, hK, put⟩ := h.keptPut (by rw [hw.nk]; exact hj) hO
  have hP : KPtr vK nk w j b := ⟨g, cap, hv, c0⟩
  have k8 := h.blk.cell 8
  simp at k8
  rw [hv] at k8
  obtain ⟨vB', vU, vI, vY, vC, vD, vO, hk⟩ := hK
  have q0 := hk.blk.cell 0
  simp [KSt.cells] at q0
  have z0 := hk.blk.frozen 0
  have hkq := hk.setQuota (Q : Int)
  have hWq : ∀ z, z < w.heap.size → (∀ t, t < 16 → own z ≠ (id, kt j t)) → (w.setCell ⟨b, 0, none⟩ (.int .i64 Q)).heap[z]? = w.heap[z]? := fun z hz hne => Below.heap_setCell _ _ _ _ (fun e => hne 0 (by omega) (by simp at e; rw [e]; exact hk.tm))
  have hR0 : RefRep own id (w.setCell ⟨b, 0, none⟩ (.int .i64 Q)) m (putK s j { k with quota := (Q : Int) }) nk vR vB vS vA vK bs := put own _ _ (fun _ _ => rfl) hWq ⟨_, _, _, _, _, _, _, hkq⟩
  have hP0 : KPtr vK nk (w.setCell ⟨b, 0, none⟩ (.int .i64 Q)) j b := hP.of h.tK h.rK.lt (fun z hz e => hWq z hz (fun t _ => by rw [e]; simp [kt]; omega))
  have hT0 : Touch w.heap.size (fun x => (own x).1 = id) w (w.setCell ⟨b, 0, none⟩ (.int .i64 Q)) := (Touch.refl _ _ _).setCell (.inl (by rw [hk.tm])) _
  have hjl : (j : Int) < (nk : Int) := by rw [hw.nk]; omega
  have hj0 : (0 : Int) ≤ (j : Int) := by omega
  have hjn : j < nk := by rw [hw.nk]; exact hj
  have hil := hL.inpL
  obtain ⟨L, hLL⟩ : ∃ L, k.inp.length = L := ⟨_, rfl⟩
  rw [hLL] at HA HT hil
  obtain ⟨s0, hs0⟩ : ∃ s0, putK s j { k with quota := (Q : Int) } = s0 := ⟨_, rfl⟩
  rw [hs0] at HA HT hR0
  clear put hv hkq hWq hP hk hs0 hLL hS1 hO1 hg0 hL hu hS hF hO hsz
  go_enter Tryz.func66, Tryz.ntmps66
  go_wp2_with fail
  refine (held_any h hw.al hw.ne hw.nk j).mono ?_
  rintro e w2 ⟨rfl, hw2⟩
  subst hw2
  rw [hr]
  clear hr hrg h hw
  go_wp2_with fail
  go_loopg [9] (L - Q) (fun n _ wr => ∃ (r : Nat) (own' : Nat → Nat × Nat), r + n = L - Q ∧ RefRep own' id wr m (sqN r s0 j) nk vR vB vS vA vK bs ∧ KPtr vK nk wr j b ∧ (∀ x, x < w2.heap.size → own' x = own x) ∧ Touch w2.heap.size (fun x => (own x).1 = id) w2 wr)
  case atStart => exact ⟨0, own, by omega, hR0, hP0, fun _ _ => rfl, hT0⟩
  case round =>
    obtain ⟨r, own', hrn, hR, hPr, ho', hTr⟩ := hrel
    have HK : Hid (r + gk = L - Q) := hrn
    have hrL : r ≤ L - Q := by omega
    clear hrn hR0 hP0 hT0
    obtain ⟨kr, hOr, hLr, hwr, hKr, hlr, hk1⟩ := HT.out r (by omega)
    obtain ⟨g, cap, b', hv, hg, c0, hK, -⟩ := hR.keptPut hjn hOr
    obtain rfl : b = b' := hPr.uniq ⟨g, cap, hv, c0⟩
    obtain ⟨vB', vU, vI, vY, vC, vD, vO, hk⟩ := hK
    have q4 := hk.blk.cell 4
    simp [KSt.cells] at q4
    obtain ⟨aoI, capI, hvI, -⟩ := hk.rI.shapeK
    rw [hvI] at q4
    have hil2 := hLr.inp
    have HTr : Hid (Touch w2.heap.size (fun x => (own x).1 = id) w2 wr) := hTr
    clear hv hvI c0 hTr
    by_cases hlt : r < L - Q
    · have hgt : (Q : Int) < (kr.inp.length : Int) := by omega
      have hmet : ∀ p, p ∈ kr.inp → ∃ u, u ∈ kr.uses ∧ u.1 = p := fun p hp => hk1.len.met p hp (by have := hk1.len.pg p hp; omega)
      obtain ⟨hpm, hml⟩ := pick_mem (by omega) hmet
      obtain ⟨p, hpp⟩ : ∃ p : Nat, pickK kr = p := ⟨(pickK kr).toNat, by have := hk1.len.pg _ hpm; omega⟩
      rw [hpp] at hpm
      have hp16 : p < 16 := by have := hk1.len.pg _ hpm; omega
      obtain ⟨jr, a1, rr, a2, a3, a4, a5, a6⟩ := hk1.hr p hpm
      simp only [Int.toNat_natCast] at a1
      have HS : Hid (sqN (r + 1) s0 j = { (leavesS (sqN r s0 j) kr j p) with rights := (sqN r s0 j).rights.set jr rr.end }) := by
        unfold Hid
        rw [sqN_last r s0 kr hOr]
        unfold sq1 endAt
        rw [hpp]
        simp only [Int.toNat_natCast, a1, Option.getD_some, Int.add_sub_cancel]
        rw [mark_set _ _ _ a2]
        rfl
      clear hmet a3 a4 a5 a6
      have hjrl := (List.getElem?_eq_some_iff.1 a2).1
      have hszr := hwr.size
      go_wp2_with fail
      refine (kpick_any hk (by omega) hLr.inp hLr.uses hml).mono ?_
      rintro e w3 ⟨rfl, hb3⟩
      rw [hpp]
      have hR3 := hR.below hb3
      have hP3 : KPtr vK nk w3 j b := hPr.of hR.tK hR.rK.lt (fun x hx _ => hb3.block x hx)
      go_wp2_with fail
      refine (rleaves_at hR3 hwr hjn hp16 hOr hP3 hLr).mono ?_
      rintro e w5 ⟨rfl, own5, hR5, -, hP5, ho5, ht5⟩
      rw [a1]
      simp only [Option.getD_some]
      obtain ⟨gR, capR, hvR, tR, r0, r1, r2, r3, r4, r5, rz⟩ := hR5.right (show (leavesS (sqN r s0 j) kr j p).rights[jr]? = some rr from a2)
      have hvR' : vR = .slice (some ⟨gR, 0, none⟩) (leavesS (sqN r s0 j) kr j p).rights.length capR := hvR
      have hend := hR5.endR hvR' jr rr a2
      have m3 := hR5.blk.cell 3
      simp at m3
      rw [hvR] at m3
      have zz5 := rz (jr * 6 + 5)
      have hjw : IntKind.i64.wrap ((jr : Int) + 1 - 1) = (jr : Int) := by rw [IntKind.wrap_i64]; omega
      have hjr0 : (0 : Int) ≤ (jr : Int) := by omega
      have hjr1 : (jr : Int) < ((leavesS (sqN r s0 j) kr j p).rights.length : Int) := by show (jr : Int) < ((sqN r s0 j).rights.length : Int); omega
      have hz2 := HTr.out.size
      have hz3 := hb3.size
      have hag : ∀ x, x < w2.heap.size → own5 x = own x := fun x hx => (ho5 x (by omega)).trans (ho' x hx)
      have hT5 : Touch w2.heap.size (fun x => (own x).1 = id) w2 w5 := (HTr.out.trans (Touch.of_below (hb3.mono hz2) _)).trans (ht5.mono (by omega) (fun x hx e => by rw [← ho' x hx]; exact e))
      have hinR : (own gR).1 = id ∨ w2.heap.size ≤ gR := by
        rcases Nat.lt_or_ge gR w2.heap.size with h1 | h1
        · left; rw [← hag gR h1, tR]
        · exact .inr h1
      have hT6 := hT5.setCell (p := ⟨gR, jr * 6 + 5, none⟩) hinR (.bool true)
      have ngm : gR ≠ m := fun e => by have := hR5.tm; rw [← e, tR] at this; simp at this
      have hP6 : KPtr vK nk (w5.setCell ⟨gR, jr * 6 + 5, none⟩ (.bool true)) j b := hP5.of hR5.tK hR5.rK.lt (fun x hx e => Below.heap_setCell _ _ _ _ (fun e2 => by simp at e2; rw [e2, tR] at e; simp at e))
      clear hvR hvR' ht5 hR hPr hR3 hP3 hk hb3 hR5 hP5 a2
      go_wp2_with fail
      go_roundg (gk - 1)
      case measure => have := HK.out; omega
      case rel => exact ⟨r + 1, own5, by have := HK.out; omega, by rw [HS.out]; exact hend, hP6, hag, hT6⟩
    · obtain rfl : r = L - Q := by omega
      have hgt : ¬ (Q : Int) < (kr.inp.length : Int) := by omega
      go_wp2_with fail
      refine (sweep_any hR hwr.sl hwr.ord (by have := hwr.size; omega)).mono ?_
      rintro e w5 ⟨rfl, hn⟩
      have hz2 := HTr.out.size
      obtain ⟨own5, vR5, vB5, vS5, vA5, vK5, bs5, hR5, ho5, ht5⟩ := hn
      go_wp2_with fail
      go_ret
      exact ⟨ret_int' (by rw [HA.out]), by rw [HA.out]; exact ⟨own5, vR5, vB5, vS5, vA5, vK5, bs5, hR5, fun x hx => (ho5 x (by omega)).trans (ho' x hx), HTr.out.trans (ht5.mono (by omega) (fun x hx e => by rw [← ho' x hx]; exact e))⟩⟩
end
end Go.Proofs.YtinlkcmdbjcofaaGreat
