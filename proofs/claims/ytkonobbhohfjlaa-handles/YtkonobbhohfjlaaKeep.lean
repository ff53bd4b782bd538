import Derived.Test.YtkonobbhohfjlaaMarksB
namespace Go.Proofs.Ytkonobbhohfjlaa
open Go.RowKit
set_option linter.unusedVariables false
attribute [local go_sem ↓] Go.wp_at_zero Go.wp_at_succ

set_option maxHeartbeats 1000000 in
set_option maxRecDepth 100000 in
/-- Two lists of rights with the same cells. -/
theorem sameRights_any {w : World} {va vb : Value} {rs : List RR} (ha : Row w va 64 4 rs.length (rs.flatMap rcells)) (hb : Row w vb 64 4 rs.length (rs.flatMap rcells)) (hm : rs.length ≤ 4611686018427387904) :
    Calls Try.prog 49 #[va, vb] w fun e w' => e = .returned (.bool true) ∧ Below w.heap.size w w' := by
  obtain ⟨ao, cap, hv, hca⟩ := ha.shape'
  obtain ⟨bo, cap2, hv2, hcb⟩ := hb.shape'
  subst hv hv2
  have hne : ((rs.length : Int) != (rs.length : Int)) = false := by simp
  go_enter Try.func49, Try.ntmps49
  go_wp2_with fail
  go_loopg [5] rs.length (fun k x wr => ∃ q : Nat, x = .int .i64 q ∧ q + k = rs.length ∧ Below w.heap.size w wr)
  case atStart => exact ⟨0, rfl, by omega, Below.refl _ _⟩
  case round =>
    obtain ⟨q, rfl, hk, hbl⟩ := hrel
    have HK : Hid (q + gk = rs.length) := hk
    have hq : q ≤ rs.length := by omega
    clear hk
    by_cases hlt : q < rs.length
    · rcases hca with h0 | ⟨g, rfl⟩
      · omega
      rcases hcb with h0 | ⟨g2, rfl⟩
      · omega
      have ha' := ha.below hbl
      have hb' := hb.below hbl
      obtain ⟨r, hr⟩ : ∃ r, rs[q]? = some r := ⟨rs[q], by simp⟩
      have c0 : wr.cell? ⟨g, q * 4, none⟩ = some (.int .i64 r.h) := by rw [ha'.cellAt' _ (by omega), show q * 4 = q * 4 + 0 by omega, flat_get rcells 4 (fun _ => rfl) rs q 0 r hr (by omega)]; rfl
      have c1 : wr.cell? ⟨g, q * 4 + 1, none⟩ = (rcells r)[1]? := by rw [ha'.cellAt' _ (by omega), flat_get rcells 4 (fun _ => rfl) rs q 1 r hr (by omega)]
      have c2 : wr.cell? ⟨g, q * 4 + 2, none⟩ = (rcells r)[2]? := by rw [ha'.cellAt' _ (by omega), flat_get rcells 4 (fun _ => rfl) rs q 2 r hr (by omega)]
      have c3 : wr.cell? ⟨g, q * 4 + 3, none⟩ = (rcells r)[3]? := by rw [ha'.cellAt' _ (by omega), flat_get rcells 4 (fun _ => rfl) rs q 3 r hr (by omega)]
      have d0 : wr.cell? ⟨g2, q * 4, none⟩ = some (.int .i64 r.h) := by rw [hb'.cellAt' _ (by omega), show q * 4 = q * 4 + 0 by omega, flat_get rcells 4 (fun _ => rfl) rs q 0 r hr (by omega)]; rfl
      have d1 : wr.cell? ⟨g2, q * 4 + 1, none⟩ = (rcells r)[1]? := by rw [hb'.cellAt' _ (by omega), flat_get rcells 4 (fun _ => rfl) rs q 1 r hr (by omega)]
      have d2 : wr.cell? ⟨g2, q * 4 + 2, none⟩ = (rcells r)[2]? := by rw [hb'.cellAt' _ (by omega), flat_get rcells 4 (fun _ => rfl) rs q 2 r hr (by omega)]
      have d3 : wr.cell? ⟨g2, q * 4 + 3, none⟩ = (rcells r)[3]? := by rw [hb'.cellAt' _ (by omega), flat_get rcells 4 (fun _ => rfl) rs q 3 r hr (by omega)]
      simp only [rcells, List.getElem?_cons_succ, List.getElem?_cons_zero] at c1 c2 c3 d1 d2 d3
      have hi0 : (0 : Int) ≤ (q : Int) := by omega
      have hi1 : (q : Int) < (rs.length : Int) := by omega
      clear hr ha' hb'
      go_wp2_with fail
      go_quiet (fail)
      go_wp2_with fail
      go_roundg (gk - 1)
      case measure => have := HK.out; omega
      case rel => exact ⟨q + 1, by go_num, by have := HK.out; omega, below_drewN hbl _⟩
    · go_wp2_with fail
      go_ret
      exact ⟨rfl, hbl⟩

theorem Try.infoPH : (Try.prog.info? 73).map (fun i => (i.zero, i.size, i.bytes)) = some (some (.pointer none), 1, 8) := by kernel_rfl

theorem HoldNew.mark {own : Nat → Nat × Nat} {id : Nat} {w : World} {hb : Nat} {n m : Int} {vI vR vE : Value} {nI nR nE : Nat} {lI lR lE : List Value} (h : HoldNew own id w hb n vI vR vE nI nR nE lI lR lE) :
    HoldNew own id (w.setCell ⟨hb, 6, none⟩ (.int .i64 m)) hb m vI vR vE nI nR nE lI lR lE := by
  have hk : ∀ j, j ≠ 0 → ∀ b, b < w.heap.size → own b = (id, j) → (w.setCell ⟨hb, 6, none⟩ (.int .i64 m)).heap[b]? = w.heap[b]? := fun j hj b hb' ht => Below.heap_setCell _ _ _ _ (fun e => by
    simp at e; rw [e, h.t0] at ht; simp at ht; omega)
  exact ⟨h.blk.set 6 _, h.rI.kept h.tI (hk 1 (by omega)), h.rR.kept h.tR (hk 3 (by omega)), h.rE.kept h.tE (hk 5 (by omega)), h.t0, h.tI, h.tR, h.tE⟩
theorem HoldNew.drewN {own : Nat → Nat × Nat} {id : Nat} {w : World} {hb : Nat} {n : Int} {vI vR vE : Value} {nI nR nE : Nat} {lI lR lE : List Value} (h : HoldNew own id w hb n vI vR vE nI nR nE lI lR lE) (k : Nat) :
    HoldNew own id (w.drewN k) hb n vI vR vE nI nR nE lI lR lE := ⟨h.blk, h.rI, h.rR, h.rE, h.t0, h.tI, h.tR, h.tE⟩

def hptr (b : Nat) : Value := .pointer (some ⟨b, 0, none⟩)

set_option maxHeartbeats 2000000 in
set_option maxRecDepth 100000 in
theorem keep_any {own : Nat → Nat × Nat} {id bw : Nat} {w : World} {vP vH : Value} {hb : Nat} {hbs : List Nat} {n : Int} {vI vR vE : Value} {nI nR nE : Nat} {lI lR lE : List Value} (h : HoldNew own id w hb n vI vR vE nI nR nE lI lR lE)
    (mI0 : nI ≤ 2932031007402) (mR0 : nR ≤ 2932031007402) (mE0 : nE ≤ 2932031007402) (hw : Blk w bw [vP, vH] 47) (hH : Row w vH 73 1 hbs.length (hbs.map hptr)) (hlen : (hbs.length + 1) * 8 ≤ 140737488355328)
    (hbwn : (own bw).1 ≠ id) (hHn : ∀ b, vH.ownBlock = some b → (own b).1 ≠ id ∧ b ≠ bw) :
    Calls Try.prog 50 #[.pointer (some ⟨bw, 0, none⟩), .pointer (some ⟨hb, 0, none⟩)] w fun e w' => e = .returned (.tuple #[]) ∧
      ∃ (own' : Nat → Nat × Nat) (g cap : Nat) (m : Int), (∀ b, b < w.heap.size → own' b = own b) ∧ Touch w.heap.size (fun b => (own b).1 = id ∨ b = bw ∨ vH.ownBlock = some b) w w' ∧
        Blk w' bw [vP, .slice (some ⟨g, 0, none⟩) (hbs.length + 1) cap] 47 ∧ Row w' (.slice (some ⟨g, 0, none⟩) (hbs.length + 1) cap) 73 1 (hbs.length + 1) ((hbs ++ [hb]).map hptr) ∧
        (vH.ownBlock = some g ∨ w.heap.size ≤ g ∧ (own' g).1 = 0) ∧ HoldOK own' id w' hb m (nI + nR + nE + 16) := by
  obtain ⟨i0, i1, i2, i3, i4⟩ := info_parts Try.infoPH
  have k1 := hw.cell 1
  have k6 := h.blk.cell 6
  have f6 := h.blk.frozen 6
  simp at k1 k6
  have hl := h.blk.lt
  have hwl := hw.lt
  obtain ⟨ao, cap, hv, _⟩ := hH.shape'
  have hne : hb ≠ bw := fun e => hbwn (by rw [← e, h.t0])
  have hne' : bw ≠ hb := fun e => hne e.symm
  subst hv
  go_enter Try.func50, Try.ntmps50
  go_wp2_with fail
  refine (marks_any (h.mark (m := -1000 - (hbs.length : Int))) mI0 mR0 mE0).mono ?_
  rintro e w1 ⟨rfl, own1, ho1, ht1, hok⟩
  simp at ho1 ht1
  have hw1 : Blk w1 bw [vP, .slice ao hbs.length cap] 47 := (hw.other (a := ⟨hb, 6, none⟩) (.int .i64 (-1000 - (hbs.length : Int))) hne').of (ht1.block bw hwl hbwn)
  have hH1 : Row w1 (.slice ao hbs.length cap) 73 1 hbs.length (hbs.map hptr) := (hH.other (a := ⟨hb, 6, none⟩) (.int .i64 (-1000 - (hbs.length : Int))) (fun e => (hHn _ e).1 (by rw [h.t0]))).of (fun b hb => ht1.block b (hH.lt b hb) (hHn b hb).1)
  have hs1 : w.heap.size ≤ w1.heap.size := by have := ht1.size; simpa using this
  have hlt1 := hok.lt
  have j1 := hw1.cell 1
  simp only [List.getElem?_cons_succ, List.getElem?_cons_zero] at j1
  have hR := hH1.alloc (.cells #[hptr hb] 73)
  have t0 := h.t0
  have hHlt := hH.lt
  clear k1 k6 f6 h hw
  go_wp2_with (at_builtin; refine wpList_append_lies _ rfl (.tmp 19) (.tmp 21) 45 rfl 0 73 i0 _ 1 8 Try.underlying45 i1 i2 i3 i4 rfl (by decide) (.slice ao hbs.length cap) hbs.length _ rfl hR ⟨w1.heap.size, 0, none⟩ 1 1 [hptr hb] rfl rfl ?c1 ?c2 (by omega) ?b1 ?b2 (by omega) (w1.heap.size + 1) (by simp) ?nx)
  case c1 => exact World.news_of_block (B := w1.heap.size) (cs := #[hptr hb]) (t := 73) (fr := (0, 0)) (Blk.new _ [_] _)
  case c2 => intro u hu; simp at hu; subst hu; rfl
  case b1 => unfold maxLen; omega
  case b2 => omega
  intro g1 cap1 w2 hown hgrow hat hlt2
  have hbk := (hw1.alloc (.cells #[hptr hb] 73)).grown hgrow (fun e => (hHn _ e).2 rfl)
  have e0 := hbk.cell 1
  have e1 := hbk.frozen 1
  simp only [List.getElem?_cons_succ, List.getElem?_cons_zero] at e0
  have hs2 := hgrow.size
  simp at hs2
  go_wp2_with fail
  go_end0
  refine ⟨rfl, set1 own1 (w1.heap.size + 1) (0, 0), g1, cap1, -1000 - hbs.length, set1_keep ho1 (by omega), ?_, hbk.set 1 _, ?_, ?_, ?_⟩
  · have q1 : Touch w.heap.size (fun b => (own b).1 = id ∨ b = bw ∨ (Value.slice ao hbs.length cap).ownBlock = some b) w w1 := ((Touch.refl _ _ _).setCell (p := ⟨hb, 6, none⟩) (.inl (.inl (by rw [t0]))) _).trans (ht1.mono (Nat.le_refl _) (fun k _ h => .inl h))
    exact ((q1.alloc hs1 _).grown hgrow (by simp; omega) (fun k hk => .inl (.inr (.inr hk)))).setCell (p := ⟨bw, 1, none⟩) (.inl (.inr (.inl rfl))) _
  · rw [List.map_append]
    refine Row.other (w := w2) hown _ (fun e => ?_)
    simp [Value.ownBlock] at e
    rcases hat with h1 | h1
    · exact (hHn _ h1).2 e
    · omega
  · rcases hat with h1 | h1
    · exact .inl h1
    · exact .inr ⟨by omega, by rw [h1, set1_at]⟩
  · refine hok.of (set1_old (by omega)) (by simp; omega) (fun b hb' ht => ?_)
    have hnw : b ≠ bw := fun e => hbwn (by rw [← ho1 bw hwl, ← e, ht])
    have hnH : (Value.slice ao hbs.length cap).ownBlock ≠ some b := fun e => (hHn b e).1 (by rw [← ho1 b (hHlt b e), ht])
    rw [Below.heap_setCell _ _ _ _ (by simpa using hnw), hgrow.block b (by simp; omega) (fun e => hnH e.symm), Below.heap_alloc _ _ _ hb']
end Go.Proofs.Ytkonobbhohfjlaa
