import Derived.Test.YtkonobbhohfjlaaMarksA
namespace Go.Proofs.Ytkonobbhohfjlaa
open Go.RowKit
set_option linter.unusedVariables false
attribute [local go_sem ↓] Go.wp_at_zero Go.wp_at_succ

theorem Try.infoI : (Try.prog.info? 3).map (fun i => (i.zero, i.size, i.bytes)) = some (some (.int .i64 0), 1, 8) := by kernel_rfl
theorem Try.infoE : (Try.prog.info? 99).map (fun i => (i.zero, i.size, i.bytes)) = some (some (.agg #[.bool false, .int .i64 0, .int .i64 0, .int .i64 0, .bool false]), 5, 40) := by kernel_rfl
theorem Try.infoSI : (Try.prog.info? 65).map (fun i => (i.zero, i.size, i.bytes)) = some (some (.slice none 0 0), 1, 24) := by kernel_rfl
theorem Try.infoSR : (Try.prog.info? 58).map (fun i => (i.zero, i.size, i.bytes)) = some (some (.slice none 0 0), 1, 24) := by kernel_rfl
theorem Try.infoSE : (Try.prog.info? 93).map (fun i => (i.zero, i.size, i.bytes)) = some (some (.slice none 0 0), 1, 24) := by kernel_rfl

/-- The list's own struct and rows, ahead of 'marks'. -/
structure HoldNew (own : Nat → Nat × Nat) (id : Nat) (w : World) (hb : Nat) (n : Int) (vI vR vE : Value) (nI nR nE : Nat) (lI lR lE : List Value) : Prop where
  blk : Blk w hb [vI, .slice none 0 0, vR, .slice none 0 0, vE, .slice none 0 0, .int .i64 n] 105
  rI : Row w vI 3 1 nI lI
  rR : Row w vR 64 4 nR lR
  rE : Row w vE 99 5 nE lE
  t0 : own hb = (id, 0)
  tI : Tg own vI (id, 1)
  tR : Tg own vR (id, 3)
  tE : Tg own vE (id, 5)

theorem HoldNew.pre {own : Nat → Nat × Nat} {id : Nat} {w : World} {hb : Nat} {n : Int} {vI vR vE : Value} {nI nR nE : Nat} {lI lR lE : List Value} (h : HoldNew own id w hb n vI vR vE nI nR nE lI lR lE) :
    PreSt (set1 (set1 own w.heap.size (id, 7)) (w.heap.size + 1) (id, 8)) id ((w.alloc (.cells (mR n).toArray 64)).alloc (.cells (mE n).toArray 99)) hb w.heap.size (w.heap.size + 1) n vI vR vE nI nR nE lI lR lE := by
  have ho : ∀ b, b < w.heap.size → set1 (set1 own w.heap.size (id, 7)) (w.heap.size + 1) (id, 8) b = own b := fun b hb => by rw [set1_old (n := w.heap.size + 1) (by omega) b (by omega), set1_old (by omega) b hb]
  exact ⟨(h.blk.alloc _).alloc _, (Blk.new w (mR n) _).alloc _, Blk.at (w.alloc (.cells (mR n).toArray 64)) (mE n) 99 _ (by simp), (h.rI.alloc _).alloc _, (h.rR.alloc _).alloc _, (h.rE.alloc _).alloc _, (ho hb h.blk.lt).trans h.t0,
    by rw [set1_old (n := w.heap.size + 1) (by omega) _ (by omega), set1_at], set1_at _ _ _, h.tI.congr h.rI ho, h.tR.congr h.rR ho, h.tE.congr h.rE ho⟩

theorem Row.put {w : World} {g e k n cap : Nat} {xs : List Value} (h : Row w (.slice (some ⟨g, 0, none⟩) n cap) e k n xs) {j : Nat} (hj : j < n * k) : (∃ cx, w.cell? ⟨g, j, none⟩ = some cx) ∧ w.frozen? ⟨g, j, none⟩ = false := by
  have hl := h.len
  refine ⟨⟨xs[j]'(by omega), ?_⟩, World.ownsRow.frozenAt h j⟩
  rw [h.cellAt' j hj]
  simp

theorem PreSt.drewN {own : Nat → Nat × Nat} {id : Nat} {w : World} {hb br be : Nat} {n : Int} {vI vR vE : Value} {nI nR nE : Nat} {lI lR lE : List Value} (h : PreSt own id w hb br be n vI vR vE nI nR nE lI lR lE) (k : Nat) : PreSt own id (w.drewN k) hb br be n vI vR vE nI nR nE lI lR lE := ⟨h.blk, h.bR, h.bE, h.rI, h.rR, h.rE, h.t0, h.t7, h.t8, h.tI, h.tR, h.tE⟩

/-- All sixteen places behind the last are written. -/
theorem MarkSt.done {own : Nat → Nat × Nat} {id : Nat} {w : World} {hb br be : Nat} {n : Int} {vI vMI vR vMR vE vME v7 v8 v9 : Value} {a b c : Nat} {xI xR xE : List Value} (h : MarkSt own id w hb br be n vI vMI vR vMR vE vME v7 v8 v9 a b c 16 16 16 xI xR xE)
    {m : Nat} (ha : a ≤ m) (hb' : b ≤ m) (hc : c ≤ m) (hm : m ≤ 4611686018427387904) : HoldOK own id w hb n m :=
  ⟨⟨vI, vMI, vR, vMR, vE, vME, xI, xR, xE, h.blk, h.gI.s0.mono ha, h.gR.s0.mono hb', h.gE.s0.mono hc, ⟨h.gI.more, h.gI.tgM, fun x hx => (h.gI.all x hx).mono ha⟩, ⟨h.gR.more, h.gR.tgM, fun x hx => (h.gR.all x hx).mono hb'⟩, ⟨h.gE.more, h.gE.tgM, fun x hx => (h.gE.all x hx).mono hc⟩⟩, h.t0, hm⟩

theorem oneCell_mI (n : Int) : ∀ u ∈ mI n, u.oneCell' = true := by intro u hu; simp [mI] at hu; subst hu; rfl
theorem oneCell_mR (n : Int) : ∀ u ∈ mR n, u.oneCell' = true := by intro u hu; simp [mR] at hu; rcases hu with rfl | rfl | rfl | rfl <;> rfl
theorem oneCell_mE (n : Int) : ∀ u ∈ mE n, u.oneCell' = true := by intro u hu; simp [mE] at hu; rcases hu with rfl | rfl | rfl | rfl | rfl <;> rfl

theorem touchTag {own own2 : Nat → Nat × Nat} {id B j : Nat} {v : Value} (ho : ∀ b, b < B → own2 b = own b) (ht : Tg own2 v (id, j)) : ∀ k, v.ownBlock = some k → (own k).1 = id ∨ B ≤ k := fun k hk => by
  by_cases hh : k < B
  · exact .inl (by rw [← ho k hh, ht k hk])
  · exact .inr (by omega)
theorem set1_keep {own own2 : Nat → Nat × Nat} {B x : Nat} {t : Nat × Nat} (ho : ∀ b, b < B → own2 b = own b) (hx : B ≤ x) : ∀ b, b < B → set1 own2 x t b = own b := fun b hb => (set1_old hx b hb).trans (ho b hb)

theorem touchOf {own : Nat → Nat × Nat} {id g B : Nat} (h : g < B → (own g).1 = id) : (own g).1 = id ∨ B ≤ g := by
  by_cases hh : g < B
  · exact .inl (h hh)
  · exact .inr (by omega)

set_option maxHeartbeats 4000000 in
set_option maxRecDepth 100000 in
theorem marks_any {own : Nat → Nat × Nat} {id : Nat} {w : World} {hb : Nat} {n : Int} {vI vR vE : Value} {nI nR nE : Nat} {lI lR lE : List Value} (h : HoldNew own id w hb n vI vR vE nI nR nE lI lR lE)
    (mI0 : nI ≤ 2932031007402) (mR0 : nR ≤ 2932031007402) (mE0 : nE ≤ 2932031007402) :
    Calls Try.prog 97 #[.pointer (some ⟨hb, 0, none⟩)] w fun e w' => e = .returned (.tuple #[]) ∧ ∃ own', (∀ b, b < w.heap.size → own' b = own b) ∧ Touch w.heap.size (fun b => (own b).1 = id) w w' ∧ HoldOK own' id w' hb n (nI + nR + nE + 16) := by
  obtain ⟨ii0, ii1, ii2, ii3, ii4⟩ := info_parts Try.infoI
  obtain ⟨ir0, ir1, ir2, ir3, ir4⟩ := info_parts Try.infoRt
  obtain ⟨ie0, ie1, ie2, ie3, ie4⟩ := info_parts Try.infoE
  obtain ⟨ji0, ji1, ji2, ji3, ji4⟩ := info_parts Try.infoSI
  obtain ⟨jr0, jr1, jr2, jr3, jr4⟩ := info_parts Try.infoSR
  obtain ⟨je0, je1, je2, je3, je4⟩ := info_parts Try.infoSE
  have hp0 := h.pre
  have hl := h.blk.lt
  have k6 := h.blk.cell 6
  simp at k6
  obtain ⟨aoI, capI, hvI, hcI⟩ := h.rI.shape'
  obtain ⟨aoR, capR, hvR, hcR⟩ := h.rR.shape'
  obtain ⟨aoE, capE, hvE, hcE⟩ := h.rE.shape'
  subst hvI hvR hvE
  go_enter Try.func97, Try.ntmps97
  go_wp2_with fail
  obtain ⟨own', ho', hp⟩ : ∃ own' : Nat → Nat × Nat, (∀ b, b < w.heap.size → own' b = own b) ∧ PreSt own' id ((w.alloc (.cells (mR n).toArray 64)).alloc (.cells (mE n).toArray 99)) hb w.heap.size (w.heap.size + 1) n (.slice aoI nI capI) (.slice aoR nR capR) (.slice aoE nE capE) nI nR nE lI lR lE :=
    ⟨_, fun b hb => by rw [set1_old (n := w.heap.size + 1) (by omega) b (by omega), set1_old (by omega) b hb], hp0⟩
  have ht : Touch w.heap.size (fun b => (own b).1 = id) w ((w.alloc (.cells (mR n).toArray 64)).alloc (.cells (mE n).toArray 99)) := ((Touch.refl _ _ _).alloc (Nat.le_refl _) _).alloc (by simp) _
  have hlI := h.rI.len
  have hlR := h.rR.len
  have hlE := h.rE.len
  clear h k6 hp0
  go_loopg [4] nI (fun k x wr => ∃ q : Nat, x = .int .i64 q ∧ q + k = nI ∧ PreSt own' id wr hb w.heap.size (w.heap.size + 1) n (.slice aoI nI capI) (.slice aoR nR capR) (.slice aoE nE capE) nI nR nE (mkTo (mI n) 1 lI q) lR lE ∧ Touch w.heap.size (fun b => (own b).1 = id) w wr)
  case atStart => exact ⟨0, rfl, by omega, by rw [mkTo_zero]; exact hp, ht⟩
  case round =>
    clear hp ht
    obtain ⟨q, rfl, hk, hp, ht⟩ := hrel
    have HK : Hid (q + gk = nI) := hk
    have hq : q ≤ nI := by omega
    clear hk
    have k0 := hp.blk.cell 0
    have k6 := hp.blk.cell 6
    simp at k0 k6
    have hl1 := hp.blk.lt
    by_cases hlt : q < nI
    · rcases hcI with h0 | ⟨g, rfl⟩
      · omega
      · have hg : own' g = (id, 1) := hp.tI g rfl
        have hne : g ≠ hb := fun e => by have := hp.t0; rw [← e, hg] at this; simp at this
        have hne' : hb ≠ g := fun e => hne e.symm
        have hgl := hp.rI.lt g rfl
        obtain ⟨⟨cx, hcx⟩, hfz⟩ := hp.rI.put (j := q) (by omega)
        have hS : g < w.heap.size → (own g).1 = id := fun hh => by rw [← ho' g hh, hg]
        have hi0 : (0 : Int) ≤ (q : Int) := by omega
        have hi1 : (q : Int) < (nI : Int) := by omega
        go_wp2_with fail
        go_region_held3 (fun w' => w'.cell? ⟨hb, 0, none⟩ = some (.slice (some ⟨g, 0, none⟩) nI capI) ∧ w'.cell? ⟨hb, 6, none⟩ = some (.int .i64 n)) (go_keep) (fail)
        go_wp2_with fail
        go_roundg (gk - 1)
        case measure => have := HK.out; omega
        case rel =>
          refine ⟨q + 1, by go_num, by have := HK.out; omega, ?_, (ht.setCell (touchOf hS) _).drew⟩
          have := (hp.setI (j := q) (u := .int .i64 n) rfl).drew
          rw [show (mkTo (mI n) 1 lI q).set q (.int .i64 n) = mkTo (mI n) 1 lI (q + 1) from mkTo1 _ _ _ (by omega)] at this
          exact this
    · obtain rfl : q = nI := by omega
      rw [mkTo_all _ _ _ _ hlI] at hp
      clear hlt hq HK
      go_wp2_with fail
      go_loopg [5] nR (fun k x wr => ∃ q2 : Nat, x = .int .i64 q2 ∧ q2 + k = nR ∧ PreSt own' id wr hb w.heap.size (w.heap.size + 1) n (.slice aoI q capI) (.slice aoR nR capR) (.slice aoE nE capE) q nR nE (List.replicate q (mI n)).flatten (mkTo (mR n) 4 lR q2) lE ∧ Touch w.heap.size (fun b => (own b).1 = id) w wr)
      case atStart => exact ⟨0, rfl, by omega, by rw [mkTo_zero]; exact hp, ht⟩
      case round =>
        clear hp ht k0 k6 hl1
        obtain ⟨q2, rfl, hk, hp, ht⟩ := hrel
        have HK : Hid (q2 + gk = nR) := hk
        have hq : q2 ≤ nR := by omega
        clear hk
        have k0 := hp.blk.cell 2
        have r0 := hp.bR.cell 0
        have r1 := hp.bR.cell 1
        have r2 := hp.bR.cell 2
        have r3 := hp.bR.cell 3
        simp [mR] at k0 r0 r1 r2 r3
        have hl1 := hp.blk.lt
        by_cases hlt : q2 < nR
        · rcases hcR with h0 | ⟨g, rfl⟩
          · omega
          · have hg : own' g = (id, 3) := hp.tR g rfl
            have hne : g ≠ hb := fun e => by have := hp.t0; rw [← e, hg] at this; simp at this
            have hne' : hb ≠ g := fun e => hne e.symm
            have hne1 : g ≠ w.heap.size := fun e => by have := hp.t7; rw [← e, hg] at this; simp at this
            have hne1' : w.heap.size ≠ g := fun e => hne1 e.symm
            have hgl := hp.rR.lt g rfl
            obtain ⟨⟨c0, hc0⟩, hfz0⟩ := hp.rR.put (j := q2 * 4) (by omega)
            obtain ⟨⟨c1, hc1⟩, hfz1⟩ := hp.rR.put (j := q2 * 4 + 1) (by omega)
            obtain ⟨⟨c2, hc2⟩, hfz2⟩ := hp.rR.put (j := q2 * 4 + 2) (by omega)
            obtain ⟨⟨c3, hc3⟩, hfz3⟩ := hp.rR.put (j := q2 * 4 + 3) (by omega)
            have hS : g < w.heap.size → (own g).1 = id := fun hh => by rw [← ho' g hh, hg]
            have hi0 : (0 : Int) ≤ (q2 : Int) := by omega
            have hi1 : (q2 : Int) < (nR : Int) := by omega
            go_wp2_with fail
            go_region_held3 (fun w' => w'.cell? ⟨hb, 2, none⟩ = some (.slice (some ⟨g, 0, none⟩) nR capR) ∧ w'.cell? ⟨w.heap.size, 0, none⟩ = some (.int .i64 n) ∧ w'.cell? ⟨w.heap.size, 1, none⟩ = some (.int .i64 0) ∧ w'.cell? ⟨w.heap.size, 2, none⟩ = some (.int .i64 0) ∧ w'.cell? ⟨w.heap.size, 3, none⟩ = some (.bool false)) (go_keep) (fail)
            go_wp2_with fail
            go_roundg (gk - 1)
            case measure => have := HK.out; omega
            case rel =>
              refine ⟨q2 + 1, by go_num, by have := HK.out; omega, ?_, ((((ht.setCell (touchOf hS) _).setCell (touchOf hS) _).setCell (touchOf hS) _).setCell (touchOf hS) _).drew⟩
              have := ((((hp.setR (j := q2 * 4) (u := .int .i64 n) rfl).setR (j := q2 * 4 + 1) (u := .int .i64 0) rfl).setR (j := q2 * 4 + 2) (u := .int .i64 0) rfl).setR (j := q2 * 4 + 3) (u := .bool false) rfl).drew
              rw [show (((((mkTo (mR n) 4 lR q2).set (q2 * 4) (.int .i64 n)).set (q2 * 4 + 1) (.int .i64 0)).set (q2 * 4 + 2) (.int .i64 0)).set (q2 * 4 + 3) (.bool false)) = mkTo (mR n) 4 lR (q2 + 1) from mkTo4 _ _ _ _ _ _ (by omega)] at this
              exact this
        · obtain rfl : q2 = nR := by omega
          rw [mkTo_all _ _ _ _ hlR] at hp
          clear hlt hq HK
          go_wp2_with fail
          go_loopg [6] nE (fun k x wr => ∃ q3 : Nat, x = .int .i64 q3 ∧ q3 + k = nE ∧ PreSt own' id wr hb w.heap.size (w.heap.size + 1) n (.slice aoI q capI) (.slice aoR q2 capR) (.slice aoE nE capE) q q2 nE (List.replicate q (mI n)).flatten (List.replicate q2 (mR n)).flatten (mkTo (mE n) 5 lE q3) ∧ Touch w.heap.size (fun b => (own b).1 = id) w wr)
          case atStart => exact ⟨0, rfl, by omega, by rw [mkTo_zero]; exact hp, ht⟩
          case round =>
            clear hp ht k0 r0 r1 r2 r3 hl1
            obtain ⟨q3, rfl, hk, hp, ht⟩ := hrel
            have HK : Hid (q3 + gk = nE) := hk
            have hq : q3 ≤ nE := by omega
            clear hk
            have k0 := hp.blk.cell 4
            have r0 := hp.bE.cell 0
            have r1 := hp.bE.cell 1
            have r2 := hp.bE.cell 2
            have r3 := hp.bE.cell 3
            have r4 := hp.bE.cell 4
            simp [mE] at k0 r0 r1 r2 r3 r4
            have hl1 := hp.blk.lt
            by_cases hlt : q3 < nE
            · rcases hcE with h0 | ⟨g, rfl⟩
              · omega
              · have hg : own' g = (id, 5) := hp.tE g rfl
                have hne : g ≠ hb := fun e => by have := hp.t0; rw [← e, hg] at this; simp at this
                have hne' : hb ≠ g := fun e => hne e.symm
                have hne1 : g ≠ w.heap.size + 1 := fun e => by have := hp.t8; rw [← e, hg] at this; simp at this
                have hne1' : w.heap.size + 1 ≠ g := fun e => hne1 e.symm
                have hgl := hp.rE.lt g rfl
                obtain ⟨⟨c0, hc0⟩, hfz0⟩ := hp.rE.put (j := q3 * 5) (by omega)
                obtain ⟨⟨c1, hc1⟩, hfz1⟩ := hp.rE.put (j := q3 * 5 + 1) (by omega)
                obtain ⟨⟨c2, hc2⟩, hfz2⟩ := hp.rE.put (j := q3 * 5 + 2) (by omega)
                obtain ⟨⟨c3, hc3⟩, hfz3⟩ := hp.rE.put (j := q3 * 5 + 3) (by omega)
                obtain ⟨⟨c4, hc4⟩, hfz4⟩ := hp.rE.put (j := q3 * 5 + 4) (by omega)
                have hS : g < w.heap.size → (own g).1 = id := fun hh => by rw [← ho' g hh, hg]
                have hi0 : (0 : Int) ≤ (q3 : Int) := by omega
                have hi1 : (q3 : Int) < (nE : Int) := by omega
                go_wp2_with fail
                go_region_held3 (fun w' => w'.cell? ⟨hb, 4, none⟩ = some (.slice (some ⟨g, 0, none⟩) nE capE) ∧ w'.cell? ⟨w.heap.size + 1, 0, none⟩ = some (.bool false) ∧ w'.cell? ⟨w.heap.size + 1, 1, none⟩ = some (.int .i64 n) ∧ w'.cell? ⟨w.heap.size + 1, 2, none⟩ = some (.int .i64 0) ∧ w'.cell? ⟨w.heap.size + 1, 3, none⟩ = some (.int .i64 0) ∧ w'.cell? ⟨w.heap.size + 1, 4, none⟩ = some (.bool false)) (go_keep) (fail)
                go_wp2_with fail
                go_roundg (gk - 1)
                case measure => have := HK.out; omega
                case rel =>
                  refine ⟨q3 + 1, by go_num, by have := HK.out; omega, ?_, (((((ht.setCell (touchOf hS) _).setCell (touchOf hS) _).setCell (touchOf hS) _).setCell (touchOf hS) _).setCell (touchOf hS) _).drew⟩
                  have := (((((hp.setE (j := q3 * 5) (u := .bool false) rfl).setE (j := q3 * 5 + 1) (u := .int .i64 n) rfl).setE (j := q3 * 5 + 2) (u := .int .i64 0) rfl).setE (j := q3 * 5 + 3) (u := .int .i64 0) rfl).setE (j := q3 * 5 + 4) (u := .bool false) rfl).drew
                  rw [show ((((((mkTo (mE n) 5 lE q3).set (q3 * 5) (.bool false)).set (q3 * 5 + 1) (.int .i64 n)).set (q3 * 5 + 2) (.int .i64 0)).set (q3 * 5 + 3) (.int .i64 0)).set (q3 * 5 + 4) (.bool false)) = mkTo (mE n) 5 lE (q3 + 1) from mkTo5 _ _ _ _ _ _ _ (by omega)] at this
                  exact this
            · obtain rfl : q3 = nE := by omega
              rw [mkTo_all _ _ _ _ hlE] at hp
              clear hlt hq HK
              have k2 := hp.blk.cell 2
              have k1 := hp.blk.cell 0
              simp at k2 k1
              go_wp2_with fail
              go_quiet (fail)
              go_wp2_with fail
              have hm0 := (hp.drewN nq).start
              have ht0 : Touch w.heap.size (fun b => (own b).1 = id) w (wr.drewN nq) := ⟨ht.os, ht.tape, ht.output, ht.size, ht.block⟩
              clear hp k0 k1 k2 r0 r1 r2 r3 r4 hcI hcR hcE hlI hlR hlE ht
              go_loopg [7, 8, 9, 10] 16 (fun k v7 v8 v9 x wr => ∃ (i : Nat) (own2 : Nat → Nat × Nat) (vMI vMR vME : Value) (xI xR xE : List Value), x = .int .i64 i ∧ i + k = 16 ∧ (∀ b, b < w.heap.size → own2 b = own b) ∧ Touch w.heap.size (fun b => (own b).1 = id) w wr ∧
                MarkSt own2 id wr hb w.heap.size (w.heap.size + 1) n (.slice aoI q capI) vMI (.slice aoR q2 capR) vMR (.slice aoE q3 capE) vME v7 v8 v9 (q + i) (q2 + i) (q3 + i) i i i xI xR xE)
              case atStart => exact ⟨0, own', _, _, _, [], [], [], rfl, rfl, ho', ht0, hm0⟩
              case round =>
                clear hm0 ht0 ho' hl1
                obtain ⟨i, own2, vMI, vMR, vME, xI, xR, xE, rfl, hk, ho2, ht, hm⟩ := hrel
                have HK : Hid (i + gk = 16) := hk
                have hi : i ≤ 16 := by omega
                clear hk
                by_cases hlt : i < 16
                · have k6 := hm.blk.cell 6
                  simp at k6
                  have hl1 := hm.blk.lt
                  obtain ⟨ao7, cap7, hv7, _⟩ := hm.gI.row.shape'
                  obtain ⟨ao8, cap8, hv8, _⟩ := hm.gR.row.shape'
                  obtain ⟨ao9, cap9, hv9, _⟩ := hm.gE.row.shape'
                  subst hv7 hv8 hv9
                  obtain ⟨aoMI, capMI, hvMI, _⟩ := hm.gI.more.shape'
                  obtain ⟨aoMR, capMR, hvMR, _⟩ := hm.gR.more.shape'
                  obtain ⟨aoME, capME, hvME, _⟩ := hm.gE.more.shape'
                  subst hvMI hvMR hvME
                  have hs0 := ht.size
                  have hm0 := hm
                  have ho0 := ho2
                  have ht0 := ht
                  have hown0 : (own hb).1 = id := by rw [← ho2 hb hl, hm.t0]
                  clear hm ho2 ht
                  have hR1 := hm0.gI.row.alloc (.cells (mI n).toArray 3)
                  go_wp2_with (at_builtin; refine wpList_append_kept _ rfl (.tmp 88) (.tmp 93) 65 rfl 3 ii0 _ 1 8 Try.underlying65 ii1 ii2 ii3 ii4 rfl (by decide) (.slice ao7 (q + i) cap7) (q + i) _ rfl hR1 ⟨wr.heap.size, 0, none⟩ 1 1 (mI n) rfl rfl ?c11 ?c12 (by omega) ?b11 ?b12 (wr.heap.size + 1) (by simp) ?nx1)
                  case c11 => exact World.news_of_block (B := wr.heap.size) (cs := (mI n).toArray) (t := 3) (fr := (0, 0)) (Blk.new _ _ _)
                  case c12 => exact oneCell_mI _
                  case b11 => unfold maxLen; omega
                  case b12 => omega
                  intro g1 cp1 w1 hown hgrow hat hlt1 hold
                  have hm1 := hm0.appI hown hgrow hat (fun b hb j hj => hold b hb j (by omega))
                  have ht1 := (ht0.alloc hs0 (.cells (mI n).toArray 3)).grown hgrow (by simp; omega) (touchTag ho0 hm0.gI.tg)
                  have ho1 := set1_keep (x := wr.heap.size + 1) (t := (id, 1)) ho0 (by omega)
                  have hs1 := ht1.size
                  clear hown hgrow hat hlt1 hold hR1
                  have r0 := hm1.bR.cell 0
                  have r1 := hm1.bR.cell 1
                  have r2 := hm1.bR.cell 2
                  have r3 := hm1.bR.cell 3
                  simp [mR] at r0 r1 r2 r3
                  clear k6
                  have hR2 := hm1.gR.row.alloc (.cells (mR n).toArray 64)
                  go_wp2_with (at_builtin; refine wpList_append_kept _ rfl (.tmp 95) (.tmp 97) 58 rfl 64 ir0 _ 4 32 Try.underlying58 ir1 ir2 ir3 ir4 rfl (by decide) (.slice ao8 (q2 + i) cap8) (q2 + i) _ rfl hR2 ⟨w1.heap.size, 0, none⟩ 1 1 (mR n) rfl rfl ?c21 ?c22 (by omega) ?b21 ?b22 (w1.heap.size + 1) (by simp) ?nx2)
                  case c21 => exact World.news_of_block (B := w1.heap.size) (cs := (mR n).toArray) (t := 64) (fr := (0, 0)) (Blk.new _ _ _)
                  case c22 => exact oneCell_mR _
                  case b21 => unfold maxLen; omega
                  case b22 => omega
                  intro g2 cp2 w2 hown hgrow hat hlt1 hold
                  have hm2 := hm1.appR hown hgrow hat hold
                  have ht2 := (ht1.alloc hs1 (.cells (mR n).toArray 64)).grown hgrow (by simp; omega) (touchTag ho1 hm1.gR.tg)
                  have ho2 := set1_keep (x := w1.heap.size + 1) (t := (id, 3)) ho1 (by omega)
                  have hs2 := ht2.size
                  clear hown hgrow hat hlt1 hold hR2
                  have s0 := hm2.bE.cell 0
                  have s1 := hm2.bE.cell 1
                  have s2 := hm2.bE.cell 2
                  have s3 := hm2.bE.cell 3
                  have s4 := hm2.bE.cell 4
                  simp [mE] at s0 s1 s2 s3 s4
                  clear r0 r1 r2 r3
                  have hR3 := hm2.gE.row.alloc (.cells (mE n).toArray 99)
                  go_wp2_with (at_builtin; refine wpList_append_kept _ rfl (.tmp 99) (.tmp 101) 93 rfl 99 ie0 _ 5 40 Try.underlying93 ie1 ie2 ie3 ie4 rfl (by decide) (.slice ao9 (q3 + i) cap9) (q3 + i) _ rfl hR3 ⟨w2.heap.size, 0, none⟩ 1 1 (mE n) rfl rfl ?c31 ?c32 (by omega) ?b31 ?b32 (w2.heap.size + 1) (by simp) ?nx3)
                  case c31 => exact World.news_of_block (B := w2.heap.size) (cs := (mE n).toArray) (t := 99) (fr := (0, 0)) (Blk.new _ _ _)
                  case c32 => exact oneCell_mE _
                  case b31 => unfold maxLen; omega
                  case b32 => omega
                  intro g3 cp3 w3 hown hgrow hat hlt1 hold
                  have hm3 := hm2.appE hown hgrow hat hold
                  have ht3 := (ht2.alloc hs2 (.cells (mE n).toArray 99)).grown hgrow (by simp; omega) (touchTag ho2 hm2.gE.tg)
                  have ho3 := set1_keep (x := w2.heap.size + 1) (t := (id, 5)) ho2 (by omega)
                  have hs3 := ht3.size
                  clear hown hgrow hat hlt1 hold hR3
                  clear s0 s1 s2 s3 s4
                  have f3 := hm3.blk.cell 1
                  simp only [List.getElem?_cons_succ, List.getElem?_cons_zero] at f3
                  have hR4 := hm3.gI.more.alloc (.cells #[.slice (some ⟨g1, 0, none⟩) (q + i + 1) cp1] 65)
                  go_wp2_with (at_builtin; refine wpList_append_lies _ rfl (.tmp 107) (.tmp 109) 92 rfl 0 65 ji0 _ 1 24 Try.underlying92 ji1 ji2 ji3 ji4 rfl (by decide) (.slice aoMI i capMI) i _ rfl hR4 ⟨w3.heap.size, 0, none⟩ 1 1 [.slice (some ⟨g1, 0, none⟩) (q + i + 1) cp1] rfl rfl ?c41 ?c42 (by omega) ?b41 ?b42 (by omega) (w3.heap.size + 1) (by simp) ?nx4)
                  case c41 => exact World.news_of_block (B := w3.heap.size) (cs := #[.slice (some ⟨g1, 0, none⟩) (q + i + 1) cp1]) (t := 65) (fr := (0, 0)) (Blk.at w3 [.slice (some ⟨g1, 0, none⟩) (q + i + 1) cp1] 65 _ (by simp))
                  case c42 => intro u hu; simp at hu; subst hu; rfl
                  case b41 => unfold maxLen; omega
                  case b42 => omega
                  intro g4 cp4 w4 hown hgrow hat hlt1
                  have hbk := (hm3.blk.alloc (.cells #[.slice (some ⟨g1, 0, none⟩) (q + i + 1) cp1] 65)).grown hgrow (fun e => by have := hm3.gI.tgM _ e; rw [hm3.t0] at this; simp at this)
                  have e0 := hbk.cell 1
                  have e1 := hbk.frozen 1
                  simp only [List.getElem?_cons_succ, List.getElem?_cons_zero] at e0
                  have f4 := hbk.cell 3
                  simp only [List.getElem?_cons_succ, List.getElem?_cons_zero] at f4
                  have hm4 := hm3.pushI hown hgrow hat
                  have ht4 := ((ht3.alloc hs3 (.cells #[.slice (some ⟨g1, 0, none⟩) (q + i + 1) cp1] 65)).grown hgrow (by simp at hs3 ⊢; omega) (touchTag ho3 hm3.gI.tgM)).setCell (p := ⟨hb, 1, none⟩) (.inl hown0) (.slice (some ⟨g4, 0, none⟩) (i + 1) cp4)
                  have ho4 := set1_keep (x := w3.heap.size + 1) (t := (id, 2)) ho3 (by omega)
                  have hs4 := ht4.size
                  clear hown hgrow hat hlt1 hR4 hbk f3
                  have hR5 := hm4.gR.more.alloc (.cells #[.slice (some ⟨g2, 0, none⟩) (q2 + i + 1) cp2] 58)
                  go_wp2_with (at_builtin; refine wpList_append_lies _ rfl (.tmp 117) (.tmp 119) 102 rfl 0 58 jr0 _ 1 24 Try.underlying102 jr1 jr2 jr3 jr4 rfl (by decide) (.slice aoMR i capMR) i _ rfl hR5 ⟨w4.heap.size, 0, none⟩ 1 1 [.slice (some ⟨g2, 0, none⟩) (q2 + i + 1) cp2] rfl rfl ?c51 ?c52 (by omega) ?b51 ?b52 (by omega) ((w4.setCell ⟨hb, 1, none⟩ (.slice (some ⟨g4, 0, none⟩) (i + 1) cp4)).heap.size + 1) (by simp) ?nx5)
                  case c51 => exact World.news_of_block (B := w4.heap.size) (cs := #[.slice (some ⟨g2, 0, none⟩) (q2 + i + 1) cp2]) (t := 58) (fr := (0, 0)) (Blk.at (w4.setCell ⟨hb, 1, none⟩ (.slice (some ⟨g4, 0, none⟩) (i + 1) cp4)) [.slice (some ⟨g2, 0, none⟩) (q2 + i + 1) cp2] 58 _ (by simp))
                  case c52 => intro u hu; simp at hu; subst hu; rfl
                  case b51 => unfold maxLen; omega
                  case b52 => omega
                  intro g5 cp5 w5 hown hgrow hat hlt1
                  have hbk := (hm4.blk.alloc (.cells #[.slice (some ⟨g2, 0, none⟩) (q2 + i + 1) cp2] 58)).grown hgrow (fun e => by have := hm4.gR.tgM _ e; rw [hm4.t0] at this; simp at this)
                  have e0 := hbk.cell 3
                  have e1 := hbk.frozen 3
                  simp only [List.getElem?_cons_succ, List.getElem?_cons_zero] at e0
                  have f5 := hbk.cell 5
                  simp only [List.getElem?_cons_succ, List.getElem?_cons_zero] at f5
                  have hm5 := hm4.pushR hown hgrow (hat.imp (fun h => h) fun h => by rw [h]; simp)
                  have ht5 := ((ht4.alloc hs4 (.cells #[.slice (some ⟨g2, 0, none⟩) (q2 + i + 1) cp2] 58)).grown hgrow (by simp at hs4 ⊢; omega) (touchTag ho4 hm4.gR.tgM)).setCell (p := ⟨hb, 3, none⟩) (.inl hown0) (.slice (some ⟨g5, 0, none⟩) (i + 1) cp5)
                  have ho5 := set1_keep (x := (w4.setCell ⟨hb, 1, none⟩ (.slice (some ⟨g4, 0, none⟩) (i + 1) cp4)).heap.size + 1) (t := (id, 4)) ho4 (by omega)
                  have hs5 := ht5.size
                  clear hown hgrow hat hlt1 hR5 hbk f4
                  have hR6 := hm5.gE.more.alloc (.cells #[.slice (some ⟨g3, 0, none⟩) (q3 + i + 1) cp3] 93)
                  go_wp2_with (at_builtin; refine wpList_append_lies _ rfl (.tmp 127) (.tmp 129) 103 rfl 0 93 je0 _ 1 24 Try.underlying103 je1 je2 je3 je4 rfl (by decide) (.slice aoME i capME) i _ rfl hR6 ⟨w5.heap.size, 0, none⟩ 1 1 [.slice (some ⟨g3, 0, none⟩) (q3 + i + 1) cp3] rfl rfl ?c61 ?c62 (by omega) ?b61 ?b62 (by omega) ((w5.setCell ⟨hb, 3, none⟩ (.slice (some ⟨g5, 0, none⟩) (i + 1) cp5)).heap.size + 1) (by simp) ?nx6)
                  case c61 => exact World.news_of_block (B := w5.heap.size) (cs := #[.slice (some ⟨g3, 0, none⟩) (q3 + i + 1) cp3]) (t := 93) (fr := (0, 0)) (Blk.at (w5.setCell ⟨hb, 3, none⟩ (.slice (some ⟨g5, 0, none⟩) (i + 1) cp5)) [.slice (some ⟨g3, 0, none⟩) (q3 + i + 1) cp3] 93 _ (by simp))
                  case c62 => intro u hu; simp at hu; subst hu; rfl
                  case b61 => unfold maxLen; omega
                  case b62 => omega
                  intro g6 cp6 w6 hown hgrow hat hlt1
                  have hbk := (hm5.blk.alloc (.cells #[.slice (some ⟨g3, 0, none⟩) (q3 + i + 1) cp3] 93)).grown hgrow (fun e => by have := hm5.gE.tgM _ e; rw [hm5.t0] at this; simp at this)
                  have e0 := hbk.cell 5
                  have e1 := hbk.frozen 5
                  simp only [List.getElem?_cons_succ, List.getElem?_cons_zero] at e0
                  have hm6 := hm5.pushE hown hgrow (hat.imp (fun h => h) fun h => by rw [h]; simp)
                  have ht6 := ((ht5.alloc hs5 (.cells #[.slice (some ⟨g3, 0, none⟩) (q3 + i + 1) cp3] 93)).grown hgrow (by simp at hs5 ⊢; omega) (touchTag ho5 hm5.gE.tgM)).setCell (p := ⟨hb, 5, none⟩) (.inl hown0) (.slice (some ⟨g6, 0, none⟩) (i + 1) cp6)
                  have ho6 := set1_keep (x := (w5.setCell ⟨hb, 3, none⟩ (.slice (some ⟨g5, 0, none⟩) (i + 1) cp5)).heap.size + 1) (t := (id, 6)) ho5 (by omega)
                  have hs6 := ht6.size
                  clear hown hgrow hat hlt1 hR6 hbk f5
                  go_wp2_with fail
                  go_roundg (gk - 1)
                  case measure => have := HK.out; omega
                  case rel => exact ⟨i + 1, _, _, _, _, _, _, _, by go_num, by have := HK.out; omega, ho6, ht6, hm6⟩
                · obtain rfl : i = 16 := by omega
                  go_wp2_with fail
                  go_end0
                  exact ⟨rfl, own2, ho2, ht, hm.done (by omega) (by omega) (by omega) (by omega)⟩
end Go.Proofs.Ytkonobbhohfjlaa
