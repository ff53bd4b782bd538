import Derived.BigRegion
import Derived.Deep.RegionLaw
import Derived.Test.YtinlkcmdbjcofaaGreatM20
namespace Go.Proofs.YtinlkcmdbjcofaaGreat
open Go.RowKit
set_option linter.unusedVariables false
attribute [local go_sem ↓] Go.wp_at_zero Go.wp_at_succ

theorem Tryz.infoI : (Tryz.prog.info? 3).map (fun i => (i.zero, i.size, i.bytes)) = some (some (.int .i64 0), 1, 8) := by kernel_rfl
theorem Tryz.infoE : (Tryz.prog.info? 74).map (fun i => (i.zero, i.size, i.bytes)) = some (some (.agg #[.bool false, .int .i64 0, .int .i64 0, .int .i64 0, .bool false]), 5, 40) := by kernel_rfl
theorem Tryz.infoSI : (Tryz.prog.info? 62).map (fun i => (i.zero, i.size, i.bytes)) = some (some (.slice none 0 0), 1, 24) := by kernel_rfl
theorem Tryz.infoSR : (Tryz.prog.info? 80).map (fun i => (i.zero, i.size, i.bytes)) = some (some (.slice none 0 0), 1, 24) := by kernel_rfl
theorem Tryz.infoSE : (Tryz.prog.info? 49).map (fun i => (i.zero, i.size, i.bytes)) = some (some (.slice none 0 0), 1, 24) := by kernel_rfl

/-- The list's own struct and rows, ahead of 'marks'. -/
structure HoldNew (own : Nat → Nat × Nat) (id : Nat) (w : World) (hb : Nat) (n : Int) (vI vR vE : Value) (nI nR nE : Nat) (lI lR lE : List Value) : Prop where
  blk : Blk w hb [vI, .slice none 0 0, vR, .slice none 0 0, vE, .slice none 0 0, .int .i64 n] 88
  rI : Row w vI 3 1 nI lI
  rR : Row w vR 111 4 nR lR
  rE : Row w vE 74 5 nE lE
  t0 : own hb = (id, 0)
  tI : Tg own vI (id, 1)
  tR : Tg own vR (id, 3)
  tE : Tg own vE (id, 5)

theorem HoldNew.pre {own : Nat → Nat × Nat} {id : Nat} {w : World} {hb : Nat} {n : Int} {vI vR vE : Value} {nI nR nE : Nat} {lI lR lE : List Value} (h : HoldNew own id w hb n vI vR vE nI nR nE lI lR lE) :
    PreSt (set1 (set1 own w.heap.size (id, 7)) (w.heap.size + 1) (id, 8)) id ((w.alloc (.cells (mR n).toArray 111)).alloc (.cells (mE n).toArray 74)) hb w.heap.size (w.heap.size + 1) n vI vR vE nI nR nE lI lR lE := by
  have ho : ∀ b, b < w.heap.size → set1 (set1 own w.heap.size (id, 7)) (w.heap.size + 1) (id, 8) b = own b := fun b hb => by rw [set1_old (n := w.heap.size + 1) (by omega) b (by omega), set1_old (by omega) b hb]
  exact ⟨(h.blk.alloc _).alloc _, (Blk.new w (mR n) _).alloc _, Blk.at (w.alloc (.cells (mR n).toArray 111)) (mE n) 74 _ (by simp), (h.rI.alloc _).alloc _, (h.rR.alloc _).alloc _, (h.rE.alloc _).alloc _, (ho hb h.blk.lt).trans h.t0,
    by rw [set1_old (n := w.heap.size + 1) (by omega) _ (by omega), set1_at], set1_at _ _ _, h.tI.congr h.rI ho, h.tR.congr h.rR ho, h.tE.congr h.rE ho⟩

theorem Row.put {w : World} {g e k n cap : Nat} {xs : List Value} (h : Row w (.slice (some ⟨g, 0, none⟩) n cap) e k n xs) {j : Nat} (hj : j < n * k) : (∃ cx, w.cell? ⟨g, j, none⟩ = some cx) ∧ w.frozen? ⟨g, j, none⟩ = false := by
  have hl := h.len
  refine ⟨⟨xs[j]'(by omega), ?_⟩, World.ownsRow.frozenAt h j⟩
  rw [h.cellAt' j hj]
  simp

theorem PreSt.drewN {own : Nat → Nat × Nat} {id : Nat} {w : World} {hb br be : Nat} {n : Int} {vI vR vE : Value} {nI nR nE : Nat} {lI lR lE : List Value} (h : PreSt own id w hb br be n vI vR vE nI nR nE lI lR lE) (k : Nat) : PreSt own id (w.drewN k) hb br be n vI vR vE nI nR nE lI lR lE := ⟨h.blk, h.bR, h.bE, h.rI, h.rR, h.rE, h.t0, h.t7, h.t8, h.tI, h.tR, h.tE⟩

/-- All sixteen places behind the last are written. -/
theorem MarkSt.done {own : Nat → Nat × Nat} {id : Nat} {w : World} {hb br be : Nat} {n : Int} {vI vMI vR vMR vE vME v7 v8 v9 : Value} {a b c : Nat} {xI xR xE : List Value} (h : MarkSt own id w hb br be n vI vMI vR vMR vE vME v7 v8 v9 a b c 16 16 16 xI xR xE)
    {m : Nat} (ha : a ≤ m) (hb' : b ≤ m) (hc : c ≤ m) (hm : m ≤ 4611686018427387904) : HoldOK own id w hb n m :=
  ⟨⟨vI, vMI, vR, vMR, vE, vME, xI, xR, xE, h.blk, h.gI.s0.mono ha, h.gR.s0.mono hb', h.gE.s0.mono hc, ⟨h.gI.more, h.gI.tgM, fun x hx => (h.gI.all x hx).mono ha⟩, ⟨h.gR.more, h.gR.tgM, fun x hx => (h.gR.all x hx).mono hb'⟩, ⟨h.gE.more, h.gE.tgM, fun x hx => (h.gE.all x hx).mono hc⟩⟩, h.t0, hm⟩

theorem oneCell_mI (n : Int) : ∀ u ∈ mI n, u.oneCell' = true := by intro u hu; simp [mI] at hu; subst hu; rfl
theorem oneCell_mR (n : Int) : ∀ u ∈ mR n, u.oneCell' = true := by intro u hu; simp [mR] at hu; rcases hu with rfl | rfl | rfl | rfl <;> rfl
theorem oneCell_mE (n : Int) : ∀ u ∈ mE n, u.oneCell' = true := by intro u hu; simp [mE] at hu; rcases hu with rfl | rfl | rfl | rfl | rfl <;> rfl

theorem touchTag {own own2 : Nat → Nat × Nat} {id B j : Nat} {v : Value} (ho : ∀ b, b < B → own2 b = own b) (ht : Tg own2 v (id, j)) : ∀ k, v.ownBlock = some k → (own k).1 = id ∨ B ≤ k := fun k hk => by
  by_cases hh : k < B
  · exact .inl (by rw [← ho k hh, ht k hk])
  · exact .inr (by omega)
theorem set1_keep {own own2 : Nat → Nat × Nat} {B x : Nat} {t : Nat × Nat} (ho : ∀ b, b < B → own2 b = own b) (hx : B ≤ x) : ∀ b, b < B → set1 own2 x t b = own b := fun b hb => (set1_old hx b hb).trans (ho b hb)

theorem touchOf {own : Nat → Nat × Nat} {id g B : Nat} (h : g < B → (own g).1 = id) : (own g).1 = id ∨ B ≤ g := by
  by_cases hh : g < B
  · exact .inl (h hh)
  · exact .inr (by omega)

set_option maxHeartbeats 4000000 in
set_option maxRecDepth 100000 in
theorem marks_any {own : Nat → Nat × Nat} {id : Nat} {w : World} {hb : Nat} {n : Int} {vI vR vE : Value} {nI nR nE : Nat} {lI lR lE : List Value} (h : HoldNew own id w hb n vI vR vE nI nR nE lI lR lE)
    (mI0 : nI ≤ 2932031007402) (mR0 : nR ≤ 2932031007402) (mE0 : nE ≤ 2932031007402) :
    Calls Tryz.prog 91 #[.pointer (some ⟨hb, 0, none⟩)] w fun e w' => e = .returned (.tuple #[]) ∧ ∃ own', (∀ b, b < w.heap.size → own' b = own b) ∧ Touch w.heap.size (fun b => (own b).1 = id) w w' ∧ HoldOK own' id w' hb n (nI + nR + nE + 16) := by
  obtain ⟨ii0, ii1, ii2, ii3, ii4⟩ := info_parts Tryz.infoI
  obtain ⟨ir0, ir1, ir2, ir3, ir4⟩ := info_parts Tryz.infoRt
  obtain ⟨ie0, ie1, ie2, ie3, ie4⟩ := info_parts Tryz.infoE
  obtain ⟨ji0, ji1, ji2, ji3, ji4⟩ := info_parts Tryz.infoSI
  obtain ⟨jr0, jr1, jr2, jr3, jr4⟩ := info_parts Tryz.infoSR
  obtain ⟨je0, je1, je2, je3, je4⟩ := info_parts Tryz.infoSE
  have hp0 := h.pre
  have hl := h.blk.lt
  have k6 := h.blk.cell 6
  simp at k6
  obtain ⟨aoI, capI, hvI, hcI⟩ := h.rI.shape'
  obtain ⟨aoR, capR, hvR, hcR⟩ := h.rR.shape'
  obtain ⟨aoE, capE, hvE, hcE⟩ := h.rE.shape'
  subst hvI hvR hvE
  go_enter Tryz.func91, Tryz.ntmps91
  go_wp2_with fail
  obtain ⟨own', ho', hp⟩ : ∃ own' : Nat → Nat × Nat, (∀ b, b < w.heap.size → own' b = own b) ∧ PreSt own' id ((w.alloc (.cells (mR n).toArray 111)).alloc (.cells (mE n).toArray 74)) hb w.heap.size (w.heap.size + 1) n (.slice aoI nI capI) (.slice aoR nR capR) (.slice aoE nE capE) nI nR nE lI lR lE :=
    ⟨_, fun b hb => by rw [set1_old (n := w.heap.size + 1) (by omega) b (by omega), set1_old (by omega) b hb], hp0⟩
  have ht : Touch w.heap.size (fun b => (own b).1 = id) w ((w.alloc (.cells (mR n).toArray 111)).alloc (.cells (mE n).toArray 74)) := ((Touch.refl _ _ _).alloc (Nat.le_refl _) _).alloc (by simp) _
  have hlI := h.rI.len
  have hlR := h.rR.len
  have hlE := h.rE.len
  clear h k6 hp0
  go_loopg [4] nI (fun k x wr => ∃ q : Nat, x = .int .i64 q ∧ q + k = nI ∧ PreSt own' id wr hb w.heap.size (w.heap.size + 1) n (.slice aoI nI capI) (.slice aoR nR capR) (.slice aoE nE capE) nI nR nE (mkTo (mI n) 1 lI q) lR lE ∧ Touch w.heap.size (fun b => (own b).1 = id) w wr)
  case atStart => exact ⟨0, rfl, by omega, by rw [mkTo_zero]; exact hp, ht⟩
  case round =>
    clear hp ht
    obtain ⟨q, rfl, hk, hp, ht⟩ := hrel
    have HK : Hid (q + gk = nI) := hk
    have hq : q ≤ nI := by omega
    clear hk
    have k0 := hp.blk.cell 0
    have k6 := hp.blk.cell 6
    simp at k0 k6
    have hl1 := hp.blk.lt
    by_cases hlt : q < nI
    · rcases hcI with h0 | ⟨g, rfl⟩
      · omega
      · have hg : own' g = (id, 1) := hp.tI g rfl
        have hne : g ≠ hb := fun e => by have := hp.t0; rw [← e, hg] at this; simp at this
        have hne' : hb ≠ g := fun e => hne e.symm
        have hgl := hp.rI.lt g rfl
        obtain ⟨⟨cx, hcx⟩, hfz⟩ := hp.rI.put (j := q) (by omega)
        have hS : g < w.heap.size → (own g).1 = id := fun hh => by rw [← ho' g hh, hg]
        have hi0 : (0 : Int) ≤ (q : Int) := by omega
        have hi1 : (q : Int) < (nI : Int) := by omega
        go_wp2_with fail
        go_region_held3 (fun w' => w'.cell? ⟨hb, 0, none⟩ = some (.slice (some ⟨g, 0, none⟩) nI capI) ∧ w'.cell? ⟨hb, 6, none⟩ = some (.int .i64 n)) (go_keep) (fail)
        go_wp2_with fail
        go_roundg (gk - 1)
        case measure => have := HK.out; omega
        case rel =>
          refine ⟨q + 1, by go_num, by have := HK.out; omega, ?_, (ht.setCell (touchOf hS) _).drew⟩
          have := (hp.setI (j := q) (u := .int .i64 n) rfl).drew
          rw [show (mkTo (mI n) 1 lI q).set q (.int .i64 n) = mkTo (mI n) 1 lI (q + 1) from mkTo1 _ _ _ (by omega)] at this
          exact this
    · obtain rfl : q = nI := by omega
      rw [mkTo_all _ _ _ _ hlI] at hp
      clear hlt hq HK
      go_wp2_with fail
      go_loopg [5] nR (fun k x wr => ∃ q2 : Nat, x = .int .i64 q2 ∧ q2 + k = nR ∧ PreSt own' id wr hb w.heap.size (w.heap.size + 1) n (.slice aoI q capI) (.slice aoR nR capR) (.slice aoE nE capE) q nR nE (List.replicate q (mI n)).flatten (mkTo (mR n) 4 lR q2) lE ∧ Touch w.heap.size (fun b => (own b).1 = id) w wr)
      case atStart => exact ⟨0, rfl, by omega, by rw [mkTo_zero]; exact hp, ht⟩
      case round =>
        clear hp ht k0 k6 hl1
        obtain ⟨q2, rfl, hk, hp, ht⟩ := hrel
        have HK : Hid (q2 + gk = nR) := hk
        have hq : q2 ≤ nR := by omega
        clear hk
        have k0 := hp.blk.cell 2
        have r0 := hp.bR.cell 0
        have r1 := hp.bR.cell 1
        have r2 := hp.bR.cell 2
        have r3 := hp.bR.cell 3
        simp [mR] at k0 r0 r1 r2 r3
        have hl1 := hp.blk.lt
        by_cases hlt : q2 < nR
        · rcases hcR with h0 | ⟨g, rfl⟩
          · omega
          · have hg : own' g = (id, 3) := hp.tR g rfl
            have hne : g ≠ hb := fun e => by have := hp.t0; rw [← e, hg] at this; simp at this
            have hne' : hb ≠ g := fun e => hne e.symm
            have hne1 : g ≠ w.heap.size := fun e => by have := hp.t7; rw [← e, hg] at this; simp at this
            have hne1' : w.heap.size ≠ g := fun e => hne1 e.symm
            have hgl := hp.rR.lt g rfl
            obtain ⟨⟨c0, hc0⟩, hfz0⟩ := hp.rR.put (j := q2 * 4) (by omega)
            obtain ⟨⟨c1, hc1⟩, hfz1⟩ := hp.rR.put (j := q2 * 4 + 1) (by omega)
            obtain ⟨⟨c2, hc2⟩, hfz2⟩ := hp.rR.put (j := q2 * 4 + 2) (by omega)
            obtain ⟨⟨c3, hc3⟩, hfz3⟩ := hp.rR.put (j := q2 * 4 + 3) (by omega)
            have hS : g < w.heap.size → (own g).1 = id := fun hh => by rw [← ho' g hh, hg]
            have hi0 : (0 : Int) ≤ (q2 : Int) := by omega
            have hi1 : (q2 : Int) < (nR : Int) := by omega
            go_wp2_with fail
            go_region_held3 (fun w' => w'.cell? ⟨hb, 2, none⟩ = some (.slice (some ⟨g, 0, none⟩) nR capR) ∧ w'.cell? ⟨w.heap.size, 0, none⟩ = some (.int .i64 n) ∧ w'.cell? ⟨w.heap.size, 1, none⟩ = some (.int .i64 0) ∧ w'.cell? ⟨w.heap.size, 2, none⟩ = some (.int .i64 0) ∧ w'.cell? ⟨w.heap.size, 3, none⟩ = some (.bool false)) (go_keep) (fail)
            go_wp2_with fail
            go_roundg (gk - 1)
            case measure => have := HK.out; omega
            case rel =>
              refine ⟨q2 + 1, by go_num, by have := HK.out; omega, ?_, ((((ht.setCell (touchOf hS) _).setCell (touchOf hS) _).setCell (touchOf hS) _).setCell (touchOf hS) _).drew⟩
              have := ((((hp.setR (j := q2 * 4) (u := .int .i64 n) rfl).setR (j := q2 * 4 + 1) (u := .int .i64 0) rfl).setR (j := q2 * 4 + 2) (u := .int .i64 0) rfl).setR (j := q2 * 4 + 3) (u := .bool false) rfl).drew
              rw [show (((((mkTo (mR n) 4 lR q2).set (q2 * 4) (.int .i64 n)).set (q2 * 4 + 1) (.int .i64 0)).set (q2 * 4 + 2) (.int .i64 0)).set (q2 * 4 + 3) (.bool false)) = mkTo (mR n) 4 lR (q2 + 1) from mkTo4 _ _ _ _ _ _ (by omega)] at this
              exact this
        · obtain rfl : q2 = nR := by omega
          rw [mkTo_all _ _ _ _ hlR] at hp
          clear hlt hq HK
          go_wp2_with fail
          go_loopg [6] nE (fun k x wr => ∃ q3 : Nat, x = .int .i64 q3 ∧ q3 + k = nE ∧ PreSt own' id wr hb w.heap.size (w.heap.size + 1) n (.slice aoI q capI) (.slice aoR q2 capR) (.slice aoE nE capE) q q2 nE (List.replicate q (mI n)).flatten (List.replicate q2 (mR n)).flatten (mkTo (mE n) 5 lE q3) ∧ Touch w.heap.size (fun b => (own b).1 = id) w wr)
          case atStart => exact ⟨0, rfl, by omega, by rw [mkTo_zero]; exact hp, ht⟩
          case round =>
            clear hp ht k0 r0 r1 r2 r3 hl1
            obtain ⟨q3, rfl, hk, hp, ht⟩ := hrel
            have HK : Hid (q3 + gk = nE) := hk
            have hq : q3 ≤ nE := by omega
            clear hk
            have k0 := hp.blk.cell 4
            have r0 := hp.bE.cell 0
            have r1 := hp.bE.cell 1
            have r2 := hp.bE.cell 2
            have r3 := hp.bE.cell 3
            have r4 := hp.bE.cell 4
            simp [mE] at k0 r0 r1 r2 r3 r4
            have hl1 := hp.blk.lt
            by_cases hlt : q3 < nE
            · rcases hcE with h0 | ⟨g, rfl⟩
              · omega
              · have hg : own' g = (id, 5) := hp.tE g rfl
                have hne : g ≠ hb := fun e => by have := hp.t0; rw [← e, hg] at this; simp at this
                have hne' : hb ≠ g := fun e => hne e.symm
                have hne1 : g ≠ w.heap.size + 1 := fun e => by have := hp.t8; rw [← e, hg] at this; simp at this
                have hne1' : w.heap.size + 1 ≠ g := fun e => hne1 e.symm
                have hgl := hp.rE.lt g rfl
                obtain ⟨⟨c0, hc0⟩, hfz0⟩ := hp.rE.put (j := q3 * 5) (by omega)
                obtain ⟨⟨c1, hc1⟩, hfz1⟩ := hp.rE.put (j := q3 * 5 + 1) (by omega)
                obtain ⟨⟨c2, hc2⟩, hfz2⟩ := hp.rE.put (j := q3 * 5 + 2) (by omega)
                obtain ⟨⟨c3, hc3⟩, hfz3⟩ := hp.rE.put (j := q3 * 5 + 3) (by omega)
                obtain ⟨⟨c4, hc4⟩, hfz4⟩ := hp.rE.put (j := q3 * 5 + 4) (by omega)
                have hS : g < w.heap.size → (own g).1 = id := fun hh => by rw [← ho' g hh, hg]
                have hi0 : (0 : Int) ≤ (q3 : Int) := by omega
                have hi1 : (q3 : Int) < (nE : Int) := by omega
                go_wp2_with fail
                go_region_held3 (fun w' => w'.cell? ⟨hb, 4, none⟩ = some (.slice (some ⟨g, 0, none⟩) nE capE) ∧ w'.cell? ⟨w.heap.size + 1, 0, none⟩ = some (.bool false) ∧ w'.cell? ⟨w.heap.size + 1, 1, none⟩ = some (.int .i64 n) ∧ w'.cell? ⟨w.heap.size + 1, 2, none⟩ = some (.int .i64 0) ∧ w'.cell? ⟨w.heap.size + 1, 3, none⟩ = some (.int .i64 0) ∧ w'.cell? ⟨w.heap.size + 1, 4, none⟩ = some (.bool false)) (go_keep) (fail)
                go_wp2_with fail
                go_roundg (gk - 1)
                case measure => have := HK.out; omega
                case rel =>
                  refine ⟨q3 + 1, by go_num, by have := HK.out; omega, ?_, (((((ht.setCell (touchOf hS) _).setCell (touchOf hS) _).setCell (touchOf hS) _).setCell (touchOf hS) _).setCell (touchOf hS) _).drew⟩
                  have := (((((hp.setE (j := q3 * 5) (u := .bool false) rfl).setE (j := q3 * 5 + 1) (u := .int .i64 n) rfl).setE (j := q3 * 5 + 2) (u := .int .i64 0) rfl).setE (j := q3 * 5 + 3) (u := .int .i64 0) rfl).setE (j := q3 * 5 + 4) (u := .bool false) rfl).drew
                  rw [show ((((((mkTo (mE n) 5 lE q3).set (q3 * 5) (.bool false)).set (q3 * 5 + 1) (.int .i64 n)).set (q3 * 5 + 2) (.int .i64 0)).set (q3 * 5 + 3) (.int .i64 0)).set (q3 * 5 + 4) (.bool false)) = mkTo (mE n) 5 lE (q3 + 1) from mkTo5 _ _ _ _ _ _ _ (by omega)] at this
                  exact this
            · obtain rfl : q3 = nE := by omega
              rw [mkTo_all _ _ _ _ hlE] at hp
              clear hlt hq HK
              have k2 := hp.blk.cell 2
              have k1 := hp.blk.cell 0
              simp at k2 k1
              go_wp2_with fail
              go_quiet (fail)
              go_wp2_with fail
              have hm0 := (hp.drewN nq).start
              have ht0 : Touch w.heap.size (fun b => (own b).1 = id) w (wr.drewN nq) := ⟨ht.os, ht.tape, ht.output, ht.size, ht.block⟩
              clear hp k0 k1 k2 r0 r1 r2 r3 r4 hcI hcR hcE hlI hlR hlE ht
              go_loopg [7, 8, 9, 10] 16 (fun k v7 v8 v9 x wr => ∃ (i : Nat) (own2 : Nat → Nat × Nat) (vMI vMR vME : Value) (xI xR xE : List Value), x = .int .i64 i ∧ i + k = 16 ∧ (∀ b, b < w.heap.size → own2 b = own b) ∧ Touch w.heap.size (fun b => (own b).1 = id) w wr ∧
                MarkSt own2 id wr hb w.heap.size (w.heap.size + 1) n (.slice aoI q capI) vMI (.slice aoR q2 capR) vMR (.slice aoE q3 capE) vME v7 v8 v9 (q + i) (q2 + i) (q3 + i) i i i xI xR xE)
              case atStart => exact ⟨0, own', _, _, _, [], [], [], rfl, rfl, ho', ht0, hm0⟩
              case round =>
                clear hm0 ht0 ho' hl1
                obtain ⟨i, own2, vMI, vMR, vME, xI, xR, xE, rfl, hk, ho2, ht, hm⟩ := hrel
                have HK : Hid (i + gk = 16) := hk
                have hi : i ≤ 16 := by omega
                clear hk
                by_cases hlt : i < 16
                · have k6 := hm.blk.cell 6
                  simp at k6
                  have hl1 := hm.blk.lt
                  obtain ⟨ao7, cap7, hv7, _⟩ := hm.gI.row.shape'
                  obtain ⟨ao8, cap8, hv8, _⟩ := hm.gR.row.shape'
                  obtain ⟨ao9, cap9, hv9, _⟩ := hm.gE.row.shape'
                  subst hv7 hv8 hv9
                  obtain ⟨aoMI, capMI, hvMI, _⟩ := hm.gI.more.shape'
                  obtain ⟨aoMR, capMR, hvMR, _⟩ := hm.gR.more.shape'
                  obtain ⟨aoME, capME, hvME, _⟩ := hm.gE.more.shape'
                  subst hvMI hvMR hvME
                  have hs0 := ht.size
                  have hm0 := hm
                  have ho0 := ho2
                  have ht0 := ht
                  have hown0 : (own hb).1 = id := by rw [← ho2 hb hl, hm.t0]
                  clear hm ho2 ht
                  have hR1 := hm0.gI.row.alloc (.cells (mI n).toArray 3)
                  go_wp2_with (at_builtin; refine wpList_append_kept _ rfl (.tmp 88) (.tmp 93) 62 rfl 3 ii0 _ 1 8 Tryz.underlying62 ii1 ii2 ii3 ii4 rfl (by decide) (.slice ao7 (q + i) cap7) (q + i) _ rfl hR1 ⟨wr.heap.size, 0, none⟩ 1 1 (mI n) rfl rfl ?c11 ?c12 (by omega) ?b11 ?b12 (wr.heap.size + 1) (by simp) ?nx1)
                  case c11 => exact World.news_of_block (B := wr.heap.size) (cs := (mI n).toArray) (t := 3) (fr := (0, 0)) (Blk.new _ _ _)
                  case c12 => exact oneCell_mI _
                  case b11 => unfold maxLen; omega
                  case b12 => omega
                  intro g1 cp1 w1 hown hgrow hat hlt1 hold
                  have hm1 := hm0.appI hown hgrow hat (fun b hb j hj => hold b hb j (by omega))
                  have ht1 := (ht0.alloc hs0 (.cells (mI n).toArray 3)).grown hgrow (by simp; omega) (touchTag ho0 hm0.gI.tg)
                  have ho1 := set1_keep (x := wr.heap.size + 1) (t := (id, 1)) ho0 (by omega)
                  have hs1 := ht1.size
                  clear hown hgrow hat hlt1 hold hR1
                  have r0 := hm1.bR.cell 0
                  have r1 := hm1.bR.cell 1
                  have r2 := hm1.bR.cell 2
                  have r3 := hm1.bR.cell 3
                  simp [mR] at r0 r1 r2 r3
                  clear k6
                  have hR2 := hm1.gR.row.alloc (.cells (mR n).toArray 111)
                  go_wp2_with (at_builtin; refine wpList_append_kept _ rfl (.tmp 95) (.tmp 97) 80 rfl 111 ir0 _ 4 32 Tryz.underlying80 ir1 ir2 ir3 ir4 rfl (by decide) (.slice ao8 (q2 + i) cap8) (q2 + i) _ rfl hR2 ⟨w1.heap.size, 0, none⟩ 1 1 (mR n) rfl rfl ?c21 ?c22 (by omega) ?b21 ?b22 (w1.heap.size + 1) (by simp) ?nx2)
                  case c21 => exact World.news_of_block (B := w1.heap.size) (cs := (mR n).toArray) (t := 111) (fr := (0, 0)) (Blk.new _ _ _)
                  case c22 => exact oneCell_mR _
                  case b21 => unfold maxLen; omega
                  case b22 => omega
                  intro g2 cp2 w2 hown hgrow hat hlt1 hold
                  have hm2 := hm1.appR hown hgrow hat hold
                  have ht2 := (ht1.alloc hs1 (.cells (mR n).toArray 111)).grown hgrow (by simp; omega) (touchTag ho1 hm1.gR.tg)
                  have ho2 := set1_keep (x := w1.heap.size + 1) (t := (id, 3)) ho1 (by omega)
                  have hs2 := ht2.size
                  clear hown hgrow hat hlt1 hold hR2
                  have s0 := hm2.bE.cell 0
                  have s1 := hm2.bE.cell 1
                  have s2 := hm2.bE.cell 2
                  have s3 := hm2.bE.cell 3
                  have s4 := hm2.bE.cell 4
                  simp [mE] at s0 s1 s2 s3 s4
                  clear r0 r1 r2 r3
                  have hR3 := hm2.gE.row.alloc (.cells (mE n).toArray 74)
                  go_wp2_with (at_builtin; refine wpList_append_kept _ rfl (.tmp 99) (.tmp 101) 49 rfl 74 ie0 _ 5 40 Tryz.underlying49 ie1 ie2 ie3 ie4 rfl (by decide) (.slice ao9 (q3 + i) cap9) (q3 + i) _ rfl hR3 ⟨w2.heap.size, 0, none⟩ 1 1 (mE n) rfl rfl ?c31 ?c32 (by omega) ?b31 ?b32 (w2.heap.size + 1) (by simp) ?nx3)
                  case c31 => exact World.news_of_block (B := w2.heap.size) (cs := (mE n).toArray) (t := 74) (fr := (0, 0)) (Blk.new _ _ _)
                  case c32 => exact oneCell_mE _
                  case b31 => unfold maxLen; omega
                  case b32 => omega
                  intro g3 cp3 w3 hown hgrow hat hlt1 hold
                  have hm3 := hm2.appE hown hgrow hat hold
                  have ht3 := (ht2.alloc hs2 (.cells (mE n).toArray 74)).grown hgrow (by simp; omega) (touchTag ho2 hm2.gE.tg)
                  have ho3 := set1_keep (x := w2.heap.size + 1) (t := (id, 5)) ho2 (by omega)
                  have hs3 := ht3.size
                  clear hown hgrow hat hlt1 hold hR3
                  clear s0 s1 s2 s3 s4
                  have f3 := hm3.blk.cell 1
                  simp only [List.getElem?_cons_succ, List.getElem?_cons_zero] at f3
                  have hR4 := hm3.gI.more.alloc (.cells #[.slice (some ⟨g1, 0, none⟩) (q + i + 1) cp1] 62)
                  go_wp2_with (at_builtin; refine wpList_append_lies _ rfl (.tmp 107) (.tmp 109) 68 rfl 0 62 ji0 _ 1 24 Tryz.underlying68 ji1 ji2 ji3 ji4 rfl (by decide) (.slice aoMI i capMI) i _ rfl hR4 ⟨w3.heap.size, 0, none⟩ 1 1 [.slice (some ⟨g1, 0, none⟩) (q + i + 1) cp1] rfl rfl ?c41 ?c42 (by omega) ?b41 ?b42 (by omega) (w3.heap.size + 1) (by simp) ?nx4)
                  case c41 => exact World.news_of_block (B := w3.heap.size) (cs := #[.slice (some ⟨g1, 0, none⟩) (q + i + 1) cp1]) (t := 62) (fr := (0, 0)) (Blk.at w3 [.slice (some ⟨g1, 0, none⟩) (q + i + 1) cp1] 62 _ (by simp))
                  case c42 => intro u hu; simp at hu; subst hu; rfl
                  case b41 => unfold maxLen; omega
                  case b42 => omega
                  intro g4 cp4 w4 hown hgrow hat hlt1
                  have hbk := (hm3.blk.alloc (.cells #[.slice (some ⟨g1, 0, none⟩) (q + i + 1) cp1] 62)).grown hgrow (fun e => by have := hm3.gI.tgM _ e; rw [hm3.t0] at this; simp at this)
                  have e0 := hbk.cell 1
                  have e1 := hbk.frozen 1
                  simp only [List.getElem?_cons_succ, List.getElem?_cons_zero] at e0
                  have f4 := hbk.cell 3
                  simp only [List.getElem?_cons_succ, List.getElem?_cons_zero] at f4
                  have hm4 := hm3.pushI hown hgrow hat
                  have ht4 := ((ht3.alloc hs3 (.cells #[.slice (some ⟨g1, 0, none⟩) (q + i + 1) cp1] 62)).grown hgrow (by simp at hs3 ⊢; omega) (touchTag ho3 hm3.gI.tgM)).setCell (p := ⟨hb, 1, none⟩) (.inl hown0) (.slice (some ⟨g4, 0, none⟩) (i + 1) cp4)
                  have ho4 := set1_keep (x := w3.heap.size + 1) (t := (id, 2)) ho3 (by omega)
                  have hs4 := ht4.size
                  clear hown hgrow hat hlt1 hR4 hbk f3
                  have hR5 := hm4.gR.more.alloc (.cells #[.slice (some ⟨g2, 0, none⟩) (q2 + i + 1) cp2] 80)
                  go_wp2_with (at_builtin; refine wpList_append_lies _ rfl (.tmp 117) (.tmp 119) 85 rfl 0 80 jr0 _ 1 24 Tryz.underlying85 jr1 jr2 jr3 jr4 rfl (by decide) (.slice aoMR i capMR) i _ rfl hR5 ⟨w4.heap.size, 0, none⟩ 1 1 [.slice (some ⟨g2, 0, none⟩) (q2 + i + 1) cp2] rfl rfl ?c51 ?c52 (by omega) ?b51 ?b52 (by omega) ((w4.setCell ⟨hb, 1, none⟩ (.slice (some ⟨g4, 0, none⟩) (i + 1) cp4)).heap.size + 1) (by simp) ?nx5)
                  case c51 => exact World.news_of_block (B := w4.heap.size) (cs := #[.slice (some ⟨g2, 0, none⟩) (q2 + i + 1) cp2]) (t := 80) (fr := (0, 0)) (Blk.at (w4.setCell ⟨hb, 1, none⟩ (.slice (some ⟨g4, 0, none⟩) (i + 1) cp4)) [.slice (some ⟨g2, 0, none⟩) (q2 + i + 1) cp2] 80 _ (by simp))
                  case c52 => intro u hu; simp at hu; subst hu; rfl
                  case b51 => unfold maxLen; omega
                  case b52 => omega
                  intro g5 cp5 w5 hown hgrow hat hlt1
                  have hbk := (hm4.blk.alloc (.cells #[.slice (some ⟨g2, 0, none⟩) (q2 + i + 1) cp2] 80)).grown hgrow (fun e => by have := hm4.gR.tgM _ e; rw [hm4.t0] at this; simp at this)
                  have e0 := hbk.cell 3
                  have e1 := hbk.frozen 3
                  simp only [List.getElem?_cons_succ, List.getElem?_cons_zero] at e0
                  have f5 := hbk.cell 5
                  simp only [List.getElem?_cons_succ, List.getElem?_cons_zero] at f5
                  have hm5 := hm4.pushR hown hgrow (by rcases hat with h | h; exact Or.inl h; exact Or.inr (by rw [h]; simp))
                  have ht5 := ((ht4.alloc hs4 (.cells #[.slice (some ⟨g2, 0, none⟩) (q2 + i + 1) cp2] 80)).grown hgrow (by simp at hs4 ⊢; omega) (touchTag ho4 hm4.gR.tgM)).setCell (p := ⟨hb, 3, none⟩) (.inl hown0) (.slice (some ⟨g5, 0, none⟩) (i + 1) cp5)
                  have ho5 := set1_keep (x := (w4.setCell ⟨hb, 1, none⟩ (.slice (some ⟨g4, 0, none⟩) (i + 1) cp4)).heap.size + 1) (t := (id, 4)) ho4 (by omega)
                  have hs5 := ht5.size
                  clear hown hgrow hat hlt1 hR5 hbk f4
                  have hR6 := hm5.gE.more.alloc (.cells #[.slice (some ⟨g3, 0, none⟩) (q3 + i + 1) cp3] 49)
                  go_wp2_with (at_builtin; refine wpList_append_lies _ rfl (.tmp 127) (.tmp 129) 86 rfl 0 49 je0 _ 1 24 Tryz.underlying86 je1 je2 je3 je4 rfl (by decide) (.slice aoME i capME) i _ rfl hR6 ⟨w5.heap.size, 0, none⟩ 1 1 [.slice (some ⟨g3, 0, none⟩) (q3 + i + 1) cp3] rfl rfl ?c61 ?c62 (by omega) ?b61 ?b62 (by omega) ((w5.setCell ⟨hb, 3, none⟩ (.slice (some ⟨g5, 0, none⟩) (i + 1) cp5)).heap.size + 1) (by simp) ?nx6)
                  case c61 => exact World.news_of_block (B := w5.heap.size) (cs := #[.slice (some ⟨g3, 0, none⟩) (q3 + i + 1) cp3]) (t := 49) (fr := (0, 0)) (Blk.at (w5.setCell ⟨hb, 3, none⟩ (.slice (some ⟨g5, 0, none⟩) (i + 1) cp5)) [.slice (some ⟨g3, 0, none⟩) (q3 + i + 1) cp3] 49 _ (by simp))
                  case c62 => intro u hu; simp at hu; subst hu; rfl
                  case b61 => unfold maxLen; omega
                  case b62 => omega
                  intro g6 cp6 w6 hown hgrow hat hlt1
                  have hbk := (hm5.blk.alloc (.cells #[.slice (some ⟨g3, 0, none⟩) (q3 + i + 1) cp3] 49)).grown hgrow (fun e => by have := hm5.gE.tgM _ e; rw [hm5.t0] at this; simp at this)
                  have e0 := hbk.cell 5
                  have e1 := hbk.frozen 5
                  simp only [List.getElem?_cons_succ, List.getElem?_cons_zero] at e0
                  have hm6 := hm5.pushE hown hgrow (by rcases hat with h | h; exact Or.inl h; exact Or.inr (by rw [h]; simp))
                  have ht6 := ((ht5.alloc hs5 (.cells #[.slice (some ⟨g3, 0, none⟩) (q3 + i + 1) cp3] 49)).grown hgrow (by simp at hs5 ⊢; omega) (touchTag ho5 hm5.gE.tgM)).setCell (p := ⟨hb, 5, none⟩) (.inl hown0) (.slice (some ⟨g6, 0, none⟩) (i + 1) cp6)
                  have ho6 := set1_keep (x := (w5.setCell ⟨hb, 3, none⟩ (.slice (some ⟨g5, 0, none⟩) (i + 1) cp5)).heap.size + 1) (t := (id, 6)) ho5 (by omega)
                  have hs6 := ht6.size
                  clear hown hgrow hat hlt1 hR6 hbk f5
                  go_wp2_with fail
                  go_roundg (gk - 1)
                  case measure => have := HK.out; omega
                  case rel => exact ⟨i + 1, _, _, _, _, _, _, _, by go_num, by have := HK.out; omega, ho6, ht6, hm6⟩
                · obtain rfl : i = 16 := by omega
                  go_wp2_with fail
                  go_end0
                  exact ⟨rfl, own2, ho2, ht, hm.done (by omega) (by omega) (by omega) (by omega)⟩
end Go.Proofs.YtinlkcmdbjcofaaGreat

namespace Go.Proofs.YtinlkcmdbjcofaaGreat
open Go.RowKit
set_option linter.unusedVariables false
attribute [local go_sem ↓] Go.wp_at_zero Go.wp_at_succ

set_option maxHeartbeats 1000000 in
set_option maxRecDepth 100000 in
/-- Two lists of rights with the same cells. -/
theorem sameRights_any {w : World} {va vb : Value} {rs : List RR} (ha : Row w va 111 4 rs.length (rs.flatMap rcells)) (hb : Row w vb 111 4 rs.length (rs.flatMap rcells)) (hm : rs.length ≤ 4611686018427387904) :
    Calls Tryz.prog 40 #[va, vb] w fun e w' => e = .returned (.bool true) ∧ Below w.heap.size w w' := by
  obtain ⟨ao, cap, hv, hca⟩ := ha.shape'
  obtain ⟨bo, cap2, hv2, hcb⟩ := hb.shape'
  subst hv hv2
  have hne : ((rs.length : Int) != (rs.length : Int)) = false := by simp
  go_enter Tryz.func40, Tryz.ntmps40
  go_wp2_with fail
  go_loopg [5] rs.length (fun k x wr => ∃ q : Nat, x = .int .i64 q ∧ q + k = rs.length ∧ Below w.heap.size w wr)
  case atStart => exact ⟨0, rfl, by omega, Below.refl _ _⟩
  case round =>
    obtain ⟨q, rfl, hk, hbl⟩ := hrel
    have HK : Hid (q + gk = rs.length) := hk
    have hq : q ≤ rs.length := by omega
    clear hk
    by_cases hlt : q < rs.length
    · rcases hca with h0 | ⟨g, rfl⟩
      · omega
      rcases hcb with h0 | ⟨g2, rfl⟩
      · omega
      have ha' := ha.below hbl
      have hb' := hb.below hbl
      obtain ⟨r, hr⟩ : ∃ r, rs[q]? = some r := ⟨rs[q], by simp⟩
      have c0 : wr.cell? ⟨g, q * 4, none⟩ = some (.int .i64 r.h) := by rw [ha'.cellAt' _ (by omega), show q * 4 = q * 4 + 0 by omega, flat_get rcells 4 (fun _ => rfl) rs q 0 r hr (by omega)]; rfl
      have c1 : wr.cell? ⟨g, q * 4 + 1, none⟩ = (rcells r)[1]? := by rw [ha'.cellAt' _ (by omega), flat_get rcells 4 (fun _ => rfl) rs q 1 r hr (by omega)]
      have c2 : wr.cell? ⟨g, q * 4 + 2, none⟩ = (rcells r)[2]? := by rw [ha'.cellAt' _ (by omega), flat_get rcells 4 (fun _ => rfl) rs q 2 r hr (by omega)]
      have c3 : wr.cell? ⟨g, q * 4 + 3, none⟩ = (rcells r)[3]? := by rw [ha'.cellAt' _ (by omega), flat_get rcells 4 (fun _ => rfl) rs q 3 r hr (by omega)]
      have d0 : wr.cell? ⟨g2, q * 4, none⟩ = some (.int .i64 r.h) := by rw [hb'.cellAt' _ (by omega), show q * 4 = q * 4 + 0 by omega, flat_get rcells 4 (fun _ => rfl) rs q 0 r hr (by omega)]; rfl
      have d1 : wr.cell? ⟨g2, q * 4 + 1, none⟩ = (rcells r)[1]? := by rw [hb'.cellAt' _ (by omega), flat_get rcells 4 (fun _ => rfl) rs q 1 r hr (by omega)]
      have d2 : wr.cell? ⟨g2, q * 4 + 2, none⟩ = (rcells r)[2]? := by rw [hb'.cellAt' _ (by omega), flat_get rcells 4 (fun _ => rfl) rs q 2 r hr (by omega)]
      have d3 : wr.cell? ⟨g2, q * 4 + 3, none⟩ = (rcells r)[3]? := by rw [hb'.cellAt' _ (by omega), flat_get rcells 4 (fun _ => rfl) rs q 3 r hr (by omega)]
      simp only [rcells, List.getElem?_cons_succ, List.getElem?_cons_zero] at c1 c2 c3 d1 d2 d3
      have hi0 : (0 : Int) ≤ (q : Int) := by omega
      have hi1 : (q : Int) < (rs.length : Int) := by omega
      clear hr ha' hb'
      go_wp2_with fail
      go_quiet (fail)
      go_wp2_with fail
      go_roundg (gk - 1)
      case measure => have := HK.out; omega
      case rel => exact ⟨q + 1, by go_num, by have := HK.out; omega, below_drewN hbl _⟩
    · go_wp2_with fail
      go_ret
      exact ⟨rfl, hbl⟩

theorem Tryz.infoPH : (Tryz.prog.info? 46).map (fun i => (i.zero, i.size, i.bytes)) = some (some (.pointer none), 1, 8) := by kernel_rfl

theorem HoldNew.mark {own : Nat → Nat × Nat} {id : Nat} {w : World} {hb : Nat} {n m : Int} {vI vR vE : Value} {nI nR nE : Nat} {lI lR lE : List Value} (h : HoldNew own id w hb n vI vR vE nI nR nE lI lR lE) :
    HoldNew own id (w.setCell ⟨hb, 6, none⟩ (.int .i64 m)) hb m vI vR vE nI nR nE lI lR lE := by
  have hk : ∀ j, j ≠ 0 → ∀ b, b < w.heap.size → own b = (id, j) → (w.setCell ⟨hb, 6, none⟩ (.int .i64 m)).heap[b]? = w.heap[b]? := fun j hj b hb' ht => Below.heap_setCell _ _ _ _ (fun e => by
    simp at e; rw [e, h.t0] at ht; simp at ht; omega)
  exact ⟨h.blk.set 6 _, h.rI.kept h.tI (hk 1 (by omega)), h.rR.kept h.tR (hk 3 (by omega)), h.rE.kept h.tE (hk 5 (by omega)), h.t0, h.tI, h.tR, h.tE⟩
theorem HoldNew.drewN {own : Nat → Nat × Nat} {id : Nat} {w : World} {hb : Nat} {n : Int} {vI vR vE : Value} {nI nR nE : Nat} {lI lR lE : List Value} (h : HoldNew own id w hb n vI vR vE nI nR nE lI lR lE) (k : Nat) :
    HoldNew own id (w.drewN k) hb n vI vR vE nI nR nE lI lR lE := ⟨h.blk, h.rI, h.rR, h.rE, h.t0, h.tI, h.tR, h.tE⟩

def hptr (b : Nat) : Value := .pointer (some ⟨b, 0, none⟩)

set_option maxHeartbeats 2000000 in
set_option maxRecDepth 100000 in
theorem keep_any {own : Nat → Nat × Nat} {id bw : Nat} {w : World} {vP vH : Value} {hb : Nat} {hbs : List Nat} {n : Int} {vI vR vE : Value} {nI nR nE : Nat} {lI lR lE : List Value} (h : HoldNew own id w hb n vI vR vE nI nR nE lI lR lE)
    (mI0 : nI ≤ 2932031007402) (mR0 : nR ≤ 2932031007402) (mE0 : nE ≤ 2932031007402) (hw : Blk w bw [vP, vH] 29) (hH : Row w vH 46 1 hbs.length (hbs.map hptr)) (hlen : (hbs.length + 1) * 8 ≤ 140737488355328)
    (hbwn : (own bw).1 ≠ id) (hHn : ∀ b, vH.ownBlock = some b → (own b).1 ≠ id ∧ b ≠ bw) :
    Calls Tryz.prog 41 #[.pointer (some ⟨bw, 0, none⟩), .pointer (some ⟨hb, 0, none⟩)] w fun e w' => e = .returned (.tuple #[]) ∧
      ∃ (own' : Nat → Nat × Nat) (g cap : Nat) (m : Int), (∀ b, b < w.heap.size → own' b = own b) ∧ Touch w.heap.size (fun b => (own b).1 = id ∨ b = bw ∨ vH.ownBlock = some b) w w' ∧
        Blk w' bw [vP, .slice (some ⟨g, 0, none⟩) (hbs.length + 1) cap] 29 ∧ Row w' (.slice (some ⟨g, 0, none⟩) (hbs.length + 1) cap) 46 1 (hbs.length + 1) ((hbs ++ [hb]).map hptr) ∧
        (vH.ownBlock = some g ∨ w.heap.size ≤ g ∧ (own' g).1 = 0) ∧ HoldOK own' id w' hb m (nI + nR + nE + 16) := by
  obtain ⟨i0, i1, i2, i3, i4⟩ := info_parts Tryz.infoPH
  have k1 := hw.cell 1
  have k6 := h.blk.cell 6
  have f6 := h.blk.frozen 6
  simp at k1 k6
  have hl := h.blk.lt
  have hwl := hw.lt
  obtain ⟨ao, cap, hv, _⟩ := hH.shape'
  have hne : hb ≠ bw := fun e => hbwn (by rw [← e, h.t0])
  have hne' : bw ≠ hb := fun e => hne e.symm
  subst hv
  go_enter Tryz.func41, Tryz.ntmps41
  go_wp2_with fail
  refine (marks_any (h.mark (m := -1000 - (hbs.length : Int))) mI0 mR0 mE0).mono ?_
  rintro e w1 ⟨rfl, own1, ho1, ht1, hok⟩
  simp at ho1 ht1
  have hw1 : Blk w1 bw [vP, .slice ao hbs.length cap] 29 := (hw.other (a := ⟨hb, 6, none⟩) (.int .i64 (-1000 - (hbs.length : Int))) hne').of (ht1.block bw hwl hbwn)
  have hH1 : Row w1 (.slice ao hbs.length cap) 46 1 hbs.length (hbs.map hptr) := (hH.other (a := ⟨hb, 6, none⟩) (.int .i64 (-1000 - (hbs.length : Int))) (fun e => (hHn _ e).1 (by rw [h.t0]))).of (fun b hb => ht1.block b (hH.lt b hb) (hHn b hb).1)
  have hs1 : w.heap.size ≤ w1.heap.size := by have := ht1.size; simpa using this
  have hlt1 := hok.lt
  have j1 := hw1.cell 1
  simp only [List.getElem?_cons_succ, List.getElem?_cons_zero] at j1
  have hR := hH1.alloc (.cells #[hptr hb] 46)
  have t0 := h.t0
  have hHlt := hH.lt
  clear k1 k6 f6 h hw
  go_wp2_with (at_builtin; refine wpList_append_lies _ rfl (.tmp 19) (.tmp 21) 27 rfl 0 46 i0 _ 1 8 Tryz.underlying27 i1 i2 i3 i4 rfl (by decide) (.slice ao hbs.length cap) hbs.length _ rfl hR ⟨w1.heap.size, 0, none⟩ 1 1 [hptr hb] rfl rfl ?c1 ?c2 (by omega) ?b1 ?b2 (by omega) (w1.heap.size + 1) (by simp) ?nx)
  case c1 => exact World.news_of_block (B := w1.heap.size) (cs := #[hptr hb]) (t := 46) (fr := (0, 0)) (Blk.new _ [_] _)
  case c2 => intro u hu; simp at hu; subst hu; rfl
  case b1 => unfold maxLen; omega
  case b2 => omega
  intro g1 cap1 w2 hown hgrow hat hlt2
  have hbk := (hw1.alloc (.cells #[hptr hb] 46)).grown hgrow (fun e => (hHn _ e).2 rfl)
  have e0 := hbk.cell 1
  have e1 := hbk.frozen 1
  simp only [List.getElem?_cons_succ, List.getElem?_cons_zero] at e0
  have hs2 := hgrow.size
  simp at hs2
  go_wp2_with fail
  go_end0
  refine ⟨rfl, set1 own1 (w1.heap.size + 1) (0, 0), g1, cap1, -1000 - hbs.length, set1_keep ho1 (by omega), ?_, hbk.set 1 _, ?_, ?_, ?_⟩
  · have q1 : Touch w.heap.size (fun b => (own b).1 = id ∨ b = bw ∨ (Value.slice ao hbs.length cap).ownBlock = some b) w w1 := ((Touch.refl _ _ _).setCell (p := ⟨hb, 6, none⟩) (.inl (.inl (by rw [t0]))) _).trans (ht1.mono (Nat.le_refl _) (fun k _ h => .inl h))
    exact ((q1.alloc hs1 _).grown hgrow (by simp; omega) (fun k hk => .inl (.inr (.inr hk)))).setCell (p := ⟨bw, 1, none⟩) (.inl (.inr (.inl rfl))) _
  · rw [List.map_append]
    refine Row.other (w := w2) hown _ (fun e => ?_)
    simp [Value.ownBlock] at e
    rcases hat with h1 | h1
    · exact (hHn _ h1).2 e
    · omega
  · rcases hat with h1 | h1
    · exact .inl h1
    · exact .inr ⟨by omega, by rw [h1, set1_at]⟩
  · refine hok.of (set1_old (by omega)) (by simp; omega) (fun b hb' ht => ?_)
    have hnw : b ≠ bw := fun e => hbwn (by rw [← ho1 bw hwl, ← e, ht])
    have hnH : (Value.slice ao hbs.length cap).ownBlock ≠ some b := fun e => (hHn b e).1 (by rw [← ho1 b (hHlt b e), ht])
    rw [Below.heap_setCell _ _ _ _ (by simpa using hnw), hgrow.block b (by simp; omega) (fun e => hnH e.symm), Below.heap_alloc _ _ _ hb']
end Go.Proofs.YtinlkcmdbjcofaaGreat

/-
  A list more that came out and is kept.
-/
namespace Go.Proofs.YtinlkcmdbjcofaaGreat
open Go.RowKit
set_option linter.unusedVariables false
attribute [local go_sem ↓] Go.wp_at_zero Go.wp_at_succ

section
theorem HoldOK.retag {own own' : Nat → Nat × Nat} {id : Nat} {w : World} {hb : Nat} {n : Int} {a : Nat} (h : HoldOK own id w hb n a) (ho : ∀ b, b < w.heap.size → (own b).1 = id → own' b = own b) : HoldOK own' id w hb n a := by
  have ht : ∀ {v : Value} {e k n : Nat} {xs : List Value} {j : Nat}, Row w v e k n xs → Tg own v (id, j) → Tg own' v (id, j) := fun hr ht b hb => (ho b (hr.lt b hb) (by rw [ht b hb])).trans (ht b hb)
  have hsa : ∀ {c : List Value} {k j : Nat} {x : Value}, SA own (id, j) w c k a x → SA own' (id, j) w c k a x := by
    rintro c k j x ⟨ao, n, cap, g, rfl, hn, h⟩
    exact ⟨ao, n, cap, g, rfl, hn, by rcases h with h | ⟨h1, h2, h3, h4⟩; exact Or.inl h; exact Or.inr ⟨h1, (ho g h3 (by rw [h2])).trans h2, h3, h4⟩⟩
  have hlt := h.lt
  obtain ⟨vI, vMI, vR, vMR, vE, vME, xI, xR, xE, h1, h2, h3, h4, ⟨i1, i2, i3⟩, ⟨r1, r2, r3⟩, ⟨e1, e2, e3⟩⟩ := h.ex
  exact ⟨⟨vI, vMI, vR, vMR, vE, vME, xI, xR, xE, h1, hsa h2, hsa h3, hsa h4, ⟨i1, ht i1 i2, fun x hx => hsa (i3 x hx)⟩, ⟨r1, ht r1 r2, fun x hx => hsa (r3 x hx)⟩, ⟨e1, ht e1 e2, fun x hx => hsa (e3 x hx)⟩⟩, (ho hb hlt (by rw [h.tm])).trans h.tm, h.am⟩

/-- What a list more leaves. -/
def ListRes (own : Nat → Nat × Nat) (ih bw : Nat) (w w' : World) (vP vH : Value) (hbs : List Nat) : Prop :=
  ∃ (own' : Nat → Nat × Nat) (g cap hb a : Nat) (m : Int), (∀ b, b < w.heap.size → own' b = own b) ∧ (∀ b, w.heap.size ≤ b → (own' b).1 = 0 ∨ (own' b).1 = 1 ∨ (own' b).1 = ih) ∧ Touch w.heap.size (fun b => b = bw ∨ vH.ownBlock = some b) w w' ∧
    Blk w' bw [vP, .slice (some ⟨g, 0, none⟩) (hbs.length + 1) cap] 29 ∧ Row w' (.slice (some ⟨g, 0, none⟩) (hbs.length + 1) cap) 46 1 (hbs.length + 1) ((hbs ++ [hb]).map hptr) ∧
    own' g = (1, 2) ∧ HoldOK own' ih w' hb m a

theorem hold_start (own : Nat → Nat × Nat) (ih : Nat) {w w3 : World} {v : Value} {n : Nat} {xs : List Value} (hb : w.heap.size ≤ w3.heap.size) (hrow : Row w3 v 111 4 n xs) (hn : ∀ x, v.ownBlock = some x → w.heap.size ≤ x) :
    ∃ own3 : Nat → Nat × Nat, (∀ b, b < w.heap.size → own3 b = own b) ∧ (∀ b, w.heap.size ≤ b → (own3 b).1 = 0 ∨ (own3 b).1 = ih) ∧
      HoldNew own3 ih (w3.alloc (.cells #[.slice none 0 0, .slice none 0 0, v, .slice none 0 0, .slice none 0 0, .slice none 0 0, .int .i64 0] 88)) w3.heap.size 0 (.slice none 0 0) v (.slice none 0 0) 0 n 0 [] xs [] := by
  have hlt := hrow.lt
  refine ⟨fun b => if b < w.heap.size then own b else if b = w3.heap.size then (ih, 0) else if v.ownBlock = some b then (ih, 3) else (0, 0), fun b hb => if_pos hb, fun b hb => ?_,
    Blk.new w3 [_, _, _, _, _, _, _] _, Row.nil _ _ _, hrow.alloc _, Row.nil _ _ _, ?_, Tg.nil _ _, ?_, Tg.nil _ _⟩
  · simp only [if_neg (show ¬ b < w.heap.size by omega)]
    split
    · exact .inr rfl
    · split
      · exact .inr rfl
      · exact .inl rfl
  · simp only [if_neg (show ¬ w3.heap.size < w.heap.size by omega), if_true]
  · intro b hb'
    have h1 := hn b hb'
    have h2 := hlt b hb'
    simp only [if_neg (show ¬ b < w.heap.size by omega), if_neg (show ¬ b = w3.heap.size by omega), hb', if_true]

theorem list_fin {own own3 own' : Nat → Nat × Nat} {ih bw : Nat} {w W w' : World} {vP vH : Value} {hbs : List Nat} {g cap hb a : Nat} {m : Int} (hbW : Below w.heap.size w W) (ho3 : ∀ b, b < w.heap.size → own3 b = own b) (ho' : ∀ b, b < W.heap.size → own' b = own3 b)
    (hih : ∀ b, (own b).1 ≠ ih) (hih1 : ih ≠ 1) (hih0 : ih ≠ 0) (hwl : bw < w.heap.size) (hHl : ∀ b, vH.ownBlock = some b → b < w.heap.size) (tH : Tg own vH (1, 2))
    (ht : Touch W.heap.size (fun b => (own3 b).1 = ih ∨ b = bw ∨ vH.ownBlock = some b) W w') (hw' : Blk w' bw [vP, .slice (some ⟨g, 0, none⟩) (hbs.length + 1) cap] 29)
    (hH' : Row w' (.slice (some ⟨g, 0, none⟩) (hbs.length + 1) cap) 46 1 (hbs.length + 1) ((hbs ++ [hb]).map hptr)) (hg : vH.ownBlock = some g ∨ W.heap.size ≤ g ∧ (own' g).1 = 0) (hok : HoldOK own' ih w' hb m a) :
    ListRes own ih bw w w' vP vH hbs := by
  have hs := hbW.size
  have hag : ∀ b, b < w.heap.size → own' b = own b := fun b hb => (ho' b (by omega)).trans (ho3 b hb)
  refine ⟨fun b => if b < w.heap.size then own b else if b = g then (1, 2) else if (own' b).1 = ih then own' b else (0, 0), g, cap, hb, a, m, fun b hb => if_pos hb, fun b hb => ?_, ?_, hw', hH', ?_, hok.retag (fun b hbl h => ?_)⟩
  · simp only [if_neg (show ¬ b < w.heap.size by omega)]
    split
    · exact .inr (.inl rfl)
    · split
      · rename_i h; exact .inr (.inr h)
      · exact .inl rfl
  · refine (Touch.of_below hbW _).trans (ht.mono hs (fun k hk h => ?_))
    rcases h with h | h
    · rw [ho3 k hk] at h; exact absurd h (hih k)
    · exact h
  · rcases hg with h | ⟨h, _⟩
    · simp only [if_pos (hHl g h)]; exact tH g h
    · simp only [if_neg (show ¬ g < w.heap.size by omega), if_true]
  · by_cases hl : b < w.heap.size
    · rw [hag b hl] at h; exact absurd h (hih b)
    · have hbg : b ≠ g := fun e => by
        subst e
        rcases hg with h1 | ⟨_, h1⟩
        · exact hl (hHl b h1)
        · rw [h1] at h; exact hih0 h.symm
      simp only [if_neg hl, if_neg hbg, if_pos h]

end
end Go.Proofs.YtinlkcmdbjcofaaGreat

namespace Go.Proofs.YtinlkcmdbjcofaaGreat
open Go.RowKit
set_option linter.unusedVariables false
attribute [local go_sem ↓] Go.wp_at_zero Go.wp_at_succ

theorem Tryz.infoPair : (Tryz.prog.info? 44).map (fun i => (i.zero, i.size, i.bytes)) = some (some (.agg #[.pointer none, .pointer none]), 2, 16) := by kernel_rfl

/-- A call of a Go function as a step of a region that draws its order. -/
theorem step_call {P : Program} {ops : Array Oper} {o : Oper} {a : Act} {w : World} {K : Act → World → Prop} {Q : Exit → Act → World → Prop} {E : Prop} (hgd : o.guard = none) (f : FuncId) (x : Operand) (t : TypeId)
    (ho : o.op = .call { callee := .value (.func f), args := #[x], argTypes := #[t] }) {fn : Func} (hf : P.funcs[f]? = some fn) (hname : (fn.name == "runtime.NumGoroutine") = false) (hb : fn.body.isSome = true)
    (v : Value) (hx : a.eval x = v)
    (h : Calls P f #[v] w fun e w' => match e, w' with
      | .returned v, w'' => K (a.put o.dst v) w''
      | .panicked chain, w'' => Q (.panic chain) a w''
      | .outgrown, _ => LetsOut Q) :
    if Region.wanted o (yielded ops a.tmps) = true then Oper.wp P o a w K Q else E := by
  have hw : Region.wanted o (yielded ops a.tmps) = true := by simp [Region.wanted, hgd]
  have ef : a.eval (.func f) = .func (.func f) #[] #[] := rfl
  have e1 : execOp a.eval o = callFunc f #[v] := by
    unfold execOp
    simp [ho, resolve, Deferred.ofValue, invoke, ef, hx]
  have h1 : fn.name ≠ "runtime.NumGoroutine" := by simpa using hname
  obtain ⟨c, hb⟩ := Option.isSome_iff_exists.1 hb
  have e2 : (callFunc f #[v]).run P w = .ok (.enter f #[v]) w := by simp [callFunc, hf, h1, hb]
  rw [if_pos hw]
  unfold Oper.wp
  rw [e1, e2]
  exact h

theorem Tryz.nameBegin : (Tryz.f19.name == "runtime.NumGoroutine") = false := by kernel_rfl

def ptr (b : Nat) : Value := .pointer (some ⟨b, 0, none⟩)
def pairCells (x : Nat × Nat) : List Value := [ptr x.1, ptr x.2]

def opAgg (K M A B C D : Int) (F : Bool) : Value := .agg #[.int .i64 K, .int .i64 M, .int .i64 A, .int .i64 B, .int .i64 C, .int .i64 D, .bool F]

theorem oneCell_pair (x : Nat × Nat) : ∀ u ∈ pairCells x, u.oneCell' = true := by
  intro u hu; simp [pairCells] at hu; rcases hu with rfl | rfl <;> rfl

set_option maxHeartbeats 400000 in
theorem may_any (a b c : Int) (w : World) :
    Calls Tryz.prog 18 #[.agg #[.int .i64 a, .int .i64 b, .int .i64 c]] w fun e w' => e = .returned (.bool (mayB a b c)) ∧ Below w.heap.size w w' := by
  go_enter Tryz.func18, Tryz.ntmps18
  go_wp2
  all_goals
    go_ret
    refine ⟨ret_bool ?_, (Below.refl _ _).alloc (Nat.le_refl _) _⟩
    rw [Bool.eq_iff_iff]; simp [mayB]; omega

end Go.Proofs.YtinlkcmdbjcofaaGreat

namespace Go.Proofs.YtinlkcmdbjcofaaGreat
open Go.RowKit
set_option linter.unusedVariables false

/-- A call of a script. -/
structure LOp where
  K : Int
  M : Int
  A : Int
  B : Int
  C : Int
  D : Int
  F : Bool

def LOp.cells (o : LOp) : List Value := [.int .i64 o.K, .int .i64 o.M, .int .i64 o.A, .int .i64 o.B, .int .i64 o.C, .int .i64 o.D, .bool o.F]
def LOp.val (o : LOp) : Value := .agg #[.int .i64 o.K, .int .i64 o.M, .int .i64 o.A, .int .i64 o.B, .int .i64 o.C, .int .i64 o.D, .bool o.F]

/-- What a law's invariant must bear, so that 'plays' answers true: G i w S: i calls are played; S: the blocks that are the invariant's own. -/
structure Playable (w0 : World) (ops : List LOp) (lo hi most : Int) (G : Nat → World → (Nat → Prop) → Prop) : Prop where
  lt : ∀ {i w S}, G i w S → ∀ k, S k → k < w.heap.size
  alloc : ∀ {i w S} (o : Obj), G i w S → G i (w.alloc o) S
  begins : Calls Tryz.prog 14 #[.pointer (some ⟨w0.heap.size, 0, none⟩), .agg #[.int .i64 0, .int .i64 0, .int .i64 3, .int .i64 2, .int .i64 3, .int .i64 0, .bool false]]
      (w0.alloc (.cells #[.slice none 0 0, .slice none 0 0] 29)) fun e w' => e = .returned (.bool true) ∧ ∃ S, G 0 w' S ∧ Below w0.heap.size w0 w' ∧ ∀ k, S k → w0.heap.size ≤ k
  steps : ∀ {i w S} (o : LOp), ops[i]? = some o → o.K ≤ most → G i w S → (∀ k, S k → w0.heap.size ≤ k) →
      Calls Tryz.prog 15 #[.pointer (some ⟨w0.heap.size, 0, none⟩), .agg #[.int .i64 o.K, .int .i64 o.M, .int .i64 o.A, .int .i64 o.B, .int .i64 o.C, .int .i64 o.D, .bool o.F]] w fun e w' =>
        ∃ ok, e = .returned (.bool ok) ∧ ((o.K = 1 ∨ lo ≤ o.K ∧ o.K ≤ hi) → ok = true) ∧ ∃ S', G (i + 1) w' S' ∧ Touch w.heap.size S w w' ∧ ∀ k, S' k → S k ∨ w.heap.size ≤ k
  skips : ∀ {i w S} (o : LOp), ops[i]? = some o → most < o.K → G i w S → G (i + 1) w S
  looks : ∀ {i w S}, G i w S → Calls Tryz.prog 16 #[.pointer (some ⟨w0.heap.size, 0, none⟩)] w fun e w' => e = .returned (.bool true) ∧ Below w.heap.size w w' ∧ G i w' S

set_option maxHeartbeats 4000000 in
set_option maxRecDepth 100000 in
theorem plays_pos (w0 : World) (b off len cap : Nat) (ops : List LOp) (lo hi most : Int) (G : Nat → World → (Nat → Prop) → Prop) (hG : Playable w0 ops lo hi most G) (hlen : ops.length = len) (hl : len ≤ 4611686018427387904)
    (hb : b < w0.heap.size) (hc : ∀ (i : Nat) (o : LOp), ops[i]? = some o → ∀ (j : Nat) (v : Value), o.cells[j]? = some v → w0.cell? ⟨b, off + i * 7 + j, none⟩ = some v) :
    Calls Tryz.prog 13 #[.slice (some ⟨b, off, none⟩) len cap, .int .i64 lo, .int .i64 hi, .int .i64 most] w0 fun e w' => e = .returned (.bool true) ∧ Below w0.heap.size w0 w' := by
  go_enter Tryz.func13, Tryz.ntmps13
  go_wp2_with fail
  refine hG.begins.mono ?_
  rintro e w1 ⟨rfl, S, hg0, hb0, hS0⟩
  go_wp2_with fail
  go_loopg [11] len (fun k i wr => ∃ (r : Nat) (S : Nat → Prop), r + k = len ∧ i = .int .i64 r ∧ G r wr S ∧ Below w0.heap.size w0 wr ∧ ∀ k, S k → w0.heap.size ≤ k)
  case atStart => exact ⟨0, S, by omega, rfl, hg0, hb0, hS0⟩
  case round =>
    clear hS0 hb0 hg0
    clear S w1
    obtain ⟨r, S, hr, rfl, hg, hbl, hS⟩ := hrel
    by_cases hlt : r < len
    · obtain ⟨o, ho⟩ : ∃ o, ops[r]? = some o := ⟨ops[r], by simp⟩
      have hx := hc r o ho
      have hy : ∀ (j : Nat) (v : Value), o.cells[j]? = some v → wr.cell? ⟨b, off + r * 7 + j, none⟩ = some v := fun j v hv => (hbl.cell (p := ⟨b, off + r * 7 + j, none⟩) hb).trans (hx j v hv)
      have c0 := hy 0 _ rfl
      have c1 := hy 1 _ rfl
      have c2 := hy 2 _ rfl
      have c3 := hy 3 _ rfl
      have c4 := hy 4 _ rfl
      have c5 := hy 5 _ rfl
      have c6 := hy 6 _ rfl
      simp only [Nat.add_zero] at c0
      clear hx hy hc
      have Hr : Hid (r + gk = len) := hr
      have Hl : Hid (ops.length = len) := hlen
      clear hr hlen
      by_cases hm : most < o.K
      · go_wp2_with fail
        go_roundg (gk - 1)
        case measure => have := Hr.out; omega
        case rel => exact ⟨r + 1, S, by have := Hr.out; omega, by go_num, hG.alloc _ (hG.skips o ho hm hg), hbl.alloc hbl.size _, hS⟩
      · have hm' : o.K ≤ most := by omega
        clear hm
        go_wp2_with fail
        refine (hG.steps o ho hm' (hG.alloc _ hg) hS).mono ?_
        rintro e w2 ⟨ok, rfl, hok, S2, hg2, ht2, hS2⟩
        have hSlt := hG.lt hg
        have hbox : Blk w2 wr.heap.size o.cells 32 := (Blk.new wr o.cells 32).of (ht2.block _ (by simp) (fun h => by have := hSlt _ h; omega))
        have d0 := hbox.cell 0
        simp [LOp.cells] at d0
        have hs2 : wr.heap.size < w2.heap.size := hbox.lt
        have hs0 := hbl.size
        have hbl2 : Below w0.heap.size w0 w2 := (hbl.alloc hbl.size _).trans ((ht2.mono (by simp; omega) (S' := fun _ => False) (fun k hk h => by have := hS k h; omega)).below (by simp))
        have hSn : ∀ k, S2 k → w0.heap.size ≤ k := fun k hk => by
          rcases hS2 k hk with h | h
          · exact hS k h
          · simp at h; omega
        have HOK : Hid (((o.K = 1 ∨ lo ≤ o.K ∧ o.K ≤ hi) → ok = true)) := hok
        clear hok ht2 hbox hSlt hS2 hbl hg hS c0 c1 c2 c3 c4 c5 c6
        by_cases e1 : o.K = 1
        · have e1' : (o.K == 1) = true := by simp [e1]
          obtain rfl := HOK.out (.inl e1)
          clear e1
          go_wp2_with fail
          refine (hG.looks hg2).mono ?_
          rintro e w3 ⟨rfl, hb3, hg3⟩
          go_wp2_with fail
          go_roundg (gk - 1)
          case measure => have := Hr.out; omega
          case rel => exact ⟨r + 1, S2, by have := Hr.out; omega, by go_num, hg3, hbl2.trans (hb3.mono (by omega)), hSn⟩
        · have e1' : (o.K == 1) = false := by simp [e1]
          by_cases e2 : lo ≤ o.K ∧ o.K ≤ hi
          · obtain rfl := HOK.out (.inr e2)
            obtain ⟨e2, e3⟩ := e2
            clear e1
            go_wp2_with fail
            refine (hG.looks hg2).mono ?_
            rintro e w3 ⟨rfl, hb3, hg3⟩
            go_wp2_with fail
            go_roundg (gk - 1)
            case measure => have := Hr.out; omega
            case rel => exact ⟨r + 1, S2, by have := Hr.out; omega, by go_num, hg3, hbl2.trans (hb3.mono (by omega)), hSn⟩
          · clear e1 HOK
            by_cases e3 : lo ≤ o.K
            · have e4 : ¬ o.K ≤ hi := fun h => e2 ⟨e3, h⟩
              clear e2
              cases ok
              all_goals
                go_wp2_with fail
                refine (hG.looks hg2).mono ?_
                rintro e w3 ⟨rfl, hb3, hg3⟩
                go_wp2_with fail
                go_roundg (gk - 1)
                case measure => have := Hr.out; omega
                case rel => exact ⟨r + 1, S2, by have := Hr.out; omega, by go_num, hg3, hbl2.trans (hb3.mono (by omega)), hSn⟩
            · clear e2
              cases ok
              all_goals
                go_wp2_with fail
                refine (hG.looks hg2).mono ?_
                rintro e w3 ⟨rfl, hb3, hg3⟩
                go_wp2_with fail
                go_roundg (gk - 1)
                case measure => have := Hr.out; omega
                case rel => exact ⟨r + 1, S2, by have := Hr.out; omega, by go_num, hg3, hbl2.trans (hb3.mono (by omega)), hSn⟩
    · go_wp2_with fail
      go_ret
      exact ⟨rfl, hbl⟩

set_option maxHeartbeats 4000000 in
set_option maxRecDepth 100000 in
theorem plays_nil (w0 : World) (ao : Option Addr) (cap : Nat) (lo hi most : Int) (G : Nat → World → (Nat → Prop) → Prop) (hG : Playable w0 [] lo hi most G) :
    Calls Tryz.prog 13 #[.slice ao 0 cap, .int .i64 lo, .int .i64 hi, .int .i64 most] w0 fun e w' => e = .returned (.bool true) ∧ Below w0.heap.size w0 w' := by
  go_enter Tryz.func13, Tryz.ntmps13
  go_wp2_with fail
  refine hG.begins.mono ?_
  rintro e w1 ⟨rfl, S, hg0, hb0, hS0⟩
  go_wp2_with fail
  go_loopg [11] 0 (fun k i wr => i = .int .i64 0 ∧ Below w0.heap.size w0 wr)
  case atStart => exact ⟨rfl, hb0⟩
  case round =>
    clear hS0 hb0 hg0
    clear S w1
    obtain ⟨rfl, hbl⟩ := hrel
    go_wp2_with fail
    go_ret
    exact ⟨rfl, hbl⟩
end Go.Proofs.YtinlkcmdbjcofaaGreat
