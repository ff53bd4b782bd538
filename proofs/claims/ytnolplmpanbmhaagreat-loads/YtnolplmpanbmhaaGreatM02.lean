import Derived.Test.YtnolplmpanbmhaaGreatM01
namespace Go.Proofs.YtnolplmpanbmhaaGreat
open Go.RowKit
set_option linter.unusedVariables false

theorem Tryz.infoInts : (Tryz.prog.info? 66).map (fun i => (i.zero, i.size, i.bytes)) = some (some (.slice none 0 0), 1, 24) := by kernel_rfl
theorem Tryz.infoEntry : (Tryz.prog.info? 68).map (fun i => (i.zero, i.size, i.bytes)) = some (some (.agg #[.bool false, .int .i64 0, .int .i64 0, .int .i64 0, .bool false]), 5, 40) := by kernel_rfl
theorem Tryz.infoBool : (Tryz.prog.info? 4).map (fun i => (i.zero, i.size, i.bytes)) = some (some (.bool false), 1, 1) := by kernel_rfl
theorem Tryz.infoKeptP : (Tryz.prog.info? 117).map (fun i => (i.zero, i.size, i.bytes)) = some (some (.pointer none), 1, 8) := by kernel_rfl

/-- The document's machine while it is made. -/
def mk (f s e r1 r2 r3 : Nat) : RSt := ⟨f, s, e, [], List.replicate r1 [0, 0, 0, 0], List.replicate r2 Ent.empty, 0, List.replicate r3 true⟩

section
variable {own : Nat → Nat × Nat} {id : Nat} {w w1 : World} {m : Nat} {s : RSt} {nk : Nat} {vR vB vS vA vK : Value} {bs : List Nat} {g cap : Nat}

/-- The row behind an append and the store into the struct. -/
theorem Row.field {e k n : Nat} {xs : List Value} {v : Value} {t : Nat × Nat} {j : Nat} {u : Value} {H : Nat} (hown : w1.ownsRow 0 e k (.slice (some ⟨g, 0, none⟩) n cap) n xs) (tm : own m = (id, 0)) (tv : Tg own v t) (ht : t ≠ (id, 0))
    (hat : v.ownBlock = some g ∨ g = H) (hm : m < H) : Row (w1.setCell ⟨m, j, none⟩ u) (.slice (some ⟨g, 0, none⟩) n cap) e k n xs := by
  refine Row.other (w := w1) hown u (fun e => ?_)
  simp [Value.ownBlock] at e
  rcases hat with h | h
  · have h3 := tv g h; rw [e, tm] at h3; exact ht h3.symm
  · omega

theorem RefRep.appS (h : RefRep own id w m s nk vR vB vS vA vK bs) (x : Ent)
    (hown : w1.ownsRow 0 68 5 (.slice (some ⟨g, 0, none⟩) (s.slots.length + 1) cap) (s.slots.length + 1) (s.slots.flatMap Ent.cells ++ x.cells))
    (hg : (w.alloc (.cells x.cells.toArray 68)).grownBy w1 vS.ownBlock) (hat : vS.ownBlock = some g ∨ g = w.heap.size + 1) :
    RefRep (set1 own (w.heap.size + 1) (id, 3)) id (w1.setCell ⟨m, 5, none⟩ (.slice (some ⟨g, 0, none⟩) (s.slots.length + 1) cap)) m { s with slots := s.slots ++ [x] } nk vR vB (.slice (some ⟨g, 0, none⟩) (s.slots.length + 1) cap) vA vK bs := by
  have hbe : Below w.heap.size w (w.alloc (.cells x.cells.toArray 68)) := (Below.refl _ _).alloc (Nat.le_refl _) _
  have hmlt := h.blk.lt
  have hm1 := (h.blk.alloc (.cells x.cells.toArray 68)).grown hg (fun e => by have := h.tS _ e; rw [h.tm] at this; simp at this)
  refine h.putS (set1_old (by omega)) (app_keep (a := ⟨m, 5, none⟩) h.tm h.tS hbe hg rfl) (hm1.set 5 _) ?_ (h.tS.app (fun b hb => by have := h.rS.lt b hb; omega) hat)
  have := Row.field (j := 5) (u := .slice (some ⟨g, 0, none⟩) (s.slots.length + 1) cap) hown h.tm h.tS (by simp) hat (by omega)
  simpa using this

theorem RefRep.appA (h : RefRep own id w m s nk vR vB vS vA vK bs) (x : Bool)
    (hown : w1.ownsRow 0 4 1 (.slice (some ⟨g, 0, none⟩) (s.alive.length + 1) cap) (s.alive.length + 1) (s.alive.map .bool ++ [.bool x]))
    (hg : (w.alloc (.cells [.bool x].toArray 4)).grownBy w1 vA.ownBlock) (hat : vA.ownBlock = some g ∨ g = w.heap.size + 1) :
    RefRep (set1 own (w.heap.size + 1) (id, 4)) id (w1.setCell ⟨m, 7, none⟩ (.slice (some ⟨g, 0, none⟩) (s.alive.length + 1) cap)) m { s with alive := s.alive ++ [x] } nk vR vB vS (.slice (some ⟨g, 0, none⟩) (s.alive.length + 1) cap) vK bs := by
  have hbe : Below w.heap.size w (w.alloc (.cells [.bool x].toArray 4)) := (Below.refl _ _).alloc (Nat.le_refl _) _
  have hmlt := h.blk.lt
  have hm1 := (h.blk.alloc (.cells [.bool x].toArray 4)).grown hg (fun e => by have := h.tA _ e; rw [h.tm] at this; simp at this)
  refine h.putA (set1_old (by omega)) (app_keep (a := ⟨m, 7, none⟩) h.tm h.tA hbe hg rfl) (hm1.set 7 _) ?_ (h.tA.app (fun b hb => by have := h.rA.lt b hb; omega) hat)
  have := Row.field (j := 7) (u := .slice (some ⟨g, 0, none⟩) (s.alive.length + 1) cap) hown h.tm h.tA (by simp) hat (by omega)
  simpa using this

theorem RefRep.appK (h : RefRep own id w m s nk vR vB vS vA vK bs)
    (hown : w1.ownsRow 0 117 1 (.slice (some ⟨g, 0, none⟩) (nk + 1) cap) (nk + 1) (List.replicate nk (.pointer none) ++ [.pointer none]))
    (hg : (w.alloc (.cells [.pointer none].toArray 117)).grownBy w1 vK.ownBlock) (hat : vK.ownBlock = some g ∨ g = w.heap.size + 1) :
    RefRep (set1 own (w.heap.size + 1) (id, 5)) id (w1.setCell ⟨m, 8, none⟩ (.slice (some ⟨g, 0, none⟩) (nk + 1) cap)) m s (nk + 1) vR vB vS vA (.slice (some ⟨g, 0, none⟩) (nk + 1) cap) bs := by
  have hbe : Below w.heap.size w (w.alloc (.cells [.pointer none].toArray 117)) := (Below.refl _ _).alloc (Nat.le_refl _) _
  have hmlt := h.blk.lt
  have hm1 := (h.blk.alloc (.cells [.pointer none].toArray 117)).grown hg (fun e => by have := h.tK _ e; rw [h.tm] at this; simp at this)
  refine h.putK (set1_old (by omega)) (app_keep (a := ⟨m, 8, none⟩) h.tm h.tK hbe hg rfl) (hm1.set 8 _) ?_ (h.tK.app (fun b hb => by have := h.rK.lt b hb; omega) hat)
  have := Row.field (j := 8) (u := .slice (some ⟨g, 0, none⟩) (nk + 1) cap) hown h.tm h.tK (by simp) hat (by omega)
  rw [List.replicate_succ']
  exact this

/-- A block with a mark of id lies at or behind b0, where no block below b0 has one. -/
theorem above {own0 : Nat → Nat × Nat} {b0 k j : Nat} (hid : ∀ b, b < b0 → (own0 b).1 ≠ id) (ho : ∀ b, b < b0 → own b = own0 b) (hx : (own b0).1 ≠ id) (hk : own k = (id, j)) : b0 + 1 ≤ k := by
  rcases Nat.lt_or_ge k (b0 + 1) with h | h
  · exfalso
    rcases Nat.lt_or_ge k b0 with h' | h'
    · rw [ho k h'] at hk; exact hid k h' (by rw [hk])
    · obtain rfl : k = b0 := by omega
      exact hx (by rw [hk])
  · exact h
end

theorem oneCell_sl4 (b : Nat) : ∀ u ∈ [sl4 b], u.oneCell' = true := by intro u hu; simp at hu; subst hu; rfl

set_option maxHeartbeats 2000000 in
set_option maxRecDepth 100000 in
theorem begin_any (own0 : Nat → Nat × Nat) (id f s e : Nat) (w : World) (hf : f ≤ 16) (hs : s ≤ 8) (he : e ≤ 4) (hid : ∀ b, b < w.heap.size → (own0 b).1 ≠ id) :
    Calls Tryz.prog 15 #[.agg #[.int .i64 f, .int .i64 s, .int .i64 e]] w fun en w' => ∃ own m vR vB vS vA vK bs, en = .returned (.pointer (some ⟨m, 0, none⟩)) ∧ Below w.heap.size w w' ∧
      RefRep own id w' m (RSt.fresh f s e) e vR vB vS vA vK bs ∧ (∀ b, b < w.heap.size → own b = own0 b) := by
  obtain ⟨i0, hi, hz0, hz1, hz2⟩ := info_parts Tryz.infoInts
  go_enter Tryz.func15, Tryz.ntmps15
  go_wp2
  go_loopg [4] f (fun k i wr => ∃ (r : Nat) (own : Nat → Nat × Nat) (vB : Value) (bs : List Nat), r + k = f ∧ i = .int .i64 r ∧ Below (w.heap.size + 1) (w.alloc (.cells #[.int .i64 f, .int .i64 s, .int .i64 e] 35)) wr ∧
    RefRep own id wr (w.heap.size + 1) (mk f s e r 0 0) 0 (.slice none 0 0) vB (.slice none 0 0) (.slice none 0 0) (.slice none 0 0) bs ∧ (∀ b, b < w.heap.size → own b = own0 b) ∧ (own w.heap.size).1 ≠ id ∧ bs.length = r)
  case atStart =>
    refine ⟨0, set1 (set1 own0 w.heap.size (id + 1, 0)) (w.heap.size + 1) (id, 0), .slice none 0 0, [], by omega, rfl, (Below.refl _ _).alloc (by simp) _, ?_, fun b hb => (set1_old (n := w.heap.size) (by omega) b hb).trans (set1_old (n := w.heap.size) (by omega) b hb), by simp [set1], rfl⟩
    exact ⟨Blk.at _ _ _ _ (by simp), Row.nil _ _ _, Row.nil _ _ _, by simp [mk], Row.nil _ _ _, Row.nil _ _ _, Row.nil _ _ _, set1_at _ _ _, Tg.nil _ _, Tg.nil _ _, Tg.nil _ _, Tg.nil _ _, Tg.nil _ _⟩
  case round =>
    obtain ⟨r, own, vB, bs, hr, rfl, hbl, hrep, hown0, hbx, hbs⟩ := hrel
    have k0 : wr.cell? ⟨w.heap.size, 0, none⟩ = some (.int .i64 f) := (hbl.cell (p := ⟨w.heap.size, 0, none⟩) (by simp)).trans (by simp)
    have c4 := hrep.blk.cell 4
    have f4 := hrep.blk.frozen 4
    simp at c4
    by_cases hlt : r < f
    · have hB := hrep.rB
      simp only [mk, List.length_replicate] at hB
      obtain ⟨ao, cap, g, hv, hao, _, _, hmx⟩ := hB.view
      have hB' : (Row ((wr.alloc (.cells [.int .i64 0, .int .i64 0, .int .i64 0, .int .i64 0].toArray 3)).alloc (.cells [sl4 wr.heap.size].toArray 66)) (.slice ao r cap) 66 1 r (bs.map sl4)) := by
        rw [← hv]; exact (hB.alloc _).alloc _
      rw [hv] at c4
      have Hv : Hid (vB = .slice ao r cap) := hv
      have Hb : Hid (bs.length = r) := hbs
      clear hv hao hbs
      go_wp2_with (at_builtin; refine wpList_append_lies _ rfl (.tmp 20) (.tmp 22) 61 rfl 0 66 i0 (.slice none 0 0) 1 24 Tryz.underlying61 hi hz0 hz1 hz2 rfl (by decide) (.slice ao r cap) r (bs.map sl4) rfl hB' ⟨wr.heap.size + 1, 0, none⟩ 1 1 [sl4 wr.heap.size] rfl rfl ?c1 ?c2 (by omega) ?b1 ?b2 (by omega) (wr.heap.size + 2) (by simp) ?nx)
      case c1 => exact World.news_of_block (B := wr.heap.size + 1) (cs := #[sl4 wr.heap.size]) (t := 66) (fr := (0, 0)) (Blk.at _ [sl4 wr.heap.size] _ _ (by simp))
      case c2 => exact oneCell_sl4 _
      case b1 => unfold maxLen; omega
      case b2 => omega
      case nx =>
        intro g1 cap1 w1 hown hgrow hat hlt1
        have hbe : Below wr.heap.size wr ((wr.alloc (.cells [.int .i64 0, .int .i64 0, .int .i64 0, .int .i64 0].toArray 3)).alloc (.cells [sl4 wr.heap.size].toArray 66)) := ((Below.refl _ _).alloc (Nat.le_refl _) _).alloc (by simp) _
        rw [← Hv.out] at hgrow hat
        have hm1 := ((hrep.blk.alloc (.cells [.int .i64 0, .int .i64 0, .int .i64 0, .int .i64 0].toArray 3)).alloc (.cells [sl4 wr.heap.size].toArray 66)).grown hgrow (fun e => by have := hrep.tB _ e; rw [hrep.tm] at this; simp at this)
        have d4 := hm1.cell 4
        have e4 := hm1.frozen 4
        simp at d4
        go_wp2
        go_roundg (gk - 1)
        case measure => omega
        case rel =>
          have hkeep := app_keep (v' := .slice (some ⟨g1, 0, none⟩) (r + 1) cap1) (a := ⟨w.heap.size + 1, 4, none⟩) hrep.tm hrep.tB hbe hgrow rfl
          have hsz : w.heap.size + 2 ≤ wr.heap.size := by have := hrep.blk.lt; omega
          have ho : ∀ b, b < wr.heap.size → set1 (set1 own wr.heap.size (id, 6 + r)) (wr.heap.size + 2) (id, 2) b = own b := fun b hb => (set1_old (n := wr.heap.size) (by omega) b hb).trans (set1_old (n := wr.heap.size) (by omega) b hb)
          have hlb := hrep.rB.lt
          have hnb : ∀ k, vB.ownBlock = some k → w.heap.size + 1 ≤ k := by
            intro k hk
            have h2 := hrep.tB k hk
            rcases Nat.lt_or_ge k (w.heap.size + 1) with h | h
            · exfalso
              rcases Nat.lt_or_ge k w.heap.size with h' | h'
              · rw [hown0 k h'] at h2; exact hid k h' (by rw [h2])
              · obtain rfl : k = w.heap.size := by omega
                exact hbx (by rw [h2])
            · exact h
          refine ⟨r + 1, set1 (set1 own wr.heap.size (id, 6 + r)) (wr.heap.size + 2) (id, 2), .slice (some ⟨g1, 0, none⟩) (r + 1) cap1, bs ++ [wr.heap.size], by omega, by go_num, ?_, ?_, ?_, ?_, by simp [Hb.out]⟩
          · exact ((hbl.trans (hbe.mono (by omega))).grown hgrow (by simp; omega) hnb).setCell (by simp) _
          · refine hrep.putB ho hkeep (bytes' := List.replicate (r + 1) [0, 0, 0, 0]) (hm1.set 4 _) ?_ ((hrep.tB.congr (own' := set1 own wr.heap.size (id, 6 + r)) hrep.rB (set1_old (by omega))).app (fun b hb => by have := hlb b hb; omega) hat) ?_
            · have : Row w1 (.slice (some ⟨g1, 0, none⟩) (r + 1) cap1) 66 1 (r + 1) ((bs ++ [wr.heap.size]).map sl4) := by rw [List.map_append]; exact hown
              have := this.other (a := ⟨w.heap.size + 1, 4, none⟩) (.slice (some ⟨g1, 0, none⟩) (r + 1) cap1) (fun e => ?_)
              · simpa using this
              · simp [Value.ownBlock] at e
                rcases hat with h | h
                · have h3 := hrep.tB g1 h; rw [e, hrep.tm] at h3; simp at h3
                · omega
            · intro i l hl
              rcases Nat.lt_or_ge i r with h | h
              · obtain ⟨b, h1, h2, h3, h4⟩ := hrep.inner ho 2 (by omega) hkeep i l (by simp [mk, List.getElem?_replicate] at hl ⊢; exact ⟨h, hl.2⟩)
                exact ⟨b, by rw [List.getElem?_append_left (by rw [Hb.out]; exact h)]; exact h1, h2, h3, h4⟩
              · simp [List.getElem?_replicate] at hl
                obtain rfl : i = r := by omega
                refine ⟨wr.heap.size, by rw [List.getElem?_append_right (by rw [Hb.out]; omega)]; simp [Hb.out], by rw [← hl.2]; rfl, ?_, ?_⟩
                · rw [← hl.2]
                  exact (((Blk.new wr [.int .i64 0, .int .i64 0, .int .i64 0, .int .i64 0] 3).alloc _).grown hgrow (fun e => by have := hlb _ e; omega)).other _ (by simp; omega)
                · simp [set1]
          · intro b hb
            rw [ho b (by omega)]; exact hown0 b hb
          · rw [ho _ (by omega)]; exact hbx
    · obtain rfl : r = f := by omega
      have hbA : Below (w.heap.size + 1) (w.alloc (.cells #[.int .i64 r, .int .i64 s, .int .i64 e] 35)) wr := hbl
      clear c4 f4 hi hz0 hz1 hz2 i0
      obtain ⟨i1, gi, gz0, gz1, gz2⟩ := info_parts Tryz.infoEntry
      go_wp2
      clear k0 hlt
      go_loopg [5] s (fun k i wx => ∃ (q : Nat) (own : Nat → Nat × Nat) (vS : Value), q + k = s ∧ i = .int .i64 q ∧ Below (w.heap.size + 1) (w.alloc (.cells #[.int .i64 r, .int .i64 s, .int .i64 e] 35)) wx ∧
        RefRep own id wx (w.heap.size + 1) (mk r s e r q 0) 0 (.slice none 0 0) vB vS (.slice none 0 0) (.slice none 0 0) bs ∧ (∀ b, b < w.heap.size → own b = own0 b) ∧ (own w.heap.size).1 ≠ id)
      case atStart => exact ⟨0, own, _, by omega, rfl, hbl, hrep, hown0, hbx⟩
      case round =>
        clear hrep hown0 hbx hbl hbA hr hbs
        clear own
        obtain ⟨wq, rfl⟩ : ∃ wq : World, wq = wr := ⟨_, rfl⟩
        obtain ⟨q, own, vS, hq, rfl, hbl, hrep, hown0, hbx⟩ := hrel
        have k1 : wq.cell? ⟨w.heap.size, 1, none⟩ = some (.int .i64 s) := (hbl.cell (p := ⟨w.heap.size, 1, none⟩) (by simp)).trans (by simp)
        have c5 := hrep.blk.cell 5
        have f5 := hrep.blk.frozen 5
        simp at c5
        by_cases hlt : q < s
        · have hS := hrep.rS
          simp only [mk, List.length_replicate] at hS
          obtain ⟨ao, cap, g, hv, hao, _, _, hmx⟩ := hS.view
          have hS' := hS.alloc (.cells Ent.empty.cells.toArray 68)
          rw [hv] at c5 hS'
          have Hv : Hid (vS = .slice ao q cap) := hv
          clear hv hao
          go_wp2_with (at_builtin; refine wpList_append_lies _ rfl (.tmp 36) (.tmp 38) 49 rfl 0 68 i1 _ 5 40 Tryz.underlying49 gi gz0 gz1 gz2 rfl (by decide) (.slice ao q cap) q _ rfl hS' ⟨wq.heap.size, 0, none⟩ 1 1 Ent.empty.cells rfl rfl ?c1 ?c2 (by omega) ?b1 ?b2 (by omega) (wq.heap.size + 1) (by simp) ?nx)
          case c1 => exact World.news_of_block (B := wq.heap.size) (cs := Ent.empty.cells.toArray) (t := 68) (fr := (0, 0)) (Blk.new _ _ _)
          case c2 => intro u hu; simp [Ent.cells] at hu; rcases hu with rfl | rfl | rfl | rfl | rfl <;> rfl
          case b1 => unfold maxLen; omega
          case b2 => omega
          case nx =>
            intro g1 cap1 w1 hown hgrow hat hlt1
            rw [← Hv.out] at hgrow hat
            have hbe : Below wq.heap.size wq (wq.alloc (.cells Ent.empty.cells.toArray 68)) := (Below.refl _ _).alloc (Nat.le_refl _) _
            have hm1 := (hrep.blk.alloc (.cells Ent.empty.cells.toArray 68)).grown hgrow (fun e => by have := hrep.tS _ e; rw [hrep.tm] at this; simp at this)
            have d5 := hm1.cell 5
            have e5 := hm1.frozen 5
            simp at d5
            rw [Hv.out] at d5
            go_wp2
            go_roundg (gk - 1)
            case measure => omega
            case rel =>
              have hsz : w.heap.size + 2 ≤ wq.heap.size := by have := hrep.blk.lt; omega
              have hnew := hrep.appS (w1 := w1) (g := g1) (cap := cap1) Ent.empty (by simpa [mk] using hown) hgrow hat
              refine ⟨q + 1, set1 own (wq.heap.size + 1) (id, 3), .slice (some ⟨g1, 0, none⟩) (q + 1) cap1, by omega, by go_num, ?_, ?_, ?_, ?_⟩
              · exact ((hbl.trans (hbe.mono (by omega))).grown hgrow (by simp; omega) (fun k hk => above hid hown0 hbx (hrep.tS k hk))).setCell (by simp) _
              · simpa [mk, List.replicate_succ'] using hnew
              · intro b hb
                rw [set1_old (n := wq.heap.size) (by omega) b (by omega)]; exact hown0 b hb
              · rw [set1_old (n := wq.heap.size) (by omega) _ (by omega)]; exact hbx
        · obtain rfl : q = s := by omega
          clear c5 f5 gi gz0 gz1 gz2 i1
          obtain ⟨i2, gi, gz0, gz1, gz2⟩ := info_parts Tryz.infoBool
          obtain ⟨i3, ki, kz0, kz1, kz2⟩ := info_parts Tryz.infoKeptP
          go_wp2
          clear k1 hlt hq
          go_loopg [6] e (fun k i wx => ∃ (p : Nat) (own : Nat → Nat × Nat) (vA vK : Value), p + k = e ∧ i = .int .i64 p ∧ Below (w.heap.size + 1) (w.alloc (.cells #[.int .i64 r, .int .i64 q, .int .i64 e] 35)) wx ∧
            RefRep own id wx (w.heap.size + 1) (mk r q e r q p) p (.slice none 0 0) vB vS vA vK bs ∧ (∀ b, b < w.heap.size → own b = own0 b) ∧ (own w.heap.size).1 ≠ id)
          case atStart => exact ⟨0, own, _, _, by omega, rfl, hbl, hrep, hown0, hbx⟩
          case round =>
            clear hrep hown0 hbx hbl
            clear own
            obtain ⟨wp, rfl⟩ : ∃ wp : World, wp = wr := ⟨_, rfl⟩
            obtain ⟨p, own, vA, vK, hp, rfl, hbl, hrep, hown0, hbx⟩ := hrel
            have k2 : wp.cell? ⟨w.heap.size, 2, none⟩ = some (.int .i64 e) := (hbl.cell (p := ⟨w.heap.size, 2, none⟩) (by simp)).trans (by simp)
            have c7 := hrep.blk.cell 7
            simp at c7
            by_cases hlt : p < e
            · have hA := hrep.rA
              simp only [mk, List.length_replicate] at hA
              obtain ⟨ao, cap, g, hv, hao, _, _, hmx⟩ := hA.view
              have hA' := hA.alloc (.cells [.bool true].toArray 4)
              rw [hv] at c7 hA'
              have Hv : Hid (vA = .slice ao p cap) := hv
              clear hv hao
              go_wp2_with (at_builtin; refine wpList_append_lies _ rfl (.tmp 52) (.tmp 53) 62 rfl 0 4 i2 _ 1 1 Tryz.underlying62 gi gz0 gz1 gz2 rfl (by decide) (.slice ao p cap) p _ rfl hA' ⟨wp.heap.size, 0, none⟩ 1 1 [.bool true] rfl rfl ?c1 ?c2 (by omega) ?b1 ?b2 (by omega) (wp.heap.size + 1) (by simp) ?nx)
              case c1 => exact World.news_of_block (B := wp.heap.size) (cs := [.bool true].toArray) (t := 4) (fr := (0, 0)) (Blk.new _ _ _)
              case c2 => intro u hu; simp at hu; subst hu; rfl
              case b1 => unfold maxLen; omega
              case b2 => omega
              case nx =>
                intro g1 cap1 w1 hown hgrow hat hlt1
                rw [← Hv.out] at hgrow hat
                have hbe : Below wp.heap.size wp (wp.alloc (.cells [.bool true].toArray 4)) := (Below.refl _ _).alloc (Nat.le_refl _) _
                have hm1 := (hrep.blk.alloc (.cells [.bool true].toArray 4)).grown hgrow (fun e => by have := hrep.tA _ e; rw [hrep.tm] at this; simp at this)
                have d7 := hm1.cell 7
                have e7 := hm1.frozen 7
                simp at d7
                rw [Hv.out] at d7
                have hsz : w.heap.size + 2 ≤ wp.heap.size := by have := hrep.blk.lt; omega
                have hnew := hrep.appA (w1 := w1) (g := g1) (cap := cap1) true (by simpa [mk] using hown) hgrow hat
                have hblA := ((hbl.trans (hbe.mono (by omega))).grown hgrow (by simp; omega) (fun k hk => above hid hown0 hbx (hrep.tA k hk))).setCell (p := ⟨w.heap.size + 1, 7, none⟩) (by simp) (.slice (some ⟨g1, 0, none⟩) (p + 1) cap1)
                have hsz2 : wp.heap.size ≤ w1.heap.size := by have := hgrow.size; simp at this; omega
                have ho1 : ∀ b, b < w.heap.size → set1 own (wp.heap.size + 1) (id, 4) b = own0 b := fun b hb => by rw [set1_old (n := wp.heap.size) (by omega) b (by omega)]; exact hown0 b hb
                have hx1 : (set1 own (wp.heap.size + 1) (id, 4) w.heap.size).1 ≠ id := by rw [set1_old (n := wp.heap.size) (by omega) _ (by omega)]; exact hbx
                simp only [mk, List.length_replicate] at hnew
                have Hs1 : Hid ( (w1.setCell ⟨w.heap.size + 1, 7, none⟩ (.slice (some ⟨g1, 0, none⟩) (p + 1) cap1)).heap.size = w1.heap.size) := by unfold Hid; simp
                obtain ⟨ao2, cap2, g2, hv2, hao2, _, _, hmx2⟩ := hnew.rK.view
                have hK' := hnew.rK.alloc (.cells [.pointer none].toArray 117)
                have d8 := hm1.cell 8
                have e8 := hm1.frozen 8
                simp at d8
                rw [hv2] at d8 hK'
                have Hv2 : Hid (vK = .slice ao2 p cap2) := hv2
                clear hv2 hao2 hrep hown hgrow hat hA' hA Hv hown0 hbx hm1 hbe
                go_wp2_with (at_builtin; refine wpList_append_lies _ rfl (.tmp 61) (.tmp 62) 63 rfl 0 117 i3 _ 1 8 Tryz.underlying63 ki kz0 kz1 kz2 rfl (by decide) (.slice ao2 p cap2) p _ rfl hK' ⟨w1.heap.size, 0, none⟩ 1 1 [.pointer none] rfl rfl ?c1 ?c2 (by omega) ?b1 ?b2 (by omega) (w1.heap.size + 1) (by simp) ?nx)
                case c1 => exact World.news_of_block (B := w1.heap.size) (cs := [.pointer none].toArray) (t := 117) (fr := (0, 0)) (Blk.at (w1.setCell ⟨w.heap.size + 1, 7, none⟩ (.slice (some ⟨g1, 0, none⟩) (p + 1) cap1)) [.pointer none] _ _ Hs1.out.symm)
                case c2 => intro u hu; simp at hu; subst hu; rfl
                case b1 => unfold maxLen; omega
                case b2 => omega
                case nx =>
                  intro g3 cap3 w3 hown3 hgrow3 hat3 hlt3
                  rw [← Hv2.out] at hgrow3 hat3
                  have hnew3 := hnew.appK (w1 := w3) (g := g3) (cap := cap3) hown3 hgrow3 (by rw [Hs1.out]; exact hat3)
                  have hm3 := (hnew.blk.alloc (.cells [.pointer none].toArray 117)).grown hgrow3 (fun e => by have := hnew.tK _ e; rw [hnew.tm] at this; simp at this)
                  have d9 := hm3.cell 8
                  have e9 := hm3.frozen 8
                  simp at d9
                  rw [Hv2.out] at d9
                  go_wp2
                  go_roundg (gk - 1)
                  case measure => omega
                  case rel =>
                    rw [Hs1.out] at hnew3
                    refine ⟨p + 1, _, _, _, by omega, by go_num, ?_, by simpa [mk, List.replicate_succ'] using hnew3, ?_, ?_⟩
                    · exact ((hblA.alloc (by simp; omega) _).grown hgrow3 (by simp; omega) (fun k hk => above hid ho1 hx1 (hnew.tK k hk))).setCell (by simp) _
                    · intro b hb
                      rw [set1_old (n := w1.heap.size) (by omega) b (by omega)]; exact ho1 b hb
                    · rw [set1_old (n := w1.heap.size) (by omega) _ (by omega)]; exact hx1
            · obtain rfl : p = e := by omega
              go_wp2
              go_ret
              exact ⟨own, _, _, _, _, _, _, _, rfl, ((Below.refl _ _).alloc (Nat.le_refl _) _).trans (hbl.mono (by omega)), hrep, hown0⟩
end Go.Proofs.YtnolplmpanbmhaaGreat

namespace Go.Proofs.YtnolplmpanbmhaaGreat
open Go.RowKit
set_option linter.unusedVariables false

section
variable {own : Nat → Nat × Nat} {id : Nat} {w : World} {m : Nat} {s : RSt} {nk : Nat} {vR vB vS vA vK : Value} {bs : List Nat}

def usedTo (s : RSt) (f e : Nat) : Bool := (List.range e).any fun e => owned s.rights e f false
theorem usedTo_succ (s : RSt) (f e : Nat) : usedTo s f (e + 1) = (usedTo s f e || owned s.rights e f false) := by simp [usedTo, List.range_succ]

/-- The least free frame as 'free' answers it. -/
def freeE (s : RSt) : Int := match leastFree s with
  | some f => f
  | none => -1

theorem leastFree_some {s : RSt} {f : Nat} (hlt : f < s.nf) (hno : ∀ g, g < f → freeB s g = false) (hy : freeB s f = true) : leastFree s = some f := by
  unfold leastFree
  rw [List.find?_range_eq_some]
  exact ⟨hy, List.mem_range.2 hlt, fun j hj => by simpa using hno j hj⟩
theorem leastFree_none {s : RSt} (hno : ∀ g, g < s.nf → freeB s g = false) : leastFree s = none := by
  unfold leastFree
  rw [List.find?_eq_none]
  intro x hx
  simp [hno x (List.mem_range.1 hx)]

set_option maxHeartbeats 2000000 in
set_option maxRecDepth 100000 in
theorem free_any (h : RefRep own id w m s nk vR vB vS vA vK bs) (hn : s.ne ≤ 4) (hf : s.nf ≤ 16) (ho : Ordered s.rights) (hm : s.rights.length ≤ 4611686018427387904) :
    Calls Tryz.prog 104 #[.pointer (some ⟨m, 0, none⟩)] w fun e w' => e = .returned (.int .i64 (freeE s)) ∧ Below w.heap.size w w' := by
  go_enter Tryz.func104, Tryz.ntmps104
  go_wp2_with fail
  go_loopg [3] s.nf (fun k x wr => ∃ f : Nat, x = .int .i64 f ∧ f + k = s.nf ∧ (∀ g, g < f → freeB s g = false) ∧ Below w.heap.size w wr)
  case atStart => exact ⟨0, rfl, by omega, fun g hg => by omega, Below.refl _ _⟩
  case round =>
    obtain ⟨f, rfl, hk, hno, hbl⟩ := hrel
    have k0 := (h.below hbl).blk.cell 0
    simp at k0
    have HK : Hid (f + gk = s.nf) := hk
    have hfl : f ≤ s.nf := by omega
    have HN : Hid (∀ g, g < f → freeB s g = false) := hno
    clear hk hno
    by_cases hlt : f < s.nf
    · go_wp2_with fail
      obtain ⟨wo, rfl⟩ : ∃ wo : World, wo = wr := ⟨_, rfl⟩
      obtain ⟨go, rfl⟩ : ∃ go : Nat, go = gk := ⟨_, rfl⟩
      go_loopg [4, 5] s.ne (fun k u x wr => ∃ e : Nat, x = .int .i64 e ∧ e + k = s.ne ∧ u = .bool (usedTo s f e) ∧ Below w.heap.size w wr)
      case atStart => exact ⟨0, rfl, by omega, rfl, hbl⟩
      case round =>
        clear hbl k0
        obtain ⟨e, rfl, hk, rfl, hbl⟩ := hrel
        have h' := h.below hbl
        have k2 := h'.blk.cell 2
        simp at k2
        have HE : Hid (e + gk = s.ne) := hk
        have hel : e ≤ s.ne := by omega
        have hsu := usedTo_succ s f e
        have HU : Hid (usedTo s f (e + 1) = (usedTo s f e || owned s.rights e f false)) := hsu
        clear hk hsu
        by_cases hlt2 : e < s.ne
        · go_wp2_with fail
          refine (owned_any h' ho hm _ _ _).mono ?_
          rintro en w2 ⟨rfl, hb2⟩
          have hbl2 : Below w.heap.size w w2 := hbl.trans (hb2.mono (by have := hbl.size; omega))
          cases hu : usedTo s f e
          · rw [hu] at HU
            clear hu
            go_wp2_with fail
            go_roundg (gk - 1)
            case measure => have := HE.out; omega
            case rel => exact ⟨e + 1, by go_num, by have := HE.out; omega, by rw [HU.out]; simp, hbl2⟩
          · rw [hu] at HU
            clear hu
            go_wp2_with fail
            go_roundg (gk - 1)
            case measure => have := HE.out; omega
            case rel => exact ⟨e + 1, by go_num, by have := HE.out; omega, by rw [HU.out]; simp, hbl2⟩
        · obtain rfl : e = s.ne := by omega
          have hfb : freeB s f = !usedTo s f s.ne := rfl
          cases hu : usedTo s f s.ne
          · rw [hu] at hfb
            have HF : Hid (leastFree s = some f) := leastFree_some hlt HN.out hfb
            clear hu hfb
            go_wp2_with fail
            go_ret
            exact ⟨ret_int (by rw [freeE, HF.out]), hbl⟩
          · rw [hu] at hfb
            have HF : Hid (freeB s f = false) := hfb
            clear hu hfb
            go_wp2_with fail
            go_roundg (go - 1)
            case measure => have := HK.out; omega
            case rel => exact ⟨f + 1, by go_num, by have := HK.out; omega, fun g hg => by
              rcases Nat.lt_or_ge g f with hgf | hgf
              · exact HN.out g hgf
              · obtain rfl : g = f := by omega
                exact HF.out, hbl⟩
    · obtain rfl : f = s.nf := by omega
      go_wp2_with fail
      go_ret
      exact ⟨ret_int (by rw [freeE, leastFree_none HN.out]), hbl⟩

theorem Tryz.infoRight : (Tryz.prog.info? 112).map (fun i => (i.zero, i.size, i.bytes)) = some (some (.agg #[.int .i64 0, .int .i64 0, .int .i64 0, .bool false, .int .i64 0, .bool false]), 6, 48) := by kernel_rfl

theorem oneCell_right (r : RR) : ∀ u ∈ r.cells, u.oneCell' = true := by
  intro u hu; simp [RR.cells] at hu; rcases hu with rfl | rfl | rfl | rfl | rfl | rfl <;> rfl

theorem RefRep.appR {w1 : World} {g cap : Nat} (h : RefRep own id w m s nk vR vB vS vA vK bs) (x : RR)
    (hown : w1.ownsRow 0 112 6 (.slice (some ⟨g, 0, none⟩) (s.rights.length + 1) cap) (s.rights.length + 1) (s.rights.flatMap RR.cells ++ x.cells))
    (hg : (w.alloc (.cells x.cells.toArray 112)).grownBy w1 vR.ownBlock) (hat : vR.ownBlock = some g ∨ g = w.heap.size + 1) :
    RefRep (set1 own (w.heap.size + 1) (id, 1)) id (w1.setCell ⟨m, 3, none⟩ (.slice (some ⟨g, 0, none⟩) (s.rights.length + 1) cap)) m { s with rights := s.rights ++ [x] } nk (.slice (some ⟨g, 0, none⟩) (s.rights.length + 1) cap) vB vS vA vK bs := by
  have hbe : Below w.heap.size w (w.alloc (.cells x.cells.toArray 112)) := (Below.refl _ _).alloc (Nat.le_refl _) _
  have hmlt := h.blk.lt
  have hm1 := (h.blk.alloc (.cells x.cells.toArray 112)).grown hg (fun e => by have := h.tR _ e; rw [h.tm] at this; simp at this)
  refine h.putR (set1_old (by omega)) (app_keep (a := ⟨m, 3, none⟩) h.tm h.tR hbe hg rfl) (hm1.set 3 _) ?_ (h.tR.app (fun b hb => by have := h.rR.lt b hb; omega) hat)
  have := Row.field (j := 3) (u := .slice (some ⟨g, 0, none⟩) (s.rights.length + 1) cap) hown h.tm h.tR (by simp) hat (by omega)
  simpa using this

/-- What a call on a machine may leave: the machine with a new state, its own blocks alone turned. -/
def RefNext (own : Nat → Nat × Nat) (id : Nat) (w : World) (m : Nat) (nk : Nat) (w' : World) (s' : RSt) : Prop :=
  ∃ (own' : Nat → Nat × Nat) (vR vB vS vA vK : Value) (bs : List Nat), RefRep own' id w' m s' nk vR vB vS vA vK bs ∧ (∀ b, b < w.heap.size → own' b = own b) ∧ Touch w.heap.size (fun b => (own b).1 = id) w w'

theorem RefNext.refl (h : RefRep own id w m s nk vR vB vS vA vK bs) : RefNext own id w m nk w s := ⟨own, vR, vB, vS, vA, vK, bs, h, fun _ _ => rfl, Touch.refl _ _ _⟩
theorem RefNext.of_below {w' : World} (h : RefRep own id w m s nk vR vB vS vA vK bs) (hb : Below w.heap.size w w') : RefNext own id w m nk w' s := ⟨own, vR, vB, vS, vA, vK, bs, h.below hb, fun _ _ => rfl, Touch.of_below hb _⟩
theorem Touch.next {own own' : Nat → Nat × Nat} {id : Nat} {w w1 w2 : World} (h1 : Touch w.heap.size (fun b => (own b).1 = id) w w1) (ho : ∀ b, b < w.heap.size → own' b = own b) (h2 : Touch w1.heap.size (fun b => (own' b).1 = id) w1 w2) :
    Touch w.heap.size (fun b => (own b).1 = id) w w2 :=
  h1.trans (h2.mono h1.size (fun k hk hs => by rw [ho k hk] at hs; exact hs))

set_option maxHeartbeats 2000000 in
set_option maxRecDepth 100000 in
theorem made_any (h : RefRep own id w m s nk vR vB vS vA vK bs) (hm : (s.rights.length + 1) * 48 ≤ 140737488355328) (env fr : Int) (wt : Bool) (frm : Int) :
    Calls Tryz.prog 76 #[.pointer (some ⟨m, 0, none⟩), .int .i64 env, .int .i64 fr, .bool wt, .int .i64 frm] w fun e w' => e = .returned (.int .i64 (s.rights.length + 1)) ∧ RefNext own id w m nk w' (addR s env fr wt frm) := by
  obtain ⟨i0, hi, hz0, hz1, hz2⟩ := info_parts Tryz.infoRight
  have k3 := h.blk.cell 3
  have f3 := h.blk.frozen 3
  simp at k3
  obtain ⟨ao, cap, g0, hv, _⟩ := h.rR.view
  have hR' := h.rR.alloc (.cells (RR.cells ⟨s.rights.length + 1, env, fr, wt, frm, false⟩).toArray 112)
  rw [hv] at k3 hR'
  have hmlt := h.blk.lt
  have Hv : Hid (vR = .slice ao s.rights.length cap) := hv
  clear hv
  go_enter Tryz.func76, Tryz.ntmps76
  go_wp2_with (at_builtin; refine wpList_append_lies _ rfl (.tmp 22) (.tmp 30) 60 rfl 0 112 i0 _ 6 48 Tryz.underlying60 hi hz0 hz1 hz2 rfl (by decide) (.slice ao s.rights.length cap) s.rights.length _ rfl hR' ⟨w.heap.size, 0, none⟩ 1 1 (RR.cells ⟨s.rights.length + 1, env, fr, wt, frm, false⟩) rfl rfl ?c1 ?c2 (by omega) ?b1 ?b2 (by omega) (w.heap.size + 1) (by simp) ?nx)
  case c1 => exact World.news_of_block (B := w.heap.size) (cs := (RR.cells ⟨s.rights.length + 1, env, fr, wt, frm, false⟩).toArray) (t := 112) (fr := (0, 0)) (Blk.new _ _ _)
  case c2 => exact oneCell_right _
  case b1 => unfold maxLen; omega
  case b2 => omega
  case nx =>
    intro g1 cap1 w1 hown hgrow hat hlt1
    rw [← Hv.out] at hgrow hat
    have hbe : Below w.heap.size w (w.alloc (.cells (RR.cells ⟨s.rights.length + 1, env, fr, wt, frm, false⟩).toArray 112)) := (Below.refl _ _).alloc (Nat.le_refl _) _
    have hm1 := (h.blk.alloc (.cells (RR.cells ⟨s.rights.length + 1, env, fr, wt, frm, false⟩).toArray 112)).grown hgrow (fun e => by have := h.tR _ e; rw [h.tm] at this; simp at this)
    have d3 := hm1.cell 3
    have e3 := hm1.frozen 3
    simp at d3
    rw [Hv.out] at d3
    go_wp2
    go_ret
    refine ⟨rfl, set1 own (w.heap.size + 1) (id, 1), _, vB, vS, vA, vK, bs, h.appR ⟨s.rights.length + 1, env, fr, wt, frm, false⟩ hown hgrow hat, set1_old (by omega), ?_⟩
    exact ((Touch.of_below hbe _).grown hgrow (by simp) (fun k hk => .inl (by rw [h.tR k hk]))).setCell (.inl (by rw [h.tm])) _
end
end Go.Proofs.YtnolplmpanbmhaaGreat

namespace Go.Proofs.YtnolplmpanbmhaaGreat
open Go.RowKit
set_option linter.unusedVariables false

theorem flat_at {α : Type} (f : α → List Value) (k : Nat) (hk : 0 < k) (hf : ∀ x, (f x).length = k) (xs : List α) (p : Nat) : (xs.flatMap f)[p]? = (xs[p / k]?).bind fun x => (f x)[p % k]? := by
  cases hx : xs[p / k]? with
  | none =>
    have h1 : xs.length ≤ p / k := List.getElem?_eq_none_iff.1 hx
    have h2 : xs.length * k ≤ p := Nat.le_trans (Nat.mul_le_mul_right k h1) (Nat.div_mul_le_self p k)
    rw [List.getElem?_eq_none (by rw [flat_length f k hf]; exact h2)]; rfl
  | some x =>
    have h3 : p = p / k * k + p % k := by rw [Nat.mul_comm]; exact (Nat.div_add_mod p k).symm
    show _ = (f x)[p % k]?
    conv => lhs; rw [h3]
    exact flat_get f k hf xs _ _ x hx (Nat.mod_lt _ hk)

section
variable {own : Nat → Nat × Nat} {id : Nat} {w : World} {m : Nat} {s : RSt} {nk : Nat} {vR vB vS vA vK : Value} {bs : List Nat}

theorem RefRep.bsLen (h : RefRep own id w m s nk vR vB vS vA vK bs) : bs.length = s.bytes.length := by have := h.rB.len; simpa using this

/-- A frame's bytes are laid anew. -/
theorem RefRep.setB {g cap : Nat} (h : RefRep own id w m s nk vR vB vS vA vK bs) (hv : vB = .slice (some ⟨g, 0, none⟩) s.bytes.length cap) (f : Nat) (hf : f < s.bytes.length) (l : List Int) (hl : l.length = 4) :
    RefRep (set1 own w.heap.size (id, 6 + f)) id ((w.alloc (.cells (l.map (.int .i64)).toArray 3)).setCell ⟨g, f, none⟩ (sl4 w.heap.size)) m { s with bytes := s.bytes.set f l } nk vR vB vS vA vK (bs.set f w.heap.size) := by
  have hg : own g = (id, 2) := h.tB g (by rw [hv]; rfl)
  have hglt : g < w.heap.size := h.rB.lt g (by rw [hv]; rfl)
  have hW : ∀ b, b < w.heap.size → own b ≠ (id, 2) → ((w.alloc (.cells (l.map (.int .i64)).toArray 3)).setCell ⟨g, f, none⟩ (sl4 w.heap.size)).heap[b]? = w.heap[b]? := by
    intro b hb h2
    rw [Below.heap_setCell _ _ _ _ (fun e => h2 (by simp at e; rw [e]; exact hg)), Below.heap_alloc _ _ _ hb]
  have hW' : ∀ b, b < w.heap.size → own b ≠ (id, 0) → own b ≠ (id, 2) → ((w.alloc (.cells (l.map (.int .i64)).toArray 3)).setCell ⟨g, f, none⟩ (sl4 w.heap.size)).heap[b]? = w.heap[b]? := fun b hb _ h2 => hW b hb h2
  refine h.putB (set1_old (Nat.le_refl _)) hW' (h.blk.of (hW m h.blk.lt (by rw [h.tm]; simp))) ?_ (h.tB.congr h.rB (set1_old (Nat.le_refl _))) ?_
  · have h1 := h.rB.alloc (.cells (l.map (.int .i64)).toArray 3)
    rw [hv] at h1 ⊢
    have h2 := h1.set f (sl4 w.heap.size)
    rw [List.length_set, List.map_set]
    exact h2
  · intro i l' hl'
    by_cases e : i = f
    · subst e
      rw [List.getElem?_set_self hf] at hl'
      simp at hl'
      subst hl'
      refine ⟨w.heap.size, by rw [List.getElem?_set_self (by rw [h.bsLen]; exact hf)], hl, ?_, set1_at _ _ _⟩
      exact (Blk.new w _ _).of (Below.heap_setCell _ _ _ _ (by simp; omega))
    · rw [List.getElem?_set_ne (fun e' => e e'.symm)] at hl'
      obtain ⟨b, h1, h2, h3, h4⟩ := h.rI i l' hl'
      refine ⟨b, by rw [List.getElem?_set_ne (fun e' => e e'.symm)]; exact h1, h2, h3.of (hW b h3.lt (by rw [h4]; simp; omega)), ?_⟩
      rw [set1_old (Nat.le_refl _) b h3.lt]; exact h4

/-- 'first': a first right of env, if one can be made. -/
def firstS (s : RSt) (env : Int) : Option RSt := match leastFree s with
  | some f => if cnt s.rights < 32 then some (addR { s with bytes := s.bytes.set f [0, 0, 0, 0] } env f true (-1)) else none
  | none => none

theorem leastFree_lt {s : RSt} {f : Nat} (h : leastFree s = some f) : f < s.nf := by
  have := List.mem_of_find?_eq_some h
  simpa using this

set_option maxHeartbeats 2000000 in
set_option maxRecDepth 100000 in
theorem first_any (h : RefRep own id w m s nk vR vB vS vA vK bs) (hn : s.ne ≤ 4) (hf : s.nf ≤ 16) (hby : s.bytes.length = s.nf) (ho : Ordered s.rights) (hm : (s.rights.length + 1) * 48 ≤ 140737488355328) (env : Int) :
    Calls Tryz.prog 71 #[.pointer (some ⟨m, 0, none⟩), .int .i64 env] w fun e w' =>
      (firstS s env = none ∧ e = .returned (.int .i64 0) ∧ RefNext own id w m nk w' s) ∨ ∃ s', firstS s env = some s' ∧ e = .returned (.int .i64 (s.rights.length + 1)) ∧ RefNext own id w m nk w' s' := by
  cases hlf : leastFree s with
  | none =>
    have HF : Hid (freeE s = -1) := by unfold Hid freeE; rw [hlf]
    have HS : Hid (firstS s env = none) := by unfold Hid firstS; rw [hlf]
    clear hlf
    go_enter Tryz.func71, Tryz.ntmps71
    go_wp2_with fail
    refine (free_any h hn hf ho (by omega)).mono ?_
    rintro e w2 ⟨rfl, hb2⟩
    rw [HF.out]
    go_wp2_with fail
    refine (count_any (h.below hb2) ho (by omega)).mono ?_
    rintro e w3 ⟨rfl, rfl⟩
    go_wp2_with fail
    go_ret
    exact .inl ⟨HS.out, rfl, RefNext.of_below h hb2⟩
  | some f =>
    have hflt := leastFree_lt hlf
    have HF : Hid (freeE s = f) := by unfold Hid freeE; rw [hlf]
    by_cases hc : cnt s.rights < 32
    · have HS : Hid (firstS s env = some (addR { s with bytes := s.bytes.set f [0, 0, 0, 0] } env f true (-1))) := by unfold Hid firstS; rw [hlf]; simp [hc]
      clear hlf
      have hnf : ¬ (f : Int) < 0 := by omega
      have hnc : ¬ (32 : Int) ≤ (cnt s.rights : Int) := by omega
      go_enter Tryz.func71, Tryz.ntmps71
      go_wp2_with fail
      refine (free_any h hn hf ho (by omega)).mono ?_
      rintro e w2 ⟨rfl, hb2⟩
      rw [HF.out]
      have h2 := h.below hb2
      go_wp2_with fail
      refine (count_any h2 ho (by omega)).mono ?_
      rintro e w3 ⟨rfl, rfl⟩
      obtain ⟨g, cap, hv, hcell, hfz⟩ := h2.rB.form (by omega)
      have k4 := h2.blk.cell 4
      simp at k4
      rw [hv] at k4
      obtain ⟨b, hb⟩ : ∃ b, bs[f]? = some b := ⟨bs[f]'(by rw [h2.bsLen]; omega), by simp⟩
      have c0 : w3.cell? ⟨g, f, none⟩ = some (.slice (some ⟨b, 0, none⟩) 4 4) := by rw [hcell _ (by omega), List.getElem?_map, hb]; rfl
      have z0 := hfz f
      have hl : (f : Int) < (s.bytes.length : Int) := by omega
      have hglt : g < w3.heap.size := h2.rB.lt g (by rw [hv]; rfl)
      have hst := h2.setB hv f (by omega) [0, 0, 0, 0] rfl
      rw [World.setCell_alloc_past _ _ _ _ hglt] at hst
      have hgt : own g = (id, 2) := h2.tB g (by rw [hv]; rfl)
      clear hcell hfz hb hv hc
      go_wp2_with fail
      refine (made_any hst (by exact hm) env f true (-1)).mono ?_
      rintro e w4 ⟨rfl, hnx⟩
      go_wp2_with fail
      go_ret
      refine .inr ⟨_, HS.out, rfl, ?_⟩
      obtain ⟨own', vR', vB', vS', vA', vK', bs', hr', ho', ht'⟩ := hnx
      have hsz := hb2.size
      have hs0 : w3.heap.size ≤ ((w3.setCell ⟨g, f, none⟩ (sl4 w3.heap.size)).alloc (.cells (List.map (Value.int .i64) [0, 0, 0, 0]).toArray 3)).heap.size := by simp
      refine ⟨own', vR', vB', vS', vA', vK', bs', hr', fun x hx => ?_, ?_⟩
      · rw [ho' x (by omega), set1_old (Nat.le_refl _) x (by omega)]
      · refine (((Touch.of_below hb2 _).setCell (.inl (by rw [hgt])) _).alloc (by simpa using hsz) _).trans (ht'.mono (by omega) (fun k hk hs => ?_))
        rw [set1_old (n := w3.heap.size) (Nat.le_refl _) k (by omega)] at hs
        exact hs
    · have HS : Hid (firstS s env = none) := by unfold Hid firstS; rw [hlf]; simp [hc]
      clear hlf
      have hnf : ¬ (f : Int) < 0 := by omega
      have hnc : (32 : Int) ≤ (cnt s.rights : Int) := by omega
      go_enter Tryz.func71, Tryz.ntmps71
      go_wp2_with fail
      refine (free_any h hn hf ho (by omega)).mono ?_
      rintro e w2 ⟨rfl, hb2⟩
      rw [HF.out]
      go_wp2_with fail
      refine (count_any (h.below hb2) ho (by omega)).mono ?_
      rintro e w3 ⟨rfl, rfl⟩
      clear hc
      go_wp2_with fail
      go_ret
      exact .inl ⟨HS.out, rfl, RefNext.of_below h hb2⟩
end
end Go.Proofs.YtnolplmpanbmhaaGreat

namespace Go.Proofs.YtnolplmpanbmhaaGreat
open Go.RowKit
set_option linter.unusedVariables false

/-- An entry that has lost its backing is gone. -/
def swE (s : RSt) (e : Ent) : Ent := if e.used && !owned s.rights e.env e.fr e.wr then Ent.empty else e
/-- The first q slots swept. -/
def swTo (s : RSt) (q : Nat) : List Ent := (s.slots.take q).map (swE s) ++ s.slots.drop q
theorem swTo_len (s : RSt) (q : Nat) : (swTo s q).length = s.slots.length := by simp [swTo]; omega
theorem swTo_at (s : RSt) (q : Nat) : (swTo s q)[q]? = s.slots[q]? := by
  unfold swTo
  by_cases h : q < s.slots.length
  · rw [List.getElem?_append_right (by simp; omega)]
    simp only [List.length_map, List.length_take, List.getElem?_drop]
    rw [show q + (q - min q s.slots.length) = q by omega]
  · rw [List.getElem?_eq_none (by simp; omega), List.getElem?_eq_none (by omega)]
theorem swTo_succ (s : RSt) (q : Nat) (e : Ent) (h : s.slots[q]? = some e) : swTo s (q + 1) = (swTo s q).set q (swE s e) := by
  have hq := (List.getElem?_eq_some_iff.1 h).1
  have he : s.slots[q] = e := (List.getElem?_eq_some_iff.1 h).2
  unfold swTo
  rw [List.take_succ_eq_append_getElem hq, List.set_append_right _ _ (by simp; omega)]
  simp only [List.map_append, List.map_cons, List.map_nil, List.length_map, List.length_take, List.append_assoc]
  rw [show q - min q s.slots.length = 0 by omega, List.drop_eq_getElem_cons hq, he]
  rfl
theorem swTo_all (s : RSt) : { s with slots := swTo s s.slots.length } = sweepS s := by
  simp [swTo, sweepS, swE]
theorem swTo_same (s : RSt) (q : Nat) (e : Ent) (h : s.slots[q]? = some e) (he : swE s e = e) : swTo s (q + 1) = swTo s q := by
  rw [swTo_succ s q e h, he]
  have hg := (swTo_at s q).trans h
  obtain ⟨hlt, hx⟩ := List.getElem?_eq_some_iff.1 hg
  conv => lhs; rw [← hx]
  exact List.set_getElem_self hlt

section
variable {own : Nat → Nat × Nat} {id : Nat} {w : World} {m : Nat} {s : RSt} {nk : Nat} {vR vB vS vA vK : Value} {bs : List Nat}

theorem RefRep.slot (h : RefRep own id w m s nk vR vB vS vA vK bs) {i : Nat} {e : Ent} (hr : s.slots[i]? = some e) :
    ∃ g cap, vS = .slice (some ⟨g, 0, none⟩) s.slots.length cap ∧ own g = (id, 3) ∧ w.cell? ⟨g, i * 5, none⟩ = some (.bool e.used) ∧ w.cell? ⟨g, i * 5 + 1, none⟩ = some (.int .i64 e.env) ∧ w.cell? ⟨g, i * 5 + 2, none⟩ = some (.int .i64 e.page) ∧
      w.cell? ⟨g, i * 5 + 3, none⟩ = some (.int .i64 e.fr) ∧ w.cell? ⟨g, i * 5 + 4, none⟩ = some (.bool e.wr) ∧ ∀ j, w.frozen? ⟨g, j, none⟩ = false := by
  have hi := (List.getElem?_eq_some_iff.1 hr).1
  obtain ⟨g, cap, hv, hc, hf⟩ := h.rS.form (by omega)
  have hx : ∀ j, j < 5 → w.cell? ⟨g, i * 5 + j, none⟩ = e.cells[j]? := fun j hj => by
    rw [hc _ (by omega), flat_get Ent.cells 5 (fun _ => rfl) _ _ j _ hr hj]
  exact ⟨g, cap, hv, h.tS g (by rw [hv]; rfl), hx 0 (by omega), hx 1 (by omega), hx 2 (by omega), hx 3 (by omega), hx 4 (by omega), hf⟩

theorem flat_set5 (xs : List Ent) (i : Nat) (e : Ent) (hi : i < xs.length) :
    (xs.set i e).flatMap Ent.cells = (((((xs.flatMap Ent.cells).set (i * 5) (.bool e.used)).set (i * 5 + 1) (.int .i64 e.env)).set (i * 5 + 2) (.int .i64 e.page)).set (i * 5 + 3) (.int .i64 e.fr)).set (i * 5 + 4) (.bool e.wr) := by
  apply List.ext_getElem?
  intro p
  have hl := flat_length Ent.cells 5 (fun _ => rfl) xs
  rw [flat_at Ent.cells 5 (by omega) (fun _ => rfl)]
  simp only [List.getElem?_set, List.length_set, hl]
  by_cases hp : p / 5 = i
  · have h5 : p % 5 = 0 ∨ p % 5 = 1 ∨ p % 5 = 2 ∨ p % 5 = 3 ∨ p % 5 = 4 := by omega
    rw [if_pos hp.symm, if_pos (by omega)]
    rcases h5 with h | h | h | h | h
    · rw [if_neg (by omega), if_neg (by omega), if_neg (by omega), if_neg (by omega), if_pos (by omega), if_pos (by omega), h]; rfl
    · rw [if_neg (by omega), if_neg (by omega), if_neg (by omega), if_pos (by omega), if_pos (by omega), h]; rfl
    · rw [if_neg (by omega), if_neg (by omega), if_pos (by omega), if_pos (by omega), h]; rfl
    · rw [if_neg (by omega), if_pos (by omega), if_pos (by omega), h]; rfl
    · rw [if_pos (by omega), if_pos (by omega), h]; rfl
  · rw [if_neg (fun e => hp e.symm), if_neg (by omega), if_neg (by omega), if_neg (by omega), if_neg (by omega), if_neg (by omega), flat_at Ent.cells 5 (by omega) (fun _ => rfl)]

/-- A slot is written. -/
theorem RefRep.setS {g cap : Nat} (h : RefRep own id w m s nk vR vB vS vA vK bs) (hv : vS = .slice (some ⟨g, 0, none⟩) s.slots.length cap) (i : Nat) (hi : i < s.slots.length) (e : Ent) :
    RefRep own id (((((w.setCell ⟨g, i * 5, none⟩ (.bool e.used)).setCell ⟨g, i * 5 + 1, none⟩ (.int .i64 e.env)).setCell ⟨g, i * 5 + 2, none⟩ (.int .i64 e.page)).setCell ⟨g, i * 5 + 3, none⟩ (.int .i64 e.fr)).setCell ⟨g, i * 5 + 4, none⟩ (.bool e.wr)) m
      { s with slots := s.slots.set i e } nk vR vB vS vA vK bs := by
  have hg : own g = (id, 3) := h.tS g (by rw [hv]; rfl)
  have hW : ∀ b, b < w.heap.size → own b ≠ (id, 3) → (((((w.setCell ⟨g, i * 5, none⟩ (.bool e.used)).setCell ⟨g, i * 5 + 1, none⟩ (.int .i64 e.env)).setCell ⟨g, i * 5 + 2, none⟩ (.int .i64 e.page)).setCell ⟨g, i * 5 + 3, none⟩ (.int .i64 e.fr)).setCell ⟨g, i * 5 + 4, none⟩ (.bool e.wr)).heap[b]? = w.heap[b]? := by
    intro b hb h3
    have hn : b ≠ g := fun e => h3 (by rw [e]; exact hg)
    rw [Below.heap_setCell _ _ _ _ hn, Below.heap_setCell _ _ _ _ hn, Below.heap_setCell _ _ _ _ hn, Below.heap_setCell _ _ _ _ hn, Below.heap_setCell _ _ _ _ hn]
  refine h.putS (fun _ _ => rfl) (fun b hb _ h3 => hW b hb h3) (h.blk.of (hW m h.blk.lt (by rw [h.tm]; simp))) ?_ h.tS
  have h1 := h.rS
  rw [hv] at h1 ⊢
  rw [List.length_set, flat_set5 _ _ _ hi]
  exact ((((h1.set _ _).set _ _).set _ _).set _ _).set _ _

set_option maxHeartbeats 4000000 in
set_option maxRecDepth 100000 in
theorem sweep_any (h : RefRep own id w m s nk vR vB vS vA vK bs) (hs : s.slots.length ≤ 8) (ho : Ordered s.rights) (hm : s.rights.length ≤ 4611686018427387904) :
    Calls Tryz.prog 79 #[.pointer (some ⟨m, 0, none⟩)] w fun e w' => e = .returned (.tuple #[]) ∧ RefNext own id w m nk w' (sweepS s) := by
  go_enter Tryz.func79, Tryz.ntmps79
  go_wp2_with fail
  go_loopg [2] s.slots.length (fun k x wr => ∃ q : Nat, x = .int .i64 q ∧ q + k = s.slots.length ∧ RefRep own id wr m { s with slots := swTo s q } nk vR vB vS vA vK bs ∧ Touch w.heap.size (fun b => (own b).1 = id) w wr)
  case atStart => exact ⟨0, rfl, by omega, by simpa [swTo] using h, Touch.refl _ _ _⟩
  case round =>
    obtain ⟨q, rfl, hk, h', ht⟩ := hrel
    have HK : Hid (q + gk = s.slots.length) := hk
    have hq : q ≤ s.slots.length := by omega
    have hsl := swTo_len s q
    have hsz := ht.size
    have k5 := h'.blk.cell 5
    simp at k5
    clear hk
    by_cases hlt : q < s.slots.length
    · obtain ⟨e, he⟩ : ∃ e, s.slots[q]? = some e := ⟨s.slots[q], by simp⟩
      obtain ⟨g, cap, hv, hgt, c0, c1, c2, c3, c4, hfz⟩ := h'.slot (i := q) (e := e) (by rw [← he]; exact swTo_at s q)
      have HS : Hid (swTo s (q + 1) = (swTo s q).set q (swE s e)) := swTo_succ s q e he
      have HQ : Hid (swE s e = e → swTo s (q + 1) = swTo s q) := swTo_same s q e he
      simp only [hsl] at hv
      rw [hv] at k5
      have hglt : g < wr.heap.size := h'.rS.lt g (by rw [hv]; rfl)
      have z0 := hfz (q * 5)
      have z1 := hfz (q * 5 + 1)
      have z2 := hfz (q * 5 + 2)
      have z3 := hfz (q * 5 + 3)
      have z4 := hfz (q * 5 + 4)
      have hst := fun x => h'.setS (g := g) (cap := cap) (by rw [hv]; simp only [hsl]) q (by simp only [hsl]; exact hlt) x
      have HSL : Hid ((swTo s q).length = s.slots.length) := hsl
      have HV : Hid (vS = .slice (some ⟨g, 0, none⟩) s.slots.length cap) := hv
      clear hsl hfz hv he
      cases hu : e.used
      · have hsw : swE s e = e := by simp [swE, hu]
        have HW : Hid (swTo s (q + 1) = swTo s q) := HQ.out hsw
        rw [hu] at c0
        clear hsw hu
        go_wp2_with fail
        go_roundg (gk - 1)
        case measure => have := HK.out; omega
        case rel => exact ⟨q + 1, by go_num, by have := HK.out; omega, by rw [HW.out]; exact h'.below ((Below.refl _ _).alloc (Nat.le_refl _) _), ht.alloc hsz _⟩
      · rw [hu] at c0
        go_wp2_with fail
        refine (owned_any (h'.below ((Below.refl _ _).alloc (Nat.le_refl _) _)) ho hm _ _ _).mono ?_
        rintro en w2 ⟨rfl, hb2⟩
        have hbw : Below wr.heap.size wr w2 := ((Below.refl _ _).alloc (Nat.le_refl _) _).trans (hb2.mono (by simp))
        have h2 := h'.below hbw
        have ht2 : Touch w.heap.size (fun b => (own b).1 = id) w w2 := ht.trans (Touch.of_below (hbw.mono hsz) _)
        cases hw : owned s.rights e.env e.fr e.wr
        · have hsw : swE s e = Ent.empty := by simp [swE, hu, hw]
          have HW : Hid (swTo s (q + 1) = (swTo s q).set q Ent.empty) := by rw [← hsw]; exact HS.out
          have hst2 := h2.setS (g := g) (cap := cap) (by rw [HV.out]; simp only [HSL.out]) q (by simp only [HSL.out]; exact hlt) Ent.empty
          have d0 := (hbw.cell (p := ⟨g, q * 5, none⟩) hglt).trans c0
          have d1 := (hbw.cell (p := ⟨g, q * 5 + 1, none⟩) hglt).trans c1
          have d2 := (hbw.cell (p := ⟨g, q * 5 + 2, none⟩) hglt).trans c2
          have d3 := (hbw.cell (p := ⟨g, q * 5 + 3, none⟩) hglt).trans c3
          have d4 := (hbw.cell (p := ⟨g, q * 5 + 4, none⟩) hglt).trans c4
          have y0 := (hbw.frozen (p := ⟨g, q * 5, none⟩) hglt).trans z0
          have y1 := (hbw.frozen (p := ⟨g, q * 5 + 1, none⟩) hglt).trans z1
          have y2 := (hbw.frozen (p := ⟨g, q * 5 + 2, none⟩) hglt).trans z2
          have y3 := (hbw.frozen (p := ⟨g, q * 5 + 3, none⟩) hglt).trans z3
          have y4 := (hbw.frozen (p := ⟨g, q * 5 + 4, none⟩) hglt).trans z4
          have x5 := h2.blk.cell 5
          simp at x5
          rw [HV.out] at x5
          clear hst hsw hw hu
          go_wp2_with fail
          go_roundg (gk - 1)
          case measure => have := HK.out; omega
          case rel =>
            refine ⟨q + 1, by go_num, by have := HK.out; omega, by rw [HW.out]; exact hst2, ?_⟩
            have hin : (own g).1 = id := by rw [hgt]
            exact ((((ht2.setCell (.inl hin) _).setCell (.inl hin) _).setCell (.inl hin) _).setCell (.inl hin) _).setCell (.inl hin) _
        · have hsw : swE s e = e := by simp [swE, hw]
          have HW : Hid (swTo s (q + 1) = swTo s q) := HQ.out hsw
          clear hst hsw hw hu
          go_wp2_with fail
          go_roundg (gk - 1)
          case measure => have := HK.out; omega
          case rel => exact ⟨q + 1, by go_num, by have := HK.out; omega, by rw [HW.out]; exact h2, ht2⟩
    · obtain rfl : q = s.slots.length := by omega
      obtain ⟨ao, cap, g, hv, _⟩ := h'.rS.view
      simp only [hsl] at hv
      rw [hv] at k5
      have HSL : Hid ((swTo s s.slots.length).length = s.slots.length) := hsl
      clear hsl hv
      go_wp2_with fail
      go_end0
      exact ⟨rfl, own, _, _, _, _, _, _, by rw [← swTo_all]; exact h', fun _ _ => rfl, ht⟩
end
end Go.Proofs.YtnolplmpanbmhaaGreat
