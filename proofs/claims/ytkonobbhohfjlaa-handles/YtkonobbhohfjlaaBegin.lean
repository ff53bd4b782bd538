import Derived.Test.YtkonobbhohfjlaaRep
namespace Go.Proofs.Ytkonobbhohfjlaa
open Go.RowKit
set_option linter.unusedVariables false

theorem Try.infoInts : (Try.prog.info? 65).map (fun i => (i.zero, i.size, i.bytes)) = some (some (.slice none 0 0), 1, 24) := by kernel_rfl
theorem Try.infoEntry : (Try.prog.info? 99).map (fun i => (i.zero, i.size, i.bytes)) = some (some (.agg #[.bool false, .int .i64 0, .int .i64 0, .int .i64 0, .bool false]), 5, 40) := by kernel_rfl
theorem Try.infoBool : (Try.prog.info? 4).map (fun i => (i.zero, i.size, i.bytes)) = some (some (.bool false), 1, 1) := by kernel_rfl
theorem Try.infoKeptP : (Try.prog.info? 139).map (fun i => (i.zero, i.size, i.bytes)) = some (some (.pointer none), 1, 8) := by kernel_rfl

/-- The document's machine while it is made. -/
def mk (f s e r1 r2 r3 : Nat) : RSt := ⟨f, s, e, [], List.replicate r1 [0, 0, 0, 0], List.replicate r2 Ent.empty, 0, List.replicate r3 true⟩

section
variable {own : Nat → Nat × Nat} {id : Nat} {w w1 : World} {m : Nat} {s : RSt} {nk : Nat} {vR vB vS vA vK : Value} {bs : List Nat} {g cap : Nat}

/-- The row behind an append and the store into the struct. -/
theorem Row.field {e k n : Nat} {xs : List Value} {v : Value} {t : Nat × Nat} {j : Nat} {u : Value} {H : Nat} (hown : w1.ownsRow 0 e k (.slice (some ⟨g, 0, none⟩) n cap) n xs) (tm : own m = (id, 0)) (tv : Tg own v t) (ht : t ≠ (id, 0))
    (hat : v.ownBlock = some g ∨ g = H) (hm : m < H) : Row (w1.setCell ⟨m, j, none⟩ u) (.slice (some ⟨g, 0, none⟩) n cap) e k n xs := by
  refine Row.other (w := w1) hown u (fun e => ?_)
  simp [Value.ownBlock] at e
  rcases hat with h | h
  · have h3 := tv g h; rw [e, tm] at h3; exact ht h3.symm
  · omega

theorem RefRep.appS (h : RefRep own id w m s nk vR vB vS vA vK bs) (x : Ent)
    (hown : w1.ownsRow 0 99 5 (.slice (some ⟨g, 0, none⟩) (s.slots.length + 1) cap) (s.slots.length + 1) (s.slots.flatMap Ent.cells ++ x.cells))
    (hg : (w.alloc (.cells x.cells.toArray 99)).grownBy w1 vS.ownBlock) (hat : vS.ownBlock = some g ∨ g = w.heap.size + 1) :
    RefRep (set1 own (w.heap.size + 1) (id, 3)) id (w1.setCell ⟨m, 5, none⟩ (.slice (some ⟨g, 0, none⟩) (s.slots.length + 1) cap)) m { s with slots := s.slots ++ [x] } nk vR vB (.slice (some ⟨g, 0, none⟩) (s.slots.length + 1) cap) vA vK bs := by
  have hbe : Below w.heap.size w (w.alloc (.cells x.cells.toArray 99)) := (Below.refl _ _).alloc (Nat.le_refl _) _
  have hmlt := h.blk.lt
  have hm1 := (h.blk.alloc (.cells x.cells.toArray 99)).grown hg (fun e => by have := h.tS _ e; rw [h.tm] at this; simp at this)
  refine h.putS (set1_old (by omega)) (app_keep (a := ⟨m, 5, none⟩) h.tm h.tS hbe hg rfl) (hm1.set 5 _) ?_ (h.tS.app (fun b hb => by have := h.rS.lt b hb; omega) hat)
  have := Row.field (j := 5) (u := .slice (some ⟨g, 0, none⟩) (s.slots.length + 1) cap) hown h.tm h.tS (by simp) hat (by omega)
  simpa using this

theorem RefRep.appA (h : RefRep own id w m s nk vR vB vS vA vK bs) (x : Bool)
    (hown : w1.ownsRow 0 4 1 (.slice (some ⟨g, 0, none⟩) (s.alive.length + 1) cap) (s.alive.length + 1) (s.alive.map .bool ++ [.bool x]))
    (hg : (w.alloc (.cells [.bool x].toArray 4)).grownBy w1 vA.ownBlock) (hat : vA.ownBlock = some g ∨ g = w.heap.size + 1) :
    RefRep (set1 own (w.heap.size + 1) (id, 4)) id (w1.setCell ⟨m, 7, none⟩ (.slice (some ⟨g, 0, none⟩) (s.alive.length + 1) cap)) m { s with alive := s.alive ++ [x] } nk vR vB vS (.slice (some ⟨g, 0, none⟩) (s.alive.length + 1) cap) vK bs := by
  have hbe : Below w.heap.size w (w.alloc (.cells [.bool x].toArray 4)) := (Below.refl _ _).alloc (Nat.le_refl _) _
  have hmlt := h.blk.lt
  have hm1 := (h.blk.alloc (.cells [.bool x].toArray 4)).grown hg (fun e => by have := h.tA _ e; rw [h.tm] at this; simp at this)
  refine h.putA (set1_old (by omega)) (app_keep (a := ⟨m, 7, none⟩) h.tm h.tA hbe hg rfl) (hm1.set 7 _) ?_ (h.tA.app (fun b hb => by have := h.rA.lt b hb; omega) hat)
  have := Row.field (j := 7) (u := .slice (some ⟨g, 0, none⟩) (s.alive.length + 1) cap) hown h.tm h.tA (by simp) hat (by omega)
  simpa using this

theorem RefRep.appK (h : RefRep own id w m s nk vR vB vS vA vK bs)
    (hown : w1.ownsRow 0 139 1 (.slice (some ⟨g, 0, none⟩) (nk + 1) cap) (nk + 1) (List.replicate nk (.pointer none) ++ [.pointer none]))
    (hg : (w.alloc (.cells [.pointer none].toArray 139)).grownBy w1 vK.ownBlock) (hat : vK.ownBlock = some g ∨ g = w.heap.size + 1) :
    RefRep (set1 own (w.heap.size + 1) (id, 5)) id (w1.setCell ⟨m, 8, none⟩ (.slice (some ⟨g, 0, none⟩) (nk + 1) cap)) m s (nk + 1) vR vB vS vA (.slice (some ⟨g, 0, none⟩) (nk + 1) cap) bs := by
  have hbe : Below w.heap.size w (w.alloc (.cells [.pointer none].toArray 139)) := (Below.refl _ _).alloc (Nat.le_refl _) _
  have hmlt := h.blk.lt
  have hm1 := (h.blk.alloc (.cells [.pointer none].toArray 139)).grown hg (fun e => by have := h.tK _ e; rw [h.tm] at this; simp at this)
  refine h.putK (set1_old (by omega)) (app_keep (a := ⟨m, 8, none⟩) h.tm h.tK hbe hg rfl) (hm1.set 8 _) ?_ (h.tK.app (fun b hb => by have := h.rK.lt b hb; omega) hat)
  have := Row.field (j := 8) (u := .slice (some ⟨g, 0, none⟩) (nk + 1) cap) hown h.tm h.tK (by simp) hat (by omega)
  rw [List.replicate_succ']
  exact this

/-- A block with a mark of id lies at or behind b0, where no block below b0 has one. -/
theorem above {own0 : Nat → Nat × Nat} {b0 k j : Nat} (hid : ∀ b, b < b0 → (own0 b).1 ≠ id) (ho : ∀ b, b < b0 → own b = own0 b) (hx : (own b0).1 ≠ id) (hk : own k = (id, j)) : b0 + 1 ≤ k := by
  rcases Nat.lt_or_ge k (b0 + 1) with h | h
  · exfalso
    rcases Nat.lt_or_ge k b0 with h' | h'
    · rw [ho k h'] at hk; exact hid k h' (by rw [hk])
    · obtain rfl : k = b0 := by omega
      exact hx (by rw [hk])
  · exact h
end

theorem oneCell_sl4 (b : Nat) : ∀ u ∈ [sl4 b], u.oneCell' = true := by intro u hu; simp at hu; subst hu; rfl

set_option maxHeartbeats 2000000 in
set_option maxRecDepth 100000 in
theorem begin_any (own0 : Nat → Nat × Nat) (id f s e : Nat) (w : World) (hf : f ≤ 16) (hs : s ≤ 8) (he : e ≤ 4) (hid : ∀ b, b < w.heap.size → (own0 b).1 ≠ id) :
    Calls Try.prog 26 #[.agg #[.int .i64 f, .int .i64 s, .int .i64 e]] w fun en w' => ∃ own m vR vB vS vA vK bs, en = .returned (.pointer (some ⟨m, 0, none⟩)) ∧ Below w.heap.size w w' ∧
      RefRep own id w' m (RSt.fresh f s e) e vR vB vS vA vK bs ∧ (∀ b, b < w.heap.size → own b = own0 b) := by
  obtain ⟨i0, hi, hz0, hz1, hz2⟩ := info_parts Try.infoInts
  go_enter Try.func26, Try.ntmps26
  go_wp2
  go_loopg [4] f (fun k i wr => ∃ (r : Nat) (own : Nat → Nat × Nat) (vB : Value) (bs : List Nat), r + k = f ∧ i = .int .i64 r ∧ Below (w.heap.size + 1) (w.alloc (.cells #[.int .i64 f, .int .i64 s, .int .i64 e] 31)) wr ∧
    RefRep own id wr (w.heap.size + 1) (mk f s e r 0 0) 0 (.slice none 0 0) vB (.slice none 0 0) (.slice none 0 0) (.slice none 0 0) bs ∧ (∀ b, b < w.heap.size → own b = own0 b) ∧ (own w.heap.size).1 ≠ id ∧ bs.length = r)
  case atStart =>
    refine ⟨0, set1 (set1 own0 w.heap.size (id + 1, 0)) (w.heap.size + 1) (id, 0), .slice none 0 0, [], by omega, rfl, (Below.refl _ _).alloc (by simp) _, ?_, fun b hb => (set1_old (n := w.heap.size) (by omega) b hb).trans (set1_old (n := w.heap.size) (by omega) b hb), by simp [set1], rfl⟩
    exact ⟨Blk.at _ _ _ _ (by simp), Row.nil _ _ _, Row.nil _ _ _, by simp [mk], Row.nil _ _ _, Row.nil _ _ _, Row.nil _ _ _, set1_at _ _ _, Tg.nil _ _, Tg.nil _ _, Tg.nil _ _, Tg.nil _ _, Tg.nil _ _⟩
  case round =>
    obtain ⟨r, own, vB, bs, hr, rfl, hbl, hrep, hown0, hbx, hbs⟩ := hrel
    have k0 : wr.cell? ⟨w.heap.size, 0, none⟩ = some (.int .i64 f) := (hbl.cell (p := ⟨w.heap.size, 0, none⟩) (by simp)).trans (by simp)
    have c4 := hrep.blk.cell 4
    have f4 := hrep.blk.frozen 4
    simp at c4
    by_cases hlt : r < f
    · have hB := hrep.rB
      simp only [mk, List.length_replicate] at hB
      obtain ⟨ao, cap, g, hv, hao, _, _, hmx⟩ := hB.view
      have hB' : (Row ((wr.alloc (.cells [.int .i64 0, .int .i64 0, .int .i64 0, .int .i64 0].toArray 3)).alloc (.cells [sl4 wr.heap.size].toArray 65)) (.slice ao r cap) 65 1 r (bs.map sl4)) := by
        rw [← hv]; exact (hB.alloc _).alloc _
      rw [hv] at c4
      have Hv : Hid (vB = .slice ao r cap) := hv
      have Hb : Hid (bs.length = r) := hbs
      clear hv hao hbs
      go_wp2_with (at_builtin; refine wpList_append_lies _ rfl (.tmp 20) (.tmp 22) 92 rfl 0 65 i0 (.slice none 0 0) 1 24 Try.underlying92 hi hz0 hz1 hz2 rfl (by decide) (.slice ao r cap) r (bs.map sl4) rfl hB' ⟨wr.heap.size + 1, 0, none⟩ 1 1 [sl4 wr.heap.size] rfl rfl ?c1 ?c2 (by omega) ?b1 ?b2 (by omega) (wr.heap.size + 2) (by simp) ?nx)
      case c1 => exact World.news_of_block (B := wr.heap.size + 1) (cs := #[sl4 wr.heap.size]) (t := 65) (fr := (0, 0)) (Blk.at _ [sl4 wr.heap.size] _ _ (by simp))
      case c2 => exact oneCell_sl4 _
      case b1 => unfold maxLen; omega
      case b2 => omega
      case nx =>
        intro g1 cap1 w1 hown hgrow hat hlt1
        have hbe : Below wr.heap.size wr ((wr.alloc (.cells [.int .i64 0, .int .i64 0, .int .i64 0, .int .i64 0].toArray 3)).alloc (.cells [sl4 wr.heap.size].toArray 65)) := ((Below.refl _ _).alloc (Nat.le_refl _) _).alloc (by simp) _
        rw [← Hv.out] at hgrow hat
        have hm1 := ((hrep.blk.alloc (.cells [.int .i64 0, .int .i64 0, .int .i64 0, .int .i64 0].toArray 3)).alloc (.cells [sl4 wr.heap.size].toArray 65)).grown hgrow (fun e => by have := hrep.tB _ e; rw [hrep.tm] at this; simp at this)
        have d4 := hm1.cell 4
        have e4 := hm1.frozen 4
        simp at d4
        go_wp2
        go_roundg (gk - 1)
        case measure => omega
        case rel =>
          have hkeep := app_keep (v' := .slice (some ⟨g1, 0, none⟩) (r + 1) cap1) (a := ⟨w.heap.size + 1, 4, none⟩) hrep.tm hrep.tB hbe hgrow rfl
          have hsz : w.heap.size + 2 ≤ wr.heap.size := by have := hrep.blk.lt; omega
          have ho : ∀ b, b < wr.heap.size → set1 (set1 own wr.heap.size (id, 6 + r)) (wr.heap.size + 2) (id, 2) b = own b := fun b hb => (set1_old (n := wr.heap.size) (by omega) b hb).trans (set1_old (n := wr.heap.size) (by omega) b hb)
          have hlb := hrep.rB.lt
          have hnb : ∀ k, vB.ownBlock = some k → w.heap.size + 1 ≤ k := by
            intro k hk
            have h2 := hrep.tB k hk
            rcases Nat.lt_or_ge k (w.heap.size + 1) with h | h
            · exfalso
              rcases Nat.lt_or_ge k w.heap.size with h' | h'
              · rw [hown0 k h'] at h2; exact hid k h' (by rw [h2])
              · obtain rfl : k = w.heap.size := by omega
                exact hbx (by rw [h2])
            · exact h
          refine ⟨r + 1, set1 (set1 own wr.heap.size (id, 6 + r)) (wr.heap.size + 2) (id, 2), .slice (some ⟨g1, 0, none⟩) (r + 1) cap1, bs ++ [wr.heap.size], by omega, by go_num, ?_, ?_, ?_, ?_, by simp [Hb.out]⟩
          · exact ((hbl.trans (hbe.mono (by omega))).grown hgrow (by simp; omega) hnb).setCell (by simp) _
          · refine hrep.putB ho hkeep (bytes' := List.replicate (r + 1) [0, 0, 0, 0]) (hm1.set 4 _) ?_ ((hrep.tB.congr (own' := set1 own wr.heap.size (id, 6 + r)) hrep.rB (set1_old (by omega))).app (fun b hb => by have := hlb b hb; omega) hat) ?_
            · have : Row w1 (.slice (some ⟨g1, 0, none⟩) (r + 1) cap1) 65 1 (r + 1) ((bs ++ [wr.heap.size]).map sl4) := by rw [List.map_append]; exact hown
              have := this.other (a := ⟨w.heap.size + 1, 4, none⟩) (.slice (some ⟨g1, 0, none⟩) (r + 1) cap1) (fun e => ?_)
              · simpa using this
              · simp [Value.ownBlock] at e
                rcases hat with h | h
                · have h3 := hrep.tB g1 h; rw [e, hrep.tm] at h3; simp at h3
                · omega
            · intro i l hl
              rcases Nat.lt_or_ge i r with h | h
              · obtain ⟨b, h1, h2, h3, h4⟩ := hrep.inner ho 2 (by omega) hkeep i l (by simp [mk, List.getElem?_replicate] at hl ⊢; exact ⟨h, hl.2⟩)
                exact ⟨b, by rw [List.getElem?_append_left (by rw [Hb.out]; exact h)]; exact h1, h2, h3, h4⟩
              · simp [List.getElem?_replicate] at hl
                obtain rfl : i = r := by omega
                refine ⟨wr.heap.size, by rw [List.getElem?_append_right (by rw [Hb.out]; omega)]; simp [Hb.out], by rw [← hl.2]; rfl, ?_, ?_⟩
                · rw [← hl.2]
                  exact (((Blk.new wr [.int .i64 0, .int .i64 0, .int .i64 0, .int .i64 0] 3).alloc _).grown hgrow (fun e => by have := hlb _ e; omega)).other _ (by simp; omega)
                · simp [set1]
          · intro b hb
            rw [ho b (by omega)]; exact hown0 b hb
          · rw [ho _ (by omega)]; exact hbx
    · obtain rfl : r = f := by omega
      have hbA : Below (w.heap.size + 1) (w.alloc (.cells #[.int .i64 r, .int .i64 s, .int .i64 e] 31)) wr := hbl
      clear c4 f4 hi hz0 hz1 hz2 i0
      obtain ⟨i1, gi, gz0, gz1, gz2⟩ := info_parts Try.infoEntry
      go_wp2
      clear k0 hlt
      go_loopg [5] s (fun k i wx => ∃ (q : Nat) (own : Nat → Nat × Nat) (vS : Value), q + k = s ∧ i = .int .i64 q ∧ Below (w.heap.size + 1) (w.alloc (.cells #[.int .i64 r, .int .i64 s, .int .i64 e] 31)) wx ∧
        RefRep own id wx (w.heap.size + 1) (mk r s e r q 0) 0 (.slice none 0 0) vB vS (.slice none 0 0) (.slice none 0 0) bs ∧ (∀ b, b < w.heap.size → own b = own0 b) ∧ (own w.heap.size).1 ≠ id)
      case atStart => exact ⟨0, own, _, by omega, rfl, hbl, hrep, hown0, hbx⟩
      case round =>
        clear hrep hown0 hbx hbl hbA hr hbs
        clear own
        obtain ⟨wq, rfl⟩ : ∃ wq : World, wq = wr := ⟨_, rfl⟩
        obtain ⟨q, own, vS, hq, rfl, hbl, hrep, hown0, hbx⟩ := hrel
        have k1 : wq.cell? ⟨w.heap.size, 1, none⟩ = some (.int .i64 s) := (hbl.cell (p := ⟨w.heap.size, 1, none⟩) (by simp)).trans (by simp)
        have c5 := hrep.blk.cell 5
        have f5 := hrep.blk.frozen 5
        simp at c5
        by_cases hlt : q < s
        · have hS := hrep.rS
          simp only [mk, List.length_replicate] at hS
          obtain ⟨ao, cap, g, hv, hao, _, _, hmx⟩ := hS.view
          have hS' := hS.alloc (.cells Ent.empty.cells.toArray 99)
          rw [hv] at c5 hS'
          have Hv : Hid (vS = .slice ao q cap) := hv
          clear hv hao
          go_wp2_with (at_builtin; refine wpList_append_lies _ rfl (.tmp 36) (.tmp 38) 93 rfl 0 99 i1 _ 5 40 Try.underlying93 gi gz0 gz1 gz2 rfl (by decide) (.slice ao q cap) q _ rfl hS' ⟨wq.heap.size, 0, none⟩ 1 1 Ent.empty.cells rfl rfl ?c1 ?c2 (by omega) ?b1 ?b2 (by omega) (wq.heap.size + 1) (by simp) ?nx)
          case c1 => exact World.news_of_block (B := wq.heap.size) (cs := Ent.empty.cells.toArray) (t := 99) (fr := (0, 0)) (Blk.new _ _ _)
          case c2 => intro u hu; simp [Ent.cells] at hu; rcases hu with rfl | rfl | rfl | rfl | rfl <;> rfl
          case b1 => unfold maxLen; omega
          case b2 => omega
          case nx =>
            intro g1 cap1 w1 hown hgrow hat hlt1
            rw [← Hv.out] at hgrow hat
            have hbe : Below wq.heap.size wq (wq.alloc (.cells Ent.empty.cells.toArray 99)) := (Below.refl _ _).alloc (Nat.le_refl _) _
            have hm1 := (hrep.blk.alloc (.cells Ent.empty.cells.toArray 99)).grown hgrow (fun e => by have := hrep.tS _ e; rw [hrep.tm] at this; simp at this)
            have d5 := hm1.cell 5
            have e5 := hm1.frozen 5
            simp at d5
            rw [Hv.out] at d5
            go_wp2
            go_roundg (gk - 1)
            case measure => omega
            case rel =>
              have hsz : w.heap.size + 2 ≤ wq.heap.size := by have := hrep.blk.lt; omega
              have hnew := hrep.appS (w1 := w1) (g := g1) (cap := cap1) Ent.empty (by simpa [mk] using hown) hgrow hat
              refine ⟨q + 1, set1 own (wq.heap.size + 1) (id, 3), .slice (some ⟨g1, 0, none⟩) (q + 1) cap1, by omega, by go_num, ?_, ?_, ?_, ?_⟩
              · exact ((hbl.trans (hbe.mono (by omega))).grown hgrow (by simp; omega) (fun k hk => above hid hown0 hbx (hrep.tS k hk))).setCell (by simp) _
              · simpa [mk, List.replicate_succ'] using hnew
              · intro b hb
                rw [set1_old (n := wq.heap.size) (by omega) b (by omega)]; exact hown0 b hb
              · rw [set1_old (n := wq.heap.size) (by omega) _ (by omega)]; exact hbx
        · obtain rfl : q = s := by omega
          clear c5 f5 gi gz0 gz1 gz2 i1
          obtain ⟨i2, gi, gz0, gz1, gz2⟩ := info_parts Try.infoBool
          obtain ⟨i3, ki, kz0, kz1, kz2⟩ := info_parts Try.infoKeptP
          go_wp2
          clear k1 hlt hq
          go_loopg [6] e (fun k i wx => ∃ (p : Nat) (own : Nat → Nat × Nat) (vA vK : Value), p + k = e ∧ i = .int .i64 p ∧ Below (w.heap.size + 1) (w.alloc (.cells #[.int .i64 r, .int .i64 q, .int .i64 e] 31)) wx ∧
            RefRep own id wx (w.heap.size + 1) (mk r q e r q p) p (.slice none 0 0) vB vS vA vK bs ∧ (∀ b, b < w.heap.size → own b = own0 b) ∧ (own w.heap.size).1 ≠ id)
          case atStart => exact ⟨0, own, _, _, by omega, rfl, hbl, hrep, hown0, hbx⟩
          case round =>
            clear hrep hown0 hbx hbl
            clear own
            obtain ⟨wp, rfl⟩ : ∃ wp : World, wp = wr := ⟨_, rfl⟩
            obtain ⟨p, own, vA, vK, hp, rfl, hbl, hrep, hown0, hbx⟩ := hrel
            have k2 : wp.cell? ⟨w.heap.size, 2, none⟩ = some (.int .i64 e) := (hbl.cell (p := ⟨w.heap.size, 2, none⟩) (by simp)).trans (by simp)
            have c7 := hrep.blk.cell 7
            simp at c7
            by_cases hlt : p < e
            · have hA := hrep.rA
              simp only [mk, List.length_replicate] at hA
              obtain ⟨ao, cap, g, hv, hao, _, _, hmx⟩ := hA.view
              have hA' := hA.alloc (.cells [.bool true].toArray 4)
              rw [hv] at c7 hA'
              have Hv : Hid (vA = .slice ao p cap) := hv
              clear hv hao
              go_wp2_with (at_builtin; refine wpList_append_lies _ rfl (.tmp 52) (.tmp 53) 94 rfl 0 4 i2 _ 1 1 Try.underlying94 gi gz0 gz1 gz2 rfl (by decide) (.slice ao p cap) p _ rfl hA' ⟨wp.heap.size, 0, none⟩ 1 1 [.bool true] rfl rfl ?c1 ?c2 (by omega) ?b1 ?b2 (by omega) (wp.heap.size + 1) (by simp) ?nx)
              case c1 => exact World.news_of_block (B := wp.heap.size) (cs := [.bool true].toArray) (t := 4) (fr := (0, 0)) (Blk.new _ _ _)
              case c2 => intro u hu; simp at hu; subst hu; rfl
              case b1 => unfold maxLen; omega
              case b2 => omega
              case nx =>
                intro g1 cap1 w1 hown hgrow hat hlt1
                rw [← Hv.out] at hgrow hat
                have hbe : Below wp.heap.size wp (wp.alloc (.cells [.bool true].toArray 4)) := (Below.refl _ _).alloc (Nat.le_refl _) _
                have hm1 := (hrep.blk.alloc (.cells [.bool true].toArray 4)).grown hgrow (fun e => by have := hrep.tA _ e; rw [hrep.tm] at this; simp at this)
                have d7 := hm1.cell 7
                have e7 := hm1.frozen 7
                simp at d7
                rw [Hv.out] at d7
                have hsz : w.heap.size + 2 ≤ wp.heap.size := by have := hrep.blk.lt; omega
                have hnew := hrep.appA (w1 := w1) (g := g1) (cap := cap1) true (by simpa [mk] using hown) hgrow hat
                have hblA := ((hbl.trans (hbe.mono (by omega))).grown hgrow (by simp; omega) (fun k hk => above hid hown0 hbx (hrep.tA k hk))).setCell (p := ⟨w.heap.size + 1, 7, none⟩) (by simp) (.slice (some ⟨g1, 0, none⟩) (p + 1) cap1)
                have hsz2 : wp.heap.size ≤ w1.heap.size := by have := hgrow.size; simp at this; omega
                have ho1 : ∀ b, b < w.heap.size → set1 own (wp.heap.size + 1) (id, 4) b = own0 b := fun b hb => by rw [set1_old (n := wp.heap.size) (by omega) b (by omega)]; exact hown0 b hb
                have hx1 : (set1 own (wp.heap.size + 1) (id, 4) w.heap.size).1 ≠ id := by rw [set1_old (n := wp.heap.size) (by omega) _ (by omega)]; exact hbx
                simp only [mk, List.length_replicate] at hnew
                have Hs1 : Hid ( (w1.setCell ⟨w.heap.size + 1, 7, none⟩ (.slice (some ⟨g1, 0, none⟩) (p + 1) cap1)).heap.size = w1.heap.size) := by unfold Hid; simp
                obtain ⟨ao2, cap2, g2, hv2, hao2, _, _, hmx2⟩ := hnew.rK.view
                have hK' := hnew.rK.alloc (.cells [.pointer none].toArray 139)
                have d8 := hm1.cell 8
                have e8 := hm1.frozen 8
                simp at d8
                rw [hv2] at d8 hK'
                have Hv2 : Hid (vK = .slice ao2 p cap2) := hv2
                clear hv2 hao2 hrep hown hgrow hat hA' hA Hv hown0 hbx hm1 hbe
                go_wp2_with (at_builtin; refine wpList_append_lies _ rfl (.tmp 61) (.tmp 62) 95 rfl 0 139 i3 _ 1 8 Try.underlying95 ki kz0 kz1 kz2 rfl (by decide) (.slice ao2 p cap2) p _ rfl hK' ⟨w1.heap.size, 0, none⟩ 1 1 [.pointer none] rfl rfl ?c1 ?c2 (by omega) ?b1 ?b2 (by omega) (w1.heap.size + 1) (by simp) ?nx)
                case c1 => exact World.news_of_block (B := w1.heap.size) (cs := [.pointer none].toArray) (t := 139) (fr := (0, 0)) (Blk.at (w1.setCell ⟨w.heap.size + 1, 7, none⟩ (.slice (some ⟨g1, 0, none⟩) (p + 1) cap1)) [.pointer none] _ _ Hs1.out.symm)
                case c2 => intro u hu; simp at hu; subst hu; rfl
                case b1 => unfold maxLen; omega
                case b2 => omega
                case nx =>
                  intro g3 cap3 w3 hown3 hgrow3 hat3 hlt3
                  rw [← Hv2.out] at hgrow3 hat3
                  have hnew3 := hnew.appK (w1 := w3) (g := g3) (cap := cap3) hown3 hgrow3 (by rw [Hs1.out]; exact hat3)
                  have hm3 := (hnew.blk.alloc (.cells [.pointer none].toArray 139)).grown hgrow3 (fun e => by have := hnew.tK _ e; rw [hnew.tm] at this; simp at this)
                  have d9 := hm3.cell 8
                  have e9 := hm3.frozen 8
                  simp at d9
                  rw [Hv2.out] at d9
                  go_wp2
                  go_roundg (gk - 1)
                  case measure => omega
                  case rel =>
                    rw [Hs1.out] at hnew3
                    refine ⟨p + 1, _, _, _, by omega, by go_num, ?_, by simpa [mk, List.replicate_succ'] using hnew3, ?_, ?_⟩
                    · exact ((hblA.alloc (by simp; omega) _).grown hgrow3 (by simp; omega) (fun k hk => above hid ho1 hx1 (hnew.tK k hk))).setCell (by simp) _
                    · intro b hb
                      rw [set1_old (n := w1.heap.size) (by omega) b (by omega)]; exact ho1 b hb
                    · rw [set1_old (n := w1.heap.size) (by omega) _ (by omega)]; exact hx1
            · obtain rfl : p = e := by omega
              go_wp2
              go_ret
              exact ⟨own, _, _, _, _, _, _, _, rfl, ((Below.refl _ _).alloc (Nat.le_refl _) _).trans (hbl.mono (by omega)), hrep, hown0⟩
end Go.Proofs.Ytkonobbhohfjlaa
