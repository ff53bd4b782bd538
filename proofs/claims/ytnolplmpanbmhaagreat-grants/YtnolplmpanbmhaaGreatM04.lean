import Derived.Test.YtnolplmpanbmhaaGreatM03
/-
  The document's Unmap and Map.
-/
namespace Go.Proofs.YtnolplmpanbmhaaGreat
open Go.RowKit
set_option linter.unusedVariables false
attribute [local go_sem ↓] Go.wp_at_zero Go.wp_at_succ

def unmapR (s : RSt) (env page : Int) : Int × RSt :=
  if rawE s env ≠ 0 then (rawE s env, s) else if page < 0 ∨ 15 < page then (7, s) else (0, goneS s env page)
def mapR (s : RSt) (env page hd : Int) (wt : Bool) (slot : Int) : Int × RSt :=
  if rawE s env ≠ 0 then (rawE s env, s) else if page < 0 ∨ 15 < page then (7, s)
  else if (rightE s env hd).2 ≠ 0 then ((rightE s env hd).2, s) else match s.rights[(rightE s env hd).1.toNat]? with
    | none => (0, s)
    | some r => if wt && !r.wr then (10, s) else if slot < 0 ∨ (s.ns : Int) ≤ slot then (11, s)
      else (0, { goneS s env page with slots := (goneS s env page).slots.set slot.toNat ⟨true, env, page, r.fr, wt⟩ })

section
variable {own : Nat → Nat × Nat} {id : Nat} {w : World} {m : Nat} {s : RSt} {nk : Nat} {vR vB vS vA vK : Value} {bs : List Nat}

set_option maxHeartbeats 2000000 in
set_option maxRecDepth 100000 in
theorem gone_any (h : RefRep own id w m s nk vR vB vS vA vK bs) (hs : s.slots.length ≤ 8) (env page : Int) :
    Calls Tryz.prog 92 #[.pointer (some ⟨m, 0, none⟩), .int .i64 env, .int .i64 page] w fun e w' => e = .returned (.tuple #[]) ∧ RefNext own id w m nk w' (goneS s env page) := by
  obtain ⟨ao, cap, g0, hv, -⟩ := h.rS.view
  have HV : Hid (vS = .slice ao s.slots.length cap) := hv
  clear hv
  go_enter Tryz.func92, Tryz.ntmps92
  go_wp2_with fail
  go_loopg [6] s.slots.length (fun k x wr => ∃ q : Nat, x = .int .i64 q ∧ q + k = s.slots.length ∧ RefRep own id wr m { s with slots := mapTo (goneE env page) s.slots q } nk vR vB vS vA vK bs ∧ Touch w.heap.size (fun b => (own b).1 = id) w wr)
  case atStart => exact ⟨0, rfl, by omega, by rw [mapTo_zero]; exact h, Touch.refl _ _ _⟩
  case round =>
    obtain ⟨q, rfl, hk, h', ht⟩ := hrel
    have HK : Hid (q + gk = s.slots.length) := hk
    have hq : q ≤ s.slots.length := by omega
    clear hk
    have hsl := mapTo_len (goneE env page) s.slots q
    have k5 := h'.blk.cell 5
    simp at k5
    rw [HV.out] at k5
    by_cases hlt : q < s.slots.length
    · obtain ⟨e, he⟩ : ∃ e, s.slots[q]? = some e := ⟨s.slots[q], by simp⟩
      have he' : (mapTo (goneE env page) s.slots q)[q]? = some e := (mapTo_at _ _ _).trans he
      obtain ⟨g, cap', hv, hgt, c0, c1, c2, c3, c4, hfz⟩ := h'.slot he'
      have hst := h'.setS (g := g) (cap := cap') hv q (by simp only [hsl]; exact hlt) Ent.empty
      rw [HV.out] at hv
      simp [hsl] at hv
      obtain ⟨rfl, rfl⟩ := hv
      have HS : Hid (mapTo (goneE env page) s.slots (q + 1) = (mapTo (goneE env page) s.slots q).set q (goneE env page e)) := mapTo_succ _ _ _ _ he
      have HQ : Hid (goneE env page e = e → mapTo (goneE env page) s.slots (q + 1) = mapTo (goneE env page) s.slots q) := mapTo_same _ _ _ _ he
      have z0 := hfz (q * 5)
      have z1 := hfz (q * 5 + 1)
      have z2 := hfz (q * 5 + 2)
      have z3 := hfz (q * 5 + 3)
      have z4 := hfz (q * 5 + 4)
      have hq0 : (0 : Int) ≤ (q : Int) := by omega
      have hq1 : (q : Int) < (s.slots.length : Int) := by omega
      have hin : (own g).1 = id := by rw [hgt]
      clear he he' hsl hfz
      cases h1 : (e.env == env)
      · have HW : Hid (mapTo (goneE env page) s.slots (q + 1) = mapTo (goneE env page) s.slots q) := HQ.out (by simp [goneE, h1])
        clear HS HQ
        go_wp2_with fail
        go_roundg (gk - 1)
        case measure => have := HK.out; omega
        case rel => exact ⟨q + 1, by go_num, by have := HK.out; omega, by rw [HW.out]; exact h', ht⟩
      · cases h2 : (e.page == page)
        · have HW : Hid (mapTo (goneE env page) s.slots (q + 1) = mapTo (goneE env page) s.slots q) := HQ.out (by simp [goneE, h2])
          clear HS HQ
          go_wp2_with fail
          go_roundg (gk - 1)
          case measure => have := HK.out; omega
          case rel => exact ⟨q + 1, by go_num, by have := HK.out; omega, by rw [HW.out]; exact h', ht⟩
        · have HW : Hid (mapTo (goneE env page) s.slots (q + 1) = (mapTo (goneE env page) s.slots q).set q Ent.empty) := by
            have := HS.out
            rw [show goneE env page e = Ent.empty by simp [goneE, h1, h2]] at this
            exact this
          clear HS HQ
          go_wp2_with fail
          go_roundg (gk - 1)
          case measure => have := HK.out; omega
          case rel => exact ⟨q + 1, by go_num, by have := HK.out; omega, by rw [HW.out]; exact hst, ((((ht.setCell (.inl hin) _).setCell (.inl hin) _).setCell (.inl hin) _).setCell (.inl hin) _).setCell (.inl hin) _⟩
    · obtain rfl : q = s.slots.length := by omega
      clear hsl
      go_wp2_with fail
      go_end0
      rw [mapTo_all] at h'
      exact ⟨rfl, own, _, _, _, _, _, _, h', fun _ _ => rfl, ht⟩

set_option maxHeartbeats 2000000 in
set_option maxRecDepth 100000 in
theorem runmap_any (h : RefRep own id w m s nk vR vB vS vA vK bs) (hw : RWf s nk) (env page : Int) :
    Calls Tryz.prog 41 #[.pointer (some ⟨m, 0, none⟩), .int .i64 env, .int .i64 page] w fun e w' => e = .returned (.int .i64 (unmapR s env page).1) ∧ RefNext own id w m nk w' (unmapR s env page).2 := by
  rcases rawE_cases s env with ⟨hr, -⟩ | ⟨hr, -⟩
  · have HA : Hid (unmapR s env page = (2, s)) := by simp [Hid, unmapR, hr]
    go_enter Tryz.func41, Tryz.ntmps41
    go_wp2_with fail
    refine (raw_any h hw.al hw.ne hw.nk env).mono ?_
    rintro e w2 ⟨rfl, rfl⟩
    rw [hr]
    clear hr
    go_wp2_with fail
    go_ret
    exact ⟨ret_int' (by rw [HA.out]), by rw [HA.out]; exact RefNext.refl h⟩
  · have HA : Hid (unmapR s env page = if page < 0 ∨ 15 < page then (7, s) else (0, goneS s env page)) := by simp [Hid, unmapR, hr]
    go_enter Tryz.func41, Tryz.ntmps41
    go_wp2_with fail
    refine (raw_any h hw.al hw.ne hw.nk env).mono ?_
    rintro e w2 ⟨rfl, rfl⟩
    rw [hr]
    clear hr
    by_cases h0 : page < 0
    · rw [if_pos (.inl h0)] at HA
      go_wp2_with fail
      go_ret
      exact ⟨ret_int' (by rw [HA.out]), by rw [HA.out]; exact RefNext.refl h⟩
    · by_cases h1 : 15 < page
      · rw [if_pos (.inr h1)] at HA
        go_wp2_with fail
        go_ret
        exact ⟨ret_int' (by rw [HA.out]), by rw [HA.out]; exact RefNext.refl h⟩
      · rw [if_neg (by omega)] at HA
        go_wp2_with fail
        refine (gone_any h hw.sl env page).mono ?_
        rintro e w3 ⟨rfl, hn⟩
        go_wp2_with fail
        go_ret
        exact ⟨ret_int' (by rw [HA.out]), by rw [HA.out]; exact hn⟩
end
end Go.Proofs.YtnolplmpanbmhaaGreat

/-
  The document's Map.
-/
namespace Go.Proofs.YtnolplmpanbmhaaGreat
open Go.RowKit
set_option linter.unusedVariables false
attribute [local go_sem ↓] Go.wp_at_zero Go.wp_at_succ

section
variable {own : Nat → Nat × Nat} {id : Nat} {w : World} {m : Nat} {s : RSt} {nk : Nat} {vR vB vS vA vK : Value} {bs : List Nat}

set_option maxHeartbeats 2000000 in
set_option maxRecDepth 100000 in
theorem rmap_any (h : RefRep own id w m s nk vR vB vS vA vK bs) (hw : RWf s nk) (hns : s.slots.length = s.ns) (env page hd : Int) (wt : Bool) (slot : Int) (hd0 : -9223372036854775808 ≤ hd) :
    Calls Tryz.prog 39 #[.pointer (some ⟨m, 0, none⟩), .int .i64 env, .int .i64 page, .int .i64 hd, .bool wt, .int .i64 slot] w fun e w' => e = .returned (.int .i64 (mapR s env page hd wt slot).1) ∧ RefNext own id w m nk w' (mapR s env page hd wt slot).2 := by
  have hm : s.rights.length ≤ 4611686018427387904 := by have := hw.size; omega
  rcases rawE_cases s env with ⟨hr, -⟩ | ⟨hr, -⟩
  · have HA : Hid (mapR s env page hd wt slot = (2, s)) := by simp [Hid, mapR, hr]
    go_enter Tryz.func39, Tryz.ntmps39
    go_wp2_with fail
    refine (raw_any h hw.al hw.ne hw.nk env).mono ?_
    rintro e w2 ⟨rfl, rfl⟩
    rw [hr]
    clear hr
    go_wp2_with fail
    go_ret
    exact ⟨ret_int' (by rw [HA.out]), by rw [HA.out]; exact RefNext.refl h⟩
  by_cases hp : page < 0 ∨ 15 < page
  · have HA : Hid (mapR s env page hd wt slot = (7, s)) := by simp [Hid, mapR, hr, hp]
    go_enter Tryz.func39, Tryz.ntmps39
    go_wp2_with fail
    refine (raw_any h hw.al hw.ne hw.nk env).mono ?_
    rintro e w2 ⟨rfl, rfl⟩
    rw [hr]
    clear hr
    rcases hp with hp | hp
    · go_wp2_with fail
      go_ret
      exact ⟨ret_int' (by rw [HA.out]), by rw [HA.out]; exact RefNext.refl h⟩
    · have hp' : ¬ page < 0 := by omega
      go_wp2_with fail
      go_ret
      exact ⟨ret_int' (by rw [HA.out]), by rw [HA.out]; exact RefNext.refl h⟩
  have hp0 : ¬ page < 0 := by omega
  have hp1 : ¬ 15 < page := by omega
  rcases rightE_cases s env hd with ⟨x, hx, hx2⟩ | ⟨j, r, hx, hrr, -, -, -, -⟩
  · have hx0 : (x != 0) = true := by rcases hx2 with rfl | rfl <;> rfl
    have HA : Hid (mapR s env page hd wt slot = (x, s)) := by rcases hx2 with rfl | rfl <;> simp [Hid, mapR, hr, hp, hx]
    clear hx2
    go_enter Tryz.func39, Tryz.ntmps39
    go_wp2_with fail
    refine (raw_any h hw.al hw.ne hw.nk env).mono ?_
    rintro e w2 ⟨rfl, rfl⟩
    rw [hr]
    clear hr hp
    go_wp2_with fail
    refine (right_any h hw.al hw.ne hw.nk hw.ord hm env hd hd0).mono ?_
    rintro e w3 ⟨rfl, rfl⟩
    rw [hx]
    clear hx
    go_wp2_with fail
    go_ret
    exact ⟨ret_int' (by rw [HA.out]), by rw [HA.out]; exact RefNext.refl h⟩
  have hj := (List.getElem?_eq_some_iff.1 hrr).1
  have HA : Hid (mapR s env page hd wt slot = if wt && !r.wr then (10, s) else if slot < 0 ∨ (s.ns : Int) ≤ slot then (11, s)
      else (0, { goneS s env page with slots := (goneS s env page).slots.set slot.toNat ⟨true, env, page, r.fr, wt⟩ })) := by simp [Hid, mapR, hr, hp, hx, hrr]
  obtain ⟨g, cap, hv, _, c0, c1, c2, c3, _, _, _⟩ := h.right hrr
  have k3 := h.blk.cell 3
  have k1 := h.blk.cell 1
  simp at k3 k1
  rw [hv] at k3
  have hi2 : (j : Int) < (s.rights.length : Int) := by omega
  clear hv hrr hp
  obtain ⟨own2, hown⟩ : ∃ own2 : Nat → Nat × Nat, own2 = fun x => if x < w.heap.size then own x else (id + 1, 0) := ⟨_, rfl⟩
  have o1 : ∀ x, x < w.heap.size → own2 x = own x := fun x hx => by rw [hown]; exact if_pos hx
  have o2 : (own2 w.heap.size).1 ≠ id := by rw [hown]; simp
  clear hown
  have hba : Below w.heap.size w (w.alloc (.cells [.int .i64 r.h, .int .i64 r.env, .int .i64 r.fr, .bool r.wr].toArray 107)) := (Below.refl _ _).alloc (Nat.le_refl _) _
  have h2 := h.of (own' := own2) o1 (fun b hb _ => hba.block b hb)
  have hbk := Blk.new w [.int .i64 r.h, .int .i64 r.env, .int .i64 r.fr, .bool r.wr] 107
  have hml := h.blk.lt
  go_enter Tryz.func39, Tryz.ntmps39
  go_wp2_with fail
  refine (raw_any h hw.al hw.ne hw.nk env).mono ?_
  rintro e w2 ⟨rfl, hw2⟩
  subst w2
  rw [hr]
  clear hr
  go_wp2_with fail
  refine (right_any h hw.al hw.ne hw.nk hw.ord hm env hd hd0).mono ?_
  rintro e w3 ⟨rfl, hw3⟩
  subst w3
  rw [hx]
  clear hx
  cases hq : (wt && !r.wr)
  · rw [hq] at HA
    simp only [Bool.false_eq_true, if_false] at HA
    have hcase : wt = false ∨ (wt = true ∧ r.wr = true) := by
      cases hwt : wt <;> cases hrw : r.wr <;> simp_all
    clear hq
    by_cases hs0 : slot < 0
    · rw [if_pos (.inl hs0)] at HA
      rcases hcase with rfl | ⟨rfl, hrw⟩
      · go_wp2_with fail
        go_ret
        exact ⟨ret_int' (by rw [HA.out]), by rw [HA.out]; exact RefNext.of_below h hba⟩
      · rw [hrw] at c3 hba
        go_wp2_with fail
        go_ret
        exact ⟨ret_int' (by rw [HA.out]), by rw [HA.out]; exact RefNext.of_below h hba⟩
    · by_cases hs1 : (s.ns : Int) ≤ slot
      · rw [if_pos (.inr hs1)] at HA
        rcases hcase with rfl | ⟨rfl, hrw⟩
        · go_wp2_with fail
          go_ret
          exact ⟨ret_int' (by rw [HA.out]), by rw [HA.out]; exact RefNext.of_below h hba⟩
        · rw [hrw] at c3 hba
          go_wp2_with fail
          go_ret
          exact ⟨ret_int' (by rw [HA.out]), by rw [HA.out]; exact RefNext.of_below h hba⟩
      · rw [if_neg (by omega)] at HA
        obtain ⟨q, rfl⟩ : ∃ q : Nat, slot = q := ⟨slot.toNat, by omega⟩
        simp only [Int.toNat_natCast] at HA
        have hql : q < s.slots.length := by omega
        rcases hcase with rfl | ⟨rfl, hrw⟩
        · go_wp2_with fail
          refine (gone_any h2 hw.sl env page).mono ?_
          rintro e w4 ⟨rfl, own4, vR4, vB4, vS4, vA4, vK4, bs4, h4, ho4, ht4⟩
          have d2 := (hbk.of (ht4.block _ (by simp) o2)).cell 2
          simp at d2
          obtain ⟨e0, he0⟩ : ∃ e0, (goneS s env page).slots[q]? = some e0 := ⟨(goneS s env page).slots[q]'(by simp [goneS]; omega), by simp⟩
          obtain ⟨g4, cap4, hv4, hgt4, x0, x1, x2, x3, x4, hfz⟩ := h4.slot he0
          have hst := h4.setS hv4 q (by simp [goneS]; omega) ⟨true, env, page, r.fr, false⟩
          have k5 := h4.blk.cell 5
          simp at k5
          rw [hv4] at k5
          simp [goneS] at k5
          have hl4 : w.heap.size < (w.alloc (.cells [.int .i64 r.h, .int .i64 r.env, .int .i64 r.fr, .bool r.wr].toArray 107)).heap.size := by simp
          have hne : g4 ≠ w.heap.size := fun e => by
            have := ho4 w.heap.size hl4
            rw [← e, hgt4] at this
            rw [← e, ← this] at o2
            exact o2 rfl
          have hne' : w.heap.size ≠ g4 := fun e => hne e.symm
          have hgm : g4 ≠ m := fun e => by have := h4.tm; rw [← e, hgt4] at this; simp at this
          have hgm' : m ≠ g4 := fun e => hgm e.symm
          have hin : (own g4).1 = id ∨ w.heap.size ≤ g4 := by
            by_cases hl : g4 < w.heap.size
            · left
              rw [← o1 g4 hl, ← ho4 g4 (by omega), hgt4]
            · exact .inr (by omega)
          have z0 := hfz (q * 5)
          have z1 := hfz (q * 5 + 1)
          have z2 := hfz (q * 5 + 2)
          have z3 := hfz (q * 5 + 3)
          have z4 := hfz (q * 5 + 4)
          have hq0 : (0 : Int) ≤ (q : Int) := by omega
          have hq1 : (q : Int) < (s.slots.length : Int) := by omega
          have ht5 : Touch w.heap.size (fun b => (own b).1 = id) w w4 := (Touch.of_below hba _).trans (ht4.mono (by simp) (fun k hk h => by rw [← o1 k hk]; exact h))
          have ho5 : ∀ x, x < w.heap.size → own4 x = own x := fun x hx => (ho4 x (by omega)).trans (o1 x hx)
          clear hfz he0 ht4 ho4 hv4 h4
          go_wp2_with fail
          go_region_held3 (fun w' => w'.cell? ⟨m, 5, none⟩ = some (.slice (some ⟨g4, 0, none⟩) s.slots.length cap4) ∧ w'.cell? ⟨w.heap.size, 2, none⟩ = some (.int .i64 r.fr)) (go_keep) (fail)
          go_wp2_with fail
          go_ret
          exact ⟨ret_int' (by rw [HA.out]), by rw [HA.out]; exact ⟨own4, _, _, _, _, _, _, hst.below (Below.refl _ _).drew, ho5, (((((ht5.setCell hin _).setCell hin _).setCell hin _).setCell hin _).setCell hin _).drew⟩⟩
        · rw [hrw] at c3 hba h2 hbk
          go_wp2_with fail
          refine (gone_any h2 hw.sl env page).mono ?_
          rintro e w4 ⟨rfl, own4, vR4, vB4, vS4, vA4, vK4, bs4, h4, ho4, ht4⟩
          have d2 := (hbk.of (ht4.block _ (by simp) o2)).cell 2
          simp at d2
          obtain ⟨e0, he0⟩ : ∃ e0, (goneS s env page).slots[q]? = some e0 := ⟨(goneS s env page).slots[q]'(by simp [goneS]; omega), by simp⟩
          obtain ⟨g4, cap4, hv4, hgt4, x0, x1, x2, x3, x4, hfz⟩ := h4.slot he0
          have hst := h4.setS hv4 q (by simp [goneS]; omega) ⟨true, env, page, r.fr, true⟩
          have k5 := h4.blk.cell 5
          simp at k5
          rw [hv4] at k5
          simp [goneS] at k5
          have hl4 : w.heap.size < (w.alloc (.cells [.int .i64 r.h, .int .i64 r.env, .int .i64 r.fr, .bool true].toArray 107)).heap.size := by simp
          have hne : g4 ≠ w.heap.size := fun e => by
            have := ho4 w.heap.size hl4
            rw [← e, hgt4] at this
            rw [← e, ← this] at o2
            exact o2 rfl
          have hne' : w.heap.size ≠ g4 := fun e => hne e.symm
          have hgm : g4 ≠ m := fun e => by have := h4.tm; rw [← e, hgt4] at this; simp at this
          have hgm' : m ≠ g4 := fun e => hgm e.symm
          have hin : (own g4).1 = id ∨ w.heap.size ≤ g4 := by
            by_cases hl : g4 < w.heap.size
            · left
              rw [← o1 g4 hl, ← ho4 g4 (by omega), hgt4]
            · exact .inr (by omega)
          have z0 := hfz (q * 5)
          have z1 := hfz (q * 5 + 1)
          have z2 := hfz (q * 5 + 2)
          have z3 := hfz (q * 5 + 3)
          have z4 := hfz (q * 5 + 4)
          have hq0 : (0 : Int) ≤ (q : Int) := by omega
          have hq1 : (q : Int) < (s.slots.length : Int) := by omega
          have ht5 : Touch w.heap.size (fun b => (own b).1 = id) w w4 := (Touch.of_below hba _).trans (ht4.mono (by simp) (fun k hk h => by rw [← o1 k hk]; exact h))
          have ho5 : ∀ x, x < w.heap.size → own4 x = own x := fun x hx => (ho4 x (by omega)).trans (o1 x hx)
          clear hfz he0 ht4 ho4 hv4 h4
          go_wp2_with fail
          go_region_held3 (fun w' => w'.cell? ⟨m, 5, none⟩ = some (.slice (some ⟨g4, 0, none⟩) s.slots.length cap4) ∧ w'.cell? ⟨w.heap.size, 2, none⟩ = some (.int .i64 r.fr)) (go_keep) (fail)
          go_wp2_with fail
          go_ret
          exact ⟨ret_int' (by rw [HA.out]), by rw [HA.out]; exact ⟨own4, _, _, _, _, _, _, hst.below (Below.refl _ _).drew, ho5, (((((ht5.setCell hin _).setCell hin _).setCell hin _).setCell hin _).setCell hin _).drew⟩⟩
  · rw [hq] at HA
    simp only [if_true] at HA
    simp at hq
    obtain ⟨rfl, hrw⟩ := hq
    rw [hrw] at c3 hba
    go_wp2_with fail
    go_ret
    exact ⟨ret_int' (by rw [HA.out]), by rw [HA.out]; exact RefNext.of_below h hba⟩
end
end Go.Proofs.YtnolplmpanbmhaaGreat

/-
  The document's Load and Store.
-/
namespace Go.Proofs.YtnolplmpanbmhaaGreat
open Go.RowKit
set_option linter.unusedVariables false
attribute [local go_sem ↓] Go.wp_at_zero Go.wp_at_succ

def byteAt (s : RSt) (f a : Int) : Int := ((s.bytes[f.toNat]?.getD [])[a.toNat]?).getD 0
def putByte (s : RSt) (f a v : Int) : RSt := { s with bytes := s.bytes.set f.toNat ((s.bytes[f.toNat]?.getD []).set a.toNat v) }
def loadR (s : RSt) (env page a : Int) : Int × Int :=
  if rawE s env ≠ 0 then (0, rawE s env) else if page < 0 ∨ 15 < page then (0, 7) else if a < 0 ∨ 3 < a then (0, 8)
  else if entI s env page < 0 then (0, 13) else match s.slots[(entI s env page).toNat]? with
    | none => (0, 13)
    | some e => (byteAt s e.fr a, 0)
def storeR (s : RSt) (env page a v : Int) : Int × RSt :=
  if rawE s env ≠ 0 then (rawE s env, s) else if page < 0 ∨ 15 < page then (7, s) else if a < 0 ∨ 3 < a then (8, s) else if v < 0 ∨ 255 < v then (6, s)
  else if entI s env page < 0 then (13, s) else match s.slots[(entI s env page).toNat]? with
    | none => (13, s)
    | some e => if !e.wr then (14, s) else (0, putByte s e.fr a v)

section
variable {own : Nat → Nat × Nat} {id : Nat} {w : World} {m : Nat} {s : RSt} {nk : Nat} {vR vB vS vA vK : Value} {bs : List Nat}

/-- Each entry's frame is one of the machine's. -/
def SlotFr (s : RSt) : Prop := ∀ (i : Nat) (e : Ent), s.slots[i]? = some e → e.used = true → 0 ≤ e.fr ∧ e.fr < s.nf

/-- The cells of frame f. -/
theorem RefRep.frame (h : RefRep own id w m s nk vR vB vS vA vK bs) {f : Nat} {l : List Int} (hl : s.bytes[f]? = some l) :
    ∃ g cap b, vB = .slice (some ⟨g, 0, none⟩) s.bytes.length cap ∧ own g = (id, 2) ∧ w.cell? ⟨g, f, none⟩ = some (.slice (some ⟨b, 0, none⟩) 4 4) ∧ bs[f]? = some b ∧ l.length = 4 ∧ Blk w b (l.map (.int .i64)) 3 ∧ own b = (id, 6 + f) := by
  have hf := (List.getElem?_eq_some_iff.1 hl).1
  obtain ⟨g, cap, hv, hc, _⟩ := h.rB.form (by omega)
  obtain ⟨b, h1, h2, h3, h4⟩ := h.rI f l hl
  refine ⟨g, cap, b, hv, h.tB g (by rw [hv]; rfl), ?_, h1, h2, h3, h4⟩
  rw [hc f (by omega), List.getElem?_map, h1]
  rfl

theorem RefRep.setByte (h : RefRep own id w m s nk vR vB vS vA vK bs) {f b a : Nat} {l : List Int} (hl : s.bytes[f]? = some l) (hb : bs[f]? = some b) (hk : Blk w b (l.map (.int .i64)) 3) (ht : own b = (id, 6 + f)) (v : Int) :
    RefRep own id (w.setCell ⟨b, a, none⟩ (.int .i64 v)) m { s with bytes := s.bytes.set f (l.set a v) } nk vR vB vS vA vK bs := by
  have hf := (List.getElem?_eq_some_iff.1 hl).1
  have hne : ∀ {u : Value} {j : Nat}, j < 6 → Tg own u (id, j) → u.ownBlock ≠ some b := fun hj hu e => by
    have := hu b e
    rw [ht] at this
    simp at this
    omega
  refine ⟨h.blk.other _ (fun e => by have := h.tm; simp at e; rw [e, ht] at this; simp at this), h.rR.other _ (hne (by omega) h.tR), ?_, ?_, h.rS.other _ (hne (by omega) h.tS), h.rA.other _ (hne (by omega) h.tA), h.rK.other _ (hne (by omega) h.tK), h.tm, h.tR, h.tB, h.tS, h.tA, h.tK⟩
  · have := h.rB.other (a := ⟨b, a, none⟩) (.int .i64 v) (hne (by omega) h.tB)
    simpa using this
  · intro i l' hl'
    by_cases hi : i = f
    · subst hi
      rw [List.getElem?_set_self hf] at hl'
      simp at hl'
      subst hl'
      obtain ⟨b', h1, h2, h3, h4⟩ := h.rI i l hl
      rw [hb] at h1
      simp at h1
      subst h1
      refine ⟨b, hb, by simpa using h2, ?_, h4⟩
      rw [List.map_set]
      exact h3.set _ _
    · simp only at hl'
      rw [List.getElem?_set_ne (fun e => hi e.symm)] at hl'
      obtain ⟨b', h1, h2, h3, h4⟩ := h.rI i l' hl'
      refine ⟨b', h1, h2, h3.other _ (fun e => ?_), h4⟩
      simp at e
      rw [e, ht] at h4
      simp at h4
      omega

set_option maxHeartbeats 2000000 in
set_option maxRecDepth 100000 in
theorem rload_any (h : RefRep own id w m s nk vR vB vS vA vK bs) (hw : RWf s nk) (hfr : SlotFr s) (env page a : Int) :
    Calls Tryz.prog 43 #[.pointer (some ⟨m, 0, none⟩), .int .i64 env, .int .i64 page, .int .i64 a] w fun e w' => e = .returned (.tuple #[.int .i64 (loadR s env page a).1, .int .i64 (loadR s env page a).2]) ∧ Below w.heap.size w w' := by
  rcases rawE_cases s env with ⟨hr, -⟩ | ⟨hr, -⟩
  · have HA : Hid (loadR s env page a = (0, 2)) := by simp [Hid, loadR, hr]
    go_enter Tryz.func43, Tryz.ntmps43
    go_wp2_with fail
    refine (raw_any h hw.al hw.ne hw.nk env).mono ?_
    rintro e w2 ⟨rfl, rfl⟩
    rw [hr]
    clear hr
    go_wp2_with fail
    go_ret2
    exact ⟨ret_int2 (by rw [HA.out]) (by rw [HA.out]), Below.refl _ _⟩
  have HA : Hid (loadR s env page a = if page < 0 ∨ 15 < page then ((0 : Int), (7 : Int)) else if a < 0 ∨ 3 < a then (0, 8)
    else if entI s env page < 0 then (0, 13) else match s.slots[(entI s env page).toNat]? with | none => (0, 13) | some e => (byteAt s e.fr a, 0)) := by simp [Hid, loadR, hr]
  go_enter Tryz.func43, Tryz.ntmps43
  go_wp2_with fail
  refine (raw_any h hw.al hw.ne hw.nk env).mono ?_
  rintro e w2 ⟨rfl, hw2⟩
  subst w2
  rw [hr]
  clear hr
  go_wp2_with fail
  refine (entry_any h hw.sl env page).mono ?_
  rintro e w3 ⟨rfl, hb3⟩
  by_cases h0 : page < 0
  · rw [if_pos (.inl h0)] at HA
    go_wp2_with fail
    go_ret2
    exact ⟨ret_int2 (by rw [HA.out]) (by rw [HA.out]), hb3⟩
  by_cases h1 : 15 < page
  · rw [if_pos (.inr h1)] at HA
    go_wp2_with fail
    go_ret2
    exact ⟨ret_int2 (by rw [HA.out]) (by rw [HA.out]), hb3⟩
  rw [if_neg (by omega)] at HA
  by_cases h2 : a < 0
  · rw [if_pos (.inl h2)] at HA
    go_wp2_with fail
    go_ret2
    exact ⟨ret_int2 (by rw [HA.out]) (by rw [HA.out]), hb3⟩
  by_cases h3 : 3 < a
  · rw [if_pos (.inr h3)] at HA
    go_wp2_with fail
    go_ret2
    exact ⟨ret_int2 (by rw [HA.out]) (by rw [HA.out]), hb3⟩
  rw [if_neg (by omega)] at HA
  rcases entI_cases s env page with hi | ⟨q, e, hi, he, hpe⟩
  · rw [hi] at HA ⊢
    rw [if_pos (by omega)] at HA
    clear hi
    go_wp2_with fail
    go_ret2
    exact ⟨ret_int2 (by rw [HA.out]) (by rw [HA.out]), hb3⟩
  · rw [hi] at HA ⊢
    rw [if_neg (by omega)] at HA
    simp only [Int.toNat_natCast, he] at HA
    have hu : e.used = true := by simp [entP] at hpe; exact hpe.1
    obtain ⟨f0, f1⟩ := hfr q e he hu
    obtain ⟨f, hf⟩ : ∃ f : Nat, e.fr = f := ⟨e.fr.toNat, by omega⟩
    obtain ⟨j, rfl⟩ : ∃ j : Nat, a = j := ⟨a.toNat, by omega⟩
    have hfl : f < s.bytes.length := by rw [hw.by_]; omega
    obtain ⟨l, hl⟩ : ∃ l, s.bytes[f]? = some l := ⟨s.bytes[f], by simp⟩
    have h3' := h.below hb3
    obtain ⟨g, cap, hv, hgt, c0, c1, c2, c3, c4, -⟩ := h3'.slot he
    obtain ⟨gB, capB, b, hvB, -, cB, -, hl4, hbk, -⟩ := h3'.frame hl
    obtain ⟨x, hx⟩ : ∃ x, l[j]? = some x := ⟨l[j]'(by omega), by simp⟩
    have cb : w3.cell? ⟨b, j, none⟩ = some (.int .i64 x) := by rw [hbk.cell, List.getElem?_map, hx]; rfl
    have hby : byteAt s e.fr (j : Int) = x := by simp [byteAt, hf, hl, hx]
    rw [hby] at HA
    rw [hf] at c3
    have k5 := h3'.blk.cell 5
    have k4 := h3'.blk.cell 4
    simp at k4 k5
    rw [hv] at k5
    rw [hvB] at k4
    have hq0 : (0 : Int) ≤ (q : Int) := by omega
    have hql := (List.getElem?_eq_some_iff.1 he).1
    have hq1 : (q : Int) < (s.slots.length : Int) := by omega
    have hq2 : ¬ ((q : Int) < 0) := by omega
    have hf0 : (0 : Int) ≤ (f : Int) := by omega
    have hf1 : (f : Int) < (s.bytes.length : Int) := by omega
    have hj0 : (0 : Int) ≤ (j : Int) := by omega
    have hj1 : (j : Int) < 4 := by omega
    clear hi he hpe hf hl hv hvB hbk hx hby hl4
    go_wp2_with fail
    go_quiet (fail)
    go_wp2_with fail
    go_ret2
    exact ⟨ret_int2 (by rw [HA.out]) (by rw [HA.out]), below_drewN hb3 _⟩
end
end Go.Proofs.YtnolplmpanbmhaaGreat

/-
  The document's Store.
-/
namespace Go.Proofs.YtnolplmpanbmhaaGreat
open Go.RowKit
set_option linter.unusedVariables false
attribute [local go_sem ↓] Go.wp_at_zero Go.wp_at_succ

section
variable {own : Nat → Nat × Nat} {id : Nat} {w : World} {m : Nat} {s : RSt} {nk : Nat} {vR vB vS vA vK : Value} {bs : List Nat}

set_option maxHeartbeats 2000000 in
set_option maxRecDepth 100000 in
theorem rstore_any (h : RefRep own id w m s nk vR vB vS vA vK bs) (hw : RWf s nk) (hfr : SlotFr s) (env page a v : Int) :
    Calls Tryz.prog 45 #[.pointer (some ⟨m, 0, none⟩), .int .i64 env, .int .i64 page, .int .i64 a, .int .i64 v] w fun e w' => e = .returned (.int .i64 (storeR s env page a v).1) ∧ RefNext own id w m nk w' (storeR s env page a v).2 := by
  rcases rawE_cases s env with ⟨hr, -⟩ | ⟨hr, -⟩
  · have HA : Hid (storeR s env page a v = (2, s)) := by simp [Hid, storeR, hr]
    go_enter Tryz.func45, Tryz.ntmps45
    go_wp2_with fail
    refine (raw_any h hw.al hw.ne hw.nk env).mono ?_
    rintro e w2 ⟨rfl, rfl⟩
    rw [hr]
    clear hr
    go_wp2_with fail
    go_ret
    exact ⟨ret_int' (by rw [HA.out]), by rw [HA.out]; exact RefNext.refl h⟩
  have HA : Hid (storeR s env page a v = if page < 0 ∨ 15 < page then ((7 : Int), s) else if a < 0 ∨ 3 < a then (8, s) else if v < 0 ∨ 255 < v then (6, s)
    else if entI s env page < 0 then (13, s) else match s.slots[(entI s env page).toNat]? with | none => (13, s) | some e => if !e.wr then (14, s) else (0, putByte s e.fr a v)) := by unfold Hid storeR; rw [if_neg (by rw [hr]; simp)]; first | done | rfl
  go_enter Tryz.func45, Tryz.ntmps45
  go_wp2_with fail
  refine (raw_any h hw.al hw.ne hw.nk env).mono ?_
  rintro e w2 ⟨rfl, hw2⟩
  subst w2
  rw [hr]
  clear hr
  go_wp2_with fail
  refine (entry_any h hw.sl env page).mono ?_
  rintro e w3 ⟨rfl, hb3⟩
  have hn3 : RefNext own id w m nk w3 s := RefNext.of_below h hb3
  by_cases h0 : page < 0
  · rw [if_pos (.inl h0)] at HA
    go_wp2_with fail
    go_ret
    exact ⟨ret_int' (by rw [HA.out]), by rw [HA.out]; exact hn3⟩
  by_cases h1 : 15 < page
  · rw [if_pos (.inr h1)] at HA
    go_wp2_with fail
    go_ret
    exact ⟨ret_int' (by rw [HA.out]), by rw [HA.out]; exact hn3⟩
  rw [if_neg (by omega)] at HA
  by_cases h2 : a < 0
  · rw [if_pos (.inl h2)] at HA
    go_wp2_with fail
    go_ret
    exact ⟨ret_int' (by rw [HA.out]), by rw [HA.out]; exact hn3⟩
  by_cases h3 : 3 < a
  · rw [if_pos (.inr h3)] at HA
    go_wp2_with fail
    go_ret
    exact ⟨ret_int' (by rw [HA.out]), by rw [HA.out]; exact hn3⟩
  rw [if_neg (by omega)] at HA
  by_cases h4 : v < 0
  · rw [if_pos (.inl h4)] at HA
    go_wp2_with fail
    go_ret
    exact ⟨ret_int' (by rw [HA.out]), by rw [HA.out]; exact hn3⟩
  by_cases h5 : 255 < v
  · rw [if_pos (.inr h5)] at HA
    go_wp2_with fail
    go_ret
    exact ⟨ret_int' (by rw [HA.out]), by rw [HA.out]; exact hn3⟩
  rw [if_neg (by omega)] at HA
  rcases entI_cases s env page with hi | ⟨q, e, hi, he, hpe⟩
  · rw [hi] at HA ⊢
    rw [if_pos (by omega)] at HA
    clear hi
    go_wp2_with fail
    go_ret
    exact ⟨ret_int' (by rw [HA.out]), by rw [HA.out]; exact hn3⟩
  · rw [hi] at HA ⊢
    rw [if_neg (by omega)] at HA
    simp only [Int.toNat_natCast, he] at HA
    have hu : e.used = true := by simp [entP] at hpe; exact hpe.1
    obtain ⟨f0, f1⟩ := hfr q e he hu
    obtain ⟨f, hf⟩ : ∃ f : Nat, e.fr = f := ⟨e.fr.toNat, by omega⟩
    obtain ⟨j, rfl⟩ : ∃ j : Nat, a = j := ⟨a.toNat, by omega⟩
    have hfl : f < s.bytes.length := by rw [hw.by_]; omega
    obtain ⟨l, hl⟩ : ∃ l, s.bytes[f]? = some l := ⟨s.bytes[f], by simp⟩
    have h3' := h.below hb3
    obtain ⟨g, cap, hv, hgt, c0, c1, c2, c3, c4, -⟩ := h3'.slot he
    obtain ⟨gB, capB, b, hvB, hgB, cB, hbs, hl4, hbk, hbt⟩ := h3'.frame hl
    have hst := h3'.setByte (a := j) hl hbs hbk hbt v
    have hpb : putByte s e.fr j v = { s with bytes := s.bytes.set f (l.set j v) } := by simp [putByte, hf, hl]
    obtain ⟨x, hx⟩ : ∃ x, l[j]? = some x := ⟨l[j]'(by omega), by simp⟩
    have cb : w3.cell? ⟨b, j, none⟩ = some (.int .i64 x) := by rw [hbk.cell, List.getElem?_map, hx]; rfl
    have fb := hbk.frozen j
    rw [hf] at c3
    have k5 := h3'.blk.cell 5
    have k4 := h3'.blk.cell 4
    simp at k4 k5
    rw [hv] at k5
    rw [hvB] at k4
    have hq0 : (0 : Int) ≤ (q : Int) := by omega
    have hql := (List.getElem?_eq_some_iff.1 he).1
    have hq1 : (q : Int) < (s.slots.length : Int) := by omega
    have hq2 : ¬ ((q : Int) < 0) := by omega
    have hf0 : (0 : Int) ≤ (f : Int) := by omega
    have hf1 : (f : Int) < (s.bytes.length : Int) := by omega
    have hj0 : (0 : Int) ≤ (j : Int) := by omega
    have hj1 : (j : Int) < 4 := by omega
    have n1 : b ≠ g := fun e => by rw [e, hgt] at hbt; simp at hbt; omega
    have n1' : g ≠ b := fun e => n1 e.symm
    have n2 : b ≠ gB := fun e => by rw [e, hgB] at hbt; simp at hbt; omega
    have n2' : gB ≠ b := fun e => n2 e.symm
    have n3 : b ≠ m := fun e => by have := h.tm; rw [← e, hbt] at this; simp at this
    have n3' : m ≠ b := fun e => n3 e.symm
    have hin : (own b).1 = id := by rw [hbt]
    have HG : Hid (vS = .slice (some ⟨g, 0, none⟩) s.slots.length cap) := hv
    clear hi he hpe hf hl hv hvB hbk hx hl4 hbs hbt
    cases hwr : e.wr
    · rw [hwr] at HA c4
      simp only [Bool.not_false, if_true] at HA
      clear hpb hwr
      go_wp2_with fail
      go_ret
      exact ⟨ret_int' (by rw [HA.out]), by rw [HA.out]; exact hn3⟩
    · rw [hwr] at HA c4
      simp only [Bool.not_true, Bool.false_eq_true, if_false] at HA
      rw [hpb] at HA
      clear hpb hwr
      go_wp2_with fail
      go_region_held3 (fun w' => w'.cell? ⟨m, 4, none⟩ = some (.slice (some ⟨gB, 0, none⟩) s.bytes.length capB) ∧ w'.cell? ⟨m, 5, none⟩ = some (.slice (some ⟨g, 0, none⟩) s.slots.length cap) ∧ w'.cell? ⟨g, q * 5 + 3, none⟩ = some (.int .i64 f) ∧ w'.cell? ⟨gB, f, none⟩ = some (.slice (some ⟨b, 0, none⟩) 4 4)) (go_keep) (fail)
      go_wp2_with fail
      go_ret
      exact ⟨ret_int' (by rw [HA.out]), by rw [HA.out]; exact ⟨own, _, _, _, _, _, _, hst.below (Below.refl _ _).drew, fun _ _ => rfl, ((Touch.of_below hb3 _).setCell (.inl hin) _).drew⟩⟩
end
end Go.Proofs.YtnolplmpanbmhaaGreat

/-
  What the document's machine keeps to where nobody is kept: its rights, its bytes, its table; each call keeps it.
-/
namespace Go.Proofs.YtnolplmpanbmhaaGreat
open Go.RowKit
set_option linter.unusedVariables false

structure SOk (s : RSt) : Prop where
  inv : RInv s
  fix : RFix s s.ne
  ns : s.slots.length = s.ns
  bys : ∀ (i : Nat) (l : List Int), s.bytes[i]? = some l → l.length = 4 ∧ ∀ (j : Nat) (x : Int), l[j]? = some x → 0 ≤ x ∧ x ≤ 255
  ent : ∀ (i : Nat) (e : Ent), s.slots[i]? = some e → e.used = true → 0 ≤ e.page ∧ e.page ≤ 15 ∧ owned s.rights e.env e.fr e.wr = true
  emp : ∀ (i : Nat) (e : Ent), s.slots[i]? = some e → e.used = false → e = Ent.empty
  uni : ∀ (i j : Nat) (e f : Ent), s.slots[i]? = some e → s.slots[j]? = some f → e.used = true → f.used = true → e.env = f.env → e.page = f.page → i = j

theorem owned_ex {rs : List RR} {env fr : Int} {wt : Bool} : owned rs env fr wt = true ↔ ∃ (i : Nat) (r : RR), rs[i]? = some r ∧ lv rs i = true ∧ r.env = env ∧ r.fr = fr ∧ (wt = true → r.wr = true) := by
  unfold owned
  rw [List.any_eq_true]
  constructor
  · rintro ⟨i, _, h⟩
    unfold ownsB at h
    cases hr : rs[i]? with
    | none => rw [hr] at h; simp at h
    | some r =>
      rw [hr] at h
      simp at h
      refine ⟨i, r, hr, h.1, h.2.1, h.2.2.1, fun hw => ?_⟩
      rcases h.2.2.2 with h | h
      · exact h
      · rw [hw] at h; simp at h
  · rintro ⟨i, r, hr, hl, he, hf, hw⟩
    refine ⟨i, List.mem_range.2 (List.getElem?_eq_some_iff.1 hr).1, ?_⟩
    unfold ownsB
    rw [hr]
    simp only [hl, he, hf, beq_self_eq_true, Bool.true_and]
    cases wt
    · simp
    · simp [hw rfl]
theorem owned_append {rs : List RR} (ho : Ordered rs) (x : RR) {env fr : Int} {wt : Bool} (h : owned rs env fr wt = true) : owned (rs ++ [x]) env fr wt = true := by
  obtain ⟨i, r, hr, hl, h1⟩ := owned_ex.1 h
  have hi := (List.getElem?_eq_some_iff.1 hr).1
  exact owned_ex.2 ⟨i, r, by rw [List.getElem?_append_left hi]; exact hr, by rw [lv_append ho x (by omega)]; exact hl, h1⟩

theorem sok_fresh {a b c : Nat} (ha : a ≤ 16) (hb : b ≤ 8) (hc : c ≤ 4) : SOk (RSt.fresh a b c) := by
  refine ⟨⟨fun i r h => by simp [RSt.fresh] at h, fun i r h => by simp [RSt.fresh] at h, fun i r h => by simp [RSt.fresh] at h, fun i r h => by simp [RSt.fresh] at h⟩,
    ⟨by simp [RSt.fresh], hc, ha, by simp [RSt.fresh], by simpa [RSt.fresh] using hb, rfl⟩, by simp [RSt.fresh], ?_, ?_, ?_, ?_⟩
  · intro i l hl
    simp [RSt.fresh, List.getElem?_replicate] at hl
    obtain ⟨-, rfl⟩ := hl
    refine ⟨rfl, fun j x hx => ?_⟩
    match j, hx with
    | 0, hx => simp at hx; omega
    | 1, hx => simp at hx; omega
    | 2, hx => simp at hx; omega
    | 3, hx => simp at hx; omega
  · intro i e he hu
    simp [RSt.fresh, List.getElem?_replicate] at he
    obtain ⟨-, rfl⟩ := he
    simp [Ent.empty] at hu
  · intro i e he hu
    simp [RSt.fresh, List.getElem?_replicate] at he
    exact he.2.symm
  · intro i j e f he hf hu
    simp [RSt.fresh, List.getElem?_replicate] at he
    obtain ⟨-, rfl⟩ := he
    simp [Ent.empty] at hu

section
variable {s t : RSt}

theorem SOk.sfr (h : SOk s) : SlotFr s := fun i e he hu => by
  obtain ⟨j, r, hr, -, -, hf, -⟩ := owned_ex.1 (h.ent i e he hu).2.2
  have := h.inv.fr j r hr
  omega
theorem SOk.rwf (h : SOk s) (hN : (s.rights.length + 1) * 48 ≤ 140737488355328) : RWf s s.ne := ⟨h.inv.ord, h.fix.al, h.fix.ne, h.fix.nf, h.fix.by_, h.fix.sl, rfl, hN⟩

/-- More rights; the table as it was. -/
theorem SOk.more (h : SOk s) (hI : RInv t) (hg : Grows s t) (hns : t.ns = s.ns) (hs : t.slots = s.slots) (ho : ∀ env fr wt, owned s.rights env fr wt = true → owned t.rights env fr wt = true)
    (hb : ∀ (i : Nat) (l : List Int), t.bytes[i]? = some l → l.length = 4 ∧ ∀ (j : Nat) (x : Int), l[j]? = some x → 0 ≤ x ∧ x ≤ 255) : SOk t := by
  obtain ⟨g1, g2, g3, g4, g5, g6⟩ := hg
  refine ⟨hI, by rw [g2]; exact h.fix.of g1 g2 g3 g4 g5, by rw [hs, hns]; exact h.ns, hb, ?_, ?_, ?_⟩
  · intro i e he hu
    rw [hs] at he
    obtain ⟨a, b, c⟩ := h.ent i e he hu
    exact ⟨a, b, ho _ _ _ c⟩
  · intro i e he hu
    rw [hs] at he
    exact h.emp i e he hu
  · intro i j e f he hf
    rw [hs] at he hf
    exact h.uni i j e f he hf

/-- Rights have ended, and the table is swept. -/
theorem SOk.swept (h : SOk s) (hI : RInv (sweepS t)) (hg : Grows s (sweepS t)) (e1 : t.slots = s.slots) (e2 : t.bytes = s.bytes) (e3 : t.ns = s.ns) : SOk (sweepS t) := by
  obtain ⟨g1, g2, g3, g4, g5, g6⟩ := hg
  have key : ∀ (i : Nat) (e : Ent), (sweepS t).slots[i]? = some e → (e.used = true → s.slots[i]? = some e ∧ owned t.rights e.env e.fr e.wr = true) ∧ (e.used = false → e = Ent.empty) := by
    intro i e he
    simp only [sweepS, e1, List.getElem?_map] at he
    cases hx : s.slots[i]? with
    | none => rw [hx] at he; simp at he
    | some x =>
      rw [hx] at he
      simp only [Option.map_some, Option.some.injEq] at he
      cases hc : (x.used && !owned t.rights x.env x.fr x.wr)
      · rw [hc] at he
        simp only [Bool.false_eq_true, if_false] at he
        subst he
        refine ⟨fun hu => ⟨rfl, ?_⟩, fun hu => h.emp i x hx hu⟩
        rw [hu] at hc
        simpa using hc
      · rw [hc] at he
        simp only [if_true] at he
        subst he
        exact ⟨fun hu => by simp [Ent.empty] at hu, fun _ => rfl⟩
  refine ⟨hI, by rw [g2]; exact h.fix.of g1 g2 g3 g4 g5, ?_, ?_, ?_, ?_, ?_⟩
  · rw [g5]; show s.slots.length = t.ns; rw [e3]; exact h.ns
  · show ∀ (i : Nat) (l : List Int), t.bytes[i]? = some l → _
    rw [e2]; exact h.bys
  · intro i e he hu
    obtain ⟨a, b⟩ := (key i e he).1 hu
    obtain ⟨c, d, _⟩ := h.ent i e a hu
    exact ⟨c, d, b⟩
  · intro i e he hu
    exact (key i e he).2 hu
  · intro i j e f he hf hu hv
    exact h.uni i j e f ((key i e he).1 hu).1 ((key j f hf).1 hv).1 hu hv

theorem SOk.alloc (h : SOk s) (env : Int) : SOk (allocR s env).2 := by
  have hg := allocR_grows (s := s) env
  unfold allocR at hg ⊢
  rcases rawE_cases s env with ⟨hr, ha⟩ | ⟨hr, ha⟩
  · rw [hr]; exact h
  · rw [hr] at hg ⊢
    simp only [ne_eq, not_true_eq_false, if_false] at hg ⊢
    unfold firstS at hg ⊢
    cases hl : leastFree s with
    | none => exact h
    | some f =>
      rw [hl] at hg
      simp only at hg ⊢
      by_cases hc : cnt s.rights < 32
      · rw [if_pos hc] at hg ⊢
        have hfl := leastFree_lt hl
        refine h.more (RInv.add (s := { s with bytes := s.bytes.set f [0, 0, 0, 0] }) ⟨h.inv.ord, h.inv.hnd, h.inv.env, h.inv.fr⟩ (aliveB_range ha) ⟨by omega, by show (f : Int) < s.nf; omega⟩ (by omega) (by show (-1 : Int) < s.rights.length; omega)) hg rfl rfl (fun _ _ _ => owned_append h.inv.ord _) ?_
        intro i l hli
        simp only [addR] at hli
        rw [List.getElem?_set] at hli
        split at hli
        · split at hli
          · simp at hli
            subst hli
            refine ⟨rfl, fun j x hx => ?_⟩
            match j, hx with
            | 0, hx => simp at hx; omega
            | 1, hx => simp at hx; omega
            | 2, hx => simp at hx; omega
            | 3, hx => simp at hx; omega
          · simp at hli
        · exact h.bys i l hli
      · rw [if_neg hc]; exact h

theorem SOk.derive (h : SOk s) (env hd te : Int) (wt : Bool) : SOk (deriveR s env hd te wt).2 := by
  have hg := deriveR_grows (s := s) env hd te wt
  unfold deriveR at hg ⊢
  rcases rightE_cases s env hd with ⟨x, h1, h3⟩ | ⟨j, r, h1, hrr, hd1, he, hl, hal⟩
  · have : x ≠ 0 := by omega
    rw [h1]
    simpa [this] using h
  · have hj := (List.getElem?_eq_some_iff.1 hrr).1
    rw [h1] at hg ⊢
    simp only [ne_eq, not_true_eq_false, if_false, Int.toNat_natCast, hrr] at hg ⊢
    rcases rawE_cases s te with ⟨ht, _⟩ | ⟨ht, hat⟩
    · rw [ht]; simpa using h
    · rw [ht] at hg ⊢
      simp only [not_true_eq_false, if_false] at hg ⊢
      cases hq : (wt && !r.wr) with
      | true => exact h
      | false =>
        rw [hq] at hg
        simp only [Bool.false_eq_true, if_false] at hg ⊢
        by_cases hc : 32 ≤ cnt s.rights
        · rw [if_pos hc]; exact h
        · rw [if_neg hc] at hg ⊢
          exact h.more (h.inv.add (aliveB_range hat) (h.inv.fr j r hrr) (by omega) (by omega)) hg rfl rfl (fun _ _ _ => owned_append h.inv.ord _) h.bys

theorem SOk.revoke (h : SOk s) (env hd : Int) : SOk (revokeR s env hd).2 := by
  have hg := revokeR_grows (s := s) env hd
  unfold revokeR at hg ⊢
  split
  · exact h
  · rename_i hx
    rw [if_neg hx] at hg
    refine h.swept ?_ hg rfl rfl rfl
    have := h.inv.mark (fun i => (s.rights[i]?.map fun r => r.frm == (rightE s env hd).1).getD false)
    rw [← mark_map] at this
    exact ⟨this.ord, this.hnd, this.env, this.fr⟩
theorem SOk.drop (h : SOk s) (env hd : Int) : SOk (dropR s env hd).2 := by
  have hg := dropR_grows (s := s) env hd
  unfold dropR at hg ⊢
  split
  · exact h
  · rename_i hx
    rw [if_neg hx] at hg
    split
    · exact h
    · rename_i r hr
      rw [hr] at hg
      refine h.swept ?_ hg rfl rfl rfl
      have := h.inv.mark (fun i => i == (rightE s env hd).1.toNat)
      rw [← mark_set _ _ _ hr] at this
      exact ⟨this.ord, this.hnd, this.env, this.fr⟩
theorem SOk.kill (h : SOk s) (env : Int) : SOk (killR s env).2 := by
  have hg := killR_grows (s := s) env
  unfold killR at hg ⊢
  split
  · rename_i hx
    rw [if_pos hx] at hg
    refine h.swept ?_ hg rfl rfl rfl
    have := h.inv.mark (fun i => (s.rights[i]?.map fun r => r.env == env).getD false)
    rw [← mark_map] at this
    exact ⟨this.ord, this.hnd, this.env, this.fr⟩
  · exact h
theorem SOk.spawn (h : SOk s) (env : Int) : SOk (spawnR s env).2 := by
  have hg := spawnR_grows (s := s) env
  unfold spawnR at hg ⊢
  split
  · exact h
  · rename_i h1
    rw [if_neg h1] at hg
    split
    · exact h
    · rename_i h2
      rw [if_neg h2] at hg
      exact h.more ⟨h.inv.ord, h.inv.hnd, h.inv.env, h.inv.fr⟩ hg rfl rfl (fun _ _ _ h => h) h.bys
end
end Go.Proofs.YtnolplmpanbmhaaGreat

/-
  The table's calls keep what the machine keeps to.
-/
namespace Go.Proofs.YtnolplmpanbmhaaGreat
open Go.RowKit
set_option linter.unusedVariables false

section
variable {s t : RSt}

theorem goneS_get (s : RSt) (env page : Int) (i : Nat) : (goneS s env page).slots[i]? = s.slots[i]?.map (goneE env page) := by simp [goneS]
theorem gone_key (h : SOk s) (env page : Int) {i : Nat} {e : Ent} (he : (goneS s env page).slots[i]? = some e) : (e.used = true → s.slots[i]? = some e ∧ ¬ (e.env = env ∧ e.page = page)) ∧ (e.used = false → e = Ent.empty) := by
  rw [goneS_get] at he
  cases hx : s.slots[i]? with
  | none => rw [hx] at he; simp at he
  | some x =>
    rw [hx] at he
    simp only [Option.map_some, Option.some.injEq] at he
    unfold goneE at he
    cases hc : (x.env == env && x.page == page)
    · rw [hc] at he
      simp only [Bool.false_eq_true, if_false] at he
      subst he
      refine ⟨fun _ => ⟨rfl, fun ⟨a, b⟩ => ?_⟩, fun hu => h.emp i x hx hu⟩
      rw [a, b] at hc
      simp at hc
    · rw [hc] at he
      simp only [if_true] at he
      subst he
      exact ⟨fun hu => by simp [Ent.empty] at hu, fun _ => rfl⟩

theorem SOk.gone (h : SOk s) (env page : Int) : SOk (goneS s env page) := by
  refine ⟨⟨h.inv.ord, h.inv.hnd, h.inv.env, h.inv.fr⟩, h.fix.of rfl rfl rfl rfl (by simp [goneS]), by simpa [goneS] using h.ns, h.bys, ?_, ?_, ?_⟩
  · intro i e he hu
    exact h.ent i e ((gone_key h env page he).1 hu).1 hu
  · intro i e he hu
    exact (gone_key h env page he).2 hu
  · intro i j e f he hf hu hv
    exact h.uni i j e f ((gone_key h env page he).1 hu).1 ((gone_key h env page hf).1 hv).1 hu hv

theorem unmapR_grows (env page : Int) : Grows s (unmapR s env page).2 := by
  unfold unmapR
  split
  · exact Grows.refl s
  · split
    · exact Grows.refl s
    · exact ⟨rfl, rfl, rfl, rfl, by simp [goneS], by simp [goneS]⟩
theorem SOk.unmap (h : SOk s) (env page : Int) : SOk (unmapR s env page).2 := by
  unfold unmapR
  split
  · exact h
  · split
    · exact h
    · exact h.gone env page

theorem mapR_grows (env page hd : Int) (wt : Bool) (slot : Int) : Grows s (mapR s env page hd wt slot).2 := by
  unfold mapR
  split
  · exact Grows.refl s
  · split
    · exact Grows.refl s
    · split
      · exact Grows.refl s
      · split
        · exact Grows.refl s
        · split
          · exact Grows.refl s
          · split
            · exact Grows.refl s
            · exact ⟨rfl, rfl, rfl, rfl, by simp [goneS], by simp [goneS]⟩
theorem SOk.map (h : SOk s) (env page hd : Int) (wt : Bool) (slot : Int) : SOk (mapR s env page hd wt slot).2 := by
  unfold mapR
  split
  · exact h
  · split
    · exact h
    · rename_i hp
      rcases rightE_cases s env hd with ⟨x, h1, h3⟩ | ⟨j, r, h1, hrr, hd1, he, hl, hal⟩
      · have : x ≠ 0 := by omega
        rw [h1]
        simpa [this] using h
      · rw [h1]
        simp only [ne_eq, not_true_eq_false, if_false, Int.toNat_natCast, hrr]
        cases hq : (wt && !r.wr) with
        | true => exact h
        | false =>
          simp only [Bool.false_eq_true, if_false]
          split
          · exact h
          · rename_i hsl
            have hg := h.gone env page
            obtain ⟨q, rfl⟩ : ∃ q : Nat, slot = q := ⟨slot.toNat, by omega⟩
            simp only [Int.toNat_natCast]
            have hqs : q < (goneS s env page).slots.length := by have := hg.ns; have : (goneS s env page).ns = s.ns := rfl; omega
            have hget : ∀ (i : Nat) (e : Ent), ((goneS s env page).slots.set q ⟨true, env, page, r.fr, wt⟩)[i]? = some e → (i = q ∧ e = ⟨true, env, page, r.fr, wt⟩) ∨ (i ≠ q ∧ (goneS s env page).slots[i]? = some e) := by
              intro i e hx
              rw [List.getElem?_set] at hx
              split at hx
              · rename_i hqi
                simp at hx; exact .inl ⟨hqi.symm, hx.symm⟩
              · rename_i hqi
                exact .inr ⟨fun e => hqi e.symm, hx⟩
            refine ⟨⟨h.inv.ord, h.inv.hnd, h.inv.env, h.inv.fr⟩, hg.fix.of rfl rfl rfl rfl (by simp), by rw [List.length_set]; exact hg.ns, h.bys, ?_, ?_, ?_⟩
            · intro i e hx hu
              rcases hget i e hx with ⟨-, rfl⟩ | ⟨-, hx⟩
              · refine ⟨by show 0 ≤ page; omega, by show page ≤ 15; omega, owned_ex.2 ⟨j, r, hrr, hl, he, rfl, fun hw => ?_⟩⟩
                have hw' : wt = true := hw
                rw [hw'] at hq
                simpa using hq
              · exact hg.ent i e hx hu
            · intro i e hx hu
              rcases hget i e hx with ⟨-, rfl⟩ | ⟨-, hx⟩
              · simp at hu
              · exact hg.emp i e hx hu
            · intro i i2 e f hx hy hu hv e1 e2
              rcases hget i e hx with ⟨hi, rfl⟩ | ⟨hi, hx⟩ <;> rcases hget i2 f hy with ⟨hi2, rfl⟩ | ⟨hi2, hy⟩
              · omega
              · exact absurd ⟨e1.symm, e2.symm⟩ ((gone_key h env page hy).1 hv).2
              · exact absurd ⟨e1, e2⟩ ((gone_key h env page hx).1 hu).2
              · exact hg.uni i i2 e f hx hy hu hv e1 e2

theorem storeR_grows (env page a v : Int) : Grows s (storeR s env page a v).2 := by
  unfold storeR
  split
  · exact Grows.refl s
  · split
    · exact Grows.refl s
    · split
      · exact Grows.refl s
      · split
        · exact Grows.refl s
        · split
          · exact Grows.refl s
          · split
            · exact Grows.refl s
            · split
              · exact Grows.refl s
              · exact ⟨rfl, rfl, rfl, by simp [putByte], rfl, by simp [putByte]⟩
theorem SOk.store (h : SOk s) (env page a v : Int) : SOk (storeR s env page a v).2 := by
  have hg := storeR_grows (s := s) env page a v
  unfold storeR at hg ⊢
  split
  · exact h
  · rename_i c1
    rw [if_neg c1] at hg
    split
    · exact h
    · rename_i c2
      rw [if_neg c2] at hg
      split
      · exact h
      · rename_i c3
        rw [if_neg c3] at hg
        split
        · exact h
        · rename_i c4
          rw [if_neg c4] at hg
          split
          · exact h
          · rename_i c5
            rw [if_neg c5] at hg
            split
            · exact h
            · rename_i e he
              rw [he] at hg
              simp only at hg
              split
              · exact h
              · rename_i c6
                rw [if_neg c6] at hg
                refine h.more ⟨h.inv.ord, h.inv.hnd, h.inv.env, h.inv.fr⟩ hg rfl rfl (fun _ _ _ h => h) ?_
                intro i l hl
                simp only [putByte] at hl
                rw [List.getElem?_set] at hl
                split at hl
                · rename_i hi
                  split at hl
                  · rename_i hlt
                    simp at hl
                    subst hl
                    obtain ⟨l0, hl0⟩ : ∃ l0, s.bytes[e.fr.toNat]? = some l0 := ⟨s.bytes[e.fr.toNat], by simp⟩
                    rw [hl0]
                    simp only [Option.getD_some, List.length_set]
                    refine ⟨(h.bys _ l0 hl0).1, fun j x hx => ?_⟩
                    rw [List.getElem?_set] at hx
                    split at hx
                    · split at hx
                      · simp at hx; omega
                      · simp at hx
                    · exact (h.bys _ l0 hl0).2 j x hx
                  · simp at hl
                · exact h.bys i l hl
end
end Go.Proofs.YtnolplmpanbmhaaGreat

/-
  What a machine of the program must answer, said of a document's machine that it stands for: M own id w p s: the machine at p stands for s; its blocks bear id.
-/
namespace Go.Proofs.YtnolplmpanbmhaaGreat
open Go.RowKit
set_option linter.unusedVariables false

def MT : Type := (Nat → Nat × Nat) → Nat → World → Nat → RSt → Prop
def MNext (M : MT) (own : Nat → Nat × Nat) (id : Nat) (w : World) (p : Nat) (w' : World) (s' : RSt) : Prop :=
  ∃ own' : Nat → Nat × Nat, M own' id w' p s' ∧ (∀ b, b < w.heap.size → own' b = own b) ∧ Touch w.heap.size (fun b => (own b).1 = id) w w'
def I64 (n : Int) : Prop := -9223372036854775808 ≤ n ∧ n ≤ 9223372036854775807
def Few (s : RSt) : Prop := (s.rights.length + 2) * 48 ≤ 140737488355328

structure Api (M : MT) : Prop where
  of : ∀ {own own' : Nat → Nat × Nat} {id : Nat} {w w' : World} {p : Nat} {s : RSt}, M own id w p s → (∀ b, b < w.heap.size → own' b = own b) → (∀ b, b < w.heap.size → (own b).1 = id → w'.heap[b]? = w.heap[b]?) → M own' id w' p s
  retag : ∀ {own own' : Nat → Nat × Nat} {id : Nat} {w : World} {p : Nat} {s : RSt}, M own id w p s → (∀ b, b < w.heap.size → (own b).1 = id → own' b = own b) → M own' id w p s
  new_no : ∀ (a b c : Int) (w : World), mayB a b c = false →
    Calls Tryz.prog 13 #[.agg #[.int .i64 a, .int .i64 b, .int .i64 c]] w fun e w' => e = .returned (.tuple #[.pointer none, .int .i64 1]) ∧ Below w.heap.size w w'
  new_yes : ∀ (a b c : Nat) (w : World), mayB a b c = true →
    Calls Tryz.prog 13 #[.agg #[.int .i64 a, .int .i64 b, .int .i64 c]] w fun e w' => ∃ (p : Nat) (f : Nat → Option Nat), e = .returned (.tuple #[.pointer (some ⟨p, 0, none⟩), .int .i64 0]) ∧ Below w.heap.size w w' ∧
      (∀ b j, f b = some j → w.heap.size ≤ b ∧ b < w'.heap.size) ∧ ∀ (own : Nat → Nat × Nat) (id : Nat), (∀ b j, f b = some j → own b = (id, j)) → M own id w' p (RSt.fresh a b c)
  alloc : ∀ {own : Nat → Nat × Nat} {id : Nat} {w : World} {p : Nat} {s : RSt}, M own id w p s → SOk s → Few s → ∀ (env : Int), I64 env →
    Calls Tryz.prog 22 #[.pointer (some ⟨p, 0, none⟩), .int .i64 env] w fun e w' => e = .returned (.tuple #[.int .i64 (allocR s env).1.1, .int .i64 (allocR s env).1.2]) ∧ MNext M own id w p w' (allocR s env).2
  derive : ∀ {own : Nat → Nat × Nat} {id : Nat} {w : World} {p : Nat} {s : RSt}, M own id w p s → SOk s → Few s → ∀ (env hd te : Int) (wt : Bool), I64 env → I64 hd → I64 te →
    Calls Tryz.prog 24 #[.pointer (some ⟨p, 0, none⟩), .int .i64 env, .int .i64 hd, .int .i64 te, .bool wt] w fun e w' => e = .returned (.tuple #[.int .i64 (deriveR s env hd te wt).1.1, .int .i64 (deriveR s env hd te wt).1.2]) ∧ MNext M own id w p w' (deriveR s env hd te wt).2
  revoke : ∀ {own : Nat → Nat × Nat} {id : Nat} {w : World} {p : Nat} {s : RSt}, M own id w p s → SOk s → Few s → ∀ (env hd : Int), I64 env → I64 hd →
    Calls Tryz.prog 26 #[.pointer (some ⟨p, 0, none⟩), .int .i64 env, .int .i64 hd] w fun e w' => e = .returned (.int .i64 (revokeR s env hd).1) ∧ MNext M own id w p w' (revokeR s env hd).2
  drop : ∀ {own : Nat → Nat × Nat} {id : Nat} {w : World} {p : Nat} {s : RSt}, M own id w p s → SOk s → Few s → ∀ (env hd : Int), I64 env → I64 hd →
    Calls Tryz.prog 28 #[.pointer (some ⟨p, 0, none⟩), .int .i64 env, .int .i64 hd] w fun e w' => e = .returned (.int .i64 (dropR s env hd).1) ∧ MNext M own id w p w' (dropR s env hd).2
  kill : ∀ {own : Nat → Nat × Nat} {id : Nat} {w : World} {p : Nat} {s : RSt}, M own id w p s → SOk s → Few s → ∀ (env : Int), I64 env →
    Calls Tryz.prog 30 #[.pointer (some ⟨p, 0, none⟩), .int .i64 env] w fun e w' => e = .returned (.int .i64 (killR s env).1) ∧ MNext M own id w p w' (killR s env).2
  spawn : ∀ {own : Nat → Nat × Nat} {id : Nat} {w : World} {p : Nat} {s : RSt}, M own id w p s → SOk s → Few s → ∀ (env : Int), I64 env →
    Calls Tryz.prog 32 #[.pointer (some ⟨p, 0, none⟩), .int .i64 env] w fun e w' => e = .returned (.int .i64 (spawnR s env).1) ∧ MNext M own id w p w' (spawnR s env).2
  rights : ∀ {own : Nat → Nat × Nat} {id : Nat} {w : World} {p : Nat} {s : RSt}, M own id w p s → SOk s → Few s → ∀ (env : Int), I64 env →
    Calls Tryz.prog 34 #[.pointer (some ⟨p, 0, none⟩), .int .i64 env] w fun e w' => ∃ v, e = .returned (.tuple #[v, .int .i64 (rawE s env)]) ∧ Below w.heap.size w w' ∧ (∀ x, v.ownBlock = some x → w.heap.size ≤ x) ∧
      Row w' v 107 4 (toldR s env).length ((toldR s env).flatMap rcells)
  map : ∀ {own : Nat → Nat × Nat} {id : Nat} {w : World} {p : Nat} {s : RSt}, M own id w p s → SOk s → Few s → ∀ (env page hd : Int) (wt : Bool) (slot : Int), I64 env → I64 page → I64 hd → I64 slot →
    Calls Tryz.prog 38 #[.pointer (some ⟨p, 0, none⟩), .int .i64 env, .int .i64 page, .int .i64 hd, .bool wt, .int .i64 slot] w fun e w' => e = .returned (.int .i64 (mapR s env page hd wt slot).1) ∧ MNext M own id w p w' (mapR s env page hd wt slot).2
  unmap : ∀ {own : Nat → Nat × Nat} {id : Nat} {w : World} {p : Nat} {s : RSt}, M own id w p s → SOk s → Few s → ∀ (env page : Int), I64 env → I64 page →
    Calls Tryz.prog 40 #[.pointer (some ⟨p, 0, none⟩), .int .i64 env, .int .i64 page] w fun e w' => e = .returned (.int .i64 (unmapR s env page).1) ∧ MNext M own id w p w' (unmapR s env page).2
  load : ∀ {own : Nat → Nat × Nat} {id : Nat} {w : World} {p : Nat} {s : RSt}, M own id w p s → SOk s → Few s → ∀ (env page a : Int), I64 env → I64 page → I64 a →
    Calls Tryz.prog 42 #[.pointer (some ⟨p, 0, none⟩), .int .i64 env, .int .i64 page, .int .i64 a] w fun e w' => e = .returned (.tuple #[.int .i64 (loadR s env page a).1, .int .i64 (loadR s env page a).2]) ∧ MNext M own id w p w' s
  store : ∀ {own : Nat → Nat × Nat} {id : Nat} {w : World} {p : Nat} {s : RSt}, M own id w p s → SOk s → Few s → ∀ (env page a v : Int), I64 env → I64 page → I64 a → I64 v →
    Calls Tryz.prog 44 #[.pointer (some ⟨p, 0, none⟩), .int .i64 env, .int .i64 page, .int .i64 a, .int .i64 v] w fun e w' => e = .returned (.int .i64 (storeR s env page a v).1) ∧ MNext M own id w p w' (storeR s env page a v).2
  table : ∀ {own : Nat → Nat × Nat} {id : Nat} {w : World} {p : Nat} {s : RSt}, M own id w p s → SOk s → Few s →
    Calls Tryz.prog 46 #[.pointer (some ⟨p, 0, none⟩)] w fun e w' => ∃ v, e = .returned v ∧ Below w.heap.size w w' ∧ (∀ x, v.ownBlock = some x → w.heap.size ≤ x) ∧ Row w' v 68 5 s.slots.length (s.slots.flatMap Ent.cells)

section
variable {M : MT} {own own' : Nat → Nat × Nat} {id : Nat} {w w' : World} {p : Nat} {s s' : RSt}
theorem Api.below (A : Api M) (h : M own id w p s) (hb : Below w.heap.size w w') : M own id w' p s := A.of h (fun _ _ => rfl) (fun b hl _ => hb.block b hl)
theorem MNext.of_below (A : Api M) (h : M own id w p s) (hb : Below w.heap.size w w') : MNext M own id w p w' s := ⟨own, A.below h hb, fun _ _ => rfl, Touch.of_below hb _⟩
end
end Go.Proofs.YtnolplmpanbmhaaGreat
