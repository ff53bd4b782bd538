import Derived.Test.YtkonobbhohfjlaaRefF
namespace Go.Proofs.Ytkonobbhohfjlaa
open Go.RowKit
set_option linter.unusedVariables false

section
variable {own : Nat → Nat × Nat} {id : Nat} {w : World} {m : Nat} {s : RSt} {nk : Nat} {vR vB vS vA vK : Value} {bs : List Nat}

def revokeR (s : RSt) (env hd : Int) : Int × RSt :=
  if (rightE s env hd).2 ≠ 0 then ((rightE s env hd).2, s) else (0, sweepS (endIf (fun r => r.frm == (rightE s env hd).1) s))
def dropR (s : RSt) (env hd : Int) : Int × RSt :=
  if (rightE s env hd).2 ≠ 0 then ((rightE s env hd).2, s) else match s.rights[(rightE s env hd).1.toNat]? with
    | none => (0, s)
    | some r => (0, sweepS { s with rights := s.rights.set (rightE s env hd).1.toNat r.end })
def killR (s : RSt) (env : Int) : Int × RSt :=
  if aliveB s env then (0, sweepS { endIf (fun r => r.env == env) s with alive := s.alive.set env.toNat false }) else (2, s)
def spawnR (s : RSt) (env : Int) : Int × RSt :=
  if env < 0 ∨ s.ne ≤ env then (2, s) else if aliveB s env then (3, s) else (0, { s with alive := s.alive.set env.toNat true })

theorem ret_int' {a b : Int} (h : a = b) : Ending.returned (.int .i64 a) = .returned (.int .i64 b) := by rw [h]

/-- One call behind other steps. -/
theorem RefNext.after {w1 w2 : World} {s2 : RSt} (ht : Touch w.heap.size (fun b => (own b).1 = id) w w1) (h2 : RefNext own id w1 m nk w2 s2) : RefNext own id w m nk w2 s2 := by
  obtain ⟨own2, vR2, vB2, vS2, vA2, vK2, bs2, hr2, ho2, ht2⟩ := h2
  exact ⟨own2, vR2, vB2, vS2, vA2, vK2, bs2, hr2, fun b hb => ho2 b (Nat.lt_of_lt_of_le hb ht.size), ht.next (fun _ _ => rfl) ht2⟩

set_option maxHeartbeats 2000000 in
set_option maxRecDepth 100000 in
theorem rrevoke_any (h : RefRep own id w m s nk vR vB vS vA vK bs) (hw : RWf s nk) (env hd : Int) (hd0 : -9223372036854775808 ≤ hd) :
    Calls Try.prog 44 #[.pointer (some ⟨m, 0, none⟩), .int .i64 env, .int .i64 hd] w fun e w' => e = .returned (.int .i64 (revokeR s env hd).1) ∧ RefNext own id w m nk w' (revokeR s env hd).2 := by
  have hm : s.rights.length ≤ 4611686018427387904 := by have := hw.size; omega
  rcases rightE_cases s env hd with ⟨x, hx, hx2⟩ | ⟨j, r, hx, hr, -, -, -, -⟩
  · have hx0 : (x != 0) = true := by rcases hx2 with rfl | rfl <;> rfl
    have HA : Hid (revokeR s env hd = (x, s)) := by rcases hx2 with rfl | rfl <;> simp [Hid, revokeR, hx]
    clear hx2
    go_enter Try.func44, Try.ntmps44
    go_wp2_with fail
    refine (right_any h hw.al hw.ne hw.nk hw.ord hm env hd hd0).mono ?_
    rintro e w2 ⟨rfl, rfl⟩
    rw [hx]
    clear hx
    go_wp2_with fail
    go_ret
    exact ⟨ret_int' (by rw [HA.out]), by rw [HA.out]; exact RefNext.refl h⟩
  · have hj := (List.getElem?_eq_some_iff.1 hr).1
    have HA : Hid (revokeR s env hd = (0, sweepS (endIf (fun r => r.frm == (j : Int)) s))) := by simp [Hid, revokeR, hx]
    clear hr
    go_enter Try.func44, Try.ntmps44
    go_wp2_with fail
    refine (right_any h hw.al hw.ne hw.nk hw.ord hm env hd hd0).mono ?_
    rintro e w2 ⟨rfl, rfl⟩
    rw [hx]
    clear hx
    go_wp2_with fail
    go_loopg [9] s.rights.length (fun k x wr => ∃ q : Nat, x = .int .i64 q ∧ q + k = s.rights.length ∧ RefRep own id wr m { s with rights := mapTo (markIf fun r => r.frm == (j : Int)) s.rights q } nk vR vB vS vA vK bs ∧ Touch w2.heap.size (fun b => (own b).1 = id) w2 wr)
    case atStart => exact ⟨0, rfl, by omega, by rw [mapTo_zero]; exact h, Touch.refl _ _ _⟩
    case round =>
      obtain ⟨q, rfl, hk, h', ht⟩ := hrel
      have HK : Hid (q + gk = s.rights.length) := hk
      have hq : q ≤ s.rights.length := by omega
      have hsl := mapTo_len (markIf fun r => r.frm == (j : Int)) s.rights q
      have k3 := h'.blk.cell 3
      simp at k3
      clear hk
      by_cases hlt : q < s.rights.length
      · obtain ⟨r, hr⟩ : ∃ r, s.rights[q]? = some r := ⟨s.rights[q], by simp⟩
        have hr' : (mapTo (markIf fun r => r.frm == (j : Int)) s.rights q)[q]? = some r := (mapTo_at _ _ _).trans hr
        obtain ⟨g, cap, hv, hgt, _, _, _, _, c4, c5, hfz⟩ := h'.right (i := q) (r := r) hr'
        have HS : Hid (mapTo (markIf fun r => r.frm == (j : Int)) s.rights (q + 1) = (mapTo (markIf fun r => r.frm == (j : Int)) s.rights q).set q (markIf (fun r => r.frm == (j : Int)) r)) := mapTo_succ _ _ _ _ hr
        have HQ : Hid (markIf (fun r => r.frm == (j : Int)) r = r → mapTo (markIf fun r => r.frm == (j : Int)) s.rights (q + 1) = mapTo (markIf fun r => r.frm == (j : Int)) s.rights q) := mapTo_same _ _ _ _ hr
        have hst := h'.endR (g := g) (cap := cap) hv q r hr'
        simp only [hsl] at hv
        rw [hv] at k3
        have z5 := hfz (q * 6 + 5)
        clear hv hsl hfz hr hr'
        cases he : (r.frm == (j : Int))
        · have HW := HQ.out (by simp [markIf, he])
          have HW : Hid (mapTo (markIf fun r => r.frm == (j : Int)) s.rights (q + 1) = mapTo (markIf fun r => r.frm == (j : Int)) s.rights q) := HW
          go_wp2_with fail
          go_roundg (gk - 1)
          case measure => have := HK.out; omega
          case rel => exact ⟨q + 1, by go_num, by have := HK.out; omega, by rw [HW.out]; exact h', ht⟩
        · have HW : Hid (mapTo (markIf fun r => r.frm == (j : Int)) s.rights (q + 1) = (mapTo (markIf fun r => r.frm == (j : Int)) s.rights q).set q r.end) := by
            have := HS.out
            rw [show markIf (fun r => r.frm == (j : Int)) r = r.end by simp [markIf, he]] at this
            exact this
          go_wp2_with fail
          go_roundg (gk - 1)
          case measure => have := HK.out; omega
          case rel => exact ⟨q + 1, by go_num, by have := HK.out; omega, by rw [HW.out]; exact hst, ht.setCell (.inl (by rw [hgt])) _⟩
      · obtain rfl : q = s.rights.length := by omega
        obtain ⟨ao, cap, g, hv, _⟩ := h'.rR.view
        simp only [hsl] at hv
        rw [hv] at k3
        rw [mapTo_all] at h'
        clear hv hsl
        go_wp2_with fail
        refine (sweep_any h' hw.sl (hw.ord.map _) (by simpa using hm)).mono ?_
        rintro e w4 ⟨rfl, hn⟩
        go_wp2_with fail
        go_ret
        exact ⟨ret_int' (by rw [HA.out]), by rw [HA.out]; exact RefNext.after ht hn⟩

set_option maxHeartbeats 2000000 in
set_option maxRecDepth 100000 in
theorem rdrop_any (h : RefRep own id w m s nk vR vB vS vA vK bs) (hw : RWf s nk) (env hd : Int) (hd0 : -9223372036854775808 ≤ hd) :
    Calls Try.prog 45 #[.pointer (some ⟨m, 0, none⟩), .int .i64 env, .int .i64 hd] w fun e w' => e = .returned (.int .i64 (dropR s env hd).1) ∧ RefNext own id w m nk w' (dropR s env hd).2 := by
  have hm : s.rights.length ≤ 4611686018427387904 := by have := hw.size; omega
  rcases rightE_cases s env hd with ⟨x, hx, hx2⟩ | ⟨j, r, hx, hr, -, -, -, -⟩
  · have hx0 : (x != 0) = true := by rcases hx2 with rfl | rfl <;> rfl
    have HA : Hid (dropR s env hd = (x, s)) := by rcases hx2 with rfl | rfl <;> simp [Hid, dropR, hx]
    clear hx2
    go_enter Try.func45, Try.ntmps45
    go_wp2_with fail
    refine (right_any h hw.al hw.ne hw.nk hw.ord hm env hd hd0).mono ?_
    rintro e w2 ⟨rfl, rfl⟩
    rw [hx]
    clear hx
    go_wp2_with fail
    go_ret
    exact ⟨ret_int' (by rw [HA.out]), by rw [HA.out]; exact RefNext.refl h⟩
  · have hj := (List.getElem?_eq_some_iff.1 hr).1
    have HA : Hid (dropR s env hd = (0, sweepS { s with rights := s.rights.set j r.end })) := by simp [Hid, dropR, hx, hr]
    obtain ⟨g, cap, hv, hgt, _, _, _, _, _, c5, hfz⟩ := h.right hr
    have hst := h.endR (g := g) (cap := cap) hv j r hr
    have hord := hw.ord.set hr
    have k3 := h.blk.cell 3
    simp at k3
    rw [hv] at k3
    have z5 := hfz (j * 6 + 5)
    have hi2 : (j : Int) < (s.rights.length : Int) := by omega
    clear hr hv hfz
    go_enter Try.func45, Try.ntmps45
    go_wp2_with fail
    refine (right_any h hw.al hw.ne hw.nk hw.ord hm env hd hd0).mono ?_
    rintro e w2 ⟨rfl, rfl⟩
    rw [hx]
    clear hx
    go_wp2_with fail
    refine (sweep_any hst hw.sl hord (by simpa using hm)).mono ?_
    rintro e w4 ⟨rfl, hn⟩
    go_wp2_with fail
    go_ret
    exact ⟨ret_int' (by rw [HA.out]), by rw [HA.out]; exact RefNext.after ((Touch.refl _ _ _).setCell (.inl (by rw [hgt])) _) hn⟩

/-- An environment's mark is written. -/
theorem RefRep.setA {g cap : Nat} (h : RefRep own id w m s nk vR vB vS vA vK bs) (hv : vA = .slice (some ⟨g, 0, none⟩) s.alive.length cap) (i : Nat) (b : Bool) :
    RefRep own id (w.setCell ⟨g, i, none⟩ (.bool b)) m { s with alive := s.alive.set i b } nk vR vB vS vA vK bs := by
  have hg : own g = (id, 4) := h.tA g (by rw [hv]; rfl)
  have hW : ∀ b', b' < w.heap.size → own b' ≠ (id, 4) → (w.setCell ⟨g, i, none⟩ (.bool b)).heap[b']? = w.heap[b']? := by
    intro b' hb h3
    exact Below.heap_setCell _ _ _ _ (fun e => h3 (by simp at e; rw [e]; exact hg))
  refine h.putA (fun _ _ => rfl) (fun b hb _ h3 => hW b hb h3) (h.blk.of (hW m h.blk.lt (by rw [h.tm]; simp))) ?_ h.tA
  have h1 := h.rA
  rw [hv] at h1 ⊢
  rw [List.length_set, List.map_set]
  exact h1.set _ _
/-- No environment is kept. -/
theorem RefRep.setK {g cap : Nat} (h : RefRep own id w m s nk vR vB vS vA vK bs) (hv : vK = .slice (some ⟨g, 0, none⟩) nk cap) (i : Nat) (hi : i < nk) :
    RefRep own id (w.setCell ⟨g, i, none⟩ (.pointer none)) m s nk vR vB vS vA vK bs := by
  have hg : own g = (id, 5) := h.tK g (by rw [hv]; rfl)
  have hW : ∀ b', b' < w.heap.size → own b' ≠ (id, 5) → (w.setCell ⟨g, i, none⟩ (.pointer none)).heap[b']? = w.heap[b']? := by
    intro b' hb h3
    exact Below.heap_setCell _ _ _ _ (fun e => h3 (by simp at e; rw [e]; exact hg))
  refine h.putK (fun _ _ => rfl) (fun b hb _ h3 => hW b hb h3) (h.blk.of (hW m h.blk.lt (by rw [h.tm]; simp))) ?_ h.tK
  have h1 := h.rK
  rw [hv] at h1 ⊢
  have h2 := h1.set i (.pointer none)
  have : (List.replicate nk (Value.pointer none)).set i (.pointer none) = List.replicate nk (.pointer none) := by
    apply List.ext_getElem?
    intro p
    rw [List.getElem?_set]
    split
    · rename_i e; subst e; simp [hi]
    · rfl
  rw [this] at h2
  exact h2

set_option maxHeartbeats 2000000 in
set_option maxRecDepth 100000 in
theorem rspawn_any (h : RefRep own id w m s nk vR vB vS vA vK bs) (hw : RWf s nk) (env : Int) :
    Calls Try.prog 47 #[.pointer (some ⟨m, 0, none⟩), .int .i64 env] w fun e w' => e = .returned (.int .i64 (spawnR s env).1) ∧ RefNext own id w m nk w' (spawnR s env).2 := by
  have k2 := h.blk.cell 2
  have k7 := h.blk.cell 7
  simp at k2 k7
  by_cases h1 : env < 0 ∨ s.ne ≤ env
  · have HA : Hid (spawnR s env = (2, s)) := by simp only [Hid, spawnR, if_pos h1]
    rcases h1 with h1 | h1
    · go_enter Try.func47, Try.ntmps47
      go_wp2_with fail
      go_ret
      exact ⟨ret_int' (by rw [HA.out]), by rw [HA.out]; exact RefNext.refl h⟩
    · by_cases h0 : env < 0
      · go_enter Try.func47, Try.ntmps47
        go_wp2_with fail
        go_ret
        exact ⟨ret_int' (by rw [HA.out]), by rw [HA.out]; exact RefNext.refl h⟩
      · go_enter Try.func47, Try.ntmps47
        go_wp2_with fail
        go_ret
        exact ⟨ret_int' (by rw [HA.out]), by rw [HA.out]; exact RefNext.refl h⟩
  · obtain ⟨j, rfl⟩ := Int.eq_ofNat_of_zero_le (show 0 ≤ env by omega)
    have hal := hw.al
    have hj : j < s.alive.length := by omega
    have hj2 : (j : Int) < (s.alive.length : Int) := by omega
    have hj3 : ¬ (s.ne : Int) ≤ (j : Int) := by omega
    have hj4 : ¬ (j : Int) < 0 := by omega
    obtain ⟨g, cap, hv, hc, hfz⟩ := h.rA.form (by omega)
    obtain ⟨b, hb⟩ : ∃ b, s.alive[j]? = some b := ⟨s.alive[j], by simp⟩
    have c0 : w.cell? ⟨g, j, none⟩ = some (.bool b) := by rw [hc _ (by omega), List.getElem?_map, hb]; rfl
    have hab : aliveB s j = b := by simp [aliveB, hb]; omega
    have hst := h.setA hv j true
    have hgt : own g = (id, 4) := h.tA g (by rw [hv]; rfl)
    rw [hv] at k7
    have z0 := hfz j
    cases b
    · have HA : Hid (spawnR s j = (0, { s with alive := s.alive.set j true })) := by simp only [Hid, spawnR, if_neg h1, hab]; simp
      clear h1 hv hab hb hc hfz hal
      go_enter Try.func47, Try.ntmps47
      go_wp2_with fail
      go_ret
      exact ⟨ret_int' (by rw [HA.out]), by rw [HA.out]; exact ⟨own, _, _, _, _, _, _, hst, fun _ _ => rfl, (Touch.refl _ _ _).setCell (.inl (by rw [hgt])) _⟩⟩
    · have HA : Hid (spawnR s j = (3, s)) := by simp only [Hid, spawnR, if_neg h1, hab]; simp
      clear h1 hv hab hb hc hfz hal
      go_enter Try.func47, Try.ntmps47
      go_wp2_with fail
      go_ret
      exact ⟨ret_int' (by rw [HA.out]), by rw [HA.out]; exact RefNext.refl h⟩

set_option maxHeartbeats 4000000 in
set_option maxRecDepth 100000 in
theorem rkill_any (h : RefRep own id w m s nk vR vB vS vA vK bs) (hw : RWf s nk) (env : Int) :
    Calls Try.prog 46 #[.pointer (some ⟨m, 0, none⟩), .int .i64 env] w fun e w' => e = .returned (.int .i64 (killR s env).1) ∧ RefNext own id w m nk w' (killR s env).2 := by
  have hm : s.rights.length ≤ 4611686018427387904 := by have := hw.size; omega
  cases hal : aliveB s env
  · have HA : Hid (killR s env = (2, s)) := by simp [Hid, killR, hal]
    go_enter Try.func46, Try.ntmps46
    go_wp2_with fail
    refine (alive_any h hw.al hw.ne env).mono ?_
    rintro e w2 ⟨rfl, rfl⟩
    rw [hal]
    clear hal
    go_wp2_with fail
    go_ret
    exact ⟨ret_int' (by rw [HA.out]), by rw [HA.out]; exact RefNext.refl h⟩
  · have HA : Hid (killR s env = (0, sweepS { endIf (fun r => r.env == env) s with alive := s.alive.set env.toNat false })) := by simp [Hid, killR, hal]
    obtain ⟨j0, rfl, hj0⟩ := aliveB_nat hal
    go_enter Try.func46, Try.ntmps46
    go_wp2_with fail
    refine (alive_any h hw.al hw.ne j0).mono ?_
    rintro e w2 ⟨rfl, rfl⟩
    rw [hal]
    clear hal
    go_wp2_with fail
    go_loopg [6] s.rights.length (fun k x wr => ∃ q : Nat, x = .int .i64 q ∧ q + k = s.rights.length ∧ RefRep own id wr m { s with rights := mapTo (markIf fun r => r.env == (j0 : Int)) s.rights q } nk vR vB vS vA vK bs ∧ Touch w2.heap.size (fun b => (own b).1 = id) w2 wr)
    case atStart => exact ⟨0, rfl, by omega, by rw [mapTo_zero]; exact h, Touch.refl _ _ _⟩
    case round =>
      obtain ⟨q, rfl, hk, h', ht⟩ := hrel
      have HK : Hid (q + gk = s.rights.length) := hk
      have hq : q ≤ s.rights.length := by omega
      have hsl := mapTo_len (markIf fun r => r.env == (j0 : Int)) s.rights q
      have k3 := h'.blk.cell 3
      simp at k3
      clear hk
      by_cases hlt : q < s.rights.length
      · obtain ⟨r, hr⟩ : ∃ r, s.rights[q]? = some r := ⟨s.rights[q], by simp⟩
        have hr' : (mapTo (markIf fun r => r.env == (j0 : Int)) s.rights q)[q]? = some r := (mapTo_at _ _ _).trans hr
        obtain ⟨g, cap, hv, hgt, _, c1, _, _, _, c5, hfz⟩ := h'.right (i := q) (r := r) hr'
        have HS : Hid (mapTo (markIf fun r => r.env == (j0 : Int)) s.rights (q + 1) = (mapTo (markIf fun r => r.env == (j0 : Int)) s.rights q).set q (markIf (fun r => r.env == (j0 : Int)) r)) := mapTo_succ _ _ _ _ hr
        have HQ : Hid (markIf (fun r => r.env == (j0 : Int)) r = r → mapTo (markIf fun r => r.env == (j0 : Int)) s.rights (q + 1) = mapTo (markIf fun r => r.env == (j0 : Int)) s.rights q) := mapTo_same _ _ _ _ hr
        have hst := h'.endR (g := g) (cap := cap) hv q r hr'
        simp only [hsl] at hv
        rw [hv] at k3
        have z5 := hfz (q * 6 + 5)
        clear hv hsl hfz hr hr'
        cases he : (r.env == (j0 : Int))
        · have HW := HQ.out (by simp [markIf, he])
          have HW : Hid (mapTo (markIf fun r => r.env == (j0 : Int)) s.rights (q + 1) = mapTo (markIf fun r => r.env == (j0 : Int)) s.rights q) := HW
          go_wp2_with fail
          go_roundg (gk - 1)
          case measure => have := HK.out; omega
          case rel => exact ⟨q + 1, by go_num, by have := HK.out; omega, by rw [HW.out]; exact h', ht⟩
        · have HW : Hid (mapTo (markIf fun r => r.env == (j0 : Int)) s.rights (q + 1) = (mapTo (markIf fun r => r.env == (j0 : Int)) s.rights q).set q r.end) := by
            have := HS.out
            rw [show markIf (fun r => r.env == (j0 : Int)) r = r.end by simp [markIf, he]] at this
            exact this
          go_wp2_with fail
          go_roundg (gk - 1)
          case measure => have := HK.out; omega
          case rel => exact ⟨q + 1, by go_num, by have := HK.out; omega, by rw [HW.out]; exact hst, ht.setCell (.inl (by rw [hgt])) _⟩
      · obtain rfl : q = s.rights.length := by omega
        obtain ⟨ao, cap, g, hv, _⟩ := h'.rR.view
        simp only [hsl] at hv
        rw [hv] at k3
        rw [mapTo_all] at h'
        have hwal := hw.al
        obtain ⟨ga, capa, hva, hca, hfza⟩ := h'.rA.form (by simp only; omega)
        have k7 := h'.blk.cell 7
        simp at k7
        rw [hva] at k7
        obtain ⟨b, hb⟩ : ∃ b, s.alive[j0]? = some b := ⟨s.alive[j0]'(by omega), by simp⟩
        have c0 : wr.cell? ⟨ga, j0, none⟩ = some (.bool b) := by rw [hca _ (by simp only; omega), List.getElem?_map]; simp only; rw [hb]; rfl
        have z0 := hfza j0
        have hl7 : (j0 : Int) < (s.alive.length : Int) := by omega
        have hnk := hw.nk
        obtain ⟨gk', capk, hvk, hck, hfzk⟩ := h'.rK.form (by omega)
        have k8 := h'.blk.cell 8
        simp at k8
        rw [hvk] at k8
        have c8 : wr.cell? ⟨gk', j0, none⟩ = some (.pointer none) := by rw [hck _ (by omega)]; simp [List.getElem?_replicate]; omega
        have z8 := hfzk j0
        have hl8 : (j0 : Int) < (nk : Int) := by omega
        have hga : own ga = (id, 4) := h'.tA ga (by rw [hva]; rfl)
        have hgk : own gk' = (id, 5) := h'.tK gk' (by rw [hvk]; rfl)
        have hgm : own m = (id, 0) := h'.tm
        have nam : ga ≠ m := fun e => by rw [e, hgm] at hga; simp at hga
        have nak : ga ≠ gk' := fun e => by rw [e, hgk] at hga; simp at hga
        have hst := (h'.setA hva j0 false).setK hvk j0 (by omega)
        have hg := hw.ord.map (fun r => r.env == (j0 : Int))
        clear hv hsl hva hca hfza hvk hck hfzk hb hnk hwal
        go_wp2_with fail
        refine (sweep_any hst hw.sl hg (by simpa using hm)).mono ?_
        rintro e w4 ⟨rfl, hn⟩
        go_wp2_with fail
        go_ret
        refine ⟨ret_int' (by rw [HA.out]), ?_⟩
        rw [HA.out]
        exact RefNext.after ((ht.setCell (.inl (by rw [hga])) _).setCell (.inl (by rw [hgk])) _) hn

/-- The rights of env among the first q that are alive. -/
def listTo (s : RSt) (env : Int) (q : Nat) : List RR := ((List.range q).filterMap fun i : Nat => s.rights[i]?.bind fun r => if lv s.rights i && r.env == env then some r else none)
def listR (s : RSt) (env : Int) : List RR := listTo s env s.rights.length
def rcells (r : RR) : List Value := [.int .i64 r.h, .int .i64 r.env, .int .i64 r.fr, .bool r.wr]
theorem listTo_succ (s : RSt) (env : Int) (q : Nat) (r : RR) (hr : s.rights[q]? = some r) : listTo s env (q + 1) = listTo s env q ++ (if lv s.rights q && r.env == env then [r] else []) := by
  unfold listTo
  rw [List.range_succ, List.filterMap_append]
  congr 1
  simp only [List.filterMap_cons, List.filterMap_nil, hr, Option.bind_some]
  cases (lv s.rights q && r.env == env) <;> rfl
theorem listTo_le (s : RSt) (env : Int) (q : Nat) : (listTo s env q).length ≤ q := by
  unfold listTo
  have := List.length_filterMap_le (fun i : Nat => s.rights[i]?.bind fun r => if lv s.rights i && r.env == env then some r else none) (List.range q)
  simpa using this

theorem Try.infoRt : (Try.prog.info? 64).map (fun i => (i.zero, i.size, i.bytes)) = some (some (.agg #[.int .i64 0, .int .i64 0, .int .i64 0, .bool false]), 4, 32) := by kernel_rfl
theorem oneCell_rt (r : RR) : ∀ u ∈ rcells r, u.oneCell' = true := by
  intro u hu; simp [rcells] at hu; rcases hu with rfl | rfl | rfl | rfl <;> rfl

set_option maxHeartbeats 4000000 in
set_option maxRecDepth 100000 in
theorem rlist_any (h : RefRep own id w m s nk vR vB vS vA vK bs) (hw : RWf s nk) (env : Int) :
    Calls Try.prog 48 #[.pointer (some ⟨m, 0, none⟩), .int .i64 env] w fun e w' => ∃ v, Below w.heap.size w w' ∧ (∀ b, v.ownBlock = some b → w.heap.size ≤ b) ∧
      ((aliveB s env = false ∧ v = .slice none 0 0 ∧ e = .returned (.tuple #[v, .int .i64 2])) ∨ (aliveB s env = true ∧ Row w' v 64 4 (listR s env).length ((listR s env).flatMap rcells) ∧ e = .returned (.tuple #[v, .int .i64 0]))) := by
  have hm : s.rights.length ≤ 4611686018427387904 := by have := hw.size; omega
  have hsz := hw.size
  obtain ⟨i0, hi, hz0, hz1, hz2⟩ := info_parts Try.infoRt
  cases hal : aliveB s env
  · have HAL : Hid (aliveB s env = false) := hal
    clear hal
    go_enter Try.func48, Try.ntmps48
    go_wp2_with fail
    refine (alive_any h hw.al hw.ne env).mono ?_
    rintro e w2 ⟨rfl, rfl⟩
    rw [HAL.out]
    go_wp2_with fail
    go_ret2
    exact ⟨_, Below.refl _ _, by simp [Value.ownBlock], .inl ⟨trivial, rfl, rfl⟩⟩
  · have HAL : Hid (aliveB s env = true) := hal
    clear hal
    go_enter Try.func48, Try.ntmps48
    go_wp2_with fail
    refine (alive_any h hw.al hw.ne env).mono ?_
    rintro e w2 ⟨rfl, rfl⟩
    rw [HAL.out]
    go_wp2_with fail
    go_loopg [7, 8] s.rights.length (fun k v x wr => ∃ q : Nat, x = .int .i64 q ∧ q + k = s.rights.length ∧ Below w2.heap.size w2 wr ∧ Row wr v 64 4 (listTo s env q).length ((listTo s env q).flatMap rcells) ∧ ∀ b, v.ownBlock = some b → w2.heap.size ≤ b)
    case atStart => exact ⟨0, rfl, by omega, Below.refl _ _, Row.nil _ _ _, by simp [Value.ownBlock]⟩
    case round =>
      obtain ⟨q, rfl, hk, hbl, hrow, hnew⟩ := hrel
      have HK : Hid (q + gk = s.rights.length) := hk
      have hq : q ≤ s.rights.length := by omega
      have hle := listTo_le s env q
      have h' := h.below hbl
      have k3 := h'.blk.cell 3
      simp at k3
      clear hk
      obtain ⟨ao, cap, g0, hv, _⟩ := hrow.view
      subst hv
      by_cases hlt : q < s.rights.length
      · obtain ⟨r, hr⟩ : ∃ r, s.rights[q]? = some r := ⟨s.rights[q], by simp⟩
        obtain ⟨g, capr, hvr, hgt, c0, c1, c2, c3, _, _, _⟩ := h'.right hr
        have HS : Hid (listTo s env (q + 1) = listTo s env q ++ (if lv s.rights q && r.env == env then [r] else [])) := listTo_succ s env q r hr
        rw [hvr] at k3
        clear hvr hr
        have hns : w2.heap.size ≤ wr.heap.size := hbl.size
        go_wp2_with fail
        refine (living_any h' hw.ord hm q (by omega) (by omega)).mono ?_
        rintro e w3 ⟨rfl, rfl⟩
        cases hl : lv s.rights q
        · have HW : Hid (listTo s env (q + 1) = listTo s env q) := by have := HS.out; rw [hl] at this; simpa [Hid] using this
          clear hl HS
          go_wp2_with fail
          go_roundg (gk - 1)
          case measure => have := HK.out; omega
          case rel => exact ⟨q + 1, by go_num, by have := HK.out; omega, hbl, by rw [HW.out]; exact hrow, hnew⟩
        · cases he : (r.env == env)
          · have HW : Hid (listTo s env (q + 1) = listTo s env q) := by have := HS.out; rw [hl, he] at this; simpa [Hid] using this
            clear hl HS
            go_wp2_with fail
            go_roundg (gk - 1)
            case measure => have := HK.out; omega
            case rel => exact ⟨q + 1, by go_num, by have := HK.out; omega, hbl, by rw [HW.out]; exact hrow, hnew⟩
          · have HW : Hid (listTo s env (q + 1) = listTo s env q ++ [r]) := by have := HS.out; rw [hl, he] at this; simpa [Hid] using this
            have hR' := hrow.alloc (.cells (rcells r).toArray 64)
            clear hl HS hrow
            go_wp2_with (at_builtin; refine wpList_append_lies _ rfl (.tmp 41) (.tmp 50) 58 rfl 0 64 i0 _ 4 32 Try.underlying58 hi hz0 hz1 hz2 rfl (by decide) (.slice ao (listTo s env q).length cap) (listTo s env q).length _ rfl hR' ⟨w3.heap.size, 0, none⟩ 1 1 (rcells r) rfl rfl ?c1 ?c2 (by omega) ?b1 ?b2 (by omega) (w3.heap.size + 1) (by simp) ?nx)
            case c1 => exact World.news_of_block (B := w3.heap.size) (cs := (rcells r).toArray) (t := 64) (fr := (0, 0)) (Blk.new _ _ _)
            case c2 => exact oneCell_rt _
            case b1 => unfold maxLen; omega
            case b2 => omega
            case nx =>
              intro g1 cap1 w4 hown hgrow hat hlt1
              go_wp2
              go_roundg (gk - 1)
              case measure => have := HK.out; omega
              case rel =>
                refine ⟨q + 1, by go_num, by have := HK.out; omega, (hbl.alloc hns _).grown hgrow (by simp; omega) hnew, ?_, ?_⟩
                · rw [HW.out]
                  simp only [List.length_append, List.flatMap_append, List.length_cons, List.length_nil, List.flatMap_cons, List.flatMap_nil, List.append_nil]
                  exact hown
                · intro b hb
                  simp [Value.ownBlock] at hb
                  subst hb
                  rcases hat with h | h
                  · exact hnew _ h
                  · omega
      · obtain rfl : q = s.rights.length := by omega
        obtain ⟨ao2, cap2, g2, hv2, _⟩ := h'.rR.view
        rw [hv2] at k3
        clear hv2
        go_wp2_with fail
        go_ret2
        exact ⟨_, hbl, hnew, .inr ⟨trivial, hrow, rfl⟩⟩
end
end Go.Proofs.Ytkonobbhohfjlaa
