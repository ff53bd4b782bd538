import Derived.Test.YtinlkcmdbjcofaaGreatM24
/-
  An access (its walk).
-/
namespace Go.Proofs.YtinlkcmdbjcofaaGreat
open Go.RowKit
set_option linter.unusedVariables false
attribute [local go_sem ↓] Go.wp_at_zero Go.wp_at_succ

section
variable {own : Nat → Nat × Nat} {id : Nat} {w : World} {m : Nat} {s : RSt} {nk : Nat} {vR vB vS vA vK : Value} {bs : List Nat} {k : KSt}

set_option maxHeartbeats 16000000 in
set_option maxRecDepth 100000 in
theorem raccess_wr (h : RefRep own id w m s nk vR vB vS vA vK bs) (hw : RWf s nk) (hS : SOk s) {env page b : Nat} (he : env < nk) (hp : page < 16) (hO : keptO s env = some k) (hP : KPtr vK nk w env b) (hl : KLen k) :
    Calls Tryz.prog 109 #[.pointer (some ⟨m, 0, none⟩), .int .i64 env, .int .i64 page, .bool true] w fun e w' => ∃ (own' : Nat → Nat × Nat) (vR' vB' : Value) (bs' : List Nat) (s' : RSt), RefRep own' id w' m s' nk vR' vB' vS vA vK bs' ∧ KPtr vK nk w' env b ∧ (∀ x, x < w.heap.size → own' x = own x) ∧ Touch w.heap.size (fun x => (own x).1 = id) w w' ∧
      ((accessS s k env page true = none ∧ s' = s ∧ e = .returned (.bool false)) ∨ (accessS s k env page true = some s' ∧ e = .returned (.bool true))) := by
  obtain ⟨i0, gi, gz0, gz1, gz2⟩ := info_parts Tryz.infoUse
  have k8 := h.blk.cell 8
  simp at k8
  obtain ⟨gK, capK, b0, hvK, -, cK, hKk, -⟩ := h.keptPut he hO
  obtain rfl : b = b0 := hP.uniq ⟨gK, capK, hvK, cK⟩
  rw [hvK] at k8
  have hK1 := hS.kok.k1 env k (keptO_get hO)
  have hel : (env : Int) < (nk : Int) := by omega
  have he0 : (0 : Int) ≤ (env : Int) := by omega
  have hln := hl.inp
  obtain ⟨vBx, vUx, vIx, vYx, vCx, vDx, vOx, hkx⟩ := hKk
  have HDO : Hid (hasK k page = true → AccMid s k page ∧ accessS s k env page true = some (touchS s k env page true)) := by
    intro hhas
    have hin := hasK_iff.1 hhas
    obtain ⟨j, h1, r, h2, -⟩ := hK1.hr page hin
    refine ⟨⟨hw.sl, hS.ns, hS.kok.t0, hS.kok.t1, hl.hnd, hl.chg, hl.dty, hl.uses, hl.r0, hl.r1, j, r, by simpa using h1, h2, by have := hw.size; omega⟩, ?_⟩
    unfold accessS
    rw [if_pos hhas]
  have hmet : ∀ p, p ∈ k.inp → ∃ u, u ∈ k.uses ∧ u.1 = p := fun p hp => hK1.len.met p hp (by have := hK1.len.pg p hp; omega)
  have hpk : 1 ≤ k.inp.length → ∃ p : Nat, pickK k = p ∧ p < 16 ∧ 1 ≤ (k.hnd[p]?).getD 0 ∧ (k.hnd[p]?).getD 0 ≤ 4611686018427387904 ∧ 1 ≤ (metFrom k 0).length := fun hne => by
    obtain ⟨a1, a2⟩ := pick_mem (by omega) hmet
    have a3 := hK1.len.pg _ a1
    obtain ⟨j, a4, r, a5, -⟩ := hK1.hr _ a1
    have a6 := (List.getElem?_eq_some_iff.1 a5).1
    refine ⟨(pickK k).toNat, by omega, by omega, ?_, ?_, a2⟩
    · rw [a4]; simp only [Option.getD_some]; omega
    · rw [a4]; simp only [Option.getD_some]; have := hw.size; omega
  have hfs : ∀ s1, firstS s env = some s1 → s1.kept = s.kept := fun s1 hs => by
    unfold firstS at hs
    split at hs
    · split at hs
      · simp only [Option.some.injEq] at hs
        rw [← hs]; rfl
      · simp at hs
    · simp at hs
  have HMID : Hid (hasK k page = false → ∀ s1 k1, comesS s k env page = some s1 → keptO s1 env = some k1 → AccMid s1 k1 page ∧ accessS s k env page true = some (touchS s1 k1 env page true)) := by
    intro hhas s1 k1 hc hk1
    have hin : (page : Int) ∉ k.inp := fun e => by rw [hasK_iff.2 e] at hhas; simp at hhas
    obtain ⟨k2, c1, c2, c3, c4, c5, c6, cb, c7, c8, c9, c10, c11, c12⟩ := comes_ok hS (keptO_get hO) hp hin hc
    rw [hk1] at c1
    obtain rfl : k1 = k2 := by simpa using c1
    obtain ⟨j, d1, r, d2, -⟩ := c4.hr page c5
    obtain ⟨g1, g2, g3, g4, g5, g6⟩ := c7
    refine ⟨⟨by rw [g5]; exact hw.sl, c2.ns, by rw [c8]; exact hS.kok.t0, by rw [c8, c9]; exact hS.kok.t1, c4.len.hnd, c4.len.chg, c4.len.dty, by rw [c6]; exact hl.uses, c4.len.r0, c4.len.r1, j, r, by simpa using d1, d2, by have := hw.size; omega⟩, ?_⟩
    unfold accessS
    rw [if_neg (by rw [hhas]; simp), hc]
    simp only [hk1]
  have HNO : Hid (hasK k page = false → comesS s k env page = none → accessS s k env page true = none) := fun hhas hc => by
    unfold accessS
    rw [if_neg (by rw [hhas]; simp), hc]
  go_enter Tryz.func109, Tryz.ntmps109
  go_wp2_with fail
  refine (khas_any hkx (by omega) page).mono ?_
  rintro e w2 ⟨rfl, hw2⟩
  subst w2
  obtain ⟨hb, hhb⟩ : ∃ hb, hasK k page = hb := ⟨_, rfl⟩
  rw [hhb]
  have HHB : Hid (hasK k page = hb) := hhb
  clear hhb
  go_upto_if 27 with fail
  go_cut [10] (fun _ wx => ∃ (own1 : Nat → Nat × Nat) (vR1 vB1 : Value) (bs1 : List Nat) (s1 : RSt) (k1 : KSt), RefRep own1 id wx m s1 nk vR1 vB1 vS vA vK bs1 ∧ keptO s1 env = some k1 ∧ KPtr vK nk wx env b ∧ AccMid s1 k1 page ∧ accessS s k env page true = some (touchS s1 k1 env page true) ∧ (∀ x, x < w.heap.size → own1 x = own x) ∧ Touch w.heap.size (fun x => (own x).1 = id) w wx)
  case first =>
    rcases Bool.eq_false_or_eq_true hb with hb1 | hb1
    · obtain ⟨hM, hacc⟩ := HDO.out (by rw [HHB.out, hb1])
      rw [hb1]
      clear HDO HMID HNO HHB hb1 hmet hpk hfs
      go_wp2_with fail
      go_meet
      case rel => exact ⟨own, vR, vB, bs, s, k, h, hO, hP, hM, hacc, fun _ _ => rfl, Touch.refl _ _ _⟩
    · have hno := HNO.out (by rw [HHB.out, hb1])
      have hyes := HMID.out (by rw [HHB.out, hb1])
      rw [hb1]
      clear HDO HMID HNO HHB hb1 hmet
      go_wp2_with fail
      refine (rcomes_at h hw he hp hO hP hl (by have := hK1.len.q0; exact this) hK1.len.q1 hfs hpk).mono ?_
      rintro e w1 ⟨own1, vR1, vB1, bs1, s1, k1, hR1, hO1, hP1, ho1, hT1', hcs⟩
      rcases hcs with ⟨hc, rfl, rfl⟩ | ⟨hc, rfl⟩
      · have HA := hno hc
        clear hc hno hyes hpk hfs
        go_wp2_with fail
        go_ret
        exact ⟨own1, vR1, vB1, bs1, _, hR1, hP1, ho1, hT1', .inl ⟨HA, rfl, rfl⟩⟩
      · obtain ⟨hM, hacc⟩ := hyes s1 k1 hc hO1
        clear hc hno hyes hpk hfs
        go_wp2_with fail
        go_meet
        case rel => exact ⟨own1, vR1, vB1, bs1, s1, k1, hR1, hO1, hP1, hM, hacc, ho1, hT1'⟩
  case rest =>
  obtain ⟨own1, vR1, vB1, bs1, s1, k1, hR1, hO1, hP1, hM, hacc, ho1, hT1'⟩ := hcut
  obtain ⟨w1, rfl⟩ : ∃ w1 : World, w1 = wc := ⟨_, rfl⟩
  have HACC : Hid (accessS s k env page true = some (touchS s1 k1 env page true)) := hacc
  have hT1 : Hid (Touch w.heap.size (fun x => (own x).1 = id) w w1) := hT1'
  clear HDO HMID HNO HHB hmet hpk hfs hacc hT1' hkx h hP hO hK1 k8 cK hS hw hl hln
  obtain ⟨g, cap, b0, hv, hg, c0, hK, put⟩ := hR1.keptPut he hO1
  obtain rfl : b = b0 := hP1.uniq ⟨g, cap, hv, c0⟩
  have hPut : Hid (∀ (own' : Nat → Nat × Nat) (W : World) (k' : KSt), (∀ x, x < w1.heap.size → own' x = own1 x) → (∀ x, x < w1.heap.size → (∀ t, t < 16 → own1 x ≠ (id, kt env t)) → W.heap[x]? = w1.heap[x]?) → KAt own' id env W b k' → RefRep own' id W m { s1 with kept := s1.kept.set env (some k') } nk vR1 vB1 vS vA vK bs1) := put
  obtain ⟨vB', vU, vI, vY, vC, vD, vO, hk⟩ := hK
  have q3 := hk.blk.cell 3
  simp [KSt.cells] at q3
  obtain ⟨aoU, capU, hvU, -⟩ := hk.rU.shapeK
  have hRU := hk.rU.alloc (.cells (ucells ((page : Int), true)).toArray 150)
  rw [hvU] at q3 hRU
  have HvU : Hid (vU = .slice aoU k1.uses.length capU) := hvU
  have hlu := hM.u
  have hel : (env : Int) < (nk : Int) := by omega
  have he0 : (0 : Int) ≤ (env : Int) := by omega
  clear hv hvU put
  go_wp2_with (at_builtin; refine wpList_append_lies _ rfl (.tmp 38) (.tmp 42) 131 rfl 0 150 i0 _ 2 16 Tryz.underlying131 gi gz0 gz1 gz2 rfl (by decide) (.slice aoU k1.uses.length capU) k1.uses.length _ rfl hRU ⟨w1.heap.size, 0, none⟩ 1 1 (ucells ((page : Int), true)) rfl rfl ?c1 ?c2 (by omega) ?b1 ?b2 (by omega) (w1.heap.size + 1) (by simp) ?nx)
  case c1 => exact World.news_of_block (Blk.new w1 (ucells ((page : Int), true)) 150)
  case c2 => first | rfl | exact oneCell_use _
  case b1 => unfold maxLen; omega
  case b2 => omega
  case nx =>
    intro g1 cap1 w6 hown hgrow hat hlt1
    rw [← HvU.out] at hgrow hat
    obtain ⟨hk6, hW6, hb6, hw6⟩ := hk.appUses hown hgrow hat
    have d3 := hb6.cell 3
    simp [KSt.cells] at d3
    rw [HvU.out] at d3
    have z3 := hb6.frozen 3
    have hRA : RefRep (set1 own1 (w1.heap.size + 1) (id, kt env 2)) id (w6.setCell ⟨b, 3, none⟩ (.slice (some ⟨g1, 0, none⟩) (k1.uses.length + 1) cap1)) m (putK s1 env (useK k1 page true)) nk vR1 vB1 vS vA vK bs1 :=
      hPut.out (set1 own1 (w1.heap.size + 1) (id, kt env 2)) _ (useK k1 page true) (set1_old (by omega)) (fun x hx hne => hW6 x hx (hne 0 (by omega)) (hne 2 (by omega))) ⟨_, _, _, _, _, _, _, hk6⟩
    have hPA : KPtr vK nk (w6.setCell ⟨b, 3, none⟩ (.slice (some ⟨g1, 0, none⟩) (k1.uses.length + 1) cap1)) env b := hP1.of hR1.tK hR1.rK.lt (fun x hx e => hW6 x hx (by rw [e]; simp [kt]; omega) (by rw [e]; simp [kt]; omega))
    have hz1 := hT1.out.size
    have hin1 : ∀ x t, own1 x = (id, t) → (own x).1 = id ∨ w.heap.size ≤ x := fun x t e => by
      rcases Nat.lt_or_ge x w.heap.size with h1 | h1
      · left; rw [← ho1 x h1, e]
      · exact .inr h1
    have hTA : Touch w.heap.size (fun x => (own x).1 = id) w (w6.setCell ⟨b, 3, none⟩ (.slice (some ⟨g1, 0, none⟩) (k1.uses.length + 1) cap1)) :=
      ((hT1.out.alloc hz1 _).grown hgrow (by simp; omega) (fun x hx => hin1 x _ (hk.tU x hx))).setCell (hin1 b _ hk.tm) _
    have hoA' : ∀ x, x < w.heap.size → set1 own1 (w1.heap.size + 1) (id, kt env 2) x = own x := fun x hx => (set1_old (n := w1.heap.size) (by omega) x (by omega)).trans (ho1 x hx)
    obtain ⟨ownA, hownA⟩ : ∃ ownA, set1 own1 (w1.heap.size + 1) (id, kt env 2) = ownA := ⟨_, rfl⟩
    rw [hownA] at hRA hk6 hoA'
    clear hownA
    go_wp2_with fail
    refine (entry_any hRA hM.sl env page).mono ?_
    rintro e w7 ⟨rfl, hb7⟩
    have hR7 := hRA.below hb7
    have hk7 : KRep ownA id env w7 b (useK k1 page true) vB' (.slice (some ⟨g1, 0, none⟩) (k1.uses.length + 1) cap1) vI vY vC vD vO := hk6.below hb7
    have hP7 : KPtr vK nk w7 env b := hPA.of hRA.tK hRA.rK.lt (fun x hx _ => hb7.block x hx)
    have HT7 : Hid (Touch w.heap.size (fun x => (own x).1 = id) w w7) := hTA.trans (Touch.of_below (hb7.mono hTA.size) _)
    have hoA : ∀ x, x < w.heap.size → ownA x = own x := hoA'
    rw [show entI (putK s1 env (useK k1 page true)) env page = entI s1 env page from rfl]
    have hO1' : s1.kept[env]? = some (some k1) := keptO_get hO1
    have HK1 : Hid (env < s1.kept.length) := kept_lt hO1'
    obtain ⟨gC, capC, hvC, -, -⟩ := hk7.rC.form (by show 0 < k1.chg.length; rw [hM.chg]; omega)
    obtain ⟨gD, capD, hvD, -, -⟩ := hk7.rD.form (by show 0 < k1.dty.length; rw [hM.dty]; omega)
    obtain ⟨gY, capY, hvY, -, -⟩ := hk7.rY.form (by show 0 < k1.hnd.length; rw [hM.hnd]; omega)
    obtain ⟨gS, capS, hvS, -, -⟩ := hR7.rS.form (by show 0 < s1.slots.length; have := hM.t0; have := hM.t1; have := hM.ns; omega)
    have HvC : Hid (vC = .slice (some ⟨gC, 0, none⟩) 16 capC) := by unfold Hid; rw [hvC]; show Value.slice _ k1.chg.length _ = _; rw [hM.chg]
    have HvD : Hid (vD = .slice (some ⟨gD, 0, none⟩) 16 capD) := by unfold Hid; rw [hvD]; show Value.slice _ k1.dty.length _ = _; rw [hM.dty]
    have HvY : Hid (vY = .slice (some ⟨gY, 0, none⟩) 16 capY) := by unfold Hid; rw [hvY]; show Value.slice _ k1.hnd.length _ = _; rw [hM.hnd]
    have HvS : Hid (vS = .slice (some ⟨gS, 0, none⟩) s1.slots.length capS) := hvS
    have lC := hM.chg
    have lD := hM.dty
    have lY := hM.hnd
    obtain ⟨c, hc⟩ : ∃ c, k1.chg[page]? = some c := ⟨k1.chg[page]'(by omega), by simp⟩
    obtain ⟨d, hd⟩ : ∃ d, k1.dty[page]? = some d := ⟨k1.dty[page]'(by omega), by simp⟩
    obtain ⟨jr, rr, hY, hrr, hrl⟩ := hM.by_
    have Hc : Hid (k1.chg[page]? = some c) := hc
    have Hd : Hid (k1.dty[page]? = some d) := hd
    have HY : Hid (k1.hnd[page]? = some ((jr : Int) + 1)) := hY
    have Hrr : Hid (s1.rights[jr]? = some rr) := hrr
    have hp0 : (0 : Int) ≤ (page : Int) := by omega
    have hp1 : (page : Int) < 16 := by omega
    have hsl := hM.sl
    have HNS : Hid (s1.slots.length = s1.ns) := hM.ns
    have HFR : Hid (frameOf s1 k1 page = rr.fr) := by
      unfold Hid frameOf
      rw [hY]
      simp only [Option.getD_some]
      rw [show ((jr : Int) + 1 - 1).toNat = jr by omega, hrr]; rfl
    have hr0 := hM.r0
    have hr1 := hM.r1
    have hwr : IntKind.i64.wrap (k1.refills + 1) = k1.refills + 1 := by rw [IntKind.wrap_i64]; omega
    clear hc hd hY hrr hvC hvD hvY hvS hRA hPA hTA hoA' hk6 hW6 hw6 hb6 hown hgrow hat hk hRU q3 d3 z3 hin1 hR1 hP1 hO1 hO1' c0 hg hT1 hz1 hPut
    rcases entI_cases s1 env page with h0 | ⟨q, en, h0, he1, he2⟩
    · have hneed : needB s1 env page true = true := by unfold needB; rw [h0]; simp
      have HN : Hid (needB s1 env page true = true) := hneed
      have H0 : Hid (entI s1 env page = -1) := h0
      rw [h0]
      clear hneed h0
      go_upto_if 65 with fail
      go_cut [] (fun wx => ∃ (sZ : RSt) (kZ : KSt), RefRep ownA id wx m sZ nk vR1 vB1 vS vA vK bs1 ∧ KRep ownA id env wx b kZ vB' (.slice (some ⟨g1, 0, none⟩) (k1.uses.length + 1) cap1) vI vY vC vD vO ∧ KPtr vK nk wx env b ∧ Touch w.heap.size (fun x => (own x).1 = id) w wx ∧ keptO sZ env = some kZ ∧ touchS s1 k1 env page true = { sZ with kept := sZ.kept.set env (some (markK kZ page true)) } ∧ kZ.chg = k1.chg ∧ kZ.dty = k1.dty)
      case first =>
        have p9 := hk7.blk.cell 9
        simp [KSt.cells, useK] at p9
        have z9 := hk7.blk.frozen 9
        have kB1 := hk7.setRefills (k1.refills + 1)
        have hO7 : keptO (putK s1 env (useK k1 page true)) env = some (useK k1 page true) := keptO_putK HK1.out
        obtain ⟨g7, cap7, b7, hv7, hg7, c7, -, put7⟩ := hR7.keptPut he hO7
        obtain rfl : b = b7 := hP7.uniq ⟨g7, cap7, hv7, c7⟩
        have hW9 : ∀ x, x < w7.heap.size → (∀ t, t < 16 → ownA x ≠ (id, kt env t)) → (w7.setCell ⟨b, 9, none⟩ (.int .i64 (k1.refills + 1))).heap[x]? = w7.heap[x]? := fun x hx hne => Below.heap_setCell _ _ _ _ (fun e => hne 0 (by omega) (by simp at e; rw [e]; exact hk7.tm))
        have hRB0 := put7 ownA _ _ (fun _ _ => rfl) hW9 ⟨_, _, _, _, _, _, _, kB1⟩
        have hPB := hP7.of hR7.tK hR7.rK.lt (fun x hx e => hW9 x hx (fun t _ => by rw [e]; simp [kt]; omega))
        have hinb : (own b).1 = id ∨ w.heap.size ≤ b := by
          rcases Nat.lt_or_ge b w.heap.size with h1 | h1
          · left; rw [← hoA b h1, hk7.tm]
          · exact .inr h1
        have HTB : Hid (Touch w.heap.size (fun x => (own x).1 = id) w (w7.setCell ⟨b, 9, none⟩ (.int .i64 (k1.refills + 1)))) := HT7.out.setCell hinb _
        obtain ⟨kB, hkB⟩ : ∃ kB : KSt, { useK k1 page true with refills := k1.refills + 1 } = kB := ⟨_, rfl⟩
        have hRB : RefRep ownA id (w7.setCell ⟨b, 9, none⟩ (.int .i64 (k1.refills + 1))) m (putK s1 env kB) nk vR1 vB1 vS vA vK bs1 := by
          have : putK s1 env kB = { (putK s1 env (useK k1 page true)) with kept := (putK s1 env (useK k1 page true)).kept.set env (some { useK k1 page true with refills := k1.refills + 1 }) } := by
            rw [hkB]; unfold putK; simp only [List.set_set]
          rw [this]; exact hRB0
        have hkBr : KRep ownA id env (w7.setCell ⟨b, 9, none⟩ (.int .i64 (k1.refills + 1))) b kB vB' (.slice (some ⟨g1, 0, none⟩) (k1.uses.length + 1) cap1) vI vY vC vD vO := by rw [← hkB]; exact kB1
        have HWC : Hid (kB.chg = k1.chg) := by unfold Hid; rw [← hkB]; rfl
        have HWD : Hid (kB.dty = k1.dty) := by unfold Hid; rw [← hkB]; rfl
        have HWY : Hid (kB.hnd = k1.hnd) := by unfold Hid; rw [← hkB]; rfl
        have nbm : b ≠ m := fun e => by have := hk7.tm; rw [e, hR7.tm] at this; simp [kt] at this; omega
        have nmb : m ≠ b := fun e => nbm e.symm
        clear put7 hv7 kB1 hRB0 hW9 hO7 c7 hg7
        have m5 := hR7.blk.cell 5
        simp at m5
        rw [HvS.out] at m5
        have hwl : IntKind.i64.wrap ((s1.slots.length : Int) - 1) = (s1.slots.length : Int) - 1 := by rw [IntKind.wrap_i64]; omega
        go_wp2_with fail
        go_loopg [12, 14] s1.slots.length (fun n xi xs wr => ∃ q : Nat, n = q ∧ q ≤ s1.slots.length ∧ xs = .int .i64 ((q : Int) - 1) ∧ xi = .int .i64 (lowE s1.slots q) ∧ Below (w7.setCell ⟨b, 9, none⟩ (.int .i64 (k1.refills + 1))).heap.size (w7.setCell ⟨b, 9, none⟩ (.int .i64 (k1.refills + 1))) wr)
        case atStart => exact ⟨s1.slots.length, rfl, Nat.le_refl _, by first | rfl | simp, by rw [lowE_end], Below.refl _ _⟩
        case round =>
          obtain ⟨q, rfl, hq, rfl, rfl, hbl⟩ := hrel
          have hRW := hRB.below hbl
          have hkW := hkBr.below hbl
          have hPW : KPtr vK nk wr env b := hPB.of hRB.tK hRB.rK.lt (fun x hx _ => hbl.block x hx)
          have HTW : Hid (Touch w.heap.size (fun x => (own x).1 = id) w wr) := HTB.out.trans (Touch.of_below (hbl.mono HTB.out.size) _)
          have m5w := hRW.blk.cell 5
          simp at m5w
          rw [HvS.out] at m5w
          by_cases hlt : 0 < gk
          · obtain ⟨r, hr⟩ : ∃ r, gk = r + 1 := ⟨gk - 1, by omega⟩
            rw [hr] at hq ⊢
            obtain ⟨eo, heo⟩ : ∃ eo, s1.slots[r]? = some eo := ⟨s1.slots[r], by simp⟩
            obtain ⟨gS', capS', hvS', hgS, f0, -⟩ := hRW.slot (show (putK s1 env kB).slots[r]? = some eo from heo)
            rw [HvS.out] at hvS'
            have hgg : gS = gS' := by
              have h1 : Value.slice (some ⟨gS, 0, none⟩) s1.slots.length capS = Value.slice (some ⟨gS', 0, none⟩) s1.slots.length capS' := hvS'
              simp at h1
              exact h1.1
            rw [← hgg] at f0
            have HLO : Hid (lowE s1.slots r = if eo.used then lowE s1.slots (r + 1) else (r : Int)) := lowE_step heo
            have hx1 : ((r + 1 : Nat) : Int) - 1 = (r : Int) := by omega
            have hx0 : (0 : Int) ≤ (r : Int) := by omega
            have hx2 : (r : Int) < (s1.slots.length : Int) := by omega
            have hxw : IntKind.i64.wrap ((r : Int) - 1) = (r : Int) - 1 := by rw [IntKind.wrap_i64]; omega
            rw [hx1]
            obtain ⟨lo, hlo⟩ : ∃ lo, lowE s1.slots (r + 1) = lo := ⟨_, rfl⟩
            rw [hlo] at HLO ⊢
            clear heo hvS' hgg hgS hlo
            cases hu : eo.used
            · rw [hu] at f0 HLO
              go_wp2_with fail
              go_roundg r
              case measure => omega
              case rel => exact ⟨r, rfl, by omega, rfl, by rw [HLO.out]; rfl, hbl⟩
            · rw [hu] at f0 HLO
              go_wp2_with fail
              go_roundg r
              case measure => omega
              case rel => exact ⟨r, rfl, by omega, rfl, by rw [HLO.out]; rfl, hbl⟩
          · obtain rfl : gk = 0 := by omega
            have hge := lowE_ge s1.slots 0
            have HLE : Hid (leastEmpty s1.slots = lowE s1.slots 0) := (lowE_zero s1.slots).symm
            by_cases hneg : lowE s1.slots 0 < 0
            · have t0 := hM.t0
              have t1 := hM.t1
              obtain ⟨q, hqt⟩ : ∃ q : Nat, s1.turn = q := ⟨s1.turn.toNat, by omega⟩
              have hq : q < s1.slots.length := by rw [HNS.out]; omega
              have m6 := hRW.blk.cell 6
              have m1 := hRW.blk.cell 1
              simp at m6 m1
              have m6' : wr.cell? ⟨m, 6, none⟩ = some (.int .i64 s1.turn) := m6
              have m1' : wr.cell? ⟨m, 1, none⟩ = some (.int .i64 s1.ns) := m1
              have z6 := hRW.blk.frozen 6
              have hwt : IntKind.i64.wrap (s1.turn + 1) = s1.turn + 1 := by rw [IntKind.wrap_i64]; have := HNS.out; omega
              clear m6 m1
              by_cases heq : s1.turn + 1 = s1.ns
              · have HSF : Hid (slotFor (putK s1 env (useK k1 page true)) (entI s1 env page) = ((q : Int), { putK s1 env (useK k1 page true) with turn := 0 })) := by
                  unfold Hid slotFor
                  rw [H0.out, if_neg (by omega)]
                  show (if 0 ≤ leastEmpty s1.slots then _ else _) = _
                  rw [HLE.out, if_neg (by omega)]
                  show (s1.turn, { putK s1 env (useK k1 page true) with turn := if s1.turn + 1 = (s1.ns : Int) then 0 else s1.turn + 1 }) = _
                  rw [if_pos heq, hqt]
                have heqb : (s1.turn + 1 == (s1.ns : Int)) = true := by simp [heq]
                rw [hqt] at m6' hwt heqb
                obtain ⟨sX, hsX⟩ : ∃ sX : RSt, ({ putK s1 env kB with turn := 0 } : RSt) = sX := ⟨_, rfl⟩
                have hinm : (own m).1 = id ∨ w.heap.size ≤ m := by
                  rcases Nat.lt_or_ge m w.heap.size with h1 | h1
                  · left; rw [← hoA m h1, hRW.tm]
                  · exact .inr h1
                have hWt : ∀ x, x < wr.heap.size → ownA x ≠ (id, 0) → ((wr.setCell ⟨m, 6, none⟩ (.int .i64 ((q : Int) + 1))).setCell ⟨m, 6, none⟩ (.int .i64 0)).heap[x]? = wr.heap[x]? := fun x _ hn => by
                  have hn' : x ≠ m := fun e => hn (by rw [e]; exact hRW.tm)
                  exact (Below.heap_setCell _ _ _ _ hn').trans (Below.heap_setCell _ _ _ _ hn')
                obtain ⟨wX, hwX⟩ : ∃ wX : World, (wr.setCell ⟨m, 6, none⟩ (.int .i64 ((q : Int) + 1))).setCell ⟨m, 6, none⟩ (.int .i64 0) = wX := ⟨_, rfl⟩
                have hwX' : Hid ((wr.setCell ⟨m, 6, none⟩ (.int .i64 ((q : Int) + 1))).setCell ⟨m, 6, none⟩ (.int .i64 0) = wX) := hwX
                have hRX : RefRep ownA id wX m sX nk vR1 vB1 vS vA vK bs1 := by rw [← hwX, ← hsX]; exact (hRW.setTurn ((q : Int) + 1)).setTurn 0
                rw [hwX] at hWt
                have hkX : KRep ownA id env wX b kB vB' (.slice (some ⟨g1, 0, none⟩) (k1.uses.length + 1) cap1) vI vY vC vD vO := hkW.keep (fun x hx t _ e => hWt x hx (by rw [e]; simp [kt]))
                have hPX : KPtr vK nk wX env b := hPW.of hRW.tK hRW.rK.lt (fun x hx e => hWt x hx (by rw [e]; simp))
                have HTX : Hid (Touch w.heap.size (fun x => (own x).1 = id) w wX) := by rw [← hwX]; exact ((HTW.out.setCell (p := ⟨m, 6, none⟩) hinm _).setCell (p := ⟨m, 6, none⟩) hinm _)
                clear hwX hWt
                have HFX : Hid (∀ x, (true || chgB k1 page) = x → touchS s1 k1 env page true = { ({ sX with slots := sX.slots.set q ⟨true, env, page, rr.fr, x⟩ } : RSt) with kept := sX.kept.set env (some (markK kB page true)) }) := by
                  intro x hx
                  unfold touchS
                  rw [if_pos HN.out]
                  unfold refillS
                  rw [show entI (putK s1 env (useK k1 page true)) env page = entI s1 env page from rfl, HSF.out]
                  simp only [Int.toNat_natCast]
                  rw [show frameOf (putK s1 env (useK k1 page true)) (useK k1 page true) page = frameOf s1 k1 page from rfl, HFR.out, show chgB (useK k1 page true) page = chgB k1 page from rfl, hx, ← hsX, ← hkB]
                  unfold putK
                  simp only [List.set_set]
                have HXS : Hid (sX.slots = s1.slots) := by unfold Hid; rw [← hsX]; rfl
                have HXK : Hid (∀ x, keptO { sX with slots := sX.slots.set q ⟨true, env, page, rr.fr, x⟩ } env = some kB) := by intro x; rw [← hsX]; exact keptO_setK (l := s1.kept) rfl HK1.out
                obtain ⟨eo, heo⟩ : ∃ eo, s1.slots[q]? = some eo := ⟨s1.slots[q]'hq, by simp⟩
                have heo' : (putK s1 env kB).slots[q]? = some eo := heo
                obtain ⟨gS', capS', hvS', hgS, f0, f1, f2, f3, f4, hfzS⟩ := hRW.slot heo'
                rw [HvS.out] at hvS'
                have hgg : gS = gS' := by
                  have h1 : Value.slice (some ⟨gS, 0, none⟩) s1.slots.length capS = Value.slice (some ⟨gS', 0, none⟩) s1.slots.length capS' := hvS'
                  simp at h1
                  exact h1.1
                rw [← hgg] at hgS f0 f1 f2 f3 f4 hfzS
                have zz0 := hfzS (q * 5)
                have zz1 := hfzS (q * 5 + 1)
                have zz2 := hfzS (q * 5 + 2)
                have zz3 := hfzS (q * 5 + 3)
                have zz4 := hfzS (q * 5 + 4)
                obtain ⟨gR, capR, hvR, hgR, r0, r1, r2, r3, -, -, -⟩ := hRW.right (show (putK s1 env kB).rights[jr]? = some rr from Hrr.out)
                have m3 := hRW.blk.cell 3
                have m5 := hRW.blk.cell 5
                simp at m3 m5
                rw [hvR] at m3
                rw [HvS.out] at m5
                have m3' : wr.cell? ⟨m, 3, none⟩ = some (.slice (some ⟨gR, 0, none⟩) s1.rights.length capR) := m3
                clear m3
                have cY : wr.cell? ⟨gY, page, none⟩ = some (.int .i64 ((jr : Int) + 1)) := by
                  have h1 := hkW.rY
                  rw [HvY.out, HWY.out, lY] at h1
                  rw [h1.cellK _ (by omega), List.getElem?_map, HY.out]; rfl
                have p5 := hkW.blk.cell 5
                have p6x := hkW.blk.cell 6
                simp [KSt.cells] at p5 p6x
                rw [HvY.out] at p5
                rw [HvC.out] at p6x
                have cCx : wr.cell? ⟨gC, page, none⟩ = some (.bool c) := by
                  have h1 := hkW.rC
                  rw [HvC.out, HWC.out, lC] at h1
                  rw [h1.cellK _ (by omega), List.getElem?_map, Hc.out]; rfl
                have hjl : jr < s1.rights.length := (List.getElem?_eq_some_iff.1 Hrr.out).1
                have hjw : IntKind.i64.wrap ((jr : Int) + 1 - 1) = (jr : Int) := by rw [IntKind.wrap_i64]; omega
                have hj0 : (0 : Int) ≤ (jr : Int) := by omega
                have hj1 : (jr : Int) < (s1.rights.length : Int) := by omega
                have hq0 : (0 : Int) ≤ (q : Int) := by omega
                have hq1 : (q : Int) < (s1.slots.length : Int) := by omega
                have hst := hRX.setS (g := gS) (cap := capS) (by rw [HvS.out, HXS.out]) q (by rw [HXS.out]; exact hq) ⟨true, env, page, rr.fr, true⟩
                have tS : ownA gS = (id, 3) := hgS
                have hWs : ∀ x, x < wX.heap.size → ownA x ≠ (id, 3) → (((((wX.setCell ⟨gS, q * 5, none⟩ (.bool true)).setCell ⟨gS, q * 5 + 1, none⟩ (.int .i64 env)).setCell ⟨gS, q * 5 + 2, none⟩ (.int .i64 page)).setCell ⟨gS, q * 5 + 3, none⟩ (.int .i64 rr.fr)).setCell ⟨gS, q * 5 + 4, none⟩ (.bool true)).heap[x]? = wX.heap[x]? := fun x _ hn => by
                  have hn' : x ≠ gS := fun e => hn (by rw [e]; exact tS)
                  rw [Below.heap_setCell _ _ _ _ hn', Below.heap_setCell _ _ _ _ hn', Below.heap_setCell _ _ _ _ hn', Below.heap_setCell _ _ _ _ hn', Below.heap_setCell _ _ _ _ hn']
                have hks := hkX.keep (W := ((((wX.setCell ⟨gS, q * 5, none⟩ (.bool true)).setCell ⟨gS, q * 5 + 1, none⟩ (.int .i64 env)).setCell ⟨gS, q * 5 + 2, none⟩ (.int .i64 page)).setCell ⟨gS, q * 5 + 3, none⟩ (.int .i64 rr.fr)).setCell ⟨gS, q * 5 + 4, none⟩ (.bool true)) (fun x hx t _ e => hWs x hx (by rw [e]; simp [kt]; omega))
                have hPs0 := hPX.of hRX.tK hRX.rK.lt (fun x hx e => hWs x hx (by rw [e]; simp))
                have hinS : (own gS).1 = id ∨ w.heap.size ≤ gS := by
                  rcases Nat.lt_or_ge gS w.heap.size with h1 | h1
                  · left; rw [← hoA gS h1, tS]
                  · exact .inr h1
                have hTs := ((((HTX.out.setCell (p := ⟨gS, q * 5, none⟩) hinS (.bool true)).setCell (p := ⟨gS, q * 5 + 1, none⟩) hinS (.int .i64 env)).setCell (p := ⟨gS, q * 5 + 2, none⟩) hinS (.int .i64 page)).setCell (p := ⟨gS, q * 5 + 3, none⟩) hinS (.int .i64 rr.fr)).setCell (p := ⟨gS, q * 5 + 4, none⟩) hinS (.bool true)
                have tag : ∀ {x y : Nat} {p r : Nat}, ownA x = (id, p) → ownA y = (id, r) → p ≠ r → x ≠ y := fun h1 h2 hne e => by
                  rw [e, h2] at h1
                  simp only [Prod.mk.injEq, true_and] at h1
                  exact hne h1.symm
                have tbW := hkW.tm
                have tCW : ownA gC = (id, kt env 5) := hkW.tC gC (by rw [HvC.out]; rfl)
                have tDW : ownA gD = (id, kt env 6) := hkW.tD gD (by rw [HvD.out]; rfl)
                have tYW : ownA gY = (id, kt env 4) := hkW.tY gY (by rw [HvY.out]; rfl)
                have tmW := hRW.tm
                have k3 : ∀ t, kt env t ≠ 3 := fun t => by unfold kt; omega
                have k0 : ∀ t, kt env t ≠ 0 := fun t => by unfold kt; omega
                have e1 : b ≠ gS := tag tbW tS (k3 _)
                have e2 : gS ≠ b := fun e => e1 e.symm
                have e3 : gC ≠ gS := tag tCW tS (k3 _)
                have e4 : gS ≠ gC := fun e => e3 e.symm
                have e5 : gD ≠ gS := tag tDW tS (k3 _)
                have e6 : gS ≠ gD := fun e => e5 e.symm
                have e7 : m ≠ gS := tag tmW tS (by omega)
                have e8 : gS ≠ m := fun e => e7 e.symm
                have e9 : b ≠ m := tag tbW tmW (k0 _)
                have e10 : m ≠ b := fun e => e9 e.symm
                have e11 : gC ≠ m := tag tCW tmW (k0 _)
                have e12 : m ≠ gC := fun e => e11 e.symm
                have e13 : gD ≠ m := tag tDW tmW (k0 _)
                have e14 : m ≠ gD := fun e => e13 e.symm
                have e15 : gY ≠ m := tag tYW tmW (k0 _)
                have e16 : m ≠ gY := fun e => e15 e.symm
                have e17 : gR ≠ m := tag hgR tmW (by omega)
                have e18 : m ≠ gR := fun e => e17 e.symm
                have hFIN2 := HFX.out true (by rw [show chgB k1 page = c by unfold chgB; rw [Hc.out]; rfl]; simp)
                clear heo heo' hvR hvS' hgg hfzS
                obtain ⟨wZ, hwZ⟩ : ∃ wZ : World, (((((wX.setCell ⟨gS, q * 5, none⟩ (.bool true)).setCell ⟨gS, q * 5 + 1, none⟩ (.int .i64 env)).setCell ⟨gS, q * 5 + 2, none⟩ (.int .i64 page)).setCell ⟨gS, q * 5 + 3, none⟩ (.int .i64 rr.fr)).setCell ⟨gS, q * 5 + 4, none⟩ (.bool true)).drew.drew.drew = wZ := ⟨_, rfl⟩
                have hst := hst.below (Below.refl _ _).drew.drew.drew
                have hks := hks.below (Below.refl _ _).drew.drew.drew
                have hTs := hTs.drew.drew.drew
                rw [hwZ] at hst hks hTs
                have hPs := hPs0.drew.drew.drew
                rw [hwZ] at hPs
                have hRZ0 := hst
                have hkZ := hks
                have hPZ := hPs
                have HTZ : Hid (Touch w.heap.size (fun x => (own x).1 = id) w wZ) := hTs
                obtain ⟨kZ, hkz⟩ : ∃ kZ, kB = kZ := ⟨_, rfl⟩
                obtain ⟨sZ, hsZ⟩ : ∃ sZ : RSt, { sX with slots := sX.slots.set q ⟨true, env, page, rr.fr, true⟩ } = sZ := ⟨_, rfl⟩
                have HOZ : Hid (keptO sZ env = some kZ) := by rw [← hsZ, ← hkz]; exact HXK.out _
                have HFIN : Hid (touchS s1 k1 env page true = { sZ with kept := sZ.kept.set env (some (markK kZ page true)) }) := by rw [← hsZ, ← hkz]; exact hFIN2
                have HZC : Hid (kZ.chg = k1.chg) := by rw [← hkz]; exact HWC.out
                have HZD : Hid (kZ.dty = k1.dty) := by rw [← hkz]; exact HWD.out
                rw [hsZ] at hRZ0
                have hRZ := hRZ0
                rw [hkz] at hkZ
                have hwZ' : Hid ((((((wX.setCell ⟨gS, q * 5, none⟩ (.bool true)).setCell ⟨gS, q * 5 + 1, none⟩ (.int .i64 env)).setCell ⟨gS, q * 5 + 2, none⟩ (.int .i64 page)).setCell ⟨gS, q * 5 + 3, none⟩ (.int .i64 rr.fr)).setCell ⟨gS, q * 5 + 4, none⟩ (.bool true)).drew.drew.drew = wZ) := hwZ
                clear hst hks hPs hTs hkz hsZ hFIN2 hWs hRZ0 hwZ
                go_wp2_with fail
                go_big_region
                go_wp2_with fail
                go_big_region
                go_wp2_with fail
                go_big_region
                rw [hwX'.out, hwZ'.out]
                go_wp2_with fail
                go_meet
                case rel => exact ⟨sZ, kZ, hRZ, hkZ, hPZ, HTZ.out, HOZ.out, HFIN.out, HZC.out, HZD.out⟩
              · have HSF : Hid (slotFor (putK s1 env (useK k1 page true)) (entI s1 env page) = ((q : Int), { putK s1 env (useK k1 page true) with turn := (q : Int) + 1 })) := by
                  unfold Hid slotFor
                  rw [H0.out, if_neg (by omega)]
                  show (if 0 ≤ leastEmpty s1.slots then _ else _) = _
                  rw [HLE.out, if_neg (by omega)]
                  show (s1.turn, { putK s1 env (useK k1 page true) with turn := if s1.turn + 1 = (s1.ns : Int) then 0 else s1.turn + 1 }) = _
                  rw [if_neg heq, hqt]
                have heqb : (s1.turn + 1 == (s1.ns : Int)) = false := beq_eq_false_iff_ne.2 heq
                rw [hqt] at m6' hwt heqb
                obtain ⟨sX, hsX⟩ : ∃ sX : RSt, ({ putK s1 env kB with turn := (q : Int) + 1 } : RSt) = sX := ⟨_, rfl⟩
                have hinm : (own m).1 = id ∨ w.heap.size ≤ m := by
                  rcases Nat.lt_or_ge m w.heap.size with h1 | h1
                  · left; rw [← hoA m h1, hRW.tm]
                  · exact .inr h1
                have hWt : ∀ x, x < wr.heap.size → ownA x ≠ (id, 0) → (wr.setCell ⟨m, 6, none⟩ (.int .i64 ((q : Int) + 1))).heap[x]? = wr.heap[x]? := fun x _ hn => by
                  have hn' : x ≠ m := fun e => hn (by rw [e]; exact hRW.tm)
                  exact Below.heap_setCell _ _ _ _ hn'
                obtain ⟨wX, hwX⟩ : ∃ wX : World, wr.setCell ⟨m, 6, none⟩ (.int .i64 ((q : Int) + 1)) = wX := ⟨_, rfl⟩
                have hwX' : Hid (wr.setCell ⟨m, 6, none⟩ (.int .i64 ((q : Int) + 1)) = wX) := hwX
                have hRX : RefRep ownA id wX m sX nk vR1 vB1 vS vA vK bs1 := by rw [← hwX, ← hsX]; exact hRW.setTurn ((q : Int) + 1)
                rw [hwX] at hWt
                have hkX : KRep ownA id env wX b kB vB' (.slice (some ⟨g1, 0, none⟩) (k1.uses.length + 1) cap1) vI vY vC vD vO := hkW.keep (fun x hx t _ e => hWt x hx (by rw [e]; simp [kt]))
                have hPX : KPtr vK nk wX env b := hPW.of hRW.tK hRW.rK.lt (fun x hx e => hWt x hx (by rw [e]; simp))
                have HTX : Hid (Touch w.heap.size (fun x => (own x).1 = id) w wX) := by rw [← hwX]; exact (HTW.out.setCell (p := ⟨m, 6, none⟩) hinm _)
                clear hwX hWt
                have HFX : Hid (∀ x, (true || chgB k1 page) = x → touchS s1 k1 env page true = { ({ sX with slots := sX.slots.set q ⟨true, env, page, rr.fr, x⟩ } : RSt) with kept := sX.kept.set env (some (markK kB page true)) }) := by
                  intro x hx
                  unfold touchS
                  rw [if_pos HN.out]
                  unfold refillS
                  rw [show entI (putK s1 env (useK k1 page true)) env page = entI s1 env page from rfl, HSF.out]
                  simp only [Int.toNat_natCast]
                  rw [show frameOf (putK s1 env (useK k1 page true)) (useK k1 page true) page = frameOf s1 k1 page from rfl, HFR.out, show chgB (useK k1 page true) page = chgB k1 page from rfl, hx, ← hsX, ← hkB]
                  unfold putK
                  simp only [List.set_set]
                have HXS : Hid (sX.slots = s1.slots) := by unfold Hid; rw [← hsX]; rfl
                have HXK : Hid (∀ x, keptO { sX with slots := sX.slots.set q ⟨true, env, page, rr.fr, x⟩ } env = some kB) := by intro x; rw [← hsX]; exact keptO_setK (l := s1.kept) rfl HK1.out
                obtain ⟨eo, heo⟩ : ∃ eo, s1.slots[q]? = some eo := ⟨s1.slots[q]'hq, by simp⟩
                have heo' : (putK s1 env kB).slots[q]? = some eo := heo
                obtain ⟨gS', capS', hvS', hgS, f0, f1, f2, f3, f4, hfzS⟩ := hRW.slot heo'
                rw [HvS.out] at hvS'
                have hgg : gS = gS' := by
                  have h1 : Value.slice (some ⟨gS, 0, none⟩) s1.slots.length capS = Value.slice (some ⟨gS', 0, none⟩) s1.slots.length capS' := hvS'
                  simp at h1
                  exact h1.1
                rw [← hgg] at hgS f0 f1 f2 f3 f4 hfzS
                have zz0 := hfzS (q * 5)
                have zz1 := hfzS (q * 5 + 1)
                have zz2 := hfzS (q * 5 + 2)
                have zz3 := hfzS (q * 5 + 3)
                have zz4 := hfzS (q * 5 + 4)
                obtain ⟨gR, capR, hvR, hgR, r0, r1, r2, r3, -, -, -⟩ := hRW.right (show (putK s1 env kB).rights[jr]? = some rr from Hrr.out)
                have m3 := hRW.blk.cell 3
                have m5 := hRW.blk.cell 5
                simp at m3 m5
                rw [hvR] at m3
                rw [HvS.out] at m5
                have m3' : wr.cell? ⟨m, 3, none⟩ = some (.slice (some ⟨gR, 0, none⟩) s1.rights.length capR) := m3
                clear m3
                have cY : wr.cell? ⟨gY, page, none⟩ = some (.int .i64 ((jr : Int) + 1)) := by
                  have h1 := hkW.rY
                  rw [HvY.out, HWY.out, lY] at h1
                  rw [h1.cellK _ (by omega), List.getElem?_map, HY.out]; rfl
                have p5 := hkW.blk.cell 5
                have p6x := hkW.blk.cell 6
                simp [KSt.cells] at p5 p6x
                rw [HvY.out] at p5
                rw [HvC.out] at p6x
                have cCx : wr.cell? ⟨gC, page, none⟩ = some (.bool c) := by
                  have h1 := hkW.rC
                  rw [HvC.out, HWC.out, lC] at h1
                  rw [h1.cellK _ (by omega), List.getElem?_map, Hc.out]; rfl
                have hjl : jr < s1.rights.length := (List.getElem?_eq_some_iff.1 Hrr.out).1
                have hjw : IntKind.i64.wrap ((jr : Int) + 1 - 1) = (jr : Int) := by rw [IntKind.wrap_i64]; omega
                have hj0 : (0 : Int) ≤ (jr : Int) := by omega
                have hj1 : (jr : Int) < (s1.rights.length : Int) := by omega
                have hq0 : (0 : Int) ≤ (q : Int) := by omega
                have hq1 : (q : Int) < (s1.slots.length : Int) := by omega
                have hst := hRX.setS (g := gS) (cap := capS) (by rw [HvS.out, HXS.out]) q (by rw [HXS.out]; exact hq) ⟨true, env, page, rr.fr, true⟩
                have tS : ownA gS = (id, 3) := hgS
                have hWs : ∀ x, x < wX.heap.size → ownA x ≠ (id, 3) → (((((wX.setCell ⟨gS, q * 5, none⟩ (.bool true)).setCell ⟨gS, q * 5 + 1, none⟩ (.int .i64 env)).setCell ⟨gS, q * 5 + 2, none⟩ (.int .i64 page)).setCell ⟨gS, q * 5 + 3, none⟩ (.int .i64 rr.fr)).setCell ⟨gS, q * 5 + 4, none⟩ (.bool true)).heap[x]? = wX.heap[x]? := fun x _ hn => by
                  have hn' : x ≠ gS := fun e => hn (by rw [e]; exact tS)
                  rw [Below.heap_setCell _ _ _ _ hn', Below.heap_setCell _ _ _ _ hn', Below.heap_setCell _ _ _ _ hn', Below.heap_setCell _ _ _ _ hn', Below.heap_setCell _ _ _ _ hn']
                have hks := hkX.keep (W := ((((wX.setCell ⟨gS, q * 5, none⟩ (.bool true)).setCell ⟨gS, q * 5 + 1, none⟩ (.int .i64 env)).setCell ⟨gS, q * 5 + 2, none⟩ (.int .i64 page)).setCell ⟨gS, q * 5 + 3, none⟩ (.int .i64 rr.fr)).setCell ⟨gS, q * 5 + 4, none⟩ (.bool true)) (fun x hx t _ e => hWs x hx (by rw [e]; simp [kt]; omega))
                have hPs0 := hPX.of hRX.tK hRX.rK.lt (fun x hx e => hWs x hx (by rw [e]; simp))
                have hinS : (own gS).1 = id ∨ w.heap.size ≤ gS := by
                  rcases Nat.lt_or_ge gS w.heap.size with h1 | h1
                  · left; rw [← hoA gS h1, tS]
                  · exact .inr h1
                have hTs := ((((HTX.out.setCell (p := ⟨gS, q * 5, none⟩) hinS (.bool true)).setCell (p := ⟨gS, q * 5 + 1, none⟩) hinS (.int .i64 env)).setCell (p := ⟨gS, q * 5 + 2, none⟩) hinS (.int .i64 page)).setCell (p := ⟨gS, q * 5 + 3, none⟩) hinS (.int .i64 rr.fr)).setCell (p := ⟨gS, q * 5 + 4, none⟩) hinS (.bool true)
                have tag : ∀ {x y : Nat} {p r : Nat}, ownA x = (id, p) → ownA y = (id, r) → p ≠ r → x ≠ y := fun h1 h2 hne e => by
                  rw [e, h2] at h1
                  simp only [Prod.mk.injEq, true_and] at h1
                  exact hne h1.symm
                have tbW := hkW.tm
                have tCW : ownA gC = (id, kt env 5) := hkW.tC gC (by rw [HvC.out]; rfl)
                have tDW : ownA gD = (id, kt env 6) := hkW.tD gD (by rw [HvD.out]; rfl)
                have tYW : ownA gY = (id, kt env 4) := hkW.tY gY (by rw [HvY.out]; rfl)
                have tmW := hRW.tm
                have k3 : ∀ t, kt env t ≠ 3 := fun t => by unfold kt; omega
                have k0 : ∀ t, kt env t ≠ 0 := fun t => by unfold kt; omega
                have e1 : b ≠ gS := tag tbW tS (k3 _)
                have e2 : gS ≠ b := fun e => e1 e.symm
                have e3 : gC ≠ gS := tag tCW tS (k3 _)
                have e4 : gS ≠ gC := fun e => e3 e.symm
                have e5 : gD ≠ gS := tag tDW tS (k3 _)
                have e6 : gS ≠ gD := fun e => e5 e.symm
                have e7 : m ≠ gS := tag tmW tS (by omega)
                have e8 : gS ≠ m := fun e => e7 e.symm
                have e9 : b ≠ m := tag tbW tmW (k0 _)
                have e10 : m ≠ b := fun e => e9 e.symm
                have e11 : gC ≠ m := tag tCW tmW (k0 _)
                have e12 : m ≠ gC := fun e => e11 e.symm
                have e13 : gD ≠ m := tag tDW tmW (k0 _)
                have e14 : m ≠ gD := fun e => e13 e.symm
                have e15 : gY ≠ m := tag tYW tmW (k0 _)
                have e16 : m ≠ gY := fun e => e15 e.symm
                have e17 : gR ≠ m := tag hgR tmW (by omega)
                have e18 : m ≠ gR := fun e => e17 e.symm
                have hFIN2 := HFX.out true (by rw [show chgB k1 page = c by unfold chgB; rw [Hc.out]; rfl]; simp)
                clear heo heo' hvR hvS' hgg hfzS
                obtain ⟨wZ, hwZ⟩ : ∃ wZ : World, (((((wX.setCell ⟨gS, q * 5, none⟩ (.bool true)).setCell ⟨gS, q * 5 + 1, none⟩ (.int .i64 env)).setCell ⟨gS, q * 5 + 2, none⟩ (.int .i64 page)).setCell ⟨gS, q * 5 + 3, none⟩ (.int .i64 rr.fr)).setCell ⟨gS, q * 5 + 4, none⟩ (.bool true)).drew.drew.drew = wZ := ⟨_, rfl⟩
                have hst := hst.below (Below.refl _ _).drew.drew.drew
                have hks := hks.below (Below.refl _ _).drew.drew.drew
                have hTs := hTs.drew.drew.drew
                rw [hwZ] at hst hks hTs
                have hPs := hPs0.drew.drew.drew
                rw [hwZ] at hPs
                have hRZ0 := hst
                have hkZ := hks
                have hPZ := hPs
                have HTZ : Hid (Touch w.heap.size (fun x => (own x).1 = id) w wZ) := hTs
                obtain ⟨kZ, hkz⟩ : ∃ kZ, kB = kZ := ⟨_, rfl⟩
                obtain ⟨sZ, hsZ⟩ : ∃ sZ : RSt, { sX with slots := sX.slots.set q ⟨true, env, page, rr.fr, true⟩ } = sZ := ⟨_, rfl⟩
                have HOZ : Hid (keptO sZ env = some kZ) := by rw [← hsZ, ← hkz]; exact HXK.out _
                have HFIN : Hid (touchS s1 k1 env page true = { sZ with kept := sZ.kept.set env (some (markK kZ page true)) }) := by rw [← hsZ, ← hkz]; exact hFIN2
                have HZC : Hid (kZ.chg = k1.chg) := by rw [← hkz]; exact HWC.out
                have HZD : Hid (kZ.dty = k1.dty) := by rw [← hkz]; exact HWD.out
                rw [hsZ] at hRZ0
                have hRZ := hRZ0
                rw [hkz] at hkZ
                have hwZ' : Hid ((((((wX.setCell ⟨gS, q * 5, none⟩ (.bool true)).setCell ⟨gS, q * 5 + 1, none⟩ (.int .i64 env)).setCell ⟨gS, q * 5 + 2, none⟩ (.int .i64 page)).setCell ⟨gS, q * 5 + 3, none⟩ (.int .i64 rr.fr)).setCell ⟨gS, q * 5 + 4, none⟩ (.bool true)).drew.drew.drew = wZ) := hwZ
                clear hst hks hPs hTs hkz hsZ hFIN2 hWs hRZ0 hwZ
                go_wp2_with fail
                go_big_region
                go_wp2_with fail
                go_big_region
                go_wp2_with fail
                go_big_region
                rw [hwX'.out, hwZ'.out]
                go_wp2_with fail
                go_meet
                case rel => exact ⟨sZ, kZ, hRZ, hkZ, hPZ, HTZ.out, HOZ.out, HFIN.out, HZC.out, HZD.out⟩
            · obtain ⟨q, hqt⟩ : ∃ q : Nat, lowE s1.slots 0 = q := ⟨(lowE s1.slots 0).toNat, by omega⟩
              have hq : q < s1.slots.length := by omega
              have HSF : Hid (slotFor (putK s1 env (useK k1 page true)) (entI s1 env page) = ((q : Int), putK s1 env (useK k1 page true))) := by
                unfold Hid slotFor
                rw [H0.out, if_neg (by omega)]
                show (if 0 ≤ leastEmpty s1.slots then _ else _) = _
                rw [HLE.out, if_pos (by omega)]
                show (leastEmpty s1.slots, _) = _
                rw [HLE.out, hqt]
              rw [hqt] at hneg ⊢
              clear hge hqt HLE
              obtain ⟨sX, hsX⟩ : ∃ sX : RSt, putK s1 env kB = sX := ⟨_, rfl⟩
              obtain ⟨wX, hwX⟩ : ∃ wX : World, wr = wX := ⟨_, rfl⟩
              have hwX' : Hid (wr = wX) := hwX
              have hRX : RefRep ownA id wX m sX nk vR1 vB1 vS vA vK bs1 := by rw [← hwX, ← hsX]; exact hRW
              have hkX : KRep ownA id env wX b kB vB' (.slice (some ⟨g1, 0, none⟩) (k1.uses.length + 1) cap1) vI vY vC vD vO := by rw [← hwX]; exact hkW
              have hPX : KPtr vK nk wX env b := by rw [← hwX]; exact hPW
              have HTX : Hid (Touch w.heap.size (fun x => (own x).1 = id) w wX) := by rw [← hwX]; exact HTW
              clear hwX
              have HFX : Hid (∀ x, (true || chgB k1 page) = x → touchS s1 k1 env page true = { ({ sX with slots := sX.slots.set q ⟨true, env, page, rr.fr, x⟩ } : RSt) with kept := sX.kept.set env (some (markK kB page true)) }) := by
                intro x hx
                unfold touchS
                rw [if_pos HN.out]
                unfold refillS
                rw [show entI (putK s1 env (useK k1 page true)) env page = entI s1 env page from rfl, HSF.out]
                simp only [Int.toNat_natCast]
                rw [show frameOf (putK s1 env (useK k1 page true)) (useK k1 page true) page = frameOf s1 k1 page from rfl, HFR.out, show chgB (useK k1 page true) page = chgB k1 page from rfl, hx, ← hsX, ← hkB]
                unfold putK
                simp only [List.set_set]
              have HXS : Hid (sX.slots = s1.slots) := by unfold Hid; rw [← hsX]; rfl
              have HXK : Hid (∀ x, keptO { sX with slots := sX.slots.set q ⟨true, env, page, rr.fr, x⟩ } env = some kB) := by intro x; rw [← hsX]; exact keptO_setK (l := s1.kept) rfl HK1.out
              obtain ⟨eo, heo⟩ : ∃ eo, s1.slots[q]? = some eo := ⟨s1.slots[q]'hq, by simp⟩
              have heo' : (putK s1 env kB).slots[q]? = some eo := heo
              obtain ⟨gS', capS', hvS', hgS, f0, f1, f2, f3, f4, hfzS⟩ := hRW.slot heo'
              rw [HvS.out] at hvS'
              have hgg : gS = gS' := by
                have h1 : Value.slice (some ⟨gS, 0, none⟩) s1.slots.length capS = Value.slice (some ⟨gS', 0, none⟩) s1.slots.length capS' := hvS'
                simp at h1
                exact h1.1
              rw [← hgg] at hgS f0 f1 f2 f3 f4 hfzS
              have zz0 := hfzS (q * 5)
              have zz1 := hfzS (q * 5 + 1)
              have zz2 := hfzS (q * 5 + 2)
              have zz3 := hfzS (q * 5 + 3)
              have zz4 := hfzS (q * 5 + 4)
              obtain ⟨gR, capR, hvR, hgR, r0, r1, r2, r3, -, -, -⟩ := hRW.right (show (putK s1 env kB).rights[jr]? = some rr from Hrr.out)
              have m3 := hRW.blk.cell 3
              have m5 := hRW.blk.cell 5
              simp at m3 m5
              rw [hvR] at m3
              rw [HvS.out] at m5
              have m3' : wr.cell? ⟨m, 3, none⟩ = some (.slice (some ⟨gR, 0, none⟩) s1.rights.length capR) := m3
              clear m3
              have cY : wr.cell? ⟨gY, page, none⟩ = some (.int .i64 ((jr : Int) + 1)) := by
                have h1 := hkW.rY
                rw [HvY.out, HWY.out, lY] at h1
                rw [h1.cellK _ (by omega), List.getElem?_map, HY.out]; rfl
              have p5 := hkW.blk.cell 5
              have p6x := hkW.blk.cell 6
              simp [KSt.cells] at p5 p6x
              rw [HvY.out] at p5
              rw [HvC.out] at p6x
              have cCx : wr.cell? ⟨gC, page, none⟩ = some (.bool c) := by
                have h1 := hkW.rC
                rw [HvC.out, HWC.out, lC] at h1
                rw [h1.cellK _ (by omega), List.getElem?_map, Hc.out]; rfl
              have hjl : jr < s1.rights.length := (List.getElem?_eq_some_iff.1 Hrr.out).1
              have hjw : IntKind.i64.wrap ((jr : Int) + 1 - 1) = (jr : Int) := by rw [IntKind.wrap_i64]; omega
              have hj0 : (0 : Int) ≤ (jr : Int) := by omega
              have hj1 : (jr : Int) < (s1.rights.length : Int) := by omega
              have hq0 : (0 : Int) ≤ (q : Int) := by omega
              have hq1 : (q : Int) < (s1.slots.length : Int) := by omega
              have hst := hRX.setS (g := gS) (cap := capS) (by rw [HvS.out, HXS.out]) q (by rw [HXS.out]; exact hq) ⟨true, env, page, rr.fr, true⟩
              have tS : ownA gS = (id, 3) := hgS
              have hWs : ∀ x, x < wX.heap.size → ownA x ≠ (id, 3) → (((((wX.setCell ⟨gS, q * 5, none⟩ (.bool true)).setCell ⟨gS, q * 5 + 1, none⟩ (.int .i64 env)).setCell ⟨gS, q * 5 + 2, none⟩ (.int .i64 page)).setCell ⟨gS, q * 5 + 3, none⟩ (.int .i64 rr.fr)).setCell ⟨gS, q * 5 + 4, none⟩ (.bool true)).heap[x]? = wX.heap[x]? := fun x _ hn => by
                have hn' : x ≠ gS := fun e => hn (by rw [e]; exact tS)
                rw [Below.heap_setCell _ _ _ _ hn', Below.heap_setCell _ _ _ _ hn', Below.heap_setCell _ _ _ _ hn', Below.heap_setCell _ _ _ _ hn', Below.heap_setCell _ _ _ _ hn']
              have hks := hkX.keep (W := ((((wX.setCell ⟨gS, q * 5, none⟩ (.bool true)).setCell ⟨gS, q * 5 + 1, none⟩ (.int .i64 env)).setCell ⟨gS, q * 5 + 2, none⟩ (.int .i64 page)).setCell ⟨gS, q * 5 + 3, none⟩ (.int .i64 rr.fr)).setCell ⟨gS, q * 5 + 4, none⟩ (.bool true)) (fun x hx t _ e => hWs x hx (by rw [e]; simp [kt]; omega))
              have hPs0 := hPX.of hRX.tK hRX.rK.lt (fun x hx e => hWs x hx (by rw [e]; simp))
              have hinS : (own gS).1 = id ∨ w.heap.size ≤ gS := by
                rcases Nat.lt_or_ge gS w.heap.size with h1 | h1
                · left; rw [← hoA gS h1, tS]
                · exact .inr h1
              have hTs := ((((HTX.out.setCell (p := ⟨gS, q * 5, none⟩) hinS (.bool true)).setCell (p := ⟨gS, q * 5 + 1, none⟩) hinS (.int .i64 env)).setCell (p := ⟨gS, q * 5 + 2, none⟩) hinS (.int .i64 page)).setCell (p := ⟨gS, q * 5 + 3, none⟩) hinS (.int .i64 rr.fr)).setCell (p := ⟨gS, q * 5 + 4, none⟩) hinS (.bool true)
              have tag : ∀ {x y : Nat} {p r : Nat}, ownA x = (id, p) → ownA y = (id, r) → p ≠ r → x ≠ y := fun h1 h2 hne e => by
                rw [e, h2] at h1
                simp only [Prod.mk.injEq, true_and] at h1
                exact hne h1.symm
              have tbW := hkW.tm
              have tCW : ownA gC = (id, kt env 5) := hkW.tC gC (by rw [HvC.out]; rfl)
              have tDW : ownA gD = (id, kt env 6) := hkW.tD gD (by rw [HvD.out]; rfl)
              have tYW : ownA gY = (id, kt env 4) := hkW.tY gY (by rw [HvY.out]; rfl)
              have tmW := hRW.tm
              have k3 : ∀ t, kt env t ≠ 3 := fun t => by unfold kt; omega
              have k0 : ∀ t, kt env t ≠ 0 := fun t => by unfold kt; omega
              have e1 : b ≠ gS := tag tbW tS (k3 _)
              have e2 : gS ≠ b := fun e => e1 e.symm
              have e3 : gC ≠ gS := tag tCW tS (k3 _)
              have e4 : gS ≠ gC := fun e => e3 e.symm
              have e5 : gD ≠ gS := tag tDW tS (k3 _)
              have e6 : gS ≠ gD := fun e => e5 e.symm
              have e7 : m ≠ gS := tag tmW tS (by omega)
              have e8 : gS ≠ m := fun e => e7 e.symm
              have e9 : b ≠ m := tag tbW tmW (k0 _)
              have e10 : m ≠ b := fun e => e9 e.symm
              have e11 : gC ≠ m := tag tCW tmW (k0 _)
              have e12 : m ≠ gC := fun e => e11 e.symm
              have e13 : gD ≠ m := tag tDW tmW (k0 _)
              have e14 : m ≠ gD := fun e => e13 e.symm
              have e15 : gY ≠ m := tag tYW tmW (k0 _)
              have e16 : m ≠ gY := fun e => e15 e.symm
              have e17 : gR ≠ m := tag hgR tmW (by omega)
              have e18 : m ≠ gR := fun e => e17 e.symm
              have hFIN2 := HFX.out true (by rw [show chgB k1 page = c by unfold chgB; rw [Hc.out]; rfl]; simp)
              clear heo heo' hvR hvS' hgg hfzS
              obtain ⟨wZ, hwZ⟩ : ∃ wZ : World, (((((wX.setCell ⟨gS, q * 5, none⟩ (.bool true)).setCell ⟨gS, q * 5 + 1, none⟩ (.int .i64 env)).setCell ⟨gS, q * 5 + 2, none⟩ (.int .i64 page)).setCell ⟨gS, q * 5 + 3, none⟩ (.int .i64 rr.fr)).setCell ⟨gS, q * 5 + 4, none⟩ (.bool true)).drew.drew = wZ := ⟨_, rfl⟩
              have hst := hst.below (Below.refl _ _).drew.drew
              have hks := hks.below (Below.refl _ _).drew.drew
              have hTs := hTs.drew.drew
              rw [hwZ] at hst hks hTs
              have hPs := hPs0.drew.drew
              rw [hwZ] at hPs
              have hRZ0 := hst
              have hkZ := hks
              have hPZ := hPs
              have HTZ : Hid (Touch w.heap.size (fun x => (own x).1 = id) w wZ) := hTs
              obtain ⟨kZ, hkz⟩ : ∃ kZ, kB = kZ := ⟨_, rfl⟩
              obtain ⟨sZ, hsZ⟩ : ∃ sZ : RSt, { sX with slots := sX.slots.set q ⟨true, env, page, rr.fr, true⟩ } = sZ := ⟨_, rfl⟩
              have HOZ : Hid (keptO sZ env = some kZ) := by rw [← hsZ, ← hkz]; exact HXK.out _
              have HFIN : Hid (touchS s1 k1 env page true = { sZ with kept := sZ.kept.set env (some (markK kZ page true)) }) := by rw [← hsZ, ← hkz]; exact hFIN2
              have HZC : Hid (kZ.chg = k1.chg) := by rw [← hkz]; exact HWC.out
              have HZD : Hid (kZ.dty = k1.dty) := by rw [← hkz]; exact HWD.out
              rw [hsZ] at hRZ0
              have hRZ := hRZ0
              rw [hkz] at hkZ
              have hwZ' : Hid ((((((wX.setCell ⟨gS, q * 5, none⟩ (.bool true)).setCell ⟨gS, q * 5 + 1, none⟩ (.int .i64 env)).setCell ⟨gS, q * 5 + 2, none⟩ (.int .i64 page)).setCell ⟨gS, q * 5 + 3, none⟩ (.int .i64 rr.fr)).setCell ⟨gS, q * 5 + 4, none⟩ (.bool true)).drew.drew = wZ) := hwZ
              clear hst hks hPs hTs hkz hsZ hFIN2 hWs hRZ0 hwZ
              go_wp2_with fail
              go_big_region
              go_wp2_with fail
              go_big_region
              rw [hwX'.out, hwZ'.out]
              go_wp2_with fail
              go_meet
              case rel => exact ⟨sZ, kZ, hRZ, hkZ, hPZ, HTZ.out, HOZ.out, HFIN.out, HZC.out, HZD.out⟩
      case rest =>
        obtain ⟨sZ, kZ, hRZ, hkZ, hPZ, hTZ, hOZ0, hFIN0, hZC, hZD⟩ := hcut
        obtain ⟨wZ, rfl⟩ : ∃ wZ : World, wZ = wc := ⟨_, rfl⟩
        have HTZ : Hid (Touch w.heap.size (fun x => (own x).1 = id) w wZ) := hTZ
        have HOZ : Hid (keptO sZ env = some kZ) := hOZ0
        have HFIN : Hid (touchS s1 k1 env page true = { sZ with kept := sZ.kept.set env (some (markK kZ page true)) }) := hFIN0
        have HZC : Hid (kZ.chg = k1.chg) := hZC
        have HZD : Hid (kZ.dty = k1.dty) := hZD
        clear hTZ hOZ0 hFIN0 hZC hZD hR7 hk7 hP7 HT7 hb7
        have hOZ : keptO sZ env = some kZ := HOZ.out
        obtain ⟨gz, capz, bz, hvz, hgz, cz, -, putZ⟩ := hRZ.keptPut he hOZ
        obtain rfl : b = bz := hPZ.uniq ⟨gz, capz, hvz, cz⟩
        have hPutZ : Hid (∀ (own' : Nat → Nat × Nat) (W : World) (k' : KSt), (∀ x, x < wZ.heap.size → own' x = ownA x) → (∀ x, x < wZ.heap.size → (∀ t, t < 16 → ownA x ≠ (id, kt env t)) → W.heap[x]? = wZ.heap[x]?) → KAt own' id env W b k' → RefRep own' id W m { sZ with kept := sZ.kept.set env (some k') } nk vR1 vB1 vS vA vK bs1) := putZ
        have cC : wZ.cell? ⟨gC, page, none⟩ = some (.bool c) := by
          have h1 := hkZ.rC
          rw [HvC.out, HZC.out, lC] at h1
          rw [h1.cellK _ (by omega), List.getElem?_map, Hc.out]; rfl
        have zC : wZ.frozen? ⟨gC, page, none⟩ = false := by
          have h1 := hkZ.rC
          rw [HvC.out, HZC.out, lC] at h1
          exact World.ownsRow.frozenAt h1 page
        have cD : wZ.cell? ⟨gD, page, none⟩ = some (.bool d) := by
          have h1 := hkZ.rD
          rw [HvD.out, HZD.out, lD] at h1
          rw [h1.cellK _ (by omega), List.getElem?_map, Hd.out]; rfl
        have zD : wZ.frozen? ⟨gD, page, none⟩ = false := by
          have h1 := hkZ.rD
          rw [HvD.out, HZD.out, lD] at h1
          exact World.ownsRow.frozenAt h1 page
        have p6 := hkZ.blk.cell 6
        have p7 := hkZ.blk.cell 7
        simp [KSt.cells] at p6 p7
        rw [HvC.out] at p6
        rw [HvD.out] at p7
        have tC : ownA gC = (id, kt env 5) := hkZ.tC gC (by rw [HvC.out]; rfl)
        have tD : ownA gD = (id, kt env 6) := hkZ.tD gD (by rw [HvD.out]; rfl)
        have tb := hkZ.tm
        have kk : ∀ {x y p r : Nat}, ownA x = (id, kt env p) → ownA y = (id, kt env r) → p ≠ r → x ≠ y := fun h1 h2 hne e => by
          rw [e, h2] at h1
          simp only [Prod.mk.injEq, true_and] at h1
          exact kt_ne (Ne.symm hne) h1
        have n1 : b ≠ gC := kk tb tC (by omega)
        have n2 : gC ≠ b := kk tC tb (by omega)
        have n3 : b ≠ gD := kk tb tD (by omega)
        have n4 : gD ≠ b := kk tD tb (by omega)
        have n5 : gC ≠ gD := kk tC tD (by omega)
        have n6 : gD ≠ gC := kk tD tC (by omega)
        have hin : ∀ x t, ownA x = (id, t) → (own x).1 = id ∨ w.heap.size ≤ x := fun x t e => by
          rcases Nat.lt_or_ge x w.heap.size with h1 | h1
          · left; rw [← hoA x h1, e]
          · exact .inr h1
        have hvC' : vC = .slice (some ⟨gC, 0, none⟩) kZ.chg.length capC := by rw [HvC.out, HZC.out, lC]
        have hkm := fun x y => (((hkZ.setChg hvC' page x).below (Below.refl _ _).drew).setDty (by show vD = .slice _ kZ.dty.length _; rw [HvD.out, HZD.out, lD]) page y).below (Below.refl _ _).drew
        have hWm : ∀ (x y : Bool), ∀ z, z < wZ.heap.size → (∀ t, t < 16 → ownA z ≠ (id, kt env t)) → ((((wZ.setCell ⟨gC, page, none⟩ (.bool x)).drew).setCell ⟨gD, page, none⟩ (.bool y)).drew).heap[z]? = wZ.heap[z]? := fun x y z hz hne =>
          (Below.heap_setCell _ _ _ _ (fun e => hne 6 (by omega) (by simp at e; rw [e]; exact tD))).trans (Below.heap_setCell _ _ _ _ (fun e => hne 5 (by omega) (by simp at e; rw [e]; exact tC)))
        have hTm : ∀ (x y : Bool), Touch w.heap.size (fun x => (own x).1 = id) w ((((wZ.setCell ⟨gC, page, none⟩ (.bool x)).drew).setCell ⟨gD, page, none⟩ (.bool y)).drew) := fun x y => ((HTZ.out.setCell (hin gC _ tC) _).drew.setCell (hin gD _ tD) _).drew
        have hmk : Hid (markK kZ page true = { kZ with chg := kZ.chg.set page (c || true), dty := kZ.dty.set page (d || true) }) := by
          unfold Hid markK chgB dtyB
          rw [HZC.out, HZD.out, Hc.out, Hd.out]
          rfl
        have hRm := fun x y (e : (c || true) = x) (e2 : (d || true) = y) => hPutZ.out ownA _ (markK kZ page true) (fun _ _ => rfl) (hWm x y) (by rw [hmk.out, e, e2]; exact ⟨_, _, _, _, _, _, _, hkm x y⟩)
        have hPm : ∀ (x y : Bool), KPtr vK nk ((((wZ.setCell ⟨gC, page, none⟩ (.bool x)).drew).setCell ⟨gD, page, none⟩ (.bool y)).drew) env b := fun x y => hPZ.of hRZ.tK hRZ.rK.lt (fun z hz e => hWm x y z hz (fun t _ => by rw [e]; simp [kt]; omega))
        clear putZ hvz hkm hvC'
        cases c <;> cases d
        all_goals
          go_wp2_with fail
          go_region
          go_wp2_with fail
          go_region
          go_wp2_with fail
          go_ret
          refine ⟨ownA, vR1, vB1, bs1, _, hRm _ _ rfl rfl, hPm _ _, hoA, hTm _ _, .inr ⟨?_, rfl⟩⟩
          rw [HACC.out, HFIN.out]
    · have hq := (List.getElem?_eq_some_iff.1 he1).1
      have HEN : Hid (s1.slots[q]? = some en) := he1
      have he1' : (putK s1 env (useK k1 page true)).slots[q]? = some en := he1
      obtain ⟨gS', capS', hvS', -, f0, f1, f2, f3, f4, -⟩ := hR7.slot he1'
      rw [HvS.out] at hvS'
      have hgg : gS = gS' := by
        have h1 : Value.slice (some ⟨gS, 0, none⟩) s1.slots.length capS = Value.slice (some ⟨gS', 0, none⟩) s1.slots.length capS' := hvS'
        simp at h1
        exact h1.1
      have m5 := hR7.blk.cell 5
      simp at m5
      rw [HvS.out] at m5
      rw [← hgg] at f4
      have hq0 : (0 : Int) ≤ (q : Int) := by omega
      have hq1 : (q : Int) < (s1.slots.length : Int) := by omega
      rcases Bool.eq_false_or_eq_true en.wr with hwt | hwt
      · have hneed : needB s1 env page true = false := by unfold needB; rw [h0]; simp [he1, hwt]
        rw [h0]
        rw [hwt] at f4
        clear hvS' he1' he1 he2 hgg f0 f1 f2 f3
        have HN : Hid (needB s1 env page true = false) := hneed
        obtain ⟨wZ, hwZ⟩ : ∃ wZ : World, wZ = w7 := ⟨_, rfl⟩
        have hRZ : RefRep ownA id wZ m (putK s1 env (useK k1 page true)) nk vR1 vB1 vS vA vK bs1 := by rw [hwZ]; exact hR7
        have hkZ : KRep ownA id env wZ b (useK k1 page true) vB' (.slice (some ⟨g1, 0, none⟩) (k1.uses.length + 1) cap1) vI vY vC vD vO := by rw [hwZ]; exact hk7
        have hPZ : KPtr vK nk wZ env b := by rw [hwZ]; exact hP7
        have HTZ : Hid (Touch w.heap.size (fun x => (own x).1 = id) w wZ) := by rw [hwZ]; exact HT7
        have HFIN : Hid (touchS s1 k1 env page true = { (putK s1 env (useK k1 page true)) with kept := (putK s1 env (useK k1 page true)).kept.set env (some (markK (useK k1 page true) page true)) }) := by
          unfold Hid touchS
          rw [HN.out]
          show putK s1 env _ = _
          unfold putK
          simp only [List.set_set]
        have HOZ : Hid (keptO (putK s1 env (useK k1 page true)) env = some (useK k1 page true)) := keptO_putK HK1.out
        obtain ⟨kZ, hkz⟩ : ∃ kZ, useK k1 page true = kZ := ⟨_, rfl⟩
        have HZC : Hid (kZ.chg = k1.chg) := by unfold Hid; rw [← hkz]; rfl
        have HZD : Hid (kZ.dty = k1.dty) := by unfold Hid; rw [← hkz]; rfl
        obtain ⟨sZ, hsZ⟩ : ∃ sZ, putK s1 env (useK k1 page true) = sZ := ⟨_, rfl⟩
        rw [hsZ] at hRZ HFIN HOZ
        rw [hkz] at hkZ HFIN HOZ
        try rw [← hwZ] at f4 m5
        rw [← hwZ]
        clear hkz hsZ hwZ hR7 hk7 hP7 HT7 hb7 hneed
        have hOZ : keptO sZ env = some kZ := HOZ.out
        obtain ⟨gz, capz, bz, hvz, hgz, cz, -, putZ⟩ := hRZ.keptPut he hOZ
        obtain rfl : b = bz := hPZ.uniq ⟨gz, capz, hvz, cz⟩
        have hPutZ : Hid (∀ (own' : Nat → Nat × Nat) (W : World) (k' : KSt), (∀ x, x < wZ.heap.size → own' x = ownA x) → (∀ x, x < wZ.heap.size → (∀ t, t < 16 → ownA x ≠ (id, kt env t)) → W.heap[x]? = wZ.heap[x]?) → KAt own' id env W b k' → RefRep own' id W m { sZ with kept := sZ.kept.set env (some k') } nk vR1 vB1 vS vA vK bs1) := putZ
        have cC : wZ.cell? ⟨gC, page, none⟩ = some (.bool c) := by
          have h1 := hkZ.rC
          rw [HvC.out, HZC.out, lC] at h1
          rw [h1.cellK _ (by omega), List.getElem?_map, Hc.out]; rfl
        have zC : wZ.frozen? ⟨gC, page, none⟩ = false := by
          have h1 := hkZ.rC
          rw [HvC.out, HZC.out, lC] at h1
          exact World.ownsRow.frozenAt h1 page
        have cD : wZ.cell? ⟨gD, page, none⟩ = some (.bool d) := by
          have h1 := hkZ.rD
          rw [HvD.out, HZD.out, lD] at h1
          rw [h1.cellK _ (by omega), List.getElem?_map, Hd.out]; rfl
        have zD : wZ.frozen? ⟨gD, page, none⟩ = false := by
          have h1 := hkZ.rD
          rw [HvD.out, HZD.out, lD] at h1
          exact World.ownsRow.frozenAt h1 page
        have p6 := hkZ.blk.cell 6
        have p7 := hkZ.blk.cell 7
        simp [KSt.cells] at p6 p7
        rw [HvC.out] at p6
        rw [HvD.out] at p7
        have tC : ownA gC = (id, kt env 5) := hkZ.tC gC (by rw [HvC.out]; rfl)
        have tD : ownA gD = (id, kt env 6) := hkZ.tD gD (by rw [HvD.out]; rfl)
        have tb := hkZ.tm
        have kk : ∀ {x y p r : Nat}, ownA x = (id, kt env p) → ownA y = (id, kt env r) → p ≠ r → x ≠ y := fun h1 h2 hne e => by
          rw [e, h2] at h1
          simp only [Prod.mk.injEq, true_and] at h1
          exact kt_ne (Ne.symm hne) h1
        have n1 : b ≠ gC := kk tb tC (by omega)
        have n2 : gC ≠ b := kk tC tb (by omega)
        have n3 : b ≠ gD := kk tb tD (by omega)
        have n4 : gD ≠ b := kk tD tb (by omega)
        have n5 : gC ≠ gD := kk tC tD (by omega)
        have n6 : gD ≠ gC := kk tD tC (by omega)
        have hin : ∀ x t, ownA x = (id, t) → (own x).1 = id ∨ w.heap.size ≤ x := fun x t e => by
          rcases Nat.lt_or_ge x w.heap.size with h1 | h1
          · left; rw [← hoA x h1, e]
          · exact .inr h1
        have hvC' : vC = .slice (some ⟨gC, 0, none⟩) kZ.chg.length capC := by rw [HvC.out, HZC.out, lC]
        have hkm := fun x y => (((hkZ.setChg hvC' page x).below (Below.refl _ _).drew).setDty (by show vD = .slice _ kZ.dty.length _; rw [HvD.out, HZD.out, lD]) page y).below (Below.refl _ _).drew
        have hWm : ∀ (x y : Bool), ∀ z, z < wZ.heap.size → (∀ t, t < 16 → ownA z ≠ (id, kt env t)) → ((((wZ.setCell ⟨gC, page, none⟩ (.bool x)).drew).setCell ⟨gD, page, none⟩ (.bool y)).drew).heap[z]? = wZ.heap[z]? := fun x y z hz hne =>
          (Below.heap_setCell _ _ _ _ (fun e => hne 6 (by omega) (by simp at e; rw [e]; exact tD))).trans (Below.heap_setCell _ _ _ _ (fun e => hne 5 (by omega) (by simp at e; rw [e]; exact tC)))
        have hTm : ∀ (x y : Bool), Touch w.heap.size (fun x => (own x).1 = id) w ((((wZ.setCell ⟨gC, page, none⟩ (.bool x)).drew).setCell ⟨gD, page, none⟩ (.bool y)).drew) := fun x y => ((HTZ.out.setCell (hin gC _ tC) _).drew.setCell (hin gD _ tD) _).drew
        have hmk : Hid (markK kZ page true = { kZ with chg := kZ.chg.set page (c || true), dty := kZ.dty.set page (d || true) }) := by
          unfold Hid markK chgB dtyB
          rw [HZC.out, HZD.out, Hc.out, Hd.out]
          rfl
        have hRm := fun x y (e : (c || true) = x) (e2 : (d || true) = y) => hPutZ.out ownA _ (markK kZ page true) (fun _ _ => rfl) (hWm x y) (by rw [hmk.out, e, e2]; exact ⟨_, _, _, _, _, _, _, hkm x y⟩)
        have hPm : ∀ (x y : Bool), KPtr vK nk ((((wZ.setCell ⟨gC, page, none⟩ (.bool x)).drew).setCell ⟨gD, page, none⟩ (.bool y)).drew) env b := fun x y => hPZ.of hRZ.tK hRZ.rK.lt (fun z hz e => hWm x y z hz (fun t _ => by rw [e]; simp [kt]; omega))
        clear putZ hvz hkm hvC'
        cases c <;> cases d
        all_goals
          go_wp2_with fail
          go_region
          go_wp2_with fail
          go_region
          go_wp2_with fail
          go_ret
          refine ⟨ownA, vR1, vB1, bs1, _, hRm _ _ rfl rfl, hPm _ _, hoA, hTm _ _, .inr ⟨?_, rfl⟩⟩
          rw [HACC.out, HFIN.out]
      · have hneed : needB s1 env page true = true := by unfold needB; rw [h0]; simp [he1, hwt]
        have HN : Hid (needB s1 env page true = true) := hneed
        have HSF : Hid (slotFor (putK s1 env (useK k1 page true)) (entI s1 env page) = ((q : Int), putK s1 env (useK k1 page true))) := by
          unfold Hid slotFor
          rw [h0, if_pos (by omega)]
        rw [h0]
        rw [hwt] at f4
        clear hvS' he1' he1 he2 hgg f0 f1 f2 f3 hneed h0
        have p9 := hk7.blk.cell 9
        simp [KSt.cells, useK] at p9
        have z9 := hk7.blk.frozen 9
        have kB1 := hk7.setRefills (k1.refills + 1)
        have hO7 : keptO (putK s1 env (useK k1 page true)) env = some (useK k1 page true) := keptO_putK HK1.out
        obtain ⟨g7, cap7, b7, hv7, hg7, c7, -, put7⟩ := hR7.keptPut he hO7
        obtain rfl : b = b7 := hP7.uniq ⟨g7, cap7, hv7, c7⟩
        have hW9 : ∀ x, x < w7.heap.size → (∀ t, t < 16 → ownA x ≠ (id, kt env t)) → (w7.setCell ⟨b, 9, none⟩ (.int .i64 (k1.refills + 1))).heap[x]? = w7.heap[x]? := fun x hx hne => Below.heap_setCell _ _ _ _ (fun e => hne 0 (by omega) (by simp at e; rw [e]; exact hk7.tm))
        have hRB0 := put7 ownA _ _ (fun _ _ => rfl) hW9 ⟨_, _, _, _, _, _, _, kB1⟩
        have hPB := hP7.of hR7.tK hR7.rK.lt (fun x hx e => hW9 x hx (fun t _ => by rw [e]; simp [kt]; omega))
        have hinb : (own b).1 = id ∨ w.heap.size ≤ b := by
          rcases Nat.lt_or_ge b w.heap.size with h1 | h1
          · left; rw [← hoA b h1, hk7.tm]
          · exact .inr h1
        have HTB : Hid (Touch w.heap.size (fun x => (own x).1 = id) w (w7.setCell ⟨b, 9, none⟩ (.int .i64 (k1.refills + 1)))) := HT7.out.setCell hinb _
        obtain ⟨kB, hkB⟩ : ∃ kB : KSt, { useK k1 page true with refills := k1.refills + 1 } = kB := ⟨_, rfl⟩
        have hRB : RefRep ownA id (w7.setCell ⟨b, 9, none⟩ (.int .i64 (k1.refills + 1))) m (putK s1 env kB) nk vR1 vB1 vS vA vK bs1 := by
          have : putK s1 env kB = { (putK s1 env (useK k1 page true)) with kept := (putK s1 env (useK k1 page true)).kept.set env (some { useK k1 page true with refills := k1.refills + 1 }) } := by
            rw [hkB]; unfold putK; simp only [List.set_set]
          rw [this]; exact hRB0
        have hkBr : KRep ownA id env (w7.setCell ⟨b, 9, none⟩ (.int .i64 (k1.refills + 1))) b kB vB' (.slice (some ⟨g1, 0, none⟩) (k1.uses.length + 1) cap1) vI vY vC vD vO := by rw [← hkB]; exact kB1
        have HWC : Hid (kB.chg = k1.chg) := by unfold Hid; rw [← hkB]; rfl
        have HWD : Hid (kB.dty = k1.dty) := by unfold Hid; rw [← hkB]; rfl
        have HWY : Hid (kB.hnd = k1.hnd) := by unfold Hid; rw [← hkB]; rfl
        have nbm : b ≠ m := fun e => by have := hk7.tm; rw [e, hR7.tm] at this; simp [kt] at this; omega
        have nmb : m ≠ b := fun e => nbm e.symm
        clear put7 hv7 kB1 hRB0 hW9 hO7 c7 hg7
        have hwl : IntKind.i64.wrap ((s1.slots.length : Int) - 1) = (s1.slots.length : Int) - 1 := by rw [IntKind.wrap_i64]; omega
        have hwl0 : (0 : Int) ≤ (s1.slots.length : Int) - 1 := by omega
        go_wp2_with fail
        go_loopg [12, 14] 0 (fun n xi xs wr => xi = .int .i64 q ∧ xs = .int .i64 ((s1.slots.length : Int) - 1) ∧ Below (w7.setCell ⟨b, 9, none⟩ (.int .i64 (k1.refills + 1))).heap.size (w7.setCell ⟨b, 9, none⟩ (.int .i64 (k1.refills + 1))) wr)
        case atStart => exact ⟨rfl, by first | rfl | simp, Below.refl _ _⟩
        case round =>
          obtain ⟨rfl, rfl, hbl⟩ := hrel
          have hRW := hRB.below hbl
          have hkW := hkBr.below hbl
          have hPW : KPtr vK nk wr env b := hPB.of hRB.tK hRB.rK.lt (fun x hx _ => hbl.block x hx)
          have HTW : Hid (Touch w.heap.size (fun x => (own x).1 = id) w wr) := HTB.out.trans (Touch.of_below (hbl.mono HTB.out.size) _)
          obtain ⟨sX, hsX⟩ : ∃ sX : RSt, putK s1 env kB = sX := ⟨_, rfl⟩
          obtain ⟨wX, hwX⟩ : ∃ wX : World, wr = wX := ⟨_, rfl⟩
          have hwX' : Hid (wr = wX) := hwX
          have hRX : RefRep ownA id wX m sX nk vR1 vB1 vS vA vK bs1 := by rw [← hwX, ← hsX]; exact hRW
          have hkX : KRep ownA id env wX b kB vB' (.slice (some ⟨g1, 0, none⟩) (k1.uses.length + 1) cap1) vI vY vC vD vO := by rw [← hwX]; exact hkW
          have hPX : KPtr vK nk wX env b := by rw [← hwX]; exact hPW
          have HTX : Hid (Touch w.heap.size (fun x => (own x).1 = id) w wX) := by rw [← hwX]; exact HTW
          clear hwX
          have HFX : Hid (∀ x, (true || chgB k1 page) = x → touchS s1 k1 env page true = { ({ sX with slots := sX.slots.set q ⟨true, env, page, rr.fr, x⟩ } : RSt) with kept := sX.kept.set env (some (markK kB page true)) }) := by
            intro x hx
            unfold touchS
            rw [if_pos HN.out]
            unfold refillS
            rw [show entI (putK s1 env (useK k1 page true)) env page = entI s1 env page from rfl, HSF.out]
            simp only [Int.toNat_natCast]
            rw [show frameOf (putK s1 env (useK k1 page true)) (useK k1 page true) page = frameOf s1 k1 page from rfl, HFR.out, show chgB (useK k1 page true) page = chgB k1 page from rfl, hx, ← hsX, ← hkB]
            unfold putK
            simp only [List.set_set]
          have HXS : Hid (sX.slots = s1.slots) := by unfold Hid; rw [← hsX]; rfl
          have HXK : Hid (∀ x, keptO { sX with slots := sX.slots.set q ⟨true, env, page, rr.fr, x⟩ } env = some kB) := by intro x; rw [← hsX]; exact keptO_setK (l := s1.kept) rfl HK1.out
          obtain ⟨eo, heo⟩ : ∃ eo, s1.slots[q]? = some eo := ⟨s1.slots[q]'hq, by simp⟩
          have heo' : (putK s1 env kB).slots[q]? = some eo := heo
          obtain ⟨gS', capS', hvS', hgS, f0, f1, f2, f3, f4, hfzS⟩ := hRW.slot heo'
          rw [HvS.out] at hvS'
          have hgg : gS = gS' := by
            have h1 : Value.slice (some ⟨gS, 0, none⟩) s1.slots.length capS = Value.slice (some ⟨gS', 0, none⟩) s1.slots.length capS' := hvS'
            simp at h1
            exact h1.1
          rw [← hgg] at hgS f0 f1 f2 f3 f4 hfzS
          have zz0 := hfzS (q * 5)
          have zz1 := hfzS (q * 5 + 1)
          have zz2 := hfzS (q * 5 + 2)
          have zz3 := hfzS (q * 5 + 3)
          have zz4 := hfzS (q * 5 + 4)
          obtain ⟨gR, capR, hvR, hgR, r0, r1, r2, r3, -, -, -⟩ := hRW.right (show (putK s1 env kB).rights[jr]? = some rr from Hrr.out)
          have m3 := hRW.blk.cell 3
          have m5 := hRW.blk.cell 5
          simp at m3 m5
          rw [hvR] at m3
          rw [HvS.out] at m5
          have m3' : wr.cell? ⟨m, 3, none⟩ = some (.slice (some ⟨gR, 0, none⟩) s1.rights.length capR) := m3
          clear m3
          have cY : wr.cell? ⟨gY, page, none⟩ = some (.int .i64 ((jr : Int) + 1)) := by
            have h1 := hkW.rY
            rw [HvY.out, HWY.out, lY] at h1
            rw [h1.cellK _ (by omega), List.getElem?_map, HY.out]; rfl
          have p5 := hkW.blk.cell 5
          have p6x := hkW.blk.cell 6
          simp [KSt.cells] at p5 p6x
          rw [HvY.out] at p5
          rw [HvC.out] at p6x
          have cCx : wr.cell? ⟨gC, page, none⟩ = some (.bool c) := by
            have h1 := hkW.rC
            rw [HvC.out, HWC.out, lC] at h1
            rw [h1.cellK _ (by omega), List.getElem?_map, Hc.out]; rfl
          have hjl : jr < s1.rights.length := (List.getElem?_eq_some_iff.1 Hrr.out).1
          have hjw : IntKind.i64.wrap ((jr : Int) + 1 - 1) = (jr : Int) := by rw [IntKind.wrap_i64]; omega
          have hj0 : (0 : Int) ≤ (jr : Int) := by omega
          have hj1 : (jr : Int) < (s1.rights.length : Int) := by omega
          have hq0 : (0 : Int) ≤ (q : Int) := by omega
          have hq1 : (q : Int) < (s1.slots.length : Int) := by omega
          have hst := hRX.setS (g := gS) (cap := capS) (by rw [HvS.out, HXS.out]) q (by rw [HXS.out]; exact hq) ⟨true, env, page, rr.fr, true⟩
          have tS : ownA gS = (id, 3) := hgS
          have hWs : ∀ x, x < wX.heap.size → ownA x ≠ (id, 3) → (((((wX.setCell ⟨gS, q * 5, none⟩ (.bool true)).setCell ⟨gS, q * 5 + 1, none⟩ (.int .i64 env)).setCell ⟨gS, q * 5 + 2, none⟩ (.int .i64 page)).setCell ⟨gS, q * 5 + 3, none⟩ (.int .i64 rr.fr)).setCell ⟨gS, q * 5 + 4, none⟩ (.bool true)).heap[x]? = wX.heap[x]? := fun x _ hn => by
            have hn' : x ≠ gS := fun e => hn (by rw [e]; exact tS)
            rw [Below.heap_setCell _ _ _ _ hn', Below.heap_setCell _ _ _ _ hn', Below.heap_setCell _ _ _ _ hn', Below.heap_setCell _ _ _ _ hn', Below.heap_setCell _ _ _ _ hn']
          have hks := hkX.keep (W := ((((wX.setCell ⟨gS, q * 5, none⟩ (.bool true)).setCell ⟨gS, q * 5 + 1, none⟩ (.int .i64 env)).setCell ⟨gS, q * 5 + 2, none⟩ (.int .i64 page)).setCell ⟨gS, q * 5 + 3, none⟩ (.int .i64 rr.fr)).setCell ⟨gS, q * 5 + 4, none⟩ (.bool true)) (fun x hx t _ e => hWs x hx (by rw [e]; simp [kt]; omega))
          have hPs0 := hPX.of hRX.tK hRX.rK.lt (fun x hx e => hWs x hx (by rw [e]; simp))
          have hinS : (own gS).1 = id ∨ w.heap.size ≤ gS := by
            rcases Nat.lt_or_ge gS w.heap.size with h1 | h1
            · left; rw [← hoA gS h1, tS]
            · exact .inr h1
          have hTs := ((((HTX.out.setCell (p := ⟨gS, q * 5, none⟩) hinS (.bool true)).setCell (p := ⟨gS, q * 5 + 1, none⟩) hinS (.int .i64 env)).setCell (p := ⟨gS, q * 5 + 2, none⟩) hinS (.int .i64 page)).setCell (p := ⟨gS, q * 5 + 3, none⟩) hinS (.int .i64 rr.fr)).setCell (p := ⟨gS, q * 5 + 4, none⟩) hinS (.bool true)
          have tag : ∀ {x y : Nat} {p r : Nat}, ownA x = (id, p) → ownA y = (id, r) → p ≠ r → x ≠ y := fun h1 h2 hne e => by
            rw [e, h2] at h1
            simp only [Prod.mk.injEq, true_and] at h1
            exact hne h1.symm
          have tbW := hkW.tm
          have tCW : ownA gC = (id, kt env 5) := hkW.tC gC (by rw [HvC.out]; rfl)
          have tDW : ownA gD = (id, kt env 6) := hkW.tD gD (by rw [HvD.out]; rfl)
          have tYW : ownA gY = (id, kt env 4) := hkW.tY gY (by rw [HvY.out]; rfl)
          have tmW := hRW.tm
          have k3 : ∀ t, kt env t ≠ 3 := fun t => by unfold kt; omega
          have k0 : ∀ t, kt env t ≠ 0 := fun t => by unfold kt; omega
          have e1 : b ≠ gS := tag tbW tS (k3 _)
          have e2 : gS ≠ b := fun e => e1 e.symm
          have e3 : gC ≠ gS := tag tCW tS (k3 _)
          have e4 : gS ≠ gC := fun e => e3 e.symm
          have e5 : gD ≠ gS := tag tDW tS (k3 _)
          have e6 : gS ≠ gD := fun e => e5 e.symm
          have e7 : m ≠ gS := tag tmW tS (by omega)
          have e8 : gS ≠ m := fun e => e7 e.symm
          have e9 : b ≠ m := tag tbW tmW (k0 _)
          have e10 : m ≠ b := fun e => e9 e.symm
          have e11 : gC ≠ m := tag tCW tmW (k0 _)
          have e12 : m ≠ gC := fun e => e11 e.symm
          have e13 : gD ≠ m := tag tDW tmW (k0 _)
          have e14 : m ≠ gD := fun e => e13 e.symm
          have e15 : gY ≠ m := tag tYW tmW (k0 _)
          have e16 : m ≠ gY := fun e => e15 e.symm
          have e17 : gR ≠ m := tag hgR tmW (by omega)
          have e18 : m ≠ gR := fun e => e17 e.symm
          have hFIN2 := HFX.out true (by rw [show chgB k1 page = c by unfold chgB; rw [Hc.out]; rfl]; simp)
          clear heo heo' hvR hvS' hgg hfzS
          obtain ⟨wZ, hwZ⟩ : ∃ wZ : World, (((((wX.setCell ⟨gS, q * 5, none⟩ (.bool true)).setCell ⟨gS, q * 5 + 1, none⟩ (.int .i64 env)).setCell ⟨gS, q * 5 + 2, none⟩ (.int .i64 page)).setCell ⟨gS, q * 5 + 3, none⟩ (.int .i64 rr.fr)).setCell ⟨gS, q * 5 + 4, none⟩ (.bool true)).drew.drew = wZ := ⟨_, rfl⟩
          have hst := hst.below (Below.refl _ _).drew.drew
          have hks := hks.below (Below.refl _ _).drew.drew
          have hTs := hTs.drew.drew
          rw [hwZ] at hst hks hTs
          have hPs := hPs0.drew.drew
          rw [hwZ] at hPs
          have hRZ0 := hst
          have hkZ := hks
          have hPZ := hPs
          have HTZ : Hid (Touch w.heap.size (fun x => (own x).1 = id) w wZ) := hTs
          obtain ⟨kZ, hkz⟩ : ∃ kZ, kB = kZ := ⟨_, rfl⟩
          obtain ⟨sZ, hsZ⟩ : ∃ sZ : RSt, { sX with slots := sX.slots.set q ⟨true, env, page, rr.fr, true⟩ } = sZ := ⟨_, rfl⟩
          have HOZ : Hid (keptO sZ env = some kZ) := by rw [← hsZ, ← hkz]; exact HXK.out _
          have HFIN : Hid (touchS s1 k1 env page true = { sZ with kept := sZ.kept.set env (some (markK kZ page true)) }) := by rw [← hsZ, ← hkz]; exact hFIN2
          have HZC : Hid (kZ.chg = k1.chg) := by rw [← hkz]; exact HWC.out
          have HZD : Hid (kZ.dty = k1.dty) := by rw [← hkz]; exact HWD.out
          rw [hsZ] at hRZ0
          have hRZ := hRZ0
          rw [hkz] at hkZ
          have hwZ' : Hid ((((((wX.setCell ⟨gS, q * 5, none⟩ (.bool true)).setCell ⟨gS, q * 5 + 1, none⟩ (.int .i64 env)).setCell ⟨gS, q * 5 + 2, none⟩ (.int .i64 page)).setCell ⟨gS, q * 5 + 3, none⟩ (.int .i64 rr.fr)).setCell ⟨gS, q * 5 + 4, none⟩ (.bool true)).drew.drew = wZ) := hwZ
          clear hst hks hPs hTs hkz hsZ hFIN2 hWs hRZ0 hwZ
          go_wp2_with fail
          go_big_region
          go_wp2_with fail
          go_big_region
          rw [hwX'.out, hwZ'.out]
          clear hRW hkW hPW HTW hRX hkX hPX HTX hwX' hwZ'
          have hOZ : keptO sZ env = some kZ := HOZ.out
          obtain ⟨gz, capz, bz, hvz, hgz, cz, -, putZ⟩ := hRZ.keptPut he hOZ
          obtain rfl : b = bz := hPZ.uniq ⟨gz, capz, hvz, cz⟩
          have hPutZ : Hid (∀ (own' : Nat → Nat × Nat) (W : World) (k' : KSt), (∀ x, x < wZ.heap.size → own' x = ownA x) → (∀ x, x < wZ.heap.size → (∀ t, t < 16 → ownA x ≠ (id, kt env t)) → W.heap[x]? = wZ.heap[x]?) → KAt own' id env W b k' → RefRep own' id W m { sZ with kept := sZ.kept.set env (some k') } nk vR1 vB1 vS vA vK bs1) := putZ
          have cC : wZ.cell? ⟨gC, page, none⟩ = some (.bool c) := by
            have h1 := hkZ.rC
            rw [HvC.out, HZC.out, lC] at h1
            rw [h1.cellK _ (by omega), List.getElem?_map, Hc.out]; rfl
          have zC : wZ.frozen? ⟨gC, page, none⟩ = false := by
            have h1 := hkZ.rC
            rw [HvC.out, HZC.out, lC] at h1
            exact World.ownsRow.frozenAt h1 page
          have cD : wZ.cell? ⟨gD, page, none⟩ = some (.bool d) := by
            have h1 := hkZ.rD
            rw [HvD.out, HZD.out, lD] at h1
            rw [h1.cellK _ (by omega), List.getElem?_map, Hd.out]; rfl
          have zD : wZ.frozen? ⟨gD, page, none⟩ = false := by
            have h1 := hkZ.rD
            rw [HvD.out, HZD.out, lD] at h1
            exact World.ownsRow.frozenAt h1 page
          have p6 := hkZ.blk.cell 6
          have p7 := hkZ.blk.cell 7
          simp [KSt.cells] at p6 p7
          rw [HvC.out] at p6
          rw [HvD.out] at p7
          have tC : ownA gC = (id, kt env 5) := hkZ.tC gC (by rw [HvC.out]; rfl)
          have tD : ownA gD = (id, kt env 6) := hkZ.tD gD (by rw [HvD.out]; rfl)
          have tb := hkZ.tm
          have kk : ∀ {x y p r : Nat}, ownA x = (id, kt env p) → ownA y = (id, kt env r) → p ≠ r → x ≠ y := fun h1 h2 hne e => by
            rw [e, h2] at h1
            simp only [Prod.mk.injEq, true_and] at h1
            exact kt_ne (Ne.symm hne) h1
          have n1 : b ≠ gC := kk tb tC (by omega)
          have n2 : gC ≠ b := kk tC tb (by omega)
          have n3 : b ≠ gD := kk tb tD (by omega)
          have n4 : gD ≠ b := kk tD tb (by omega)
          have n5 : gC ≠ gD := kk tC tD (by omega)
          have n6 : gD ≠ gC := kk tD tC (by omega)
          have hin : ∀ x t, ownA x = (id, t) → (own x).1 = id ∨ w.heap.size ≤ x := fun x t e => by
            rcases Nat.lt_or_ge x w.heap.size with h1 | h1
            · left; rw [← hoA x h1, e]
            · exact .inr h1
          have hvC' : vC = .slice (some ⟨gC, 0, none⟩) kZ.chg.length capC := by rw [HvC.out, HZC.out, lC]
          have hkm := fun x y => (((hkZ.setChg hvC' page x).below (Below.refl _ _).drew).setDty (by show vD = .slice _ kZ.dty.length _; rw [HvD.out, HZD.out, lD]) page y).below (Below.refl _ _).drew
          have hWm : ∀ (x y : Bool), ∀ z, z < wZ.heap.size → (∀ t, t < 16 → ownA z ≠ (id, kt env t)) → ((((wZ.setCell ⟨gC, page, none⟩ (.bool x)).drew).setCell ⟨gD, page, none⟩ (.bool y)).drew).heap[z]? = wZ.heap[z]? := fun x y z hz hne =>
            (Below.heap_setCell _ _ _ _ (fun e => hne 6 (by omega) (by simp at e; rw [e]; exact tD))).trans (Below.heap_setCell _ _ _ _ (fun e => hne 5 (by omega) (by simp at e; rw [e]; exact tC)))
          have hTm : ∀ (x y : Bool), Touch w.heap.size (fun x => (own x).1 = id) w ((((wZ.setCell ⟨gC, page, none⟩ (.bool x)).drew).setCell ⟨gD, page, none⟩ (.bool y)).drew) := fun x y => ((HTZ.out.setCell (hin gC _ tC) _).drew.setCell (hin gD _ tD) _).drew
          have hmk : Hid (markK kZ page true = { kZ with chg := kZ.chg.set page (c || true), dty := kZ.dty.set page (d || true) }) := by
            unfold Hid markK chgB dtyB
            rw [HZC.out, HZD.out, Hc.out, Hd.out]
            rfl
          have hRm := fun x y (e : (c || true) = x) (e2 : (d || true) = y) => hPutZ.out ownA _ (markK kZ page true) (fun _ _ => rfl) (hWm x y) (by rw [hmk.out, e, e2]; exact ⟨_, _, _, _, _, _, _, hkm x y⟩)
          have hPm : ∀ (x y : Bool), KPtr vK nk ((((wZ.setCell ⟨gC, page, none⟩ (.bool x)).drew).setCell ⟨gD, page, none⟩ (.bool y)).drew) env b := fun x y => hPZ.of hRZ.tK hRZ.rK.lt (fun z hz e => hWm x y z hz (fun t _ => by rw [e]; simp [kt]; omega))
          clear putZ hvz hkm hvC'
          cases c <;> cases d
          all_goals
            go_wp2_with fail
            go_region
            go_wp2_with fail
            go_region
            go_wp2_with fail
            go_ret
            refine ⟨ownA, vR1, vB1, bs1, _, hRm _ _ rfl rfl, hPm _ _, hoA, hTm _ _, .inr ⟨?_, rfl⟩⟩
            rw [HACC.out, HFIN.out]
end
end Go.Proofs.YtinlkcmdbjcofaaGreat
