import Derived.Test.YtnolplmpanbmhabM08
/-
  'Fresh' itself.
-/
namespace Go.Proofs.Ytnolplmpanbmhab
open Go.RowKit
set_option linter.unusedVariables false
attribute [local go_sem ↓] Go.wp_at_zero Go.wp_at_succ

set_option maxHeartbeats 4000000 in
set_option maxRecDepth 100000 in
theorem freshlaw_any {M : MT} (P : Api M) (x y z : Int) (hx0 : -9223372036854775808 ≤ x) (hx1 : x ≤ 9223372036854775807) (hy0 : -9223372036854775808 ≤ y) (hy1 : y ≤ 9223372036854775807) (hz0 : -9223372036854775808 ≤ z) (hz1 : z ≤ 9223372036854775807)
    (ao : Option Addr) (len cap : Nat) (w : World) (ops : List LStep) (hl : ops.length = len) (hok : ∀ (i : Nat) (o : LStep), ops[i]? = some o → o.i64) (hsz : (len + 4) * 48 ≤ 140737488355328)
    (ho : (len = 0) ∨ ∃ b off, ao = some ⟨b, off, none⟩ ∧ b < w.heap.size ∧ ∀ (i : Nat) (o : LStep), ops[i]? = some o → ∀ (j : Nat) (v : Value), o.cells[j]? = some v → w.cell? ⟨b, off + i * 6 + j, none⟩ = some v) :
    Calls Try.prog 3 #[.agg #[.int .i64 x, .int .i64 y, .int .i64 z], .slice ao len cap] w fun e w' => e = .returned (.bool true) ∧ Below w.heap.size w w' := by
  have HX : Hid ((len = 0) ∨ ∃ b off, ao = some ⟨b, off, none⟩ ∧ b < w.heap.size ∧ ∀ (i : Nat) (o : LStep), ops[i]? = some o → ∀ (j : Nat) (v : Value), o.cells[j]? = some v → w.cell? ⟨b, off + i * 6 + j, none⟩ = some v) := ho
  have HL : Hid (ops.length = len) := hl
  have HO : Hid (∀ (i : Nat) (o : LStep), ops[i]? = some o → o.i64) := hok
  clear ho hl hok
  go_enter Try.func3, Try.ntmps3
  go_wp2_with fail
  refine (built_any P x y z hx0 hx1 hy0 hy1 hz0 hz1 _).mono ?_
  rintro e w1 ⟨m, f, rfl, hb1, hm1⟩
  have hbx := (Blk.new w [.int .i64 x, .int .i64 y, .int .i64 z] 23).below hb1 (by simp)
  have e0 := hbx.cell 0
  have e1 := hbx.cell 1
  have e2 := hbx.cell 2
  simp at e0 e1 e2
  have hs1 : w.heap.size < w1.heap.size := hbx.lt
  have hbw1 : Below w.heap.size w w1 := ((Below.refl _ _).alloc (Nat.le_refl _) _).trans (hb1.mono (by simp))
  have hmm : NewF M w w1 m f (RSt.fresh (cfA x) (cfB y) (cfC z)) := hm1.low (by simp)
  clear hb1 hm1
  go_wp2_with fail
  refine (config_any x y z hx0 hx1 hy0 hy1 hz0 hz1 _).mono ?_
  rintro e w2 ⟨rfl, hb2⟩
  have la := cfA_le x
  have lb := cfB_le y
  have lc := cfC_le z
  have la1 : 1 ≤ cfA x := by unfold cfA; omega
  have lb1 : 1 ≤ cfB y := by unfold cfB; omega
  have lc1 : 2 ≤ cfC z := by unfold cfC; omega
  obtain ⟨fa, hfa⟩ : ∃ v, cfA x = v := ⟨_, rfl⟩
  obtain ⟨fb, hfb⟩ : ∃ v, cfB y = v := ⟨_, rfl⟩
  obtain ⟨fc, hfc⟩ : ∃ v, cfC z = v := ⟨_, rfl⟩
  rw [hfa, hfb, hfc]
  rw [hfa] at la la1 hmm
  rw [hfb] at lb lb1 hmm
  rw [hfc] at lc lc1 hmm
  clear hfa hfb hfc hbx e0 e1 e2
  have hs2 := hb2.size
  have hbw2 : Below w.heap.size w w2 := hbw1.trans (hb2.mono (by omega))
  obtain ⟨own0, hst0⟩ := St.fresh (NewF.of P hmm (fun k _ h2 => hb2.block k h2) hs2) hbw2 la lb lc
  clear hmm hb2 hbw1
  have hal : ∀ env : Nat, env < fc → (allocR (RSt.fresh fa fb fc) env).1.2 = 0 := fun env he => by
    obtain ⟨s1, ha1, -⟩ := fresh_alloc (b := fb) la1 (env := (env : Int)) (by omega) (show (env : Int) < (fc : Int) by omega)
    rw [ha1]
  have hns0 : (RSt.fresh fa fb fc).ns = fb := rfl
  obtain ⟨s0, hs0⟩ : ∃ s0, RSt.fresh fa fb fc = s0 := ⟨_, rfl⟩
  rw [hs0] at hal hst0 hns0
  clear hs0
  have hba : Below w2.heap.size w2 (w2.alloc (.cells #[.int .i64 fa, .int .i64 fb, .int .i64 fc] 27)) := (Below.refl _ _).alloc (Nat.le_refl _) _
  have hcx := Blk.new w2 [.int .i64 fa, .int .i64 fb, .int .i64 fc] 27
  have ht0 := hst0.top w2.heap.size (Nat.le_refl _)
  obtain ⟨cB, hcB⟩ : ∃ cB, w2.heap.size = cB := ⟨_, rfl⟩
  have hst := hst0.below P hba
  go_wp2_with fail
  have HF : Hid (∀ j : Nat, j ≤ len → (j + 3) * 48 ≤ 140737488355328) := fun j hj => by omega
  have HF2 : Hid (∀ j : Nat, j ≤ len → (j + 2) * 48 ≤ 140737488355328) := fun j hj => by omega
  have io0 : LStep.i64 ⟨0, 0, 0, 0, 0, false⟩ := ⟨⟨by decide, by decide⟩, ⟨by decide, by decide⟩, ⟨by decide, by decide⟩, ⟨by decide, by decide⟩⟩
  refine (fresh_any P hst (HF.out 0 (Nat.zero_le _)) ⟨0, 0, 0, 0, 0, false⟩ io0 fa fb fc lb1 lb lc lc1 hns0 true (fun _ => hal)).mono ?_
  rintro e w3 ⟨rfl, s1, hn1, own3, hst3, ho3, hk3, hs3⟩
  have hc3 : Blk w3 cB [.int .i64 fa, .int .i64 fb, .int .i64 fc] 27 := by rw [← hcB]; exact hcx.of (hk3 _ hcx.lt (by rw [ht0]; omega))
  have ht3 : (own3 cB).1 = 0 := by rw [← hcB, ho3 _ hcx.lt]; exact ht0
  have hnsf : s1.ns = fb := by rw [hn1, hns0]
  clear hal hn1 hst hst0 ho3 hk3 hcx ht0 hba hs3
  go_wp2_with fail
  go_loopg [7, 8] len (fun k ok y wr => ∃ (r : Nat) (own : Nat → Nat × Nat) (s : RSt), ok = .bool true ∧ y = .int .i64 r ∧ r + k = len ∧ St M w m (r + 1) own s wr ∧ Blk wr cB [.int .i64 fa, .int .i64 fb, .int .i64 fc] 27 ∧ (own cB).1 = 0 ∧ s.ns = fb)
  case atStart => exact ⟨0, own3, s1, rfl, rfl, by omega, hst3, hc3, ht3, hnsf⟩
  case round =>
    clear hst3 hc3 ht3 hnsf
    obtain ⟨r, own, s, rfl, rfl, hk, hst, hc, ht, hns⟩ := hrel
    have HK : Hid (r + gk = len) := hk
    have hr : r ≤ len := by omega
    clear hk
    have k0 := hc.cell 0
    have k1 := hc.cell 1
    have k2 := hc.cell 2
    simp at k0 k1 k2
    by_cases hlt : r < len
    · obtain ⟨o, ho⟩ : ∃ o, ops[r]? = some o := ⟨ops[r]'(by rw [HL.out]; exact hlt), by simp⟩
      have hoi := HO.out r o ho
      rcases HX.out with h0 | ⟨bS, off, rfl, hbS, hcS⟩
      · omega
      have hfew := HF.out (r + 1) (by omega)
      have hfew2 := HF2.out (r + 1) (by omega)
      have hbl := hst.bel
      have hy : ∀ (j : Nat) (v : Value), o.cells[j]? = some v → wr.cell? ⟨bS, off + r * 6 + j, none⟩ = some v := fun j v hv => (hbl.cell (p := ⟨bS, off + r * 6 + j, none⟩) hbS).trans (hcS r o ho j v hv)
      have c0 := hy 0 _ rfl
      have c1 := hy 1 _ rfl
      have c2 := hy 2 _ rfl
      have c3 := hy 3 _ rfl
      have c4 := hy 4 _ rfl
      have c5 := hy 5 _ rfl
      simp only [Nat.add_zero] at c0
      have HW : Hid (∀ (j : Nat) (v : Value), o.cells[j]? = some v → w.cell? ⟨bS, off + r * 6 + j, none⟩ = some v) := hcS r o ho
      clear hy hcS ho
      have hr0 : (0 : Int) ≤ (r : Int) := by omega
      have hr1 : (r : Int) < (len : Int) := by omega
      have hstd := hst.below P (Below.refl _ _).drew
      have hcd := hc.drew
      by_cases hK : 13 ≤ o.K
      · go_wp2_with fail
        go_region_held3 (fun w' => w'.cell? ⟨bS, off + r * 6, none⟩ = some (.int .i64 o.K) ∧ w'.cell? ⟨bS, off + r * 6 + 1, none⟩ = some (.int .i64 o.V) ∧ w'.cell? ⟨bS, off + r * 6 + 2, none⟩ = some (.int .i64 o.A) ∧ w'.cell? ⟨bS, off + r * 6 + 3, none⟩ = some (.int .i64 o.B) ∧ w'.cell? ⟨bS, off + r * 6 + 4, none⟩ = some (.int .i64 o.C) ∧ w'.cell? ⟨bS, off + r * 6 + 5, none⟩ = some (.bool o.F) ∧ w'.cell? ⟨cB, 0, none⟩ = some (.int .i64 fa) ∧ w'.cell? ⟨cB, 1, none⟩ = some (.int .i64 fb) ∧ w'.cell? ⟨cB, 2, none⟩ = some (.int .i64 fc)) (go_keep)
          ((first
            | (go_at_call 8; refine (fresh_any P hstd hfew o hoi fa fb fc lb1 lb lc lc1 hns false (fun h => by simp at h)).mono ?_; rintro e w7 ⟨rfl, s3, hns3, own7, hst7, ho7, hk7, hs7⟩
               have hc7 : Blk w7 cB [.int .i64 fa, .int .i64 fb, .int .i64 fc] 27 := hcd.of (hk7 _ hcd.lt (by rw [ht]; omega))
               have g0 := hc7.cell 0
               have g1 := hc7.cell 1
               have g2 := hc7.cell 2
               simp at g0 g1 g2
               have hv : ∀ (j : Nat) (v : Value), o.cells[j]? = some v → w7.cell? ⟨bS, off + r * 6 + j, none⟩ = some v := fun j v hv => (hst7.bel.cell (p := ⟨bS, off + r * 6 + j, none⟩) hbS).trans (HW.out j v hv)
               have v0 := hv 0 _ rfl
               have v1 := hv 1 _ rfl
               have v2 := hv 2 _ rfl
               have v3 := hv 3 _ rfl
               have v4 := hv 4 _ rfl
               have v5 := hv 5 _ rfl
               simp only [Nat.add_zero] at v0
               clear hv)))
        have ht7 : (own7 cB).1 = 0 := by rw [ho7 _ hcd.lt]; exact ht
        have hn7 : s3.ns = fb := by rw [hns3, hns]
        go_wp2_with fail
        go_roundg (gk - 1)
        case measure => have := HK.out; omega
        case rel => exact ⟨r + 1, own7, s3, rfl, by go_num, by have := HK.out; omega, hst7, hc7, ht7, hn7⟩
      · go_wp2_with fail
        go_region_held3 (fun w' => w'.cell? ⟨bS, off + r * 6, none⟩ = some (.int .i64 o.K) ∧ w'.cell? ⟨bS, off + r * 6 + 1, none⟩ = some (.int .i64 o.V) ∧ w'.cell? ⟨bS, off + r * 6 + 2, none⟩ = some (.int .i64 o.A) ∧ w'.cell? ⟨bS, off + r * 6 + 3, none⟩ = some (.int .i64 o.B) ∧ w'.cell? ⟨bS, off + r * 6 + 4, none⟩ = some (.int .i64 o.C) ∧ w'.cell? ⟨bS, off + r * 6 + 5, none⟩ = some (.bool o.F) ∧ w'.cell? ⟨cB, 0, none⟩ = some (.int .i64 fa) ∧ w'.cell? ⟨cB, 1, none⟩ = some (.int .i64 fb) ∧ w'.cell? ⟨cB, 2, none⟩ = some (.int .i64 fc)) (go_keep)
          ((first
            | (go_at_call 9; refine (any2_any P hstd hfew2 o hoi fa fb fc lb lc lc1).mono ?_; rintro e w7 ⟨rfl, s3, hns3, own7, hst7, ho7, hk7, hs7⟩
               have hc7 : Blk w7 cB [.int .i64 fa, .int .i64 fb, .int .i64 fc] 27 := hcd.of (hk7 _ hcd.lt (by rw [ht]; omega))
               have g0 := hc7.cell 0
               have g1 := hc7.cell 1
               have g2 := hc7.cell 2
               simp at g0 g1 g2
               have hv : ∀ (j : Nat) (v : Value), o.cells[j]? = some v → w7.cell? ⟨bS, off + r * 6 + j, none⟩ = some v := fun j v hv => (hst7.bel.cell (p := ⟨bS, off + r * 6 + j, none⟩) hbS).trans (HW.out j v hv)
               have v0 := hv 0 _ rfl
               have v1 := hv 1 _ rfl
               have v2 := hv 2 _ rfl
               have v3 := hv 3 _ rfl
               have v4 := hv 4 _ rfl
               have v5 := hv 5 _ rfl
               simp only [Nat.add_zero] at v0
               clear hv)))
        have ht7 : (own7 cB).1 = 0 := by rw [ho7 _ hcd.lt]; exact ht
        have hn7 : s3.ns = fb := by
          have g1 := hns3.grows.2.2.2.2.1
          have g2 := hst7.hok.ns
          have g3 := hst.hok.ns
          omega
        go_wp2_with fail
        go_roundg (gk - 1)
        case measure => have := HK.out; omega
        case rel => exact ⟨r + 1, own7, s3, rfl, by go_num, by have := HK.out; omega, hst7, hc7, ht7, hn7⟩
    · go_wp2_with fail
      go_ret
      exact ⟨rfl, hst.bel⟩
end Go.Proofs.Ytnolplmpanbmhab

namespace Go.Proofs.Ytnolplmpanbmhab.fresh
open Go.ChangeShapes Go.WideShapes Go.ChangeAt Go.RowKit
set_option linter.unusedVariables false

set_option maxRecDepth 100000 in
theorem lifted (os : Os) (started : os.Started) (H : Type) (enc : TypeId × Value → H) :
    ReturnsInHanded {} Try.checked os 3 .any (Rows.freshSpec.pre6 enc Try.prog Try.f3 Rows.freshRow.domain false) (Rows.freshSpec.post enc Try.prog Try.f3 false true false false) := by
  refine returnsInHanded_of_change_sized (C := Try.checked) Try.own started (by kernel_rfl) Try.func3
    (ChangeSpec.witness6 (enc := enc) (C := Try.checked) false ⟨#[], #[.agg #[.int .i64 0, .int .i64 0, .int .i64 0], .slice none 0 0], []⟩ 8 (by kernel_rfl) (by kernel_rfl) (by kernel_rfl) (by kernel_rfl)) ?_
  intro W base args ds gs before hval0 hW hcnd hsz _
  have hval : ∀ (j : Nat) t v, Try.f3.params[j]? = some t → args[j]? = some v → Value.okWide Try.prog W .any base t v := hval0
  have hW' := hW
  obtain ⟨p, q, hA0, hV, rfl, hfz, hnd⟩ := hW
  have hA : DataW.TrodAll enc Try.prog W 0 (fun _ => true) true Try.f3.params.toList args.toList ds p := hA0
  rw [Try.params3] at hA hval
  obtain ⟨v0, vs0, d0, ds0, p0, q0, hargs, rfl, rfl, h0, r0⟩ := trodAll_cons hA
  obtain ⟨v1, vs1, d1, ds1, p1, q1, hargs1, rfl, rfl, h1, r1⟩ := trodAll_cons r0
  obtain ⟨rfl, rfl, rfl⟩ := trodAll_nil r1
  obtain rfl : args = #[v0, v1] := by cases args; simp_all
  obtain ⟨rfl, rfl⟩ := trodVars_none hV
  obtain ⟨cs0, rfl, hcs⟩ := okWide_struct Try.underlying23 (hval 0 23 v0 rfl rfl)
  obtain ⟨a0, len0, cap0, rfl⟩ := okWide_slice Try.underlying24 (hval 1 24 v1 rfl rfl)
  have k0 := h0
  have k1 := h1
  have lt1 : ∀ x ∈ p1, x.block < W.heap.size := by obtain ⟨m, hm⟩ := k1; exact DataW.trod_lt m _ _ _ hm
  have lt0 : ∀ x ∈ p0, x.block < W.heap.size := by obtain ⟨m, hm⟩ := k0; exact DataW.trod_lt m _ _ _ hm
  obtain ⟨fuel0, hf0⟩ := h0
  obtain ⟨x, y, z, hxyz, ix, iy, iz⟩ := open_size hf0
  obtain rfl : cs0 = #[.int .i64 x, .int .i64 y, .int .i64 z] := by
    have : cs0.toList = [.int .i64 x, .int .i64 y, .int .i64 z] := hxyz
    rw [← Array.toArray_toList (xs := cs0), this]
  obtain ⟨fuel, hf⟩ := h1
  obtain ⟨ops, hl, hops, hdat, hok⟩ := open_steps (by simpa [Value.cells] using hf)
  have hb16 : (len0 + 4) * 48 ≤ 140737488355328 := by
    rcases hdat with h | ⟨elems, spare, hd, he⟩
    · subst h; omega
    · simp only at hd
      subst hd
      have : (elems.length + spare.length) * Try.prog.bytesOf 31 ≤ reachBytes := sized_slice hsz (j := 1) (t := 24) (e := 31) rfl rfl Try.underlying24
      rw [Try.bytesStep] at this
      simp only [reachBytes] at this
      omega
  clear hA0 hval0
  refine (freshlaw_any api x y z ix.1 ix.2 iy.1 iy.2 iz.1 iz.2 a0 len0 cap0 W ops hl hok hb16 hops).mono fun e W' ⟨he, bel⟩ => ?_
  subst he
  exact ⟨_, rfl, _, _, _, [], _, [], hW', trodAll_mk1 (shut_bool Try.underlying4 _), (trodAll_cons_mk (Below.trod Try.laidOut (by kernel_rfl) (of_decide_eq_true (by kernel_rfl)) k0 bel lt0) (trodAll_cons_mk (Below.trod Try.laidOut (by kernel_rfl) (of_decide_eq_true (by kernel_rfl)) k1 bel lt1) trodAll_mk0)), rfl, bel.frame _, fun h => by cases h⟩

theorem over : Rows.freshRow.holds Try.pinned (OpenSpec.ofChange Rows.freshSpec) :=
  OpenClaim.holds_of_wide 3 Try.f3 rfl rfl rfl rfl rfl rfl rfl ⟨rfl, rfl, rfl, rfl, rfl⟩ rfl rfl rfl rfl rfl (by kernel_rfl) Try.func3 (by kernel_rfl)
    (of_decide_eq_true (by kernel_rfl)) (by unfold Func.isWrapper; first | (rw [if_pos (by decide +kernel)]; kernel_rfl) | (rw [if_neg (by decide +kernel)]; exact ⟨rfl, rfl⟩))
    (fun os started H enc _ => lifted os started H enc)

end Go.Proofs.Ytnolplmpanbmhab.fresh

namespace Go.Proofs.Ytnolplmpanbmhab
theorem fresh_holds : Rows.FreshSaid := fresh.over
end Go.Proofs.Ytnolplmpanbmhab
