import Derived.Test.YtinlkcmdbjcofabM18
/-
  'Calm' itself.
-/
namespace Go.Proofs.Ytinlkcmdbjcofab
open Go.RowKit
set_option linter.unusedVariables false
attribute [local go_sem ↓] Go.wp_at_zero Go.wp_at_succ

set_option maxHeartbeats 8000000 in
set_option maxRecDepth 100000 in
theorem calmlaw_any {M : MT} (P : Api M) (x y z qu po : Int) (hx : I64 x) (hy : I64 y) (hz : I64 z) (hq : I64 qu) (hp : I64 po)
    (ao : Option Addr) (len cap : Nat) (w : World) (ops : List LStep) (hl : ops.length = len) (hok : ∀ (i : Nat) (o : LStep), ops[i]? = some o → o.i64) (hsz : (len + 85) * 48 ≤ 140737488355328)
    (ho : (len = 0) ∨ ∃ b off, ao = some ⟨b, off, none⟩ ∧ b < w.heap.size ∧ ∀ (i : Nat) (o : LStep), ops[i]? = some o → ∀ (j : Nat) (v : Value), o.cells[j]? = some v → w.cell? ⟨b, off + i * 6 + j, none⟩ = some v) :
    Calls Try.prog 7 #[.agg #[.int .i64 x, .int .i64 y, .int .i64 z], .int .i64 qu, .int .i64 po, .slice ao len cap] w fun e w' => e = .returned (.bool true) ∧ Below w.heap.size w w' := by
  have HX : Hid ((len = 0) ∨ ∃ b off, ao = some ⟨b, off, none⟩ ∧ b < w.heap.size ∧ ∀ (i : Nat) (o : LStep), ops[i]? = some o → ∀ (j : Nat) (v : Value), o.cells[j]? = some v → w.cell? ⟨b, off + i * 6 + j, none⟩ = some v) := ho
  have HL : Hid (ops.length = len) := hl
  have HO : Hid (∀ (i : Nat) (o : LStep), ops[i]? = some o → o.i64) := hok
  have HF : Hid (∀ j : Nat, j ≤ len + 80 → (j + 2) * 48 ≤ 140737488355328) := fun j hj => by clear ho; omega
  have hlen : len ≤ 2932031007402 := by omega
  clear ho hl hok hsz
  have la1 : 1 ≤ cfA x := by unfold cfA; omega
  have lb8 := cfB_le y
  have lc4 := cfC_le z
  have lc1 : 2 ≤ cfC z := by unfold cfC; omega
  have HKP := fun w => kept_any P x y z qu po hx hy hz hq hp w
  obtain ⟨fa, hfa⟩ : ∃ v, cfA x = v := ⟨_, rfl⟩
  obtain ⟨fb, hfb⟩ : ∃ v, cfB y = v := ⟨_, rfl⟩
  obtain ⟨fc, hfc⟩ : ∃ v, cfC z = v := ⟨_, rfl⟩
  rw [hfa] at la1 HKP
  rw [hfb] at lb8 HKP
  rw [hfc] at lc4 lc1 HKP
  clear hfa hfb hfc
  go_enter Try.func7, Try.ntmps7
  go_wp2_with fail
  refine (HKP _).mono ?_
  rintro e w1 ⟨m, bf, own, k, rfl, hFK, hin, hs1⟩
  obtain ⟨W0, hW0⟩ : ∃ W0 : World, W0 = w.alloc (.cells #[.int .i64 x, .int .i64 y, .int .i64 z] 23) := ⟨_, rfl⟩
  have hbW : Below w.heap.size w W0 := by rw [hW0]; exact (Below.refl _ _).alloc (Nat.le_refl _) _
  rw [← hW0] at hFK hs1
  have hWs : w.heap.size ≤ W0.heap.size := hbW.size
  clear hW0 HKP
  have h12 := HF.out 1 (by omega)
  go_wp2_with fail
  refine (works_any P la1 hFK hin h12).mono ?_
  rintro e w2 ⟨rfl, own2, s2, k2, hG⟩
  clear hFK hin
  go_wp2_with fail
  go_loopg [10, 11] len (fun n vok x wr => ∃ (r : Nat) (own' : Nat → Nat × Nat) (s' : RSt) (k' : KSt), vok = .bool true ∧ x = .int .i64 r ∧ r + n = len ∧ FK M W0 m bf (r + 2) own' s' wr k' true fa fb fc)
  case atStart => exact ⟨0, _, _, _, rfl, rfl, by omega, hG⟩
  case round =>
    obtain ⟨r, own', s', k', rfl, rfl, hk, hf⟩ := hrel
    have HK : Hid (r + gk = len) := hk
    have hr : r ≤ len := by omega
    clear hk hG
    have m0 := hf.blk.cell 0
    have m1 := hf.blk.cell 1
    have m2 := hf.blk.cell 2
    have m3 := hf.blk.cell 3
    simp [flcells] at m0 m1 m2 m3
    have hbl := hf.sk.bel
    have hblt := hf.blk.lt
    by_cases hlt : r < len
    · rcases HX.out with h0 | ⟨bS, off, hao, hbS, hcS⟩
      · omega
      first | subst hao | (simp only [Option.some.injEq, Addr.mk.injEq, and_true, true_and] at hao; obtain ⟨rfl, rfl⟩ := hao)
      obtain ⟨o, hoo⟩ : ∃ o, ops[r]? = some o := ⟨ops[r]'(by rw [HL.out]; omega), by simp⟩
      have hoi := HO.out r o hoo
      have cc : ∀ j, j < 6 → wr.cell? ⟨bS, off + r * 6 + j, none⟩ = o.cells[j]? := fun j hj => by
        obtain ⟨v, hv⟩ : ∃ v, o.cells[j]? = some v := ⟨o.cells[j]'(by simpa [LStep.cells] using hj), by simp⟩
        rw [hv, ← hcS r o hoo j v hv]
        exact (hbW.trans (hbl.mono hWs)).cell (p := ⟨bS, off + r * 6 + j, none⟩) hbS
      have c0 := (cc 0 (by omega)).trans (show _ = some (.int .i64 o.K) from rfl)
      have c1 := (cc 1 (by omega)).trans (show _ = some (.int .i64 o.V) from rfl)
      have c2 := (cc 2 (by omega)).trans (show _ = some (.int .i64 o.A) from rfl)
      have c3 := (cc 3 (by omega)).trans (show _ = some (.int .i64 o.B) from rfl)
      have c4 := (cc 4 (by omega)).trans (show _ = some (.int .i64 o.C) from rfl)
      have c5 := (cc 5 (by omega)).trans (show _ = some (.bool o.F) from rfl)
      simp only [Nat.add_zero] at c0
      have hr0 : (0 : Int) ≤ (r : Int) := by omega
      have hr1 : (r : Int) < (len : Int) := by omega
      have hfew := HF.out (r + 2) (by omega)
      have hba : Below wr.heap.size wr (wr.alloc (.cells #[.int .i64 o.K, .int .i64 o.V, .int .i64 o.A, .int .i64 o.B, .int .i64 o.C, .bool o.F] 31)) := (Below.refl _ _).alloc (Nat.le_refl _) _
      have hf2 := hf.below P hba
      clear cc hoo hcS
      have hfew2 := HF.out (r + 2 + 1) (by omega)
      by_cases hK13 : 13 ≤ o.K
      · go_wp2_with fail
        refine (calm_any P hf2 hfew hfew2 o hoi).mono ?_
        rintro e w3 ⟨rfl, own3, s3, k3, h3⟩
        go_wp2_with fail
        go_roundg (gk - 1)
        case measure => have := HK.out; omega
        case rel => exact ⟨r + 1, own3, s3, k3, rfl, by go_num, by have := HK.out; omega, (by rw [show r + 1 + 2 = r + 2 + 1 by omega]; exact h3)⟩
      · by_cases hK10 : o.K = 10
        · have hK10' : (o.K != 10) = false := by simp [hK10]
          clear hK10
          go_wp2_with fail
          go_roundg (gk - 1)
          case measure => have := HK.out; omega
          case rel => exact ⟨r + 1, own', s', k', rfl, by go_num, by have := HK.out; omega, hf2.mono (j := r + 1 + 2) (by omega)⟩
        · have hK10' : (o.K != 10) = true := by simp [hK10]
          have hfd := hf.below P hba.drew
          have hbx := (Blk.new wr [.int .i64 o.K, .int .i64 o.V, .int .i64 o.A, .int .i64 o.B, .int .i64 o.C, .bool o.F] 31).drew
          have htx := hf.sk.top wr.heap.size (Nat.le_refl _)
          go_wp2_with fail
          go_region_held3 (fun w' => w'.cell? ⟨bf, 0, none⟩ = some (.pointer (some ⟨m, 0, none⟩)) ∧ w'.cell? ⟨bf, 1, none⟩ = some (.int .i64 fa) ∧ w'.cell? ⟨bf, 2, none⟩ = some (.int .i64 fb) ∧ w'.cell? ⟨bf, 3, none⟩ = some (.int .i64 fc) ∧ w'.cell? ⟨wr.heap.size, 0, none⟩ = some (.int .i64 o.K) ∧ w'.cell? ⟨wr.heap.size, 1, none⟩ = some (.int .i64 o.V) ∧ w'.cell? ⟨wr.heap.size, 2, none⟩ = some (.int .i64 o.A) ∧ w'.cell? ⟨wr.heap.size, 3, none⟩ = some (.int .i64 o.B) ∧ w'.cell? ⟨wr.heap.size, 4, none⟩ = some (.int .i64 o.C) ∧ w'.cell? ⟨wr.heap.size, 5, none⟩ = some (.bool o.F)) (go_keep)
            ((go_at_call 14; refine (noiseK_any P hfd.sk hfew o hoi fa fb fc lb8 lc4 lc1).mono ?_; rintro e w3 ⟨rfl, s3, hnk, hn⟩
              have d0 := (hn.blk hfd.blk (by rw [hfd.tag]; omega)).cell 0
              have d1 := (hn.blk hfd.blk (by rw [hfd.tag]; omega)).cell 1
              have d2 := (hn.blk hfd.blk (by rw [hfd.tag]; omega)).cell 2
              have d3 := (hn.blk hfd.blk (by rw [hfd.tag]; omega)).cell 3
              have e0 := (hn.blk hbx (by rw [htx]; omega)).cell 0
              have e1 := (hn.blk hbx (by rw [htx]; omega)).cell 1
              have e2 := (hn.blk hbx (by rw [htx]; omega)).cell 2
              have e3 := (hn.blk hbx (by rw [htx]; omega)).cell 3
              have e4 := (hn.blk hbx (by rw [htx]; omega)).cell 4
              have e5 := (hn.blk hbx (by rw [htx]; omega)).cell 5
              simp [flcells] at d0 d1 d2 d3 e0 e1 e2 e3 e4 e5))
          obtain ⟨own3, h3, -, -, -⟩ := hfd.noise hnk hn
          go_wp2_with fail
          go_roundg (gk - 1)
          case measure => have := HK.out; omega
          case rel => exact ⟨r + 1, own3, s3, k', rfl, by go_num, by have := HK.out; omega, (by rw [show r + 1 + 2 = r + 2 + 1 by omega]; exact h3)⟩
    · obtain rfl : r = len := by omega
      go_wp2_with fail
      go_ret
      exact ⟨rfl, hbW.trans (hf.sk.bel.mono hWs)⟩
end Go.Proofs.Ytinlkcmdbjcofab

namespace Go.Proofs.Ytinlkcmdbjcofab.calm
open Go.ChangeShapes Go.WideShapes Go.ChangeAt Go.RowKit
set_option linter.unusedVariables false

/-- A number, read as data. -/
theorem open_int {H : Type} {enc : TypeId × Value → H} {w : World} {n : Int} {x : DataW H × List MemPlace} (h : ∃ k, DataW.trod enc Try.prog w 0 (fun _ => true) true k 3 (Value.int .i64 n).cells.toList = some x) : Inr64 n := by
  obtain ⟨k, hk⟩ := h
  obtain ⟨a, g, _, z⟩ := DataW.trod_int Try.underlying3 hk
  simp [Value.cells] at g
  subst g
  exact inr64_of z

set_option maxRecDepth 100000 in
theorem lifted (os : Os) (started : os.Started) (H : Type) (enc : TypeId × Value → H) :
    ReturnsInHanded {} Try.checked os 7 .any (Rows.calmSpec.pre6 enc Try.prog Try.f7 Rows.calmRow.domain false) (Rows.calmSpec.post enc Try.prog Try.f7 false true false false) := by
  refine returnsInHanded_of_change_sized (C := Try.checked) Try.own started (by kernel_rfl) Try.func7
    (ChangeSpec.witness6 (enc := enc) (C := Try.checked) false ⟨#[], #[.agg #[.int .i64 0, .int .i64 0, .int .i64 0], .int .i64 0, .int .i64 0, .slice none 0 0], []⟩ 8 (by kernel_rfl) (by kernel_rfl) (by kernel_rfl) (by kernel_rfl)) ?_
  intro W base args ds gs before hval0 hW hcnd hsz _
  have hval : ∀ (j : Nat) t v, Try.f7.params[j]? = some t → args[j]? = some v → Value.okWide Try.prog W .any base t v := hval0
  have hW' := hW
  obtain ⟨p, q, hA0, hV, rfl, hfz, hnd⟩ := hW
  have hA : DataW.TrodAll enc Try.prog W 0 (fun _ => true) true Try.f7.params.toList args.toList ds p := hA0
  rw [Try.params7] at hA hval
  obtain ⟨v0, vs0, d0, ds0, p0, q0, hargs, rfl, rfl, h0, r0⟩ := trodAll_cons hA
  obtain ⟨v1, vs1, d1, ds1, p1, q1, hargs1, rfl, rfl, h1, r1⟩ := trodAll_cons r0
  obtain ⟨v2, vs2, d2, ds2, p2, q2, hargs2, rfl, rfl, h2, r2⟩ := trodAll_cons r1
  obtain ⟨v3, vs3, d3, ds3, p3, q3, hargs3, rfl, rfl, h3, r3⟩ := trodAll_cons r2
  obtain ⟨rfl, rfl, rfl⟩ := trodAll_nil r3
  obtain rfl : args = #[v0, v1, v2, v3] := by cases args; simp_all
  obtain ⟨rfl, rfl⟩ := trodVars_none hV
  obtain ⟨cs0, rfl, hcs⟩ := okWide_struct Try.underlying23 (hval 0 23 v0 rfl rfl)
  obtain ⟨n1, rfl⟩ := okWide_int Try.underlying3 (hval 1 3 v1 rfl rfl)
  obtain ⟨n2, rfl⟩ := okWide_int Try.underlying3 (hval 2 3 v2 rfl rfl)
  obtain ⟨a0, len0, cap0, rfl⟩ := okWide_slice Try.underlying24 (hval 3 24 v3 rfl rfl)
  have k0 := h0
  have k1 := h1
  have k2 := h2
  have k3 := h3
  have lt0 : ∀ x ∈ p0, x.block < W.heap.size := by obtain ⟨m, hm⟩ := k0; exact DataW.trod_lt m _ _ _ hm
  have lt1 : ∀ x ∈ p1, x.block < W.heap.size := by obtain ⟨m, hm⟩ := k1; exact DataW.trod_lt m _ _ _ hm
  have lt2 : ∀ x ∈ p2, x.block < W.heap.size := by obtain ⟨m, hm⟩ := k2; exact DataW.trod_lt m _ _ _ hm
  have lt3 : ∀ x ∈ p3, x.block < W.heap.size := by obtain ⟨m, hm⟩ := k3; exact DataW.trod_lt m _ _ _ hm
  obtain ⟨fuel0, hf0⟩ := h0
  obtain ⟨x, y, z, hxyz, ix, iy, iz⟩ := open_size hf0
  obtain rfl : cs0 = #[.int .i64 x, .int .i64 y, .int .i64 z] := by
    have : cs0.toList = [.int .i64 x, .int .i64 y, .int .i64 z] := hxyz
    rw [← Array.toArray_toList (xs := cs0), this]
  have i1 := open_int h1
  have i2 := open_int h2
  obtain ⟨fuel, hf⟩ := h3
  obtain ⟨ops, hl, hops, hdat, hok⟩ := open_steps (by simpa [Value.cells] using hf)
  have hb16 : (len0 + 85) * 48 ≤ 140737488355328 := by
    rcases hdat with h | ⟨elems, spare, hd, he⟩
    · subst h; omega
    · simp only at hd
      subst hd
      have : (elems.length + spare.length) * Try.prog.bytesOf 31 ≤ reachBytes := sized_slice hsz (j := 3) (t := 24) (e := 31) rfl rfl Try.underlying24
      rw [Try.bytesStep] at this
      simp only [reachBytes] at this
      omega
  clear hA0 hval0
  refine (calmlaw_any api x y z n1 n2 ⟨ix.1, ix.2⟩ ⟨iy.1, iy.2⟩ ⟨iz.1, iz.2⟩ ⟨i1.1, i1.2⟩ ⟨i2.1, i2.2⟩ a0 len0 cap0 W ops hl hok hb16 hops).mono fun e W' ⟨he, bel⟩ => ?_
  subst he
  exact ⟨_, rfl, _, _, _, [], _, [], hW', trodAll_mk1 (shut_bool Try.underlying4 _), (trodAll_cons_mk (Below.trod Try.laidOut (by kernel_rfl) (of_decide_eq_true (by kernel_rfl)) k0 bel lt0) (trodAll_cons_mk (Below.trod Try.laidOut (by kernel_rfl) (of_decide_eq_true (by kernel_rfl)) k1 bel lt1) (trodAll_cons_mk (Below.trod Try.laidOut (by kernel_rfl) (of_decide_eq_true (by kernel_rfl)) k2 bel lt2) (trodAll_cons_mk (Below.trod Try.laidOut (by kernel_rfl) (of_decide_eq_true (by kernel_rfl)) k3 bel lt3) trodAll_mk0)))), rfl, bel.frame _, fun h => by cases h⟩

theorem over : Rows.calmRow.holds Try.pinned (OpenSpec.ofChange Rows.calmSpec) :=
  OpenClaim.holds_of_wide 7 Try.f7 rfl rfl rfl rfl rfl rfl rfl ⟨rfl, rfl, rfl, rfl, rfl⟩ rfl rfl rfl rfl rfl (by kernel_rfl) Try.func7 (by kernel_rfl)
    (of_decide_eq_true (by kernel_rfl)) (by unfold Func.isWrapper; first | (rw [if_pos (by decide +kernel)]; kernel_rfl) | (rw [if_neg (by decide +kernel)]; exact ⟨rfl, rfl⟩))
    (fun os started H enc _ => lifted os started H enc)

end Go.Proofs.Ytinlkcmdbjcofab.calm

namespace Go.Proofs.Ytinlkcmdbjcofab
theorem calm_holds : Rows.CalmSaid := calm.over
end Go.Proofs.Ytinlkcmdbjcofab
