import Derived.Test.YtinlkcmdbjcofabM17
/-
  'works', 'all'; 'Flat' itself.
-/
namespace Go.Proofs.Ytinlkcmdbjcofab
open Go.RowKit
set_option linter.unusedVariables false
attribute [local go_sem ↓] Go.wp_at_zero Go.wp_at_succ

section
variable {M : MT} {w0 w w' : World} {m i bf : Nat} {own : Nat → Nat × Nat} {s s' : RSt} {k : KSt} {has : Bool} {a b c : Nat}

set_option maxHeartbeats 2000000 in
set_option maxRecDepth 100000 in
theorem works_any (P : Api M) (ha : 1 ≤ a) (h : FK M w0 m bf 1 own (putK (RSt.fresh a b c) 0 k) w k false a b c) (hin : k.inp = []) (hi : (1 + 2) * 48 ≤ 140737488355328) :
    Calls Try.prog 22 #[.pointer (some ⟨bf, 0, none⟩)] w fun e w' => e = .returned (.bool true) ∧ ∃ own' s' k', FK M w0 m bf 2 own' s' w' k' true a b c := by
  have hq := h.len.q0
  have io : (⟨0, 0, 5, 7, 0, true⟩ : LStep).i64 := by simp [LStep.i64, I64]
  go_enter Try.func22, Try.ntmps22
  go_wp2_with fail
  refine (facc_any P h hi ⟨0, 0, 5, 7, 0, true⟩ io).mono ?_
  rintro e w1 ⟨rfl, own1, s1, k1, has1, h1, hacc, ho1, hk1, hs1⟩
  have hh : has1 = true := by
    rcases hacc with ⟨-, -, -, -, h0, hf⟩ | ⟨hh, -⟩
    · exfalso
      rw [if_pos (by omega)] at hf
      exact fresh_first ha k hf
    · exact hh
  subst hh
  have c84 := (h1.blk.cell 84).trans (fc_has h1.len.by_ h1.len.dty)
  clear hacc
  go_wp2_with fail
  go_ret
  exact ⟨rfl, own1, s1, k1, h1⟩

set_option maxHeartbeats 2000000 in
set_option maxRecDepth 100000 in
theorem all_any (P : Api M) (h : FK M w0 m bf i own s w k has a b c) (hi : ∀ q : Nat, q ≤ 64 → (i + q + 2) * 48 ≤ 140737488355328) :
    Calls Try.prog 24 #[.pointer (some ⟨bf, 0, none⟩)] w fun e w' => e = .returned (.bool true) ∧ ∃ own' s' k' has', FK M w0 m bf (i + 64) own' s' w' k' has' a b c := by
  have HI : Hid (∀ q : Nat, q ≤ 64 → (i + q + 2) * 48 ≤ 140737488355328) := hi
  clear hi
  go_enter Try.func24, Try.ntmps24
  go_wp2_with fail
  go_loopg [3] 64 (fun n x wr => ∃ (q : Nat) (own' : Nat → Nat × Nat) (s' : RSt) (k' : KSt) (has' : Bool), x = .int .i64 q ∧ q + n = 64 ∧ FK M w0 m bf (i + q) own' s' wr k' has' a b c)
  case atStart => exact ⟨0, own, s, k, has, rfl, by omega, h⟩
  case round =>
    obtain ⟨q, own', s', k', has', rfl, hk, h'⟩ := hrel
    have HK : Hid (q + gk = 64) := hk
    have hq : q ≤ 64 := by omega
    clear hk
    by_cases hlt : q < 64
    · have io : (⟨0, 0, (q : Int), 0, 0, false⟩ : LStep).i64 := by simp [LStep.i64, I64]; omega
      have hq1 : (q : Int) < 64 := by omega
      go_wp2_with fail
      refine (facc_any P h' (HI.out q hq) ⟨0, 0, q, 0, 0, false⟩ io).mono ?_
      rintro e w1 ⟨rfl, own1, s1, k1, has1, h1, hacc, ho1, hk1, hs1⟩
      clear hacc
      go_wp2_with fail
      go_roundg (gk - 1)
      case measure => have := HK.out; omega
      case rel => exact ⟨q + 1, own1, s1, k1, has1, by go_num, by have := HK.out; omega, h1⟩
    · obtain rfl : q = 64 := by omega
      go_wp2_with fail
      go_ret
      exact ⟨rfl, own', s', k', has', h'⟩
end

set_option maxHeartbeats 8000000 in
set_option maxRecDepth 100000 in
theorem flatlaw_any {M : MT} (P : Api M) (x y z qu po : Int) (hx : I64 x) (hy : I64 y) (hz : I64 z) (hq : I64 qu) (hp : I64 po)
    (ao : Option Addr) (len cap : Nat) (w : World) (ops : List LStep) (hl : ops.length = len) (hok : ∀ (i : Nat) (o : LStep), ops[i]? = some o → o.i64) (hsz : (len + 85) * 48 ≤ 140737488355328)
    (ho : (len = 0) ∨ ∃ b off, ao = some ⟨b, off, none⟩ ∧ b < w.heap.size ∧ ∀ (i : Nat) (o : LStep), ops[i]? = some o → ∀ (j : Nat) (v : Value), o.cells[j]? = some v → w.cell? ⟨b, off + i * 6 + j, none⟩ = some v) :
    Calls Try.prog 6 #[.agg #[.int .i64 x, .int .i64 y, .int .i64 z], .int .i64 qu, .int .i64 po, .slice ao len cap] w fun e w' => e = .returned (.bool true) ∧ Below w.heap.size w w' := by
  have HX : Hid ((len = 0) ∨ ∃ b off, ao = some ⟨b, off, none⟩ ∧ b < w.heap.size ∧ ∀ (i : Nat) (o : LStep), ops[i]? = some o → ∀ (j : Nat) (v : Value), o.cells[j]? = some v → w.cell? ⟨b, off + i * 6 + j, none⟩ = some v) := ho
  have HL : Hid (ops.length = len) := hl
  have HO : Hid (∀ (i : Nat) (o : LStep), ops[i]? = some o → o.i64) := hok
  have HF : Hid (∀ j : Nat, j ≤ len + 80 → (j + 2) * 48 ≤ 140737488355328) := fun j hj => by clear ho; omega
  have hlen : len ≤ 2932031007402 := by omega
  clear ho hl hok hsz
  have la1 : 1 ≤ cfA x := by unfold cfA; omega
  have lb8 := cfB_le y
  have lc4 := cfC_le z
  have lc1 : 2 ≤ cfC z := by unfold cfC; omega
  have HKP := fun w => kept_any P x y z qu po hx hy hz hq hp w
  obtain ⟨fa, hfa⟩ : ∃ v, cfA x = v := ⟨_, rfl⟩
  obtain ⟨fb, hfb⟩ : ∃ v, cfB y = v := ⟨_, rfl⟩
  obtain ⟨fc, hfc⟩ : ∃ v, cfC z = v := ⟨_, rfl⟩
  rw [hfa] at la1 HKP
  rw [hfb] at lb8 HKP
  rw [hfc] at lc4 lc1 HKP
  clear hfa hfb hfc
  go_enter Try.func6, Try.ntmps6
  go_wp2_with fail
  refine (HKP _).mono ?_
  rintro e w1 ⟨m, bf, own, k, rfl, hFK, hin, hs1⟩
  obtain ⟨W0, hW0⟩ : ∃ W0 : World, W0 = w.alloc (.cells #[.int .i64 x, .int .i64 y, .int .i64 z] 23) := ⟨_, rfl⟩
  have hbW : Below w.heap.size w W0 := by rw [hW0]; exact (Below.refl _ _).alloc (Nat.le_refl _) _
  rw [← hW0] at hFK hs1
  have hWs : w.heap.size ≤ W0.heap.size := hbW.size
  clear hW0 HKP
  have HLATE : Hid (∀ wx, Below W0.heap.size W0 wx → len = 0 ∨ ∃ (b off : Nat) (o : LStep), 0 < len ∧ ao = some ⟨b, off, none⟩ ∧ wx.cell? ⟨b, off + 5, none⟩ = some (.bool o.F)) := by
    intro wx hb
    rcases HX.out with h0 | ⟨b, off, hao, hlt, hc⟩
    · exact .inl h0
    · by_cases h0 : len = 0
      · exact .inl h0
      · right
        obtain ⟨o, hoo⟩ : ∃ o, ops[0]? = some o := ⟨ops[0]'(by rw [HL.out]; omega), by simp⟩
        refine ⟨b, off, o, by omega, hao, ?_⟩
        have := hc 0 o hoo 5 (.bool o.F) rfl
        rw [show off + 0 * 6 + 5 = off + 5 by omega] at this
        rw [← this]
        exact ((hbW.trans (hb.mono hWs)).cell (p := ⟨b, off + 5, none⟩) hlt)
  have h12 := HF.out 1 (by omega)
  rcases HLATE.out w1 hFK.sk.bel with h0 | ⟨bS, off, o, hl0, hao, hcF⟩
  · have hl0 : ¬ (0 : Int) < (len : Int) := by omega
    clear HLATE
    go_wp2_with fail
    refine (works_any P la1 hFK hin h12).mono ?_
    rintro e w2 ⟨rfl, own2, s2, k2, hG⟩
    clear hFK hin
    go_wp2_with fail
    go_loopg [11, 12] len (fun n vok x wr => ∃ (r : Nat) (own' : Nat → Nat × Nat) (s' : RSt) (k' : KSt) (has' : Bool), vok = .bool true ∧ x = .int .i64 r ∧ r + n = len ∧ FK M W0 m bf (r + 2) own' s' wr k' has' fa fb fc)
    case atStart => exact ⟨0, _, _, _, _, rfl, rfl, by omega, hG⟩
    case round =>
      obtain ⟨r, own', s', k', has', rfl, rfl, hk, hf⟩ := hrel
      have HK : Hid (r + gk = len) := hk
      have hr : r ≤ len := by omega
      clear hk hG
      have m0 := hf.blk.cell 0
      have m1 := hf.blk.cell 1
      have m2 := hf.blk.cell 2
      have m3 := hf.blk.cell 3
      simp [flcells] at m0 m1 m2 m3
      have hbl := hf.sk.bel
      have hblt := hf.blk.lt
      by_cases hlt : r < len
      · exfalso; omega
      · obtain rfl : r = len := by omega
        go_wp2_with fail
        refine (all_any P hf (fun q hq => HF.out (r + 2 + q) (by omega))).mono ?_
        rintro e w3 ⟨rfl, own3, s3, k3, has3, h3⟩
        go_wp2_with fail
        go_ret
        exact ⟨rfl, hbW.trans (h3.sk.bel.mono hWs)⟩
  · have hl0' : (0 : Int) < (len : Int) := by omega
    rcases Bool.eq_false_or_eq_true o.F with hoF | hoF
    · rw [hoF] at hcF
      subst hao
      have hG := hFK.mono (j := 2) (by omega)
      clear HLATE hFK hin hoF
      go_wp2_with fail
      go_loopg [11, 12] len (fun n vok x wr => ∃ (r : Nat) (own' : Nat → Nat × Nat) (s' : RSt) (k' : KSt) (has' : Bool), vok = .bool true ∧ x = .int .i64 r ∧ r + n = len ∧ FK M W0 m bf (r + 2) own' s' wr k' has' fa fb fc)
      case atStart => exact ⟨0, _, _, _, _, rfl, rfl, by omega, hG⟩
      case round =>
        obtain ⟨r, own', s', k', has', rfl, rfl, hk, hf⟩ := hrel
        have HK : Hid (r + gk = len) := hk
        have hr : r ≤ len := by omega
        clear hk hG
        have m0 := hf.blk.cell 0
        have m1 := hf.blk.cell 1
        have m2 := hf.blk.cell 2
        have m3 := hf.blk.cell 3
        simp [flcells] at m0 m1 m2 m3
        have hbl := hf.sk.bel
        have hblt := hf.blk.lt
        by_cases hlt : r < len
        · rcases HX.out with h0 | ⟨bS, off, hao, hbS, hcS⟩
          · omega
          first | subst hao | (simp only [Option.some.injEq, Addr.mk.injEq, and_true] at hao; obtain ⟨rfl, rfl⟩ := hao)
          obtain ⟨o, hoo⟩ : ∃ o, ops[r]? = some o := ⟨ops[r]'(by rw [HL.out]; omega), by simp⟩
          have hoi := HO.out r o hoo
          have cc : ∀ j, j < 6 → wr.cell? ⟨bS, off + r * 6 + j, none⟩ = o.cells[j]? := fun j hj => by
            obtain ⟨v, hv⟩ : ∃ v, o.cells[j]? = some v := ⟨o.cells[j]'(by simpa [LStep.cells] using hj), by simp⟩
            rw [hv, ← hcS r o hoo j v hv]
            exact (hbW.trans (hbl.mono hWs)).cell (p := ⟨bS, off + r * 6 + j, none⟩) hbS
          have c0 := (cc 0 (by omega)).trans (show _ = some (.int .i64 o.K) from rfl)
          have c1 := (cc 1 (by omega)).trans (show _ = some (.int .i64 o.V) from rfl)
          have c2 := (cc 2 (by omega)).trans (show _ = some (.int .i64 o.A) from rfl)
          have c3 := (cc 3 (by omega)).trans (show _ = some (.int .i64 o.B) from rfl)
          have c4 := (cc 4 (by omega)).trans (show _ = some (.int .i64 o.C) from rfl)
          have c5 := (cc 5 (by omega)).trans (show _ = some (.bool o.F) from rfl)
          simp only [Nat.add_zero] at c0
          have hr0 : (0 : Int) ≤ (r : Int) := by omega
          have hr1 : (r : Int) < (len : Int) := by omega
          have hfew := HF.out (r + 2) (by omega)
          have hba : Below wr.heap.size wr (wr.alloc (.cells #[.int .i64 o.K, .int .i64 o.V, .int .i64 o.A, .int .i64 o.B, .int .i64 o.C, .bool o.F] 31)) := (Below.refl _ _).alloc (Nat.le_refl _) _
          have hf2 := hf.below P hba
          clear cc hoo hcS
          by_cases hK13 : 13 ≤ o.K
          · go_wp2_with fail
            refine (facc_any P hf2 hfew o hoi).mono ?_
            rintro e w3 ⟨rfl, own3, s3, k3, has3, h3, hacc, ho3, hk3, hs3⟩
            clear hacc
            go_wp2_with fail
            go_roundg (gk - 1)
            case measure => have := HK.out; omega
            case rel => exact ⟨r + 1, own3, s3, k3, has3, rfl, by go_num, by have := HK.out; omega, (by rw [show r + 1 + 2 = r + 2 + 1 by omega]; exact h3)⟩
          · by_cases hK10 : o.K = 10
            · have hK10' : (o.K != 10) = false := by simp [hK10]
              clear hK10
              go_wp2_with fail
              go_roundg (gk - 1)
              case measure => have := HK.out; omega
              case rel => exact ⟨r + 1, own', s', k', has', rfl, by go_num, by have := HK.out; omega, hf2.mono (j := r + 1 + 2) (by omega)⟩
            · have hK10' : (o.K != 10) = true := by simp [hK10]
              have hfd := hf.below P hba.drew
              have hbx := (Blk.new wr [.int .i64 o.K, .int .i64 o.V, .int .i64 o.A, .int .i64 o.B, .int .i64 o.C, .bool o.F] 31).drew
              have htx := hf.sk.top wr.heap.size (Nat.le_refl _)
              go_wp2_with fail
              go_region_held3 (fun w' => w'.cell? ⟨bf, 0, none⟩ = some (.pointer (some ⟨m, 0, none⟩)) ∧ w'.cell? ⟨bf, 1, none⟩ = some (.int .i64 fa) ∧ w'.cell? ⟨bf, 2, none⟩ = some (.int .i64 fb) ∧ w'.cell? ⟨bf, 3, none⟩ = some (.int .i64 fc) ∧ w'.cell? ⟨wr.heap.size, 0, none⟩ = some (.int .i64 o.K) ∧ w'.cell? ⟨wr.heap.size, 1, none⟩ = some (.int .i64 o.V) ∧ w'.cell? ⟨wr.heap.size, 2, none⟩ = some (.int .i64 o.A) ∧ w'.cell? ⟨wr.heap.size, 3, none⟩ = some (.int .i64 o.B) ∧ w'.cell? ⟨wr.heap.size, 4, none⟩ = some (.int .i64 o.C) ∧ w'.cell? ⟨wr.heap.size, 5, none⟩ = some (.bool o.F)) (go_keep)
                ((go_at_call 14; refine (noiseK_any P hfd.sk hfew o hoi fa fb fc lb8 lc4 lc1).mono ?_; rintro e w3 ⟨rfl, s3, hnk, hn⟩
                  have d0 := (hn.blk hfd.blk (by rw [hfd.tag]; omega)).cell 0
                  have d1 := (hn.blk hfd.blk (by rw [hfd.tag]; omega)).cell 1
                  have d2 := (hn.blk hfd.blk (by rw [hfd.tag]; omega)).cell 2
                  have d3 := (hn.blk hfd.blk (by rw [hfd.tag]; omega)).cell 3
                  have e0 := (hn.blk hbx (by rw [htx]; omega)).cell 0
                  have e1 := (hn.blk hbx (by rw [htx]; omega)).cell 1
                  have e2 := (hn.blk hbx (by rw [htx]; omega)).cell 2
                  have e3 := (hn.blk hbx (by rw [htx]; omega)).cell 3
                  have e4 := (hn.blk hbx (by rw [htx]; omega)).cell 4
                  have e5 := (hn.blk hbx (by rw [htx]; omega)).cell 5
                  simp [flcells] at d0 d1 d2 d3 e0 e1 e2 e3 e4 e5))
              obtain ⟨own3, h3, -, -, -⟩ := hfd.noise hnk hn
              go_wp2_with fail
              go_roundg (gk - 1)
              case measure => have := HK.out; omega
              case rel => exact ⟨r + 1, own3, s3, k', has', rfl, by go_num, by have := HK.out; omega, (by rw [show r + 1 + 2 = r + 2 + 1 by omega]; exact h3)⟩
        · obtain rfl : r = len := by omega
          go_wp2_with fail
          refine (all_any P hf (fun q hq => HF.out (r + 2 + q) (by omega))).mono ?_
          rintro e w3 ⟨rfl, own3, s3, k3, has3, h3⟩
          go_wp2_with fail
          go_ret
          exact ⟨rfl, hbW.trans (h3.sk.bel.mono hWs)⟩
    · rw [hoF] at hcF
      subst hao
      clear HLATE hoF
      go_wp2_with fail
      refine (works_any P la1 hFK hin h12).mono ?_
      rintro e w2 ⟨rfl, own2, s2, k2, hG⟩
      clear hFK hin hcF
      go_wp2_with fail
      go_loopg [11, 12] len (fun n vok x wr => ∃ (r : Nat) (own' : Nat → Nat × Nat) (s' : RSt) (k' : KSt) (has' : Bool), vok = .bool true ∧ x = .int .i64 r ∧ r + n = len ∧ FK M W0 m bf (r + 2) own' s' wr k' has' fa fb fc)
      case atStart => exact ⟨0, _, _, _, _, rfl, rfl, by omega, hG⟩
      case round =>
        obtain ⟨r, own', s', k', has', rfl, rfl, hk, hf⟩ := hrel
        have HK : Hid (r + gk = len) := hk
        have hr : r ≤ len := by omega
        clear hk hG
        have m0 := hf.blk.cell 0
        have m1 := hf.blk.cell 1
        have m2 := hf.blk.cell 2
        have m3 := hf.blk.cell 3
        simp [flcells] at m0 m1 m2 m3
        have hbl := hf.sk.bel
        have hblt := hf.blk.lt
        by_cases hlt : r < len
        · rcases HX.out with h0 | ⟨bS, off, hao, hbS, hcS⟩
          · omega
          first | subst hao | (simp only [Option.some.injEq, Addr.mk.injEq, and_true] at hao; obtain ⟨rfl, rfl⟩ := hao)
          obtain ⟨o, hoo⟩ : ∃ o, ops[r]? = some o := ⟨ops[r]'(by rw [HL.out]; omega), by simp⟩
          have hoi := HO.out r o hoo
          have cc : ∀ j, j < 6 → wr.cell? ⟨bS, off + r * 6 + j, none⟩ = o.cells[j]? := fun j hj => by
            obtain ⟨v, hv⟩ : ∃ v, o.cells[j]? = some v := ⟨o.cells[j]'(by simpa [LStep.cells] using hj), by simp⟩
            rw [hv, ← hcS r o hoo j v hv]
            exact (hbW.trans (hbl.mono hWs)).cell (p := ⟨bS, off + r * 6 + j, none⟩) hbS
          have c0 := (cc 0 (by omega)).trans (show _ = some (.int .i64 o.K) from rfl)
          have c1 := (cc 1 (by omega)).trans (show _ = some (.int .i64 o.V) from rfl)
          have c2 := (cc 2 (by omega)).trans (show _ = some (.int .i64 o.A) from rfl)
          have c3 := (cc 3 (by omega)).trans (show _ = some (.int .i64 o.B) from rfl)
          have c4 := (cc 4 (by omega)).trans (show _ = some (.int .i64 o.C) from rfl)
          have c5 := (cc 5 (by omega)).trans (show _ = some (.bool o.F) from rfl)
          simp only [Nat.add_zero] at c0
          have hr0 : (0 : Int) ≤ (r : Int) := by omega
          have hr1 : (r : Int) < (len : Int) := by omega
          have hfew := HF.out (r + 2) (by omega)
          have hba : Below wr.heap.size wr (wr.alloc (.cells #[.int .i64 o.K, .int .i64 o.V, .int .i64 o.A, .int .i64 o.B, .int .i64 o.C, .bool o.F] 31)) := (Below.refl _ _).alloc (Nat.le_refl _) _
          have hf2 := hf.below P hba
          clear cc hoo hcS
          by_cases hK13 : 13 ≤ o.K
          · go_wp2_with fail
            refine (facc_any P hf2 hfew o hoi).mono ?_
            rintro e w3 ⟨rfl, own3, s3, k3, has3, h3, hacc, ho3, hk3, hs3⟩
            clear hacc
            go_wp2_with fail
            go_roundg (gk - 1)
            case measure => have := HK.out; omega
            case rel => exact ⟨r + 1, own3, s3, k3, has3, rfl, by go_num, by have := HK.out; omega, (by rw [show r + 1 + 2 = r + 2 + 1 by omega]; exact h3)⟩
          · by_cases hK10 : o.K = 10
            · have hK10' : (o.K != 10) = false := by simp [hK10]
              clear hK10
              go_wp2_with fail
              go_roundg (gk - 1)
              case measure => have := HK.out; omega
              case rel => exact ⟨r + 1, own', s', k', has', rfl, by go_num, by have := HK.out; omega, hf2.mono (j := r + 1 + 2) (by omega)⟩
            · have hK10' : (o.K != 10) = true := by simp [hK10]
              have hfd := hf.below P hba.drew
              have hbx := (Blk.new wr [.int .i64 o.K, .int .i64 o.V, .int .i64 o.A, .int .i64 o.B, .int .i64 o.C, .bool o.F] 31).drew
              have htx := hf.sk.top wr.heap.size (Nat.le_refl _)
              go_wp2_with fail
              go_region_held3 (fun w' => w'.cell? ⟨bf, 0, none⟩ = some (.pointer (some ⟨m, 0, none⟩)) ∧ w'.cell? ⟨bf, 1, none⟩ = some (.int .i64 fa) ∧ w'.cell? ⟨bf, 2, none⟩ = some (.int .i64 fb) ∧ w'.cell? ⟨bf, 3, none⟩ = some (.int .i64 fc) ∧ w'.cell? ⟨wr.heap.size, 0, none⟩ = some (.int .i64 o.K) ∧ w'.cell? ⟨wr.heap.size, 1, none⟩ = some (.int .i64 o.V) ∧ w'.cell? ⟨wr.heap.size, 2, none⟩ = some (.int .i64 o.A) ∧ w'.cell? ⟨wr.heap.size, 3, none⟩ = some (.int .i64 o.B) ∧ w'.cell? ⟨wr.heap.size, 4, none⟩ = some (.int .i64 o.C) ∧ w'.cell? ⟨wr.heap.size, 5, none⟩ = some (.bool o.F)) (go_keep)
                ((go_at_call 14; refine (noiseK_any P hfd.sk hfew o hoi fa fb fc lb8 lc4 lc1).mono ?_; rintro e w3 ⟨rfl, s3, hnk, hn⟩
                  have d0 := (hn.blk hfd.blk (by rw [hfd.tag]; omega)).cell 0
                  have d1 := (hn.blk hfd.blk (by rw [hfd.tag]; omega)).cell 1
                  have d2 := (hn.blk hfd.blk (by rw [hfd.tag]; omega)).cell 2
                  have d3 := (hn.blk hfd.blk (by rw [hfd.tag]; omega)).cell 3
                  have e0 := (hn.blk hbx (by rw [htx]; omega)).cell 0
                  have e1 := (hn.blk hbx (by rw [htx]; omega)).cell 1
                  have e2 := (hn.blk hbx (by rw [htx]; omega)).cell 2
                  have e3 := (hn.blk hbx (by rw [htx]; omega)).cell 3
                  have e4 := (hn.blk hbx (by rw [htx]; omega)).cell 4
                  have e5 := (hn.blk hbx (by rw [htx]; omega)).cell 5
                  simp [flcells] at d0 d1 d2 d3 e0 e1 e2 e3 e4 e5))
              obtain ⟨own3, h3, -, -, -⟩ := hfd.noise hnk hn
              go_wp2_with fail
              go_roundg (gk - 1)
              case measure => have := HK.out; omega
              case rel => exact ⟨r + 1, own3, s3, k', has', rfl, by go_num, by have := HK.out; omega, (by rw [show r + 1 + 2 = r + 2 + 1 by omega]; exact h3)⟩
        · obtain rfl : r = len := by omega
          go_wp2_with fail
          refine (all_any P hf (fun q hq => HF.out (r + 2 + q) (by omega))).mono ?_
          rintro e w3 ⟨rfl, own3, s3, k3, has3, h3⟩
          go_wp2_with fail
          go_ret
          exact ⟨rfl, hbW.trans (h3.sk.bel.mono hWs)⟩
end Go.Proofs.Ytinlkcmdbjcofab

/-
  Where a right stands in what Rights tells.
-/
namespace Go.Proofs.Ytinlkcmdbjcofab
set_option linter.unusedVariables false

section
variable {rs : RSt} {env : Int}
theorem listTo_pre (rs : RSt) (env : Int) (q : Nat) : ∀ d, ∃ t, listTo rs env (q + d) = listTo rs env q ++ t := by
  intro d
  induction d with
  | zero => exact ⟨[], by simp⟩
  | succ d ih =>
    obtain ⟨t, ht⟩ := ih
    cases hr : rs.rights[q + d]? with
    | none =>
      refine ⟨t, ?_⟩
      rw [← ht]
      unfold listTo
      rw [show q + (d + 1) = (q + d) + 1 by omega, List.range_succ, List.filterMap_append]
      simp [hr]
    | some r =>
      rw [show q + (d + 1) = (q + d) + 1 by omega, listTo_succ rs env _ r hr, ht, List.append_assoc]
      exact ⟨_, rfl⟩

/-- Where a right that is alive stands in the list of its environment. -/
theorem listR_at {i : Nat} {r : RR} (hr : rs.rights[i]? = some r) (hl : lv rs.rights i = true) (he : r.env = env) : (listR rs env)[(listTo rs env i).length]? = some r := by
  have hi := (List.getElem?_eq_some_iff.1 hr).1
  obtain ⟨t, ht⟩ := listTo_pre rs env (i + 1) (rs.rights.length - (i + 1))
  rw [show i + 1 + (rs.rights.length - (i + 1)) = rs.rights.length by omega] at ht
  unfold listR
  rw [ht, listTo_succ rs env i r hr, hl]
  simp [he]
theorem listTo_lt {i : Nat} {r : RR} (hr : rs.rights[i]? = some r) (hl : lv rs.rights i = true) (he : r.env = env) : (listTo rs env i).length < (listR rs env).length := (List.getElem?_eq_some_iff.1 (listR_at hr hl he)).1

/-- Which right stands at place k of the list. -/
theorem listTo_find (rs : RSt) (env : Int) : ∀ (n k : Nat) (r : RR), (listTo rs env n)[k]? = some r → ∃ i, i < n ∧ rs.rights[i]? = some r ∧ lv rs.rights i = true ∧ r.env = env ∧ (listTo rs env i).length = k := by
  intro n
  induction n with
  | zero => intro k r h; simp [listTo] at h
  | succ n ih =>
    intro k r h
    cases hr : rs.rights[n]? with
    | none =>
      have : listTo rs env (n + 1) = listTo rs env n := by
        unfold listTo
        rw [List.range_succ, List.filterMap_append]
        simp [hr]
      rw [this] at h
      obtain ⟨i, h1, h2⟩ := ih k r h
      exact ⟨i, by omega, h2⟩
    | some x =>
      rw [listTo_succ rs env n x hr] at h
      cases hc : (lv rs.rights n && x.env == env) with
      | false =>
        rw [hc] at h
        simp at h
        obtain ⟨i, h1, h2⟩ := ih k r h
        exact ⟨i, by omega, h2⟩
      | true =>
        rw [hc] at h
        simp only [if_true] at h
        rcases getApp h with h | ⟨h1, h2⟩
        · obtain ⟨i, h1, h2⟩ := ih k r h
          exact ⟨i, by omega, h2⟩
        · subst h2
          simp at hc
          exact ⟨n, by omega, hr, hc.1, hc.2, h1.symm⟩

theorem listTo_mono {i j : Nat} {r : RR} (hij : i < j) (hr : rs.rights[i]? = some r) (hl : lv rs.rights i = true) (he : r.env = env) : (listTo rs env i).length < (listTo rs env j).length := by
  obtain ⟨t, ht⟩ := listTo_pre rs env (i + 1) (j - (i + 1))
  rw [show i + 1 + (j - (i + 1)) = j by omega] at ht
  rw [ht, listTo_succ rs env i r hr, hl]
  simp [he]
end

end Go.Proofs.Ytinlkcmdbjcofab

/-
  append: the elements that were there are as they were, in the old row too.
-/
namespace Go.Proofs.Ytinlkcmdbjcofab
open Go.RowKit
set_option linter.unusedVariables false

section
variable {P : Program} (w : World)

theorem run_append_kept (t ty : TypeId) (e : TypeId) (i : TypeInfo) (z : Value) (size bytes : Nat) (ht : P.underlying t = some (.slice e)) (hi : P.info? e = some i) (hz : i.zero = some z)
    (hsize : i.size = size) (hby : i.bytes = bytes) (hzs : z.cells.size = size) (hsz : 0 < size)
    (v : Value) (n : Nat) (xs : List Value) (hown : w.ownsRow 0 e size v n xs)
    (ad : Addr) (m c : Nat) (news : List Value) (hl : news.length = m * size) (hnews : ∀ j u, news[j]? = some u → w.cell? (ad.add j) = some u) (h1 : ∀ u ∈ news, u.oneCell' = true)
    (hm : 0 < m) (h63 : n + m ≤ maxLen) (hbytes : (n + m) * bytes ≤ 140737488355328) (H : Nat) (hH : w.heap.size = H) :
    ∃ g cap w', (Builtin.append_ #[t, t] ty #[v, .slice (some ad) m c]).run P w = .ok (.slice (some ⟨g, 0, none⟩) (n + m) cap) w' ∧
      w'.ownsRow 0 e size (.slice (some ⟨g, 0, none⟩) (n + m) cap) (n + m) (xs ++ news) ∧ w.grownBy w' v.ownBlock ∧ (v.ownBlock = some g ∨ g = H) ∧ g < w'.heap.size ∧
      (∀ b, v.ownBlock = some b → ∀ j, j < n * size → w'.cell? ⟨b, j, none⟩ = w.cell? ⟨b, j, none⟩) := by
  obtain ⟨g, cap, w', hr, h2, h3, h4, h5⟩ := run_append_lies (P := P) w t ty 0 e i z size bytes ht hi hz hsize hby hzs hsz v n xs hown ad m c news hl hnews h1 hm h63 hbytes (Nat.zero_le _) H hH
  refine ⟨g, cap, w', hr, h2, h3, h4, h5, ?_⟩
  intro b hb j hj
  rcases hown.2 with ⟨rfl, _⟩ | ⟨g0, cap0, cur, rfl, _, hg, hnc, hcm, hcs, htake⟩
  · simp [Value.ownBlock] at hb
  · have hgb : g0 = b := by simpa [Value.ownBlock] using hb
    subst hgb
    subst hsize
    by_cases hroom : n + m ≤ cap0
    · have hfit : n * i.size + news.length ≤ cur.size := by rw [hl, hcs, ← Nat.add_mul]; exact Nat.mul_le_mul_right _ hroom
      have hr2 := run_append_room (P := P) w t ty e i ht hi g0 n cap0 cur hg ad m c news hl hnews h1 hroom hfit
      rw [hr] at hr2
      have hw : w' = _ := (Result.ok.inj hr2).2
      rw [hw, cell_of_row _ g0 j _ e (0, 0) (setRow_heap w g0 cur _ e _ hg), cell_of_row w g0 j cur e (0, 0) hg]
      have : n * i.size ≤ cur.toList.length := by simp; omega
      simp only [List.getElem?_toArray]
      rw [List.append_assoc, List.getElem?_append_left (by rw [List.length_take]; omega), List.getElem?_take, if_pos hj]
      simp
    · have holds : ∀ j u, xs[j]? = some u → w.cell? ((⟨g0, 0, none⟩ : Addr).add j) = some u := hown.cells (g := g0) rfl
      have hsm : n + m ≤ 9223372036854775807 := by simp only [maxLen] at h63; omega
      have hr2 := run_append_grow (P := P) w t ty e i z ht hi hz ⟨g0, 0, none⟩ n cap0 xs hown.1 holds ad m c news hl hnews (by omega) (by omega) (growslice_fits (by omega) (by rw [hby]; exact hbytes))
      rw [hr] at hr2
      have hw : w' = _ := (Result.ok.inj hr2).2
      have hlt : g0 < w.heap.size := (Array.getElem?_eq_some_iff.1 hg).1
      have hb : w'.heap[g0]? = w.heap[g0]? := by
        rw [hw]
        exact Below.heap_alloc w.drew _ g0 hlt
      exact World.cell?_of_block (a := ⟨g0, j, none⟩) hb

theorem wpList_append_kept {ops : Array Oper} {rest : List Oper} {o : Oper} {a : Act} {Q : Exit → Act → World → Prop} (hgd : o.guard = none) (s x : Operand) (t : TypeId)
    (ho : o.op = .call { callee := .builtin .append, args := #[s, x], argTypes := #[t, t] })
    (e : TypeId) (i : TypeInfo) (z : Value) (size bytes : Nat) (ht : P.underlying t = some (.slice e)) (hi : P.info? e = some i) (hz : i.zero = some z)
    (hsize : i.size = size) (hby : i.bytes = bytes) (hzs : z.cells.size = size) (hsz : 0 < size)
    (v : Value) (n : Nat) (xs : List Value) (hs : a.eval s = v) (hown : w.ownsRow 0 e size v n xs)
    (ad : Addr) (m c : Nat) (news : List Value) (hx : a.eval x = .slice (some ad) m c) (hl : news.length = m * size) (hnews : ∀ j u, news[j]? = some u → w.cell? (ad.add j) = some u) (h1 : ∀ u ∈ news, u.oneCell' = true)
    (hm : 0 < m) (h63 : n + m ≤ maxLen) (hbytes : (n + m) * bytes ≤ 140737488355328) (H : Nat) (hH : w.heap.size = H)
    (h : ∀ g cap w', w'.ownsRow 0 e size (.slice (some ⟨g, 0, none⟩) (n + m) cap) (n + m) (xs ++ news) → w.grownBy w' v.ownBlock → (v.ownBlock = some g ∨ g = H) → g < w'.heap.size →
      (∀ b, v.ownBlock = some b → ∀ j, j < n * size → w'.cell? ⟨b, j, none⟩ = w.cell? ⟨b, j, none⟩) → wpList P ops Q rest (a.put o.dst (.slice (some ⟨g, 0, none⟩) (n + m) cap)) w') : wpList P ops Q (o :: rest) a w := by
  refine wpList_plain hgd fun K hK => ?_
  obtain ⟨g, cap, w', hr, h2, h3, h4, h5, h6⟩ := run_append_kept (P := P) w t o.type e i z size bytes ht hi hz hsize hby hzs hsz v n xs hown ad m c news hl hnews h1 hm h63 hbytes H hH
  unfold Oper.wp execOp
  simp only [ho, resolve, invoke, builtin, Sem.run_bind, Sem.run_pure, Result.andThen_ok, List.map_toArray, List.map_cons, List.map_nil, hs, hx, hr]
  exact hK _ _ (h g cap w' h2 h3 h4 h5 h6)
end
end Go.Proofs.Ytinlkcmdbjcofab

/-
  The lists that came out, and how their owner has marked them.
-/
namespace Go.Proofs.Ytinlkcmdbjcofab
open Go.RowKit
set_option linter.unusedVariables false

theorem Row.cellAt' {w : World} {e k n g cap : Nat} {xs : List Value} (h : Row w (.slice (some ⟨g, 0, none⟩) n cap) e k n xs) (j : Nat) (hj : j < n * k) : w.cell? ⟨g, j, none⟩ = xs[j]? := World.ownsRow.cellAt h j hj
theorem Row.shape' {w : World} {v : Value} {e k n : Nat} {xs : List Value} (h : Row w v e k n xs) : ∃ ao cap, v = .slice ao n cap ∧ (n = 0 ∨ ∃ g, ao = some ⟨g, 0, none⟩) := by
  obtain ⟨ao, cap, g, hv, hao, _⟩ := h.view
  refine ⟨ao, cap, hv, ?_⟩
  rcases Nat.eq_zero_or_pos n with h0 | h0
  · exact .inl h0
  · exact .inr ⟨g, hao h0⟩

/-- A slice all of whose elements hold the k cells c; at most a of them; its row bears the mark t. -/
def SA (own : Nat → Nat × Nat) (t : Nat × Nat) (w : World) (c : List Value) (k a : Nat) (x : Value) : Prop :=
  ∃ ao n cap g, x = .slice ao n cap ∧ n ≤ a ∧ (n = 0 ∨ (ao = some ⟨g, 0, none⟩ ∧ own g = t ∧ g < w.heap.size ∧ ∀ i j, i < n → j < k → w.cell? ⟨g, i * k + j, none⟩ = c[j]?))

theorem SA.of {own own' : Nat → Nat × Nat} {t : Nat × Nat} {w w' : World} {c : List Value} {k a : Nat} {x : Value} (h : SA own t w c k a x) (ho : ∀ b, b < w.heap.size → own' b = own b) (hs : w.heap.size ≤ w'.heap.size)
    (hb : ∀ b, b < w.heap.size → own b = t → ∀ j, j < a * k → w'.cell? ⟨b, j, none⟩ = w.cell? ⟨b, j, none⟩) : SA own' t w' c k a x := by
  obtain ⟨ao, n, cap, g, rfl, hn, h⟩ := h
  refine ⟨ao, n, cap, g, rfl, hn, ?_⟩
  rcases h with h | ⟨h1, h2, h3, h4⟩
  · exact Or.inl h
  refine Or.inr ⟨h1, (ho g h3).trans h2, by omega, fun i j hi hj => ?_⟩
  rw [hb g h3 h2 _ ?_]
  · exact h4 i j hi hj
  · have : i * k + j < (i + 1) * k := by rw [Nat.add_mul]; omega
    have : (i + 1) * k ≤ a * k := Nat.mul_le_mul_right k (by omega)
    omega
theorem SA.mono {own : Nat → Nat × Nat} {t : Nat × Nat} {w : World} {c : List Value} {k a a' : Nat} {x : Value} (h : SA own t w c k a x) (ha : a ≤ a') : SA own t w c k a' x := by
  obtain ⟨ao, n, cap, g, rfl, hn, h⟩ := h
  exact ⟨ao, n, cap, g, rfl, by omega, h⟩

def mI (n : Int) : List Value := [.int .i64 n]
def mR (n : Int) : List Value := [.int .i64 n, .int .i64 0, .int .i64 0, .bool false]
def mE (n : Int) : List Value := [.bool false, .int .i64 n, .int .i64 0, .int .i64 0, .bool false]

section
variable {own : Nat → Nat × Nat} {t : Nat × Nat} {w : World}

theorem SA.shape {x : Value} {c : List Value} {k a : Nat} (h : SA own t w c k a x) : ∃ ao n cap, x = .slice ao n cap := by
  obtain ⟨ao, n, cap, _, h, _⟩ := h
  exact ⟨ao, n, cap, h⟩

end
end Go.Proofs.Ytinlkcmdbjcofab

/-
  As many pages are in as environment 0 has rights; 'entered'.
-/
namespace Go.Proofs.Ytinlkcmdbjcofab
open Go.RowKit
set_option linter.unusedVariables false
attribute [local go_sem ↓] Go.wp_at_zero Go.wp_at_succ

section
variable {s : RSt} {env : Nat} {k : KSt}
/-- The places of the rights of env that are alive. -/
def placesTo (s : RSt) (env : Int) (n : Nat) : List Nat := (List.range n).filter fun i => ((s.rights[i]?).map fun r => lv s.rights i && r.env == env).getD false
theorem listTo_places (s : RSt) (env : Int) : ∀ n, (listTo s env n).length = (placesTo s env n).length := by
  intro n
  induction n with
  | zero => rfl
  | succ n ih =>
    unfold listTo placesTo at *
    rw [List.range_succ, List.filterMap_append, List.filter_append, List.length_append, List.length_append, ih]
    congr 1
    simp only [List.filterMap_cons, List.filterMap_nil, List.filter_cons, List.filter_nil]
    cases hr : s.rights[n]? with
    | none => simp
    | some r =>
      simp only [Option.bind_some, Option.map_some, Option.getD_some]
      by_cases hc : (lv s.rights n && r.env == env) = true
      · rw [if_pos hc, if_pos hc]; rfl
      · rw [if_neg hc, if_neg hc]; rfl
theorem places_mem {n i : Nat} : i ∈ placesTo s env n ↔ i < n ∧ ∃ r, s.rights[i]? = some r ∧ lv s.rights i = true ∧ r.env = env := by
  unfold placesTo
  rw [List.mem_filter, List.mem_range]
  constructor
  · rintro ⟨h1, h2⟩
    refine ⟨h1, ?_⟩
    cases hr : s.rights[i]? with
    | none => rw [hr] at h2; simp at h2
    | some r => rw [hr] at h2; simp at h2; exact ⟨r, rfl, h2.1, h2.2⟩
  · rintro ⟨h1, r, h2, h3, h4⟩
    exact ⟨h1, by simp [h2, h3, h4]⟩
theorem places_nodup (n : Nat) : (placesTo s env n).Nodup := List.nodup_range.filter _
theorem nodup_map {α β : Type} (f : α → β) : ∀ (l : List α), l.Nodup → (∀ x y, x ∈ l → y ∈ l → f x = f y → x = y) → (l.map f).Nodup := by
  intro l
  induction l with
  | nil => intro _ _; simp
  | cons x xs ih =>
    intro hn hf
    rw [List.nodup_cons] at hn
    rw [List.map_cons, List.nodup_cons]
    refine ⟨fun hm => ?_, ih hn.2 (fun a b ha hb => hf a b (by simp [ha]) (by simp [hb]))⟩
    obtain ⟨y, hy, e⟩ := List.mem_map.1 hm
    have := hf y x (by simp [hy]) (by simp) e
    exact hn.1 (this ▸ hy)

theorem told_len (h : SOk s) (hO : s.kept[env]? = some (some k)) : (toldR s env).length = k.inp.length := by
  have hK := h.kok.k1 env k hO
  unfold toldR
  rw [hK.alv]
  simp only [if_true]
  unfold listR
  rw [listTo_places]
  let f : Int → Nat := fun p => ((k.hnd[p.toNat]?).getD 0 - 1).toNat
  have hf : ∀ p, p ∈ k.inp → ∃ r, s.rights[f p]? = some r ∧ lv s.rights (f p) = true ∧ r.env = env ∧ k.hnd[p.toNat]? = some ((f p : Int) + 1) := fun p hp => by
    obtain ⟨j, h1, r, h2, h3, h4, -⟩ := hK.hr p hp
    have : f p = j := by show ((k.hnd[p.toNat]?).getD 0 - 1).toNat = j; rw [h1]; simp
    rw [this]
    exact ⟨r, h2, h3, h4, h1⟩
  have hnd : (k.inp.map f).Nodup := nodup_map f k.inp hK.len.nod (fun p q hp hq e => by
    obtain ⟨_, -, -, -, h1⟩ := hf p hp
    obtain ⟨_, -, -, -, h2⟩ := hf q hq
    exact hK.inj p q hp hq (by rw [h1, h2, e]))
  have l1 : k.inp.length ≤ (placesTo s env s.rights.length).length := by
    have := pigeon (k.inp.map f) (placesTo s env s.rights.length) hnd (fun j hj => by
      obtain ⟨p, hp, rfl⟩ := List.mem_map.1 hj
      obtain ⟨r, h1, h2, h3, -⟩ := hf p hp
      exact places_mem.2 ⟨(List.getElem?_eq_some_iff.1 h1).1, r, h1, h2, h3⟩)
    simpa using this
  have l2 : (placesTo s env s.rights.length).length ≤ k.inp.length := by
    have := pigeon (placesTo s env s.rights.length) (k.inp.map f) (places_nodup _) (fun j hj => by
      obtain ⟨-, r, h1, h2, h3⟩ := places_mem.1 hj
      obtain ⟨p, hp, hh⟩ := hK.all j r h1 h2 h3
      refine List.mem_map.2 ⟨p, hp, ?_⟩
      show ((k.hnd[p.toNat]?).getD 0 - 1).toNat = j
      rw [hh]; simp)
    simpa using this
  omega
theorem in_le_nf (h : SOk s) (hO : s.kept[env]? = some (some k)) : k.inp.length ≤ s.nf := by
  have hK := h.kok.k1 env k hO
  let f : Int → Nat := fun p => (((s.rights[((k.hnd[p.toNat]?).getD 0 - 1).toNat]?).map RR.fr).getD 0).toNat
  have hf : ∀ p, p ∈ k.inp → ∃ (j : Nat) (r : RR), k.hnd[p.toNat]? = some ((j : Int) + 1) ∧ s.rights[j]? = some r ∧ lv s.rights j = true ∧ r.frm < 0 ∧ f p = r.fr.toNat := fun p hp => by
    obtain ⟨j, h1, r, h2, h3, h4, h5, -⟩ := hK.hr p hp
    refine ⟨j, r, h1, h2, h3, h5, ?_⟩
    show (((s.rights[((k.hnd[p.toNat]?).getD 0 - 1).toNat]?).map RR.fr).getD 0).toNat = _
    rw [h1]
    simp only [Option.getD_some]
    rw [show ((j : Int) + 1 - 1).toNat = j by omega, h2]; rfl
  have hnd : (k.inp.map f).Nodup := nodup_map f k.inp hK.len.nod (fun p q hp hq e => by
    obtain ⟨j, r, a1, a2, a3, a4, a5⟩ := hf p hp
    obtain ⟨j', r', b1, b2, b3, b4, b5⟩ := hf q hq
    have g1 := h.inv.fr j r a2
    have g2 := h.inv.fr j' r' b2
    have : j = j' := h.hin.one j j' r r' a2 b2 a3 b3 a4 b4 (by omega)
    exact hK.inj p q hp hq (by rw [a1, b1, this]))
  have := pigeon (k.inp.map f) (List.range s.nf) hnd (fun x hx => by
    obtain ⟨p, hp, rfl⟩ := List.mem_map.1 hx
    obtain ⟨j, r, a1, a2, a3, a4, a5⟩ := hf p hp
    have g1 := h.inv.fr j r a2
    rw [a5]
    exact List.mem_range.2 (by omega))
  simpa using this
end

section
variable {M : MT} {w0 w w' : World} {m i bf : Nat} {own : Nat → Nat × Nat} {s s' : RSt} {k : KSt} {has : Bool} {a b c : Nat}

set_option maxHeartbeats 8000000 in
set_option maxRecDepth 100000 in
theorem entered_any (P : Api M) (h : FK M w0 m bf i own s w k has a b c) (hi : (i + 2) * 48 ≤ 140737488355328) (page : Nat) (wt : Bool) {vL : Value} (hrow : Row w vL 64 4 (listR s 0).length ((listR s 0).flatMap rcells)) (hLn : (listR s 0).length ≤ 16)
    (hent : ∃ (q : Nat) (e : Ent), s.slots[q]? = some e ∧ e.used = true ∧ e.env = ((0 : Nat) : Int) ∧ e.page = page ∧ (wt = true → e.wr = true)) :
    Calls Try.prog 54 #[.pointer (some ⟨bf, 0, none⟩), .int .i64 page, .bool wt, vL] w fun e w' => e = .returned (.bool true) ∧ Below w.heap.size w w' := by
  obtain ⟨q, e, hq, hu, hE, hp, hwt⟩ := hent
  obtain ⟨j, r, hr, hl, he, hf, hwr⟩ := owned_ex.1 (h.sk.hok.ent q e hq hu).2.2
  have hat := listR_at hr hl he
  rw [hE] at hat
  obtain ⟨k0, hk0⟩ : ∃ k0, (listTo s ((0 : Nat) : Int) j).length = k0 := ⟨_, rfl⟩
  rw [hk0] at hat
  have hsl := h.sk.hok.fix.sl
  have hql := (List.getElem?_eq_some_iff.1 hq).1
  have HAT : Hid ((listR s 0)[k0]? = some r) := hat
  have HFR : Hid (r.fr = e.fr) := hf
  have hkl : k0 < (listR s 0).length := (List.getElem?_eq_some_iff.1 hat).1
  have HQ : Hid (s.slots[q]? = some e) := hq
  have HU : Hid (∀ (i : Nat) (f : Ent), s.slots[i]? = some f → f.used = true → f.env = 0 → f.page = page → i = q) := fun i f h1 h2 h3 h4 => h.sk.hok.uni i q f e h1 hq h2 hu (by rw [h3, hE]; rfl) (by rw [h4, hp])
  have HE : Hid (e.used = true ∧ e.env = 0 ∧ e.page = page ∧ (wt = true → e.wr = true)) := ⟨hu, hE, hp, hwt⟩
  have m0 := h.blk.cell 0
  simp [flcells] at m0
  obtain ⟨n, hn⟩ : ∃ n, (listR s 0).length = n := ⟨_, rfl⟩
  have HN : Hid ((listR s 0).length = n) := hn
  rw [hn] at hrow hLn hkl
  obtain ⟨aoL, capL, hvL, hcL⟩ := hrow.shape'
  rcases hcL with h0 | ⟨gL, rfl⟩
  · omega
  subst hvL
  clear hat hr hl he hf hwr hq hu hE hp hwt hk0 hn
  go_enter Try.func54, Try.ntmps54
  go_wp2_with fail
  refine (h.sk.table P hi).mono ?_
  rintro e1 w1 ⟨vT, rfl, hb1, hnT, hrowT⟩
  obtain ⟨N, hNN⟩ : ∃ N, s.slots.length = N := ⟨_, rfl⟩
  have HNN : Hid (s.slots.length = N) := hNN
  rw [hNN] at hrowT hsl hql
  obtain ⟨aoT, capT, hvT, hcT⟩ := hrowT.shape'
  rcases hcT with h0 | ⟨gT, rfl⟩
  · omega
  subst hvT
  have hrowL := hrow.below hb1
  clear hNN
  go_wp2_with fail
  go_loopg [10] N (fun n' x wr => ∃ r' : Nat, x = .int .i64 r' ∧ r' + n' = N ∧ r' ≤ q ∧ Below w1.heap.size w1 wr)
  case atStart => exact ⟨0, rfl, by omega, by omega, Below.refl _ _⟩
  case round =>
    obtain ⟨r', rfl, hk, hrq, hbl⟩ := hrel
    have HK : Hid (r' + gk = N) := hk
    have hrN : r' < N := by omega
    clear hk
    have hT := hrowT.below hbl
    have hL := hrowL.below hbl
    obtain ⟨f, hff⟩ : ∃ f, s.slots[r']? = some f := ⟨s.slots[r']'(by rw [HNN.out]; exact hrN), by simp⟩
    have cc : ∀ j, j < 5 → wr.cell? ⟨gT, r' * 5 + j, none⟩ = f.cells[j]? := fun j hj => by
      rw [hT.cellAt' _ (by omega), flat_get Ent.cells 5 (fun _ => rfl) s.slots r' j f hff hj]
    have u0 := (cc 0 (by omega)).trans (show _ = some (.bool f.used) from rfl)
    have u1 := (cc 1 (by omega)).trans (show _ = some (.int .i64 f.env) from rfl)
    have u2 := (cc 2 (by omega)).trans (show _ = some (.int .i64 f.page) from rfl)
    have u3 := (cc 3 (by omega)).trans (show _ = some (.int .i64 f.fr) from rfl)
    have u4 := (cc 4 (by omega)).trans (show _ = some (.bool f.wr) from rfl)
    simp only [Nat.add_zero] at u0
    have hr0 : (0 : Int) ≤ (r' : Int) := by omega
    have hr1 : (r' : Int) < (N : Int) := by omega
    clear cc
    have HF : Hid (s.slots[r']? = some f) := hff
    clear hff
    have step : ∀ {P : Prop}, (r' ≠ q → P) → r' = q → P → P := fun _ _ h => h
    by_cases hrq' : r' = q
    · -- the entry
      have hfe : f = e := by
        have h1 := HF.out
        rw [hrq', HQ.out] at h1
        simpa using h1.symm
      obtain ⟨g1, g2, g3, g4⟩ := HE.out
      rw [hfe, g1] at u0
      rw [hfe, g2] at u1
      rw [hfe, g3] at u2
      rw [hfe] at u3 u4
      obtain ⟨wo, rfl⟩ : ∃ wo : World, wo = wr := ⟨_, rfl⟩
      obtain ⟨go, hgo⟩ : ∃ go : Nat, go = gk := ⟨_, rfl⟩
      rw [← hgo] at HK
      clear hgo g1 g2 g3 hfe HF
      have HW : Hid (wt = true → e.wr = true) := g4
      clear g4 step hrq'
      go_wp2_with fail
      go_loopg [11] n (fun n' y wr => ∃ p' : Nat, y = .int .i64 p' ∧ p' + n' = n ∧ p' ≤ k0 ∧ Below wo.heap.size wo wr)
      case atStart => exact ⟨0, rfl, by omega, by omega, Below.refl _ _⟩
      case round =>
        obtain ⟨p', rfl, hk2, hpk, hbl2⟩ := hrel
        have HK2 : Hid (p' + gk = n) := hk2
        have hpn : p' < n := by omega
        clear hk2
        obtain ⟨y, hy⟩ : ∃ y, (listR s 0)[p']? = some y := ⟨(listR s 0)[p']'(by rw [HN.out]; exact hpn), by simp⟩
        have hL2 := hL.below hbl2
        have v2 : wr.cell? ⟨gL, p' * 4 + 2, none⟩ = some (.int .i64 y.fr) := by rw [hL2.cellAt' _ (by omega), flat_get rcells 4 (fun _ => rfl) (listR s 0) p' 2 y hy (by omega)]; rfl
        have hu3 : wr.cell? ⟨gT, r' * 5 + 3, none⟩ = some (.int .i64 e.fr) := (hbl2.cell (p := ⟨gT, r' * 5 + 3, none⟩) (hT.lt gT rfl)).trans u3
        have hu4 : wr.cell? ⟨gT, r' * 5 + 4, none⟩ = some (.bool e.wr) := (hbl2.cell (p := ⟨gT, r' * 5 + 4, none⟩) (hT.lt gT rfl)).trans u4
        have hp0 : (0 : Int) ≤ (p' : Int) := by omega
        have hp1 : (p' : Int) < (n : Int) := by omega
        have HY : Hid (p' = k0 → y = r) := fun e2 => by
          have := HAT.out
          rw [← e2, hy] at this
          simpa using this
        have fin : Below w.heap.size w wr := hb1.trans ((hbl.trans (hbl2.mono hbl.size)).mono hb1.size)
        clear hy hL2
        cases z2 : (y.fr == e.fr)
        · have hlt : p' < k0 := by
            rcases Nat.lt_or_ge p' k0 with h | h
            · exact h
            · have := HY.out (by omega); rw [this, HFR.out] at z2; simp at z2
          go_wp2_with fail
          go_quiet (fail)
          go_wp2_with fail
          go_roundg (gk - 1)
          case measure => have := HK2.out; omega
          case rel => exact ⟨p' + 1, by go_num, by have := HK2.out; omega, by omega, below_drewN hbl2 _⟩
        · rcases Bool.eq_false_or_eq_true wt with hwt | hwt
          · rw [HW.out hwt] at hu4
            subst hwt
            go_wp2_with fail
            go_quiet (fail)
            go_wp2_with fail
            go_ret
            exact ⟨rfl, below_drewN fin _⟩
          · subst hwt
            rcases Bool.eq_false_or_eq_true e.wr with hw2 | hw2
            · rw [hw2] at hu4
              go_wp2_with fail
              go_quiet (fail)
              go_wp2_with fail
              go_ret
              exact ⟨rfl, below_drewN fin _⟩
            · rw [hw2] at hu4
              go_wp2_with fail
              go_quiet (fail)
              go_wp2_with fail
              go_ret
              exact ⟨rfl, below_drewN fin _⟩
    · have hnext : Hid (f.used = true → f.env = 0 → f.page = page → False) := fun a1 a2 a3 => hrq' (HU.out r' f HF.out a1 a2 a3)
      cases z1 : f.used
      · rw [z1] at u0
        go_wp2_with fail
        go_roundg (gk - 1)
        case measure => have := HK.out; omega
        case rel => exact ⟨r' + 1, by go_num, by have := HK.out; omega, by omega, hbl⟩
      · rw [z1] at u0
        by_cases z2 : f.env = 0
        · have z3 : (f.page != (page : Int)) = true := by
            have := hnext.out z1 z2
            simpa using this
          have z2' : (f.env != 0) = false := by simp [z2]
          clear z2
          go_wp2_with fail
          go_roundg (gk - 1)
          case measure => have := HK.out; omega
          case rel => exact ⟨r' + 1, by go_num, by have := HK.out; omega, by omega, hbl⟩
        · have z2' : (f.env != 0) = true := by simp [z2]
          go_wp2_with fail
          go_roundg (gk - 1)
          case measure => have := HK.out; omega
          case rel => exact ⟨r' + 1, by go_num, by have := HK.out; omega, by omega, hbl⟩
end
end Go.Proofs.Ytinlkcmdbjcofab

/-
  'calm'; 'Calm' itself.
-/
namespace Go.Proofs.Ytinlkcmdbjcofab
open Go.RowKit
set_option linter.unusedVariables false
attribute [local go_sem ↓] Go.wp_at_zero Go.wp_at_succ

section
variable {M : MT} {w0 w w' : World} {m i bf : Nat} {own : Nat → Nat × Nat} {s s' : RSt} {k : KSt} {has : Bool} {a b c : Nat}
theorem FK.heldE (h : FK M w0 m bf i own s w k has a b c) : heldE s 0 = 0 := by
  have hal : aliveB s 0 = true := (h.sk.hok.kok.k1 0 k h.at).alv
  unfold Go.Proofs.Ytinlkcmdbjcofab.heldE keptB
  rw [hal, h.ke]; rfl
theorem FK.counts (h : FK M w0 m bf i own s w k has a b c) : countsR s 0 = ((k.refills, k.ins, k.outs, (k.inp.length : Int)), 0) := by
  unfold countsR
  rw [h.heldE, h.ke]; rfl

set_option maxHeartbeats 8000000 in
set_option maxRecDepth 100000 in
theorem calm_any (P : Api M) (h : FK M w0 m bf i own s w k true a b c) (hi : (i + 2) * 48 ≤ 140737488355328) (hi2 : (i + 1 + 2) * 48 ≤ 140737488355328) (o : LStep) (ho : o.i64) :
    Calls Try.prog 25 #[.pointer (some ⟨bf, 0, none⟩), .agg #[.int .i64 o.K, .int .i64 o.V, .int .i64 o.A, .int .i64 o.B, .int .i64 o.C, .bool o.F]] w fun e w' => e = .returned (.bool true) ∧ ∃ own' s' k', FK M w0 m bf (i + 1) own' s' w' k' true a b c := by
  obtain ⟨a0, a1⟩ := ho.2.1
  have pA := pick_any o.A a0 a1 64 (by omega) (by omega)
  have hA := pk_lt o.A (show 0 < 64 by omega)
  have ie : I64 0 := by unfold I64; omega
  have hba : Below w.heap.size w (w.alloc (.cells #[.int .i64 o.K, .int .i64 o.V, .int .i64 o.A, .int .i64 o.B, .int .i64 o.C, .bool o.F] 31)) := (Below.refl _ _).alloc (Nat.le_refl _) _
  have hf := h.below P hba
  have hbs := Blk.new w [.int .i64 o.K, .int .i64 o.V, .int .i64 o.A, .int .i64 o.B, .int .i64 o.C, .bool o.F] 31
  have m0 := hf.blk.cell 0
  simp [flcells] at m0
  have tB := hf.tag
  have tS : (own w.heap.size).1 = 0 := h.sk.top _ (Nat.le_refl _)
  have nSB : w.heap.size ≠ bf := fun e => by have := h.blk.lt; omega
  have HC1 : Hid (countsR s 0 = ((k.refills, k.ins, k.outs, (k.inp.length : Int)), 0)) := h.counts
  go_enter Try.func25, Try.ntmps25
  go_wp2_with fail
  refine (hf.sk.counts P hi 0 ie).mono ?_
  rintro e w2 ⟨rfl, hn⟩
  rw [HC1.out]
  obtain ⟨own2, hf2, ho2, hk2, hs2⟩ := hf.noise (Nk.refl s) hn
  have hbs2 := hbs.of (hk2 _ hbs.lt (by rw [tS]; omega))
  have tS2 : (own2 w.heap.size).1 = 0 := by rw [ho2 _ hbs.lt]; exact tS
  have hsz2 : w.heap.size < w2.heap.size := hbs2.lt
  clear hn hk2 ho2 hf h hbs m0 hs2
  as_aux_lemma =>
    have hb3 : Below w2.heap.size w2 (w2.alloc (.cells #[.int .i64 k.refills, .int .i64 k.ins, .int .i64 k.outs, .int .i64 k.inp.length] 91)) := (Below.refl _ _).alloc (Nat.le_refl _) _
    have hf3 := hf2.below P hb3
    have hbs3 := hbs2.below hb3 hbs2.lt
    have hbA := Blk.new w2 [.int .i64 k.refills, .int .i64 k.ins, .int .i64 k.outs, .int .i64 k.inp.length] 91
    have tA : (own2 w2.heap.size).1 = 0 := hf2.sk.top _ (Nat.le_refl _)
    have nAB : w2.heap.size ≠ bf := fun e => by have := hf2.blk.lt; omega
    have g0 := hbs3.cell 0
    have g1 := hbs3.cell 1
    have g2 := hbs3.cell 2
    have g3 := hbs3.cell 3
    have g4 := hbs3.cell 4
    have g5 := hbs3.cell 5
    simp at g0 g1 g2 g3 g4 g5
    go_wp2_with fail
    refine (facc_any P hf3 hi o ho).mono ?_
    rintro e w4 ⟨rfl, own4, s4, k4, has4, hf4, hacc, ho4, hk4, hs4⟩
    have hACC : has4 = true ∧ Acc s k 0 (pk o.A 64 / 4) o.F s4 k4 := by
      rcases hacc with ⟨hh, -⟩ | hh
      · simp at hh
      · exact hh
    obtain ⟨rfl, hac⟩ := hACC
    clear hacc g0 g1 g2 g3 g4 g5
    as_aux_lemma =>
      have hbs4 := hbs3.of (hk4 _ hbs3.lt (by rw [tS2]; omega) nSB)
      have hbA4 := hbA.of (hk4 _ hbA.lt (by rw [tA]; omega) nAB)
      have tS4 : (own4 w.heap.size).1 = 0 := by rw [ho4 _ hbs3.lt]; exact tS2
      have tA4 : (own4 w2.heap.size).1 = 0 := by rw [ho4 _ hbA.lt]; exact tA
      have m4 := hf4.blk.cell 0
      simp [flcells] at m4
      have HC4 : Hid (countsR s4 0 = ((k4.refills, k4.ins, k4.outs, (k4.inp.length : Int)), 0)) := hf4.counts
      have HAC : Hid (Acc s k 0 (pk o.A 64 / 4) o.F s4 k4) := hac
      have hil := hac.inl
      have hin1 := hac.in1
      have hnq := hf4.nq
      have hinf : k4.inp.length ≤ a := by rw [← hf4.nf]; exact in_le_nf hf4.sk.hok hf4.at
      have HTL : Hid ((toldR s4 ((0 : Nat) : Int)).length = k4.inp.length) := told_len hf4.sk.hok hf4.at
      have hla : a ≤ 16 := by rw [← hf4.nf]; exact hf4.sk.hok.fix.nf
      have hr := hac.ref
      have hn := hac.ins
      have hu := hac.outs
      have r0 := hf2.len.r0
      have r1 := hf2.len.r1
      have n0 := hf2.len.i0
      have n1 := hf2.len.i1
      have o0 := hf2.len.o0
      have o1 := hf2.len.o1
      have ub := hf2.sk.sz.2 0 k hf2.at
      have wr1 : IntKind.i64.wrap (k4.refills - k.refills) = k4.refills - k.refills := by rw [IntKind.wrap_i64]; omega
      have wr2 : IntKind.i64.wrap (k4.ins - k.ins) = k4.ins - k.ins := by rw [IntKind.wrap_i64]; omega
      have wr3 : IntKind.i64.wrap (k4.outs - k.outs) = k4.outs - k.outs := by rw [IntKind.wrap_i64]; omega
      clear hac hk4 ho4 hbs3 hbA hf3 hf2 hbs2 hb3 r0 r1 n0 n1 o0 o1 ub
      go_wp2_with fail
      refine (hf4.sk.counts P hi2 0 ie).mono ?_
      rintro e w5 ⟨rfl, hn5⟩
      rw [HC4.out]
      obtain ⟨own5, hf5, ho5, hk5, hs5⟩ := hf4.noise (Nk.refl s4) hn5
      have hbs5 := hbs4.of (hk5 _ hbs4.lt (by rw [tS4]; omega))
      have hbA5 := hbA4.of (hk5 _ hbA4.lt (by rw [tA4]; omega))
      as_aux_lemma =>
        have q0 := hbA5.cell 0
        have q1 := hbA5.cell 1
        have q2 := hbA5.cell 2
        have q3 := hbA5.cell 3
        simp at q0 q1 q2 q3
        clear hn5 hf4 hk5 ho5 hbs4 hbA4 m4
        have hA5l := hbA5.lt
        have hB5l := hf5.blk.lt
        have m5 := hf5.blk.cell 0
        have m51 := hf5.blk.cell 1
        have m85 := (hf5.blk.cell 85).trans (fc_quota hf5.len.by_ hf5.len.dty)
        simp [flcells] at m5 m51
        have hb6 : Below w5.heap.size w5 (w5.alloc (.cells #[.int .i64 k4.refills, .int .i64 k4.ins, .int .i64 k4.outs, .int .i64 k4.inp.length] 91)).drew := ((Below.refl _ _).alloc (Nat.le_refl _) _).drew
        have hf6 := hf5.below P hb6
        go_wp2_with fail
        go_region
        go_wp2_with fail
        refine (hf6.sk.rights P hi2 0 ie).mono ?_
        rintro e w7 ⟨vL, rfl, hb7, hnL, hrow⟩
        have hal4 : aliveB s4 0 = true := (hf6.sk.hok.kok.k1 0 k4 hf6.at).alv
        rw [show liveE s4 0 = 0 by unfold liveE; rw [hal4]; rfl]
        have htl := HTL.out
        rw [show toldR s4 ((0 : Nat) : Int) = listR s4 0 by unfold toldR; rw [show ((0 : Nat) : Int) = 0 from rfl, hal4]; rfl] at htl
        rw [show toldR s4 0 = listR s4 0 by unfold toldR; rw [hal4]; rfl] at hrow
        obtain ⟨aoL, capL, hvL, hcL⟩ := hrow.shape'
        rw [htl] at hvL
        as_aux_lemma =>
          have hf7 := hf6.below P hb7
          have hs7 := hb7.size
          have hbB := (Blk.new w5 [.int .i64 k4.refills, .int .i64 k4.ins, .int .i64 k4.outs, .int .i64 k4.inp.length] 91).drew
          have hbB7 := hbB.below hb7 hbB.lt
          have hbA7 := (hbA5.below hb6 hbA5.lt).below hb7 (by have := hbA5.lt; simp; omega)
          have hbs7 := (hbs5.below hb6 hbs5.lt).below hb7 (by have := hbs5.lt; simp; omega)
          have u3 := hbB7.cell 3
          have q3' := hbA7.cell 3
          have b2 := hbs7.cell 2
          have b5 := hbs7.cell 5
          have v1 := hf7.blk.cell 1
          have v85 := (hf7.blk.cell 85).trans (fc_quota hf7.len.by_ hf7.len.dty)
          simp [flcells] at u3 q3' b2 b5 v1
          obtain ⟨N, hN⟩ : ∃ N, k4.inp.length = N := ⟨_, rfl⟩
          rw [hN] at hil hin1 hnq hinf hvL u3 htl hbB hbB7 ⊢
          have HEN : Hid (∃ (q : Nat) (e : Ent), s4.slots[q]? = some e ∧ e.used = true ∧ e.env = ((0 : Nat) : Int) ∧ e.page = ((pk o.A 64 / 4 : Nat) : Int) ∧ (o.F = true → e.wr = true)) := HAC.out.ent
          obtain ⟨A, hAe⟩ : ∃ A, pk o.A 64 = A := ⟨_, rfl⟩
          rw [hAe] at pA hA HEN
          have hA2 : (A : Int).tdiv 4 = ((A / 4 : Nat) : Int) := by rw [Int.tdiv_eq_ediv_of_nonneg (by omega)]; omega
          obtain ⟨D, hD⟩ : ∃ D, A / 4 = D := ⟨_, rfl⟩
          rw [hD] at hA2 HEN
          have hD15 : D ≤ 15 := by omega
          clear hD
          have c1 : ¬ ((N : Int) < 1) := by omega
          have c2 : ¬ (k4.quota < (N : Int)) := by omega
          have c3 : ¬ ((a : Int) < (N : Int)) := by omega
          have c4 : ¬ ((N : Int) < (k.inp.length : Int)) := by omega
          have d1 : ((N : Int) != (N : Int)) = false := by simp
          have d2 : decide ((N : Int) < 1) = false := decide_eq_false c1
          have d3 : decide (k4.quota < (N : Int)) = false := decide_eq_false c2
          have d4 : decide ((a : Int) < (N : Int)) = false := decide_eq_false c3
          have d5 : decide ((N : Int) < (k.inp.length : Int)) = false := decide_eq_false c4
          have d6 : decide (a < N) = false := decide_eq_false (by omega)
          have d7 : decide (N < k.inp.length) = false := decide_eq_false (by omega)
          have d8 : (decide ((N : Int) > (a : Int))) = false := decide_eq_false (by omega)
          have d9 : ((a : Int) < (N : Int)) = False := by simp; omega
          subst hvL
          clear q0 q1 q2 q3 m5 m51 m85 hbs5 hbA5 hf5 hf6 hbB hr hn hu wr1 wr2 wr3 HC1 HC4 HAC HTL hN hAe hb7 hb6 hnL
          as_aux_lemma =>
            have hs1 : w2.heap.size < w7.heap.size := hbA7.lt
            have HX : Hid (FK M w0 m bf (i + 1) own5 s4 w7 k4 true a b c ∧ Blk w7 w.heap.size [.int .i64 o.K, .int .i64 o.V, .int .i64 o.A, .int .i64 o.B, .int .i64 o.C, .bool o.F] 31 ∧ Row w7 (.slice aoL N capL) 64 4 (listR s4 0).length ((listR s4 0).flatMap rcells)) := ⟨hf7, hbs7, hrow⟩
            have HLL : Hid ((listR s4 0).length = N) := htl
            have hA16 : N ≤ 16 := by omega
            clear hf7 hbs7 hrow hbA7 hbB7 htl b2 b5 hil hin1 hnq hinf hla hcL hal4 c1 c2 c3 c4 tB tS tA tS2 tS4 tA4 nSB nAB hsz2 hs5 hs4 hA5l hB5l hs7
            go_wp2_with fail
            go_cut [128] (fun vt wc => vt = .bool false ∧ FK M w0 m bf (i + 1) own5 s4 wc k4 true a b c ∧ Blk wc w.heap.size [.int .i64 o.K, .int .i64 o.V, .int .i64 o.A, .int .i64 o.B, .int .i64 o.C, .bool o.F] 31 ∧ Row wc (.slice aoL N capL) 64 4 (listR s4 0).length ((listR s4 0).flatMap rcells))
            case first => as_aux_lemma =>
              go_big_region
              go_wp2_with fail
              go_meet
              case rel =>
                obtain ⟨hf7, hbs7, hrow⟩ := HX.out
                refine ⟨rfl, hf7.below P ?_, hbs7.below (B := w7.heap.size) ?_ hbs7.lt, hrow.below ?_⟩
                all_goals first | exact Below.refl _ _ | exact (Below.refl _ _).drew | exact (Below.refl _ _).drew.drew | exact below_drewN (Below.refl _ _) _
            case rest => as_aux_lemma =>
              obtain ⟨rfl, hf8, hbs8, hrow8⟩ := hcut
              have hL16 : (listR s4 0).length ≤ 16 := by rw [HLL.out]; omega
              have hEn := HEN.out
              have hf9 := hf8.below P (Below.refl _ _).drew
              have hrow9 := hrow8.below (Below.refl _ _).drew
              have hENT : ∀ x : Int, x = (D : Int) → Calls Try.prog 54 #[.pointer (some ⟨bf, 0, none⟩), .int .i64 x, .bool o.F, .slice aoL N capL] wc.drew fun e w' => e = .returned (.bool true) ∧ Below wc.drew.heap.size wc.drew w' := fun x hx => by rw [hx]; exact entered_any P hf9 hi2 D o.F hrow9 hL16 hEn
              clear hEn hL16 hrow9
              have b2 := hbs8.cell 2
              have b5 := hbs8.cell 5
              simp at b2 b5
              have hbs9 := hbs8.below (Below.refl _ _).drew hbs8.lt
              clear HX HLL HEN u3 q3' v1 v85 d1 d2 d3 d4 d5 d6 d7 d8 d9 hs1 hi hA16
              clear hf8 hrow8
              go_wp2_with fail
              go_region_held3 (fun w' => w'.cell? ⟨w.heap.size, 2, none⟩ = some (.int .i64 o.A) ∧ w'.cell? ⟨w.heap.size, 5, none⟩ = some (.bool o.F)) (go_keep)
                ((first
                  | (go_at_call 15; refine (pA _).mono ?_; rintro e w8 ⟨rfl, hw8⟩; subst hw8)
                  | (go_at_call 54; refine (hENT _ (by first | rfl | exact hA2 | (simp only [hA2]; done) | (simp [IntKind.wrap_i64]; omega))).mono ?_; rintro e w9 ⟨rfl, hb9⟩
                     have e2 := (hbs9.below hb9 hbs9.lt).cell 2
                     have e5 := (hbs9.below hb9 hbs9.lt).cell 5
                     simp at e2 e5)))
              go_wp2_with fail
              go_ret
              exact ⟨rfl, own5, s4, k4, hf9.below P hb9⟩
end
end Go.Proofs.Ytinlkcmdbjcofab
