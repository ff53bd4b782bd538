import Derived.Test.YtinlkcmdbjcofabM17
/-
  'works', 'all'; 'Flat' itself.
-/
namespace Go.Proofs.Ytinlkcmdbjcofab
open Go.RowKit
set_option linter.unusedVariables false
attribute [local go_sem ↓] Go.wp_at_zero Go.wp_at_succ

section
variable {M : MT} {w0 w w' : World} {m i bf : Nat} {own : Nat → Nat × Nat} {s s' : RSt} {k : KSt} {has : Bool} {a b c : Nat}

set_option maxHeartbeats 2000000 in
set_option maxRecDepth 100000 in
theorem works_any (P : Api M) (ha : 1 ≤ a) (h : FK M w0 m bf 1 own (putK (RSt.fresh a b c) 0 k) w k false a b c) (hin : k.inp = []) (hi : (1 + 2) * 48 ≤ 140737488355328) :
    Calls Try.prog 22 #[.pointer (some ⟨bf, 0, none⟩)] w fun e w' => e = .returned (.bool true) ∧ ∃ own' s' k', FK M w0 m bf 2 own' s' w' k' true a b c := by
  have hq := h.len.q0
  have io : (⟨0, 0, 5, 7, 0, true⟩ : LStep).i64 := by simp [LStep.i64, I64]
  go_enter Try.func22, Try.ntmps22
  go_wp2_with fail
  refine (facc_any P h hi ⟨0, 0, 5, 7, 0, true⟩ io).mono ?_
  rintro e w1 ⟨rfl, own1, s1, k1, has1, h1, hacc, ho1, hk1, hs1⟩
  have hh : has1 = true := by
    rcases hacc with ⟨-, -, -, -, h0, hf⟩ | ⟨hh, -⟩
    · exfalso
      rw [if_pos (by omega)] at hf
      exact fresh_first ha k hf
    · exact hh
  subst hh
  have c84 := (h1.blk.cell 84).trans (fc_has h1.len.by_ h1.len.dty)
  clear hacc
  go_wp2_with fail
  go_ret
  exact ⟨rfl, own1, s1, k1, h1⟩

set_option maxHeartbeats 2000000 in
set_option maxRecDepth 100000 in
theorem all_any (P : Api M) (h : FK M w0 m bf i own s w k has a b c) (hi : ∀ q : Nat, q ≤ 64 → (i + q + 2) * 48 ≤ 140737488355328) :
    Calls Try.prog 24 #[.pointer (some ⟨bf, 0, none⟩)] w fun e w' => e = .returned (.bool true) ∧ ∃ own' s' k' has', FK M w0 m bf (i + 64) own' s' w' k' has' a b c := by
  have HI : Hid (∀ q : Nat, q ≤ 64 → (i + q + 2) * 48 ≤ 140737488355328) := hi
  clear hi
  go_enter Try.func24, Try.ntmps24
  go_wp2_with fail
  go_loopg [3] 64 (fun n x wr => ∃ (q : Nat) (own' : Nat → Nat × Nat) (s' : RSt) (k' : KSt) (has' : Bool), x = .int .i64 q ∧ q + n = 64 ∧ FK M w0 m bf (i + q) own' s' wr k' has' a b c)
  case atStart => exact ⟨0, own, s, k, has, rfl, by omega, h⟩
  case round =>
    obtain ⟨q, own', s', k', has', rfl, hk, h'⟩ := hrel
    have HK : Hid (q + gk = 64) := hk
    have hq : q ≤ 64 := by omega
    clear hk
    by_cases hlt : q < 64
    · have io : (⟨0, 0, (q : Int), 0, 0, false⟩ : LStep).i64 := by simp [LStep.i64, I64]; omega
      have hq1 : (q : Int) < 64 := by omega
      go_wp2_with fail
      refine (facc_any P h' (HI.out q hq) ⟨0, 0, q, 0, 0, false⟩ io).mono ?_
      rintro e w1 ⟨rfl, own1, s1, k1, has1, h1, hacc, ho1, hk1, hs1⟩
      clear hacc
      go_wp2_with fail
      go_roundg (gk - 1)
      case measure => have := HK.out; omega
      case rel => exact ⟨q + 1, own1, s1, k1, has1, by go_num, by have := HK.out; omega, h1⟩
    · obtain rfl : q = 64 := by omega
      go_wp2_with fail
      go_ret
      exact ⟨rfl, own', s', k', has', h'⟩
end

set_option maxHeartbeats 8000000 in
set_option maxRecDepth 100000 in
theorem flatlaw_any {M : MT} (P : Api M) (x y z qu po : Int) (hx : I64 x) (hy : I64 y) (hz : I64 z) (hq : I64 qu) (hp : I64 po)
    (ao : Option Addr) (len cap : Nat) (w : World) (ops : List LStep) (hl : ops.length = len) (hok : ∀ (i : Nat) (o : LStep), ops[i]? = some o → o.i64) (hsz : (len + 85) * 48 ≤ 140737488355328)
    (ho : (len = 0) ∨ ∃ b off, ao = some ⟨b, off, none⟩ ∧ b < w.heap.size ∧ ∀ (i : Nat) (o : LStep), ops[i]? = some o → ∀ (j : Nat) (v : Value), o.cells[j]? = some v → w.cell? ⟨b, off + i * 6 + j, none⟩ = some v) :
    Calls Try.prog 6 #[.agg #[.int .i64 x, .int .i64 y, .int .i64 z], .int .i64 qu, .int .i64 po, .slice ao len cap] w fun e w' => e = .returned (.bool true) ∧ Below w.heap.size w w' := by
  have HX : Hid ((len = 0) ∨ ∃ b off, ao = some ⟨b, off, none⟩ ∧ b < w.heap.size ∧ ∀ (i : Nat) (o : LStep), ops[i]? = some o → ∀ (j : Nat) (v : Value), o.cells[j]? = some v → w.cell? ⟨b, off + i * 6 + j, none⟩ = some v) := ho
  have HL : Hid (ops.length = len) := hl
  have HO : Hid (∀ (i : Nat) (o : LStep), ops[i]? = some o → o.i64) := hok
  have HF : Hid (∀ j : Nat, j ≤ len + 80 → (j + 2) * 48 ≤ 140737488355328) := fun j hj => by clear ho; omega
  have hlen : len ≤ 2932031007402 := by omega
  clear ho hl hok hsz
  have la1 : 1 ≤ cfA x := by unfold cfA; omega
  have lb8 := cfB_le y
  have lc4 := cfC_le z
  have lc1 : 2 ≤ cfC z := by unfold cfC; omega
  have HKP := fun w => kept_any P x y z qu po hx hy hz hq hp w
  obtain ⟨fa, hfa⟩ : ∃ v, cfA x = v := ⟨_, rfl⟩
  obtain ⟨fb, hfb⟩ : ∃ v, cfB y = v := ⟨_, rfl⟩
  obtain ⟨fc, hfc⟩ : ∃ v, cfC z = v := ⟨_, rfl⟩
  rw [hfa] at la1 HKP
  rw [hfb] at lb8 HKP
  rw [hfc] at lc4 lc1 HKP
  clear hfa hfb hfc
  go_enter Try.func6, Try.ntmps6
  go_wp2_with fail
  refine (HKP _).mono ?_
  rintro e w1 ⟨m, bf, own, k, rfl, hFK, hin, hs1⟩
  obtain ⟨W0, hW0⟩ : ∃ W0 : World, W0 = w.alloc (.cells #[.int .i64 x, .int .i64 y, .int .i64 z] 23) := ⟨_, rfl⟩
  have hbW : Below w.heap.size w W0 := by rw [hW0]; exact (Below.refl _ _).alloc (Nat.le_refl _) _
  rw [← hW0] at hFK hs1
  have hWs : w.heap.size ≤ W0.heap.size := hbW.size
  clear hW0 HKP
  have HLATE : Hid (∀ wx, Below W0.heap.size W0 wx → len = 0 ∨ ∃ (b off : Nat) (o : LStep), 0 < len ∧ ao = some ⟨b, off, none⟩ ∧ wx.cell? ⟨b, off + 5, none⟩ = some (.bool o.F)) := by
    intro wx hb
    rcases HX.out with h0 | ⟨b, off, hao, hlt, hc⟩
    · exact .inl h0
    · by_cases h0 : len = 0
      · exact .inl h0
      · right
        obtain ⟨o, hoo⟩ : ∃ o, ops[0]? = some o := ⟨ops[0]'(by rw [HL.out]; omega), by simp⟩
        refine ⟨b, off, o, by omega, hao, ?_⟩
        have := hc 0 o hoo 5 (.bool o.F) rfl
        rw [show off + 0 * 6 + 5 = off + 5 by omega] at this
        rw [← this]
        exact ((hbW.trans (hb.mono hWs)).cell (p := ⟨b, off + 5, none⟩) hlt)
  have h12 := HF.out 1 (by omega)
  rcases HLATE.out w1 hFK.sk.bel with h0 | ⟨bS, off, o, hl0, hao, hcF⟩
  · have hl0 : ¬ (0 : Int) < (len : Int) := by omega
    clear HLATE
    go_wp2_with fail
    refine (works_any P la1 hFK hin h12).mono ?_
    rintro e w2 ⟨rfl, own2, s2, k2, hG⟩
    clear hFK hin
    go_wp2_with fail
    go_loopg [11, 12] len (fun n vok x wr => ∃ (r : Nat) (own' : Nat → Nat × Nat) (s' : RSt) (k' : KSt) (has' : Bool), vok = .bool true ∧ x = .int .i64 r ∧ r + n = len ∧ FK M W0 m bf (r + 2) own' s' wr k' has' fa fb fc)
    case atStart => exact ⟨0, _, _, _, _, rfl, rfl, by omega, hG⟩
    case round =>
      obtain ⟨r, own', s', k', has', rfl, rfl, hk, hf⟩ := hrel
      have HK : Hid (r + gk = len) := hk
      have hr : r ≤ len := by omega
      clear hk hG
      have m0 := hf.blk.cell 0
      have m1 := hf.blk.cell 1
      have m2 := hf.blk.cell 2
      have m3 := hf.blk.cell 3
      simp [flcells] at m0 m1 m2 m3
      have hbl := hf.sk.bel
      have hblt := hf.blk.lt
      by_cases hlt : r < len
      · exfalso; omega
      · obtain rfl : r = len := by omega
        go_wp2_with fail
        refine (all_any P hf (fun q hq => HF.out (r + 2 + q) (by omega))).mono ?_
        rintro e w3 ⟨rfl, own3, s3, k3, has3, h3⟩
        go_wp2_with fail
        go_ret
        exact ⟨rfl, hbW.trans (h3.sk.bel.mono hWs)⟩
  · have hl0' : (0 : Int) < (len : Int) := by omega
    rcases Bool.eq_false_or_eq_true o.F with hoF | hoF
    · rw [hoF] at hcF
      subst hao
      have hG := hFK.mono (j := 2) (by omega)
      clear HLATE hFK hin hoF
      go_wp2_with fail
      go_loopg [11, 12] len (fun n vok x wr => ∃ (r : Nat) (own' : Nat → Nat × Nat) (s' : RSt) (k' : KSt) (has' : Bool), vok = .bool true ∧ x = .int .i64 r ∧ r + n = len ∧ FK M W0 m bf (r + 2) own' s' wr k' has' fa fb fc)
      case atStart => exact ⟨0, _, _, _, _, rfl, rfl, by omega, hG⟩
      case round =>
        obtain ⟨r, own', s', k', has', rfl, rfl, hk, hf⟩ := hrel
        have HK : Hid (r + gk = len) := hk
        have hr : r ≤ len := by omega
        clear hk hG
        have m0 := hf.blk.cell 0
        have m1 := hf.blk.cell 1
        have m2 := hf.blk.cell 2
        have m3 := hf.blk.cell 3
        simp [flcells] at m0 m1 m2 m3
        have hbl := hf.sk.bel
        have hblt := hf.blk.lt
        by_cases hlt : r < len
        · rcases HX.out with h0 | ⟨bS, off, hao, hbS, hcS⟩
          · omega
          first | subst hao | (simp only [Option.some.injEq, Addr.mk.injEq, and_true] at hao; obtain ⟨rfl, rfl⟩ := hao)
          obtain ⟨o, hoo⟩ : ∃ o, ops[r]? = some o := ⟨ops[r]'(by rw [HL.out]; omega), by simp⟩
          have hoi := HO.out r o hoo
          have cc : ∀ j, j < 6 → wr.cell? ⟨bS, off + r * 6 + j, none⟩ = o.cells[j]? := fun j hj => by
            obtain ⟨v, hv⟩ : ∃ v, o.cells[j]? = some v := ⟨o.cells[j]'(by simpa [LStep.cells] using hj), by simp⟩
            rw [hv, ← hcS r o hoo j v hv]
            exact (hbW.trans (hbl.mono hWs)).cell (p := ⟨bS, off + r * 6 + j, none⟩) hbS
          have c0 := (cc 0 (by omega)).trans (show _ = some (.int .i64 o.K) from rfl)
          have c1 := (cc 1 (by omega)).trans (show _ = some (.int .i64 o.V) from rfl)
          have c2 := (cc 2 (by omega)).trans (show _ = some (.int .i64 o.A) from rfl)
          have c3 := (cc 3 (by omega)).trans (show _ = some (.int .i64 o.B) from rfl)
          have c4 := (cc 4 (by omega)).trans (show _ = some (.int .i64 o.C) from rfl)
          have c5 := (cc 5 (by omega)).trans (show _ = some (.bool o.F) from rfl)
          simp only [Nat.add_zero] at c0
          have hr0 : (0 : Int) ≤ (r : Int) := by omega
          have hr1 : (r : Int) < (len : Int) := by omega
          have hfew := HF.out (r + 2) (by omega)
          have hba : Below wr.heap.size wr (wr.alloc (.cells #[.int .i64 o.K, .int .i64 o.V, .int .i64 o.A, .int .i64 o.B, .int .i64 o.C, .bool o.F] 31)) := (Below.refl _ _).alloc (Nat.le_refl _) _
          have hf2 := hf.below P hba
          clear cc hoo hcS
          by_cases hK13 : 13 ≤ o.K
          · go_wp2_with fail
            refine (facc_any P hf2 hfew o hoi).mono ?_
            rintro e w3 ⟨rfl, own3, s3, k3, has3, h3, hacc, ho3, hk3, hs3⟩
            clear hacc
            go_wp2_with fail
            go_roundg (gk - 1)
            case measure => have := HK.out; omega
            case rel => exact ⟨r + 1, own3, s3, k3, has3, rfl, by go_num, by have := HK.out; omega, (by rw [show r + 1 + 2 = r + 2 + 1 by omega]; exact h3)⟩
          · by_cases hK10 : o.K = 10
            · have hK10' : (o.K != 10) = false := by simp [hK10]
              clear hK10
              go_wp2_with fail
              go_roundg (gk - 1)
              case measure => have := HK.out; omega
              case rel => exact ⟨r + 1, own', s', k', has', rfl, by go_num, by have := HK.out; omega, hf2.mono (j := r + 1 + 2) (by omega)⟩
            · have hK10' : (o.K != 10) = true := by simp [hK10]
              have hfd := hf.below P hba.drew
              have hbx := (Blk.new wr [.int .i64 o.K, .int .i64 o.V, .int .i64 o.A, .int .i64 o.B, .int .i64 o.C, .bool o.F] 31).drew
              have htx := hf.sk.top wr.heap.size (Nat.le_refl _)
              go_wp2_with fail
              go_region_held3 (fun w' => w'.cell? ⟨bf, 0, none⟩ = some (.pointer (some ⟨m, 0, none⟩)) ∧ w'.cell? ⟨bf, 1, none⟩ = some (.int .i64 fa) ∧ w'.cell? ⟨bf, 2, none⟩ = some (.int .i64 fb) ∧ w'.cell? ⟨bf, 3, none⟩ = some (.int .i64 fc) ∧ w'.cell? ⟨wr.heap.size, 0, none⟩ = some (.int .i64 o.K) ∧ w'.cell? ⟨wr.heap.size, 1, none⟩ = some (.int .i64 o.V) ∧ w'.cell? ⟨wr.heap.size, 2, none⟩ = some (.int .i64 o.A) ∧ w'.cell? ⟨wr.heap.size, 3, none⟩ = some (.int .i64 o.B) ∧ w'.cell? ⟨wr.heap.size, 4, none⟩ = some (.int .i64 o.C) ∧ w'.cell? ⟨wr.heap.size, 5, none⟩ = some (.bool o.F)) (go_keep)
                ((go_at_call 14; refine (noiseK_any P hfd.sk hfew o hoi fa fb fc lb8 lc4 lc1).mono ?_; rintro e w3 ⟨rfl, s3, hnk, hn⟩
                  have d0 := (hn.blk hfd.blk (by rw [hfd.tag]; omega)).cell 0
                  have d1 := (hn.blk hfd.blk (by rw [hfd.tag]; omega)).cell 1
                  have d2 := (hn.blk hfd.blk (by rw [hfd.tag]; omega)).cell 2
                  have d3 := (hn.blk hfd.blk (by rw [hfd.tag]; omega)).cell 3
                  have e0 := (hn.blk hbx (by rw [htx]; omega)).cell 0
                  have e1 := (hn.blk hbx (by rw [htx]; omega)).cell 1
                  have e2 := (hn.blk hbx (by rw [htx]; omega)).cell 2
                  have e3 := (hn.blk hbx (by rw [htx]; omega)).cell 3
                  have e4 := (hn.blk hbx (by rw [htx]; omega)).cell 4
                  have e5 := (hn.blk hbx (by rw [htx]; omega)).cell 5
                  simp [flcells] at d0 d1 d2 d3 e0 e1 e2 e3 e4 e5))
              obtain ⟨own3, h3, -, -, -⟩ := hfd.noise hnk hn
              go_wp2_with fail
              go_roundg (gk - 1)
              case measure => have := HK.out; omega
              case rel => exact ⟨r + 1, own3, s3, k', has', rfl, by go_num, by have := HK.out; omega, (by rw [show r + 1 + 2 = r + 2 + 1 by omega]; exact h3)⟩
        · obtain rfl : r = len := by omega
          go_wp2_with fail
          refine (all_any P hf (fun q hq => HF.out (r + 2 + q) (by omega))).mono ?_
          rintro e w3 ⟨rfl, own3, s3, k3, has3, h3⟩
          go_wp2_with fail
          go_ret
          exact ⟨rfl, hbW.trans (h3.sk.bel.mono hWs)⟩
    · rw [hoF] at hcF
      subst hao
      clear HLATE hoF
      go_wp2_with fail
      refine (works_any P la1 hFK hin h12).mono ?_
      rintro e w2 ⟨rfl, own2, s2, k2, hG⟩
      clear hFK hin hcF
      go_wp2_with fail
      go_loopg [11, 12] len (fun n vok x wr => ∃ (r : Nat) (own' : Nat → Nat × Nat) (s' : RSt) (k' : KSt) (has' : Bool), vok = .bool true ∧ x = .int .i64 r ∧ r + n = len ∧ FK M W0 m bf (r + 2) own' s' wr k' has' fa fb fc)
      case atStart => exact ⟨0, _, _, _, _, rfl, rfl, by omega, hG⟩
      case round =>
        obtain ⟨r, own', s', k', has', rfl, rfl, hk, hf⟩ := hrel
        have HK : Hid (r + gk = len) := hk
        have hr : r ≤ len := by omega
        clear hk hG
        have m0 := hf.blk.cell 0
        have m1 := hf.blk.cell 1
        have m2 := hf.blk.cell 2
        have m3 := hf.blk.cell 3
        simp [flcells] at m0 m1 m2 m3
        have hbl := hf.sk.bel
        have hblt := hf.blk.lt
        by_cases hlt : r < len
        · rcases HX.out with h0 | ⟨bS, off, hao, hbS, hcS⟩
          · omega
          first | subst hao | (simp only [Option.some.injEq, Addr.mk.injEq, and_true] at hao; obtain ⟨rfl, rfl⟩ := hao)
          obtain ⟨o, hoo⟩ : ∃ o, ops[r]? = some o := ⟨ops[r]'(by rw [HL.out]; omega), by simp⟩
          have hoi := HO.out r o hoo
          have cc : ∀ j, j < 6 → wr.cell? ⟨bS, off + r * 6 + j, none⟩ = o.cells[j]? := fun j hj => by
            obtain ⟨v, hv⟩ : ∃ v, o.cells[j]? = some v := ⟨o.cells[j]'(by simpa [LStep.cells] using hj), by simp⟩
            rw [hv, ← hcS r o hoo j v hv]
            exact (hbW.trans (hbl.mono hWs)).cell (p := ⟨bS, off + r * 6 + j, none⟩) hbS
          have c0 := (cc 0 (by omega)).trans (show _ = some (.int .i64 o.K) from rfl)
          have c1 := (cc 1 (by omega)).trans (show _ = some (.int .i64 o.V) from rfl)
          have c2 := (cc 2 (by omega)).trans (show _ = some (.int .i64 o.A) from rfl)
          have c3 := (cc 3 (by omega)).trans (show _ = some (.int .i64 o.B) from rfl)
          have c4 := (cc 4 (by omega)).trans (show _ = some (.int .i64 o.C) from rfl)
          have c5 := (cc 5 (by omega)).trans (show _ = some (.bool o.F) from rfl)
          simp only [Nat.add_zero] at c0
          have hr0 : (0 : Int) ≤ (r : Int) := by omega
          have hr1 : (r : Int) < (len : Int) := by omega
          have hfew := HF.out (r + 2) (by omega)
          have hba : Below wr.heap.size wr (wr.alloc (.cells #[.int .i64 o.K, .int .i64 o.V, .int .i64 o.A, .int .i64 o.B, .int .i64 o.C, .bool o.F] 31)) := (Below.refl _ _).alloc (Nat.le_refl _) _
          have hf2 := hf.below P hba
          clear cc hoo hcS
          by_cases hK13 : 13 ≤ o.K
          · go_wp2_with fail
            refine (facc_any P hf2 hfew o hoi).mono ?_
            rintro e w3 ⟨rfl, own3, s3, k3, has3, h3, hacc, ho3, hk3, hs3⟩
            clear hacc
            go_wp2_with fail
            go_roundg (gk - 1)
            case measure => have := HK.out; omega
            case rel => exact ⟨r + 1, own3, s3, k3, has3, rfl, by go_num, by have := HK.out; omega, (by rw [show r + 1 + 2 = r + 2 + 1 by omega]; exact h3)⟩
          · by_cases hK10 : o.K = 10
            · have hK10' : (o.K != 10) = false := by simp [hK10]
              clear hK10
              go_wp2_with fail
              go_roundg (gk - 1)
              case measure => have := HK.out; omega
              case rel => exact ⟨r + 1, own', s', k', has', rfl, by go_num, by have := HK.out; omega, hf2.mono (j := r + 1 + 2) (by omega)⟩
            · have hK10' : (o.K != 10) = true := by simp [hK10]
              have hfd := hf.below P hba.drew
              have hbx := (Blk.new wr [.int .i64 o.K, .int .i64 o.V, .int .i64 o.A, .int .i64 o.B, .int .i64 o.C, .bool o.F] 31).drew
              have htx := hf.sk.top wr.heap.size (Nat.le_refl _)
              go_wp2_with fail
              go_region_held3 (fun w' => w'.cell? ⟨bf, 0, none⟩ = some (.pointer (some ⟨m, 0, none⟩)) ∧ w'.cell? ⟨bf, 1, none⟩ = some (.int .i64 fa) ∧ w'.cell? ⟨bf, 2, none⟩ = some (.int .i64 fb) ∧ w'.cell? ⟨bf, 3, none⟩ = some (.int .i64 fc) ∧ w'.cell? ⟨wr.heap.size, 0, none⟩ = some (.int .i64 o.K) ∧ w'.cell? ⟨wr.heap.size, 1, none⟩ = some (.int .i64 o.V) ∧ w'.cell? ⟨wr.heap.size, 2, none⟩ = some (.int .i64 o.A) ∧ w'.cell? ⟨wr.heap.size, 3, none⟩ = some (.int .i64 o.B) ∧ w'.cell? ⟨wr.heap.size, 4, none⟩ = some (.int .i64 o.C) ∧ w'.cell? ⟨wr.heap.size, 5, none⟩ = some (.bool o.F)) (go_keep)
                ((go_at_call 14; refine (noiseK_any P hfd.sk hfew o hoi fa fb fc lb8 lc4 lc1).mono ?_; rintro e w3 ⟨rfl, s3, hnk, hn⟩
                  have d0 := (hn.blk hfd.blk (by rw [hfd.tag]; omega)).cell 0
                  have d1 := (hn.blk hfd.blk (by rw [hfd.tag]; omega)).cell 1
                  have d2 := (hn.blk hfd.blk (by rw [hfd.tag]; omega)).cell 2
                  have d3 := (hn.blk hfd.blk (by rw [hfd.tag]; omega)).cell 3
                  have e0 := (hn.blk hbx (by rw [htx]; omega)).cell 0
                  have e1 := (hn.blk hbx (by rw [htx]; omega)).cell 1
                  have e2 := (hn.blk hbx (by rw [htx]; omega)).cell 2
                  have e3 := (hn.blk hbx (by rw [htx]; omega)).cell 3
                  have e4 := (hn.blk hbx (by rw [htx]; omega)).cell 4
                  have e5 := (hn.blk hbx (by rw [htx]; omega)).cell 5
                  simp [flcells] at d0 d1 d2 d3 e0 e1 e2 e3 e4 e5))
              obtain ⟨own3, h3, -, -, -⟩ := hfd.noise hnk hn
              go_wp2_with fail
              go_roundg (gk - 1)
              case measure => have := HK.out; omega
              case rel => exact ⟨r + 1, own3, s3, k', has', rfl, by go_num, by have := HK.out; omega, (by rw [show r + 1 + 2 = r + 2 + 1 by omega]; exact h3)⟩
        · obtain rfl : r = len := by omega
          go_wp2_with fail
          refine (all_any P hf (fun q hq => HF.out (r + 2 + q) (by omega))).mono ?_
          rintro e w3 ⟨rfl, own3, s3, k3, has3, h3⟩
          go_wp2_with fail
          go_ret
          exact ⟨rfl, hbW.trans (h3.sk.bel.mono hWs)⟩
end Go.Proofs.Ytinlkcmdbjcofab

/-
  append: the elements that were there are as they were, in the old row too.
-/
namespace Go.Proofs.Ytinlkcmdbjcofab
open Go.RowKit
set_option linter.unusedVariables false

section
variable {P : Program} (w : World)

theorem run_append_kept (t ty : TypeId) (e : TypeId) (i : TypeInfo) (z : Value) (size bytes : Nat) (ht : P.underlying t = some (.slice e)) (hi : P.info? e = some i) (hz : i.zero = some z)
    (hsize : i.size = size) (hby : i.bytes = bytes) (hzs : z.cells.size = size) (hsz : 0 < size)
    (v : Value) (n : Nat) (xs : List Value) (hown : w.ownsRow 0 e size v n xs)
    (ad : Addr) (m c : Nat) (news : List Value) (hl : news.length = m * size) (hnews : ∀ j u, news[j]? = some u → w.cell? (ad.add j) = some u) (h1 : ∀ u ∈ news, u.oneCell' = true)
    (hm : 0 < m) (h63 : n + m ≤ maxLen) (hbytes : (n + m) * bytes ≤ 140737488355328) (H : Nat) (hH : w.heap.size = H) :
    ∃ g cap w', (Builtin.append_ #[t, t] ty #[v, .slice (some ad) m c]).run P w = .ok (.slice (some ⟨g, 0, none⟩) (n + m) cap) w' ∧
      w'.ownsRow 0 e size (.slice (some ⟨g, 0, none⟩) (n + m) cap) (n + m) (xs ++ news) ∧ w.grownBy w' v.ownBlock ∧ (v.ownBlock = some g ∨ g = H) ∧ g < w'.heap.size ∧
      (∀ b, v.ownBlock = some b → ∀ j, j < n * size → w'.cell? ⟨b, j, none⟩ = w.cell? ⟨b, j, none⟩) := by
  obtain ⟨g, cap, w', hr, h2, h3, h4, h5⟩ := run_append_lies (P := P) w t ty 0 e i z size bytes ht hi hz hsize hby hzs hsz v n xs hown ad m c news hl hnews h1 hm h63 hbytes (Nat.zero_le _) H hH
  refine ⟨g, cap, w', hr, h2, h3, h4, h5, ?_⟩
  intro b hb j hj
  rcases hown.2 with ⟨rfl, _⟩ | ⟨g0, cap0, cur, rfl, _, hg, hnc, hcm, hcs, htake⟩
  · simp [Value.ownBlock] at hb
  · have hgb : g0 = b := by simpa [Value.ownBlock] using hb
    subst hgb
    subst hsize
    by_cases hroom : n + m ≤ cap0
    · have hfit : n * i.size + news.length ≤ cur.size := by rw [hl, hcs, ← Nat.add_mul]; exact Nat.mul_le_mul_right _ hroom
      have hr2 := run_append_room (P := P) w t ty e i ht hi g0 n cap0 cur hg ad m c news hl hnews h1 hroom hfit
      rw [hr] at hr2
      have hw : w' = _ := (Result.ok.inj hr2).2
      rw [hw, cell_of_row _ g0 j _ e (0, 0) (setRow_heap w g0 cur _ e _ hg), cell_of_row w g0 j cur e (0, 0) hg]
      have : n * i.size ≤ cur.toList.length := by simp; omega
      simp only [List.getElem?_toArray]
      rw [List.append_assoc, List.getElem?_append_left (by rw [List.length_take]; omega), List.getElem?_take, if_pos hj]
      simp
    · have holds : ∀ j u, xs[j]? = some u → w.cell? ((⟨g0, 0, none⟩ : Addr).add j) = some u := hown.cells (g := g0) rfl
      have hsm : n + m ≤ 9223372036854775807 := by simp only [maxLen] at h63; omega
      have hr2 := run_append_grow (P := P) w t ty e i z ht hi hz ⟨g0, 0, none⟩ n cap0 xs hown.1 holds ad m c news hl hnews (by omega) (by omega) (growslice_fits (by omega) (by rw [hby]; exact hbytes))
      rw [hr] at hr2
      have hw : w' = _ := (Result.ok.inj hr2).2
      have hlt : g0 < w.heap.size := (Array.getElem?_eq_some_iff.1 hg).1
      have hb : w'.heap[g0]? = w.heap[g0]? := by
        rw [hw]
        exact Below.heap_alloc w.drew _ g0 hlt
      exact World.cell?_of_block (a := ⟨g0, j, none⟩) hb

theorem wpList_append_kept {ops : Array Oper} {rest : List Oper} {o : Oper} {a : Act} {Q : Exit → Act → World → Prop} (hgd : o.guard = none) (s x : Operand) (t : TypeId)
    (ho : o.op = .call { callee := .builtin .append, args := #[s, x], argTypes := #[t, t] })
    (e : TypeId) (i : TypeInfo) (z : Value) (size bytes : Nat) (ht : P.underlying t = some (.slice e)) (hi : P.info? e = some i) (hz : i.zero = some z)
    (hsize : i.size = size) (hby : i.bytes = bytes) (hzs : z.cells.size = size) (hsz : 0 < size)
    (v : Value) (n : Nat) (xs : List Value) (hs : a.eval s = v) (hown : w.ownsRow 0 e size v n xs)
    (ad : Addr) (m c : Nat) (news : List Value) (hx : a.eval x = .slice (some ad) m c) (hl : news.length = m * size) (hnews : ∀ j u, news[j]? = some u → w.cell? (ad.add j) = some u) (h1 : ∀ u ∈ news, u.oneCell' = true)
    (hm : 0 < m) (h63 : n + m ≤ maxLen) (hbytes : (n + m) * bytes ≤ 140737488355328) (H : Nat) (hH : w.heap.size = H)
    (h : ∀ g cap w', w'.ownsRow 0 e size (.slice (some ⟨g, 0, none⟩) (n + m) cap) (n + m) (xs ++ news) → w.grownBy w' v.ownBlock → (v.ownBlock = some g ∨ g = H) → g < w'.heap.size →
      (∀ b, v.ownBlock = some b → ∀ j, j < n * size → w'.cell? ⟨b, j, none⟩ = w.cell? ⟨b, j, none⟩) → wpList P ops Q rest (a.put o.dst (.slice (some ⟨g, 0, none⟩) (n + m) cap)) w') : wpList P ops Q (o :: rest) a w := by
  refine wpList_plain hgd fun K hK => ?_
  obtain ⟨g, cap, w', hr, h2, h3, h4, h5, h6⟩ := run_append_kept (P := P) w t o.type e i z size bytes ht hi hz hsize hby hzs hsz v n xs hown ad m c news hl hnews h1 hm h63 hbytes H hH
  unfold Oper.wp execOp
  simp only [ho, resolve, invoke, builtin, Sem.run_bind, Sem.run_pure, Result.andThen_ok, List.map_toArray, List.map_cons, List.map_nil, hs, hx, hr]
  exact hK _ _ (h g cap w' h2 h3 h4 h5 h6)
end
end Go.Proofs.Ytinlkcmdbjcofab

/-
  The lists that came out, and how their owner has marked them.
-/
namespace Go.Proofs.Ytinlkcmdbjcofab
open Go.RowKit
set_option linter.unusedVariables false

theorem Row.cellAt' {w : World} {e k n g cap : Nat} {xs : List Value} (h : Row w (.slice (some ⟨g, 0, none⟩) n cap) e k n xs) (j : Nat) (hj : j < n * k) : w.cell? ⟨g, j, none⟩ = xs[j]? := World.ownsRow.cellAt h j hj
theorem Row.shape' {w : World} {v : Value} {e k n : Nat} {xs : List Value} (h : Row w v e k n xs) : ∃ ao cap, v = .slice ao n cap ∧ (n = 0 ∨ ∃ g, ao = some ⟨g, 0, none⟩) := by
  obtain ⟨ao, cap, g, hv, hao, _⟩ := h.view
  refine ⟨ao, cap, hv, ?_⟩
  rcases Nat.eq_zero_or_pos n with h0 | h0
  · exact .inl h0
  · exact .inr ⟨g, hao h0⟩

/-- A slice all of whose elements hold the k cells c; at most a of them; its row bears the mark t. -/
def SA (own : Nat → Nat × Nat) (t : Nat × Nat) (w : World) (c : List Value) (k a : Nat) (x : Value) : Prop :=
  ∃ ao n cap g, x = .slice ao n cap ∧ n ≤ a ∧ (n = 0 ∨ (ao = some ⟨g, 0, none⟩ ∧ own g = t ∧ g < w.heap.size ∧ ∀ i j, i < n → j < k → w.cell? ⟨g, i * k + j, none⟩ = c[j]?))

theorem SA.of {own own' : Nat → Nat × Nat} {t : Nat × Nat} {w w' : World} {c : List Value} {k a : Nat} {x : Value} (h : SA own t w c k a x) (ho : ∀ b, b < w.heap.size → own' b = own b) (hs : w.heap.size ≤ w'.heap.size)
    (hb : ∀ b, b < w.heap.size → own b = t → ∀ j, j < a * k → w'.cell? ⟨b, j, none⟩ = w.cell? ⟨b, j, none⟩) : SA own' t w' c k a x := by
  obtain ⟨ao, n, cap, g, rfl, hn, h⟩ := h
  refine ⟨ao, n, cap, g, rfl, hn, ?_⟩
  rcases h with h | ⟨h1, h2, h3, h4⟩
  · exact Or.inl h
  refine Or.inr ⟨h1, (ho g h3).trans h2, by omega, fun i j hi hj => ?_⟩
  rw [hb g h3 h2 _ ?_]
  · exact h4 i j hi hj
  · have : i * k + j < (i + 1) * k := by rw [Nat.add_mul]; omega
    have : (i + 1) * k ≤ a * k := Nat.mul_le_mul_right k (by omega)
    omega
theorem SA.mono {own : Nat → Nat × Nat} {t : Nat × Nat} {w : World} {c : List Value} {k a a' : Nat} {x : Value} (h : SA own t w c k a x) (ha : a ≤ a') : SA own t w c k a' x := by
  obtain ⟨ao, n, cap, g, rfl, hn, h⟩ := h
  exact ⟨ao, n, cap, g, rfl, by omega, h⟩

def mI (n : Int) : List Value := [.int .i64 n]
def mR (n : Int) : List Value := [.int .i64 n, .int .i64 0, .int .i64 0, .bool false]
def mE (n : Int) : List Value := [.bool false, .int .i64 n, .int .i64 0, .int .i64 0, .bool false]

section
variable {own : Nat → Nat × Nat} {t : Nat × Nat} {w : World}

theorem SA.shape {x : Value} {c : List Value} {k a : Nat} (h : SA own t w c k a x) : ∃ ao n cap, x = .slice ao n cap := by
  obtain ⟨ao, n, cap, _, h, _⟩ := h
  exact ⟨ao, n, cap, h⟩

end
end Go.Proofs.Ytinlkcmdbjcofab

/-
  'marked', 'squeezed', 'own'.
-/
namespace Go.Proofs.Ytinlkcmdbjcofab
open Go.RowKit
set_option linter.unusedVariables false
attribute [local go_sem ↓] Go.wp_at_zero Go.wp_at_succ

theorem dirtyTo_yes {k : KSt} {q : Nat} (h : (k.dty[q]?).getD false = true) : dirtyTo k (q + 1) = dirtyTo k q ++ [(q : Int)] := by
  unfold dirtyTo
  rw [List.range_succ, List.filterMap_append]
  simp [h]
theorem dirtyTo_no {k : KSt} {q : Nat} (h : (k.dty[q]?).getD false = false) : dirtyTo k (q + 1) = dirtyTo k q := by
  unfold dirtyTo
  rw [List.range_succ, List.filterMap_append]
  simp [h]
theorem dirtyTo_pre (k : KSt) (q : Nat) : ∀ n, ∃ t, dirtyTo k (q + n) = dirtyTo k q ++ t := by
  intro n
  induction n with
  | zero => exact ⟨[], by simp⟩
  | succ n ih =>
    obtain ⟨t, ht⟩ := ih
    cases hx : (k.dty[q + n]?).getD false with
    | false => exact ⟨t, by rw [← Nat.add_assoc, dirtyTo_no hx, ht]⟩
    | true => exact ⟨t ++ [((q + n : Nat) : Int)], by rw [← Nat.add_assoc, dirtyTo_yes hx, ht, List.append_assoc]⟩
theorem dirty_at {k : KSt} {q : Nat} (hq : q < 16) (h : (k.dty[q]?).getD false = true) : (dirtyTo k 16)[(dirtyTo k q).length]? = some (q : Int) := by
  obtain ⟨t, ht⟩ := dirtyTo_pre k (q + 1) (16 - (q + 1))
  rw [show q + 1 + (16 - (q + 1)) = 16 by omega] at ht
  rw [ht, dirtyTo_yes h, List.append_assoc, List.getElem?_append_right (Nat.le_refl _)]
  simp
theorem dirtyTo_mono {k : KSt} {q : Nat} (hq : q ≤ 16) : (dirtyTo k q).length ≤ (dirtyTo k 16).length := by
  obtain ⟨t, ht⟩ := dirtyTo_pre k q (16 - q)
  rw [show q + (16 - q) = 16 by omega] at ht
  rw [ht]; simp

section
variable {M : MT} {w0 w w' : World} {m i bf : Nat} {own : Nat → Nat × Nat} {s s' : RSt} {k : KSt} {has : Bool} {a b c : Nat}
theorem FK.heldF (h : FK M w0 m bf i own s w k has a b c) : heldE s 0 = 0 := by
  have hal : aliveB s 0 = true := (h.sk.hok.kok.k1 0 k h.at).alv
  unfold heldE keptB
  rw [hal, h.ke]; rfl

set_option maxHeartbeats 4000000 in
set_option maxRecDepth 100000 in
theorem fmarked_any (P : Api M) (h : FK M w0 m bf i own s w k has a b c) (hi : (i + 2) * 48 ≤ 140737488355328) :
    Calls Try.prog 27 #[.pointer (some ⟨bf, 0, none⟩)] w fun e w' => e = .returned (.bool true) ∧ Below w.heap.size w w' := by
  have m0 := h.blk.cell 0
  simp [flcells] at m0
  have hL := h.len
  have ie : I64 0 := by unfold I64; omega
  have HD : Hid (dirtyR s 0 = (dirtyTo k 16, 0)) := by unfold Hid dirtyR; rw [h.heldF, h.ke]; rfl
  have hl16 := dirtyTo_le k 16
  go_enter Try.func27, Try.ntmps27
  go_wp2_with fail
  refine (h.sk.dirty P hi 0 ie).mono ?_
  rintro e w1 ⟨v, rfl, hb1, -, hrow⟩
  have hrow' : Row w1 v 3 1 (dirtyTo k 16).length ((dirtyTo k 16).map (.int .i64)) := by rw [HD.out] at hrow; exact hrow
  rw [HD.out]
  obtain ⟨ao, cap, hv', hcL⟩ := hrow'.shape'
  clear hrow
  obtain ⟨n, hn⟩ : ∃ n, (dirtyTo k 16).length = n := ⟨_, rfl⟩
  have HN : Hid ((dirtyTo k 16).length = n) := hn
  have hcL' : n = 0 ∨ ∃ g, ao = some ⟨g, 0, none⟩ := by rw [← hn]; exact hcL
  rw [hn] at hv' hrow' hl16
  clear hn hcL
  subst hv'
  have h1 := h.below P hb1
  go_wp2_with fail
  go_loopg [5, 6] 16 (fun n' kv x wr => ∃ q : Nat, kv = .int .i64 (dirtyTo k q).length ∧ x = .int .i64 q ∧ q + n' = 16 ∧ Below w1.heap.size w1 wr)
  case atStart => exact ⟨0, rfl, rfl, by omega, Below.refl _ _⟩
  case round =>
    obtain ⟨q, rfl, rfl, hk, hbl⟩ := hrel
    have HK : Hid (q + gk = 16) := hk
    have hq : q ≤ 16 := by omega
    clear hk
    have h2 := h1.below P hbl
    by_cases hlt : q < 16
    · obtain ⟨d, hd⟩ : ∃ d, k.dty[q]? = some d := ⟨k.dty[q]'(by rw [hL.dty]; exact hlt), by simp⟩
      have c5 := (h2.blk.cell (68 + q)).trans (fc_dirty hL.by_ (by rw [hL.dty]; exact hlt))
      rw [hd] at c5
      simp only [Option.map_some] at c5
      have hq0 : (0 : Int) ≤ (q : Int) := by omega
      have hq1 : (q : Int) < 16 := by omega
      cases d
      · have HNO : Hid ((dirtyTo k (q + 1)).length = (dirtyTo k q).length) := by unfold Hid; rw [dirtyTo_no (by rw [hd]; rfl)]
        clear hd
        go_wp2_with fail
        go_roundg (gk - 1)
        case measure => have := HK.out; omega
        case rel => exact ⟨q + 1, by rw [HNO.out], by go_num, by have := HK.out; omega, hbl⟩
      · have hy : (k.dty[q]?).getD false = true := by rw [hd]; rfl
        have HYE : Hid ((dirtyTo k (q + 1)).length = (dirtyTo k q).length + 1) := by unfold Hid; rw [dirtyTo_yes hy]; simp
        have hat := dirty_at hlt hy
        obtain ⟨x, hx⟩ : ∃ x, (dirtyTo k q).length = x := ⟨_, rfl⟩
        have hxn : x < n := by
          have := (List.getElem?_eq_some_iff.1 hat).1
          rw [HN.out, hx] at this
          exact this
        rw [hx] at hat HYE ⊢
        rcases hcL' with h0 | ⟨g, rfl⟩
        · omega
        have hr2 := hrow'.below hbl
        have cg : wr.cell? ⟨g, x, none⟩ = some (.int .i64 q) := by rw [hr2.cellAt' _ (by omega), List.getElem?_map, hat]; rfl
        have hx0 : (0 : Int) ≤ (x : Int) := by omega
        have hx1 : (x : Int) < (n : Int) := by omega
        have hx2 : ¬ (n : Int) ≤ (x : Int) := by omega
        have hxw : IntKind.i64.wrap ((x : Int) + 1) = ((x + 1 : Nat) : Int) := by rw [IntKind.wrap_i64]; omega
        have hqq : ((q : Int) != (q : Int)) = false := by simp
        clear hd hy hat hx hr2
        go_wp2_with fail
        go_roundg (gk - 1)
        case measure => have := HK.out; omega
        case rel => exact ⟨q + 1, by rw [HYE.out]; first | rfl | simp, by go_num, by have := HK.out; omega, hbl⟩
    · obtain rfl : q = 16 := by omega
      have e1 : (dirtyTo k 16).length = n := HN.out
      rw [e1]
      have hnn : ((n : Int) == (n : Int)) = true := by simp
      clear e1
      go_wp2_with fail
      go_ret
      exact ⟨rfl, hb1.trans (hbl.mono hb1.size)⟩
end
end Go.Proofs.Ytinlkcmdbjcofab

/-
  'squeezed', 'own'.
-/
namespace Go.Proofs.Ytinlkcmdbjcofab
open Go.RowKit
set_option linter.unusedVariables false
attribute [local go_sem ↓] Go.wp_at_zero Go.wp_at_succ

theorem squeeze_facts {s : RSt} {k : KSt} (h : SOk s) (hO : keptO s 0 = some k) (hE : heldE s 0 = 0) {Q : Nat} (h1 : 1 ≤ Q) (h2 : Q ≤ 16) :
    ∃ s' k', squeezeR s 0 Q = (0, s') ∧ keptO s' 0 = some k' ∧ k'.bytes = k.bytes ∧ k'.dty = k.dty ∧ k'.quota = Q ∧ (k'.inp.length = if Q < k.inp.length then Q else k.inp.length) ∧ s'.nf = s.nf ∧ s'.ns = s.ns ∧ s'.ne = s.ne := by
  have hg : s.kept[0]? = some (some k) := keptO_get (i := 0) hO
  have hL := (h.kok.k1 0 k hg).len
  have hS1 : SOk (putK s 0 { k with quota := (Q : Int) }) := h.putK hg rfl ⟨hL.by_, hL.hnd, hL.chg, hL.dty, hL.out, hL.r0, hL.r1, hL.i0, hL.i1, hL.o0, hL.o1, by show 1 ≤ (Q : Int); omega, by show (Q : Int) ≤ 16; omega, hL.p0, hL.p1, hL.nod, hL.pg, hL.met, hL.chi, hL.val⟩ rfl rfl
  have hO1 : (putK s 0 { k with quota := (Q : Int) }).kept[0]? = some (some { k with quota := (Q : Int) }) := by show (s.kept.set 0 _)[0]? = _; rw [List.getElem?_set_self (kept_lt hg)]
  obtain ⟨a, b, c, d, dl, k', e1, e2, e3, e4, e5, e6, e7⟩ := sqN_ok (k.inp.length - Q) (putK s 0 { k with quota := (Q : Int) }) _ hS1.toSOk0.u hS1.hin hS1.kok hO1 (by show _ ≤ k.inp.length; omega)
  refine ⟨sweepS (sqN (k.inp.length - Q) (putK s 0 { k with quota := (Q : Int) }) 0), k', ?_, ?_, e3, e4, e5, ?_, d.1, sqN_ns 0 _ _, d.2.1⟩
  · unfold squeezeR
    rw [hE, hO]
    simp only [ne_eq, not_true_eq_false, if_false, if_neg (show ¬ ((Q : Int) < 1 ∨ 16 < (Q : Int)) by omega), Int.toNat_natCast, Int.toNat_zero]
  · refine keptO_at (i := 0) ?_
    show (sqN _ _ _).kept[0]? = _
    rw [e1, List.getElem?_set_self (kept_lt hO1)]
  · have e7' : k'.inp.length + (k.inp.length - Q) = k.inp.length := e7
    split <;> omega

section
variable {M : MT} {w0 w w' : World} {m i bf : Nat} {own : Nat → Nat × Nat} {s s' : RSt} {k : KSt} {has : Bool} {a b c : Nat}
theorem FK.countsF (h : FK M w0 m bf i own s w k has a b c) : countsR s 0 = ((k.refills, k.ins, k.outs, (k.inp.length : Int)), 0) := by
  unfold countsR
  rw [h.heldF, h.ke]; rfl
theorem countsR_of {s : RSt} {k : KSt} (h : SOk s) (hO : keptO s 0 = some k) : countsR s 0 = ((k.refills, k.ins, k.outs, (k.inp.length : Int)), 0) := by
  have hal : aliveB s 0 = true := (h.kok.k1 0 k (keptO_get (i := 0) hO)).alv
  unfold countsR
  rw [show heldE s 0 = 0 by unfold heldE keptB; rw [hal, hO]; rfl, hO]; rfl

set_option maxHeartbeats 8000000 in
set_option maxRecDepth 100000 in
theorem squeezed_any (P : Api M) (h : FK M w0 m bf i own s w k has a b c) (hi : (i + 2) * 48 ≤ 140737488355328) (hi2 : (i + 1 + 2) * 48 ≤ 140737488355328) (n : Int) (hn : I64 n) :
    Calls Try.prog 56 #[.pointer (some ⟨bf, 0, none⟩), .int .i64 n] w fun e w' => e = .returned (.bool true) ∧ ∃ own' s' k', FK M w0 m bf (i + 1) own' s' w' k' has a b c ∧ (∀ x, x < w.heap.size → own' x = own x) ∧ (∀ x, x < w.heap.size → (own x).1 ≠ 2 → x ≠ bf → w'.heap[x]? = w.heap[x]?) ∧ w.heap.size ≤ w'.heap.size := by
  have pN := pick_any n hn.1 hn.2 16 (by omega) (by omega)
  have hN := pk_lt n (show 0 < 16 by omega)
  obtain ⟨N, hNe⟩ : ∃ N, pk n 16 = N := ⟨_, rfl⟩
  rw [hNe] at pN hN
  have ie : I64 0 := by unfold I64; omega
  have hL := h.len
  obtain ⟨Q, hQ⟩ : ∃ Q, N + 1 = Q := ⟨_, rfl⟩
  have hwq : IntKind.i64.wrap (1 + (N : Int)) = (Q : Int) := by rw [IntKind.wrap_i64]; omega
  have k85 := (h.blk.cell 85).trans (fc_quota hL.by_ hL.dty)
  have z85 := h.blk.frozen 85
  have m0 := h.blk.cell 0
  simp [flcells] at m0
  have hb1 := h.blk.set 85 (.int .i64 (Q : Int))
  rw [fc_setQuota hL.by_ hL.dty] at hb1
  have hst1 := h.sk.put P (bf := bf) (j := 85) (by rw [h.tag]; omega) h.new (.int .i64 (Q : Int))
  obtain ⟨s2, k2, f1, f2, f3, f4, f5, f6, f7, f8, f9⟩ := squeeze_facts h.sk.hok h.ke h.heldF (Q := Q) (by omega) (by omega)
  have HC1 : Hid (countsR s 0 = ((k.refills, k.ins, k.outs, (k.inp.length : Int)), 0)) := h.countsF
  have HSQ : Hid (squeezeR s 0 (Q : Int) = (0, s2)) := f1
  have hso := (squeeze_ok h.sk.hok h.sk.sz 0 (Q : Int)).1
  rw [f1] at hso
  have HC2 : Hid (countsR s2 0 = ((k2.refills, k2.ins, k2.outs, (k2.inp.length : Int)), 0)) := countsR_of hso f2
  have hil := hL.inpL
  have hbl := h.blk.lt
  clear f1 hso
  obtain ⟨w1, hw1⟩ : ∃ w1, w.setCell ⟨bf, 85, none⟩ (.int .i64 (Q : Int)) = w1 := ⟨_, rfl⟩
  have hz1 : w1.heap.size = w.heap.size := by rw [← hw1]; simp
  have hh1 : ∀ x, x < w.heap.size → x ≠ bf → w1.heap[x]? = w.heap[x]? := fun x _ hne => by rw [← hw1]; exact Below.heap_setCell _ _ _ _ (by simpa using hne)
  rw [hw1] at hb1 hst1
  have HW1 : Hid (w.setCell ⟨bf, 85, none⟩ (.int .i64 (Q : Int)) = w1) := hw1
  have m1 := hb1.cell 0
  simp [flcells] at m1
  clear hw1
  go_enter Try.func56, Try.ntmps56
  go_wp2_with fail
  refine (pN _).mono ?_
  rintro e wx ⟨rfl, hwx⟩
  subst wx
  go_wp2_with fail
  rw [HW1.out]
  refine (hst1.counts P hi 0 ie).mono ?_
  rintro e w3 ⟨rfl, hn3⟩
  rw [HC1.out]
  have hb3 := hn3.blk hb1 (by rw [h.tag]; omega)
  obtain ⟨own3, hst3, ho3, hk3, hs3⟩ := hn3
  have hb3l := hb3.lt
  have hba3 : Below w3.heap.size w3 (w3.alloc (.cells #[.int .i64 k.refills, .int .i64 k.ins, .int .i64 k.outs, .int .i64 k.inp.length] 91)) := (Below.refl _ _).alloc (Nat.le_refl _) _
  have hst4 := hst3.below P hba3.drew
  have hb4 := hb3.below hba3.drew hb3.lt
  have hA4 := (Blk.new w3 [.int .i64 k.refills, .int .i64 k.ins, .int .i64 k.outs, .int .i64 k.inp.length] 91).drew
  have tA : (own3 w3.heap.size).1 = 0 := hst3.top _ (Nat.le_refl _)
  have tB3 : (own3 bf).1 = 0 := by rw [ho3 bf (by omega)]; exact h.tag
  have m4 := hb3.cell 0
  have q4 := (hb3.cell 85).trans (fc_quota hL.by_ hL.dty)
  simp [flcells] at m4
  have iQ : I64 (Q : Int) := ⟨by omega, by omega⟩
  clear m0 m1 k85 z85
  go_wp2_with fail
  go_region_held3 (fun w' => w'.cell? ⟨bf, 0, none⟩ = some (.pointer (some ⟨m, 0, none⟩)) ∧ w'.cell? ⟨bf, 85, none⟩ = some (.int .i64 Q)) (go_keep)
    ((go_at_call 62; refine (hst4.squeeze P hi 0 (Q : Int) ie iQ).mono ?_; rintro e w5 ⟨rfl, hn5⟩
      have d0 := (hn5.blk hb4 (by rw [tB3]; omega)).cell 0
      have d85 := ((hn5.blk hb4 (by rw [tB3]; omega)).cell 85).trans (fc_quota hL.by_ hL.dty)
      simp [flcells] at d0))
  rw [HSQ.out] at hn5 ⊢
  have hb5 := hn5.blk hb4 (by rw [tB3]; omega)
  have hA5 := hn5.blk hA4 (by rw [tA]; omega)
  obtain ⟨own5, hst5, ho5, hk5, hs5⟩ := hn5
  have hb5l := hb5.lt
  have tB5 : (own5 bf).1 = 0 := by rw [ho5 bf hb4.lt]; exact tB3
  have tA5 : (own5 w3.heap.size).1 = 0 := by rw [ho5 _ hA4.lt]; exact tA
  have m5 := hb5.cell 0
  simp [flcells] at m5
  clear m4 q4
  go_wp2_with fail
  refine (hst5.counts P hi2 0 ie).mono ?_
  rintro e w6 ⟨rfl, hn6⟩
  rw [HC2.out]
  have hb6 := hn6.blk hb5 (by rw [tB5]; omega)
  have hA6 := hn6.blk hA5 (by rw [tA5]; omega)
  obtain ⟨own6, hst6, ho6, hk6, hs6⟩ := hn6
  have q6 := (hb6.cell 85).trans (fc_quota hL.by_ hL.dty)
  have a3 := hA6.cell 3
  simp at a3
  have hA6l := hA6.lt
  have hb6l := hb6.lt
  have hbaF : Below w6.heap.size w6 (w6.alloc (.cells #[.int .i64 k2.refills, .int .i64 k2.ins, .int .i64 k2.outs, .int .i64 k2.inp.length] 91)) := (Below.refl _ _).alloc (Nat.le_refl _) _
  have hst7 := hst6.below P hbaF
  have hb7 := hb6.below hbaF hb6.lt
  have tB6 : (own6 bf).1 = 0 := by rw [ho6 bf hb5.lt]; exact tB5
  have hFK : FK M w0 m bf (i + 1) own6 s2 (w6.alloc (.cells #[.int .i64 k2.refills, .int .i64 k2.ins, .int .i64 k2.outs, .int .i64 k2.inp.length] 91)) k2 has a b c := by
    refine ⟨hst7, f2, ?_, tB6, h.new, fun hh => ?_, ?_, f7.trans h.nf, f8.trans h.ns, f9.trans h.ne⟩
    · rw [f3, f4, f5]; exact hb7
    · have := h.hs hh; rw [f6]; split <;> omega
    · rw [f5, f6]; split <;> omega
  have hag : ∀ x, x < w.heap.size → own6 x = own x := fun x hx => ((ho6 x (by simp at hs5; omega)).trans (ho5 x (by simp; omega))).trans (ho3 x (by omega))
  have hkeep : ∀ x, x < w.heap.size → (own x).1 ≠ 2 → x ≠ bf → (w6.alloc (.cells #[.int .i64 k2.refills, .int .i64 k2.ins, .int .i64 k2.outs, .int .i64 k2.inp.length] 91)).heap[x]? = w.heap[x]? := fun x hx h2 hne => by
    have e3 := ho3 x (by omega)
    have e5 := ho5 x (by simp; omega)
    rw [hbaF.block x (by simp at hs5; omega), hk6 x (by simp at hs5; omega) (by rw [e5, e3]; exact h2), hk5 x (by simp; omega) (by rw [e3]; exact h2), hba3.drew.block x (by omega), hk3 x (by omega) h2, hh1 x hx hne]
  have hsF : w.heap.size ≤ (w6.alloc (.cells #[.int .i64 k2.refills, .int .i64 k2.ins, .int .i64 k2.outs, .int .i64 k2.inp.length] 91)).heap.size := by simp at hs5 ⊢; omega
  obtain ⟨L2, hL2⟩ : ∃ L2, k2.inp.length = L2 := ⟨_, rfl⟩
  rw [hL2] at f6 hFK hkeep hsF ⊢
  have HF6 : Hid (L2 = if Q < k.inp.length then Q else k.inp.length) := f6
  clear hst6 hst7 hb7 hbaF hk6 hk5 hk3 hh1 f2 f3 f4 f5 f6
  by_cases hgt : Q < k.inp.length
  · have hgt' : (Q : Int) < (k.inp.length : Int) := by omega
    have hl2 : L2 = Q := by have := HF6.out; rw [if_pos hgt] at this; exact this
    have hLe : ((L2 : Int) == (Q : Int)) = true := by simp [hl2]
    clear hl2
    go_wp2_with fail
    go_ret
    exact ⟨rfl, own6, s2, k2, hFK, hag, hkeep, hsF⟩
  · have hgt' : ¬ (Q : Int) < (k.inp.length : Int) := by omega
    have hl2 : L2 = k.inp.length := by have := HF6.out; rw [if_neg hgt] at this; exact this
    have hLe : ((L2 : Int) == (k.inp.length : Int)) = true := by simp [hl2]
    clear hl2
    go_wp2_with fail
    go_ret
    exact ⟨rfl, own6, s2, k2, hFK, hag, hkeep, hsF⟩
end
end Go.Proofs.Ytinlkcmdbjcofab

/-
  'own'; 'Marked' itself.
-/
namespace Go.Proofs.Ytinlkcmdbjcofab
open Go.RowKit
set_option linter.unusedVariables false
attribute [local go_sem ↓] Go.wp_at_zero Go.wp_at_succ

section
variable {M : MT} {w0 w w' : World} {m i bf : Nat} {own : Nat → Nat × Nat} {s s' : RSt} {k : KSt} {has : Bool} {a b c : Nat}

set_option maxHeartbeats 8000000 in
set_option maxRecDepth 100000 in
theorem own_any (P : Api M) (h : FK M w0 m bf i own s w k has a b c) (hi : (i + 2) * 48 ≤ 140737488355328) (hi2 : (i + 1 + 2) * 48 ≤ 140737488355328) (o : LStep) (ho : o.i64) :
    Calls Try.prog 26 #[.pointer (some ⟨bf, 0, none⟩), .agg #[.int .i64 o.K, .int .i64 o.V, .int .i64 o.A, .int .i64 o.B, .int .i64 o.C, .bool o.F]] w fun e w' => e = .returned (.bool true) ∧ ∃ own' s' k' has', FK M w0 m bf (i + 1) own' s' w' k' has' a b c := by
  have hba : Below w.heap.size w (w.alloc (.cells #[.int .i64 o.K, .int .i64 o.V, .int .i64 o.A, .int .i64 o.B, .int .i64 o.C, .bool o.F] 31)) := (Below.refl _ _).alloc (Nat.le_refl _) _
  have hf := h.below P hba
  have hL := h.len
  have ie : I64 0 := by unfold I64; omega
  have m0 := hf.blk.cell 0
  simp [flcells] at m0
  go_enter Try.func26, Try.ntmps26
  by_cases hK13 : o.K = 13
  · have y13 : (o.K == 13) = true := by simp [hK13]
    clear hK13
    go_wp2_with fail
    refine (facc_any P hf hi o ho).mono ?_
    rintro e w3 ⟨rfl, own3, s3, k3, has3, h3, -, -, -, -⟩
    go_wp2_with fail
    go_ret
    exact ⟨rfl, own3, s3, k3, has3, h3⟩
  have y13 : (o.K == 13) = false := beq_eq_false_iff_ne.2 hK13
  by_cases hK14 : o.K = 14
  · have y14 : (o.K == 14) = true := by simp [hK14]
    clear hK13 hK14
    go_wp2_with fail
    refine (fmarked_any P hf hi).mono ?_
    rintro e w3 ⟨rfl, hb3⟩
    go_wp2_with fail
    go_ret
    exact ⟨rfl, own, s, k, has, (hf.below P hb3).mono (by omega)⟩
  have y14 : (o.K == 14) = false := beq_eq_false_iff_ne.2 hK14
  by_cases hK16 : o.K = 16
  · have y16 : (o.K == 16) = true := by simp [hK16]
    have y15 : (o.K == 15) = false := by simp [hK16]
    clear hK13 hK14 hK16
    go_wp2_with fail
    refine (squeezed_any P hf hi hi2 o.A ho.2.1).mono ?_
    rintro e w3 ⟨rfl, own3, s3, k3, h3, -, -, -⟩
    go_wp2_with fail
    go_ret
    exact ⟨rfl, own3, s3, k3, has, h3⟩
  have y16 : (o.K == 16) = false := beq_eq_false_iff_ne.2 hK16
  by_cases hK15 : o.K = 15
  · have y15 : (o.K == 15) = true := by simp [hK15]
    clear hK13 hK14 hK16 hK15
    have HCL : Hid (cleanR s 0 = (0, putK s 0 { k with dty := List.replicate 16 false })) := by unfold Hid cleanR; rw [h.heldF, h.ke]; rfl
    have hcok := clean_ok h.sk.hok h.sk.sz 0
    go_wp2_with fail
    go_loopg [5] 16 (fun n x wr => ∃ q : Nat, x = .int .i64 q ∧ q + n = 16 ∧ SK M w0 m i own s wr ∧ Blk wr bf (flcells m a b c k.bytes (clTo k q) has k.quota) 52)
    case atStart => exact ⟨0, rfl, by omega, hf.sk, by simpa [clTo] using hf.blk⟩
    case round =>
      obtain ⟨q, rfl, hk, hsk, hbk⟩ := hrel
      have HK : Hid (q + gk = 16) := hk
      have hq : q ≤ 16 := by omega
      clear hk
      have hcl := clTo_len k hL.dty hq
      by_cases hlt : q < 16
      · obtain ⟨d, hd⟩ : ∃ d, (clTo k q)[q]? = some d := ⟨(clTo k q)[q]'(by omega), by simp⟩
        have c5 := (hbk.cell (68 + q)).trans (fc_dirty hL.by_ (by omega))
        rw [hd] at c5
        simp only [Option.map_some] at c5
        have z5 := hbk.frozen (68 + q)
        have hb2 := hbk.set (68 + q) (.bool false)
        rw [fc_setDirty hL.by_ (by omega), clTo_set k hL.dty hlt] at hb2
        have hs2 := hsk.put P (bf := bf) (j := 68 + q) (by rw [h.tag]; omega) h.new (.bool false)
        have hq0 : (0 : Int) ≤ (q : Int) := by omega
        have hq1 : (q : Int) < 16 := by omega
        clear hd hcl
        go_wp2_with fail
        go_roundg (gk - 1)
        case measure => have := HK.out; omega
        case rel => exact ⟨q + 1, by go_num, by have := HK.out; omega, hs2, hb2⟩
      · obtain rfl : q = 16 := by omega
        have e16 : clTo k 16 = List.replicate 16 false := by unfold clTo; rw [List.drop_of_length_le (by rw [hL.dty]; omega)]; simp
        rw [e16] at hbk
        have m3 := hbk.cell 0
        simp [flcells] at m3
        clear e16 hcl
        go_wp2_with fail
        refine (hsk.clean P hi 0 ie).mono ?_
        rintro e w5 ⟨rfl, hn⟩
        rw [HCL.out] at hn ⊢
        have hb5 := hn.blk hbk (by rw [h.tag]; omega)
        obtain ⟨own5, hst5, ho5, hk5, hs5⟩ := hn
        have hg := h.at
        go_wp2_with fail
        go_ret
        refine ⟨rfl, own5, _, { k with dty := List.replicate 16 false }, has, ⟨hst5, keptO_putK (env := 0) (kept_lt hg), hb5, ?_, h.new, h.hs, h.nq, h.nf, h.ns, h.ne⟩⟩
        rw [ho5 bf hbk.lt]; exact h.tag
  have y15 : (o.K == 15) = false := beq_eq_false_iff_ne.2 hK15
  clear hK13 hK14 hK16 hK15
  go_wp2_with fail
  refine (facc_any P hf hi o ho).mono ?_
  rintro e w3 ⟨rfl, own3, s3, k3, has3, h3, -, -, -, -⟩
  go_wp2_with fail
  go_ret
  exact ⟨rfl, own3, s3, k3, has3, h3⟩
end
end Go.Proofs.Ytinlkcmdbjcofab

/-
  'Marked' itself.
-/
namespace Go.Proofs.Ytinlkcmdbjcofab
open Go.RowKit
set_option linter.unusedVariables false
attribute [local go_sem ↓] Go.wp_at_zero Go.wp_at_succ

set_option maxHeartbeats 8000000 in
set_option maxRecDepth 100000 in
theorem markedlaw_any {M : MT} (P : Api M) (x y z qu po : Int) (hx : I64 x) (hy : I64 y) (hz : I64 z) (hq : I64 qu) (hp : I64 po)
    (ao : Option Addr) (len cap : Nat) (w : World) (ops : List LStep) (hl : ops.length = len) (hok : ∀ (i : Nat) (o : LStep), ops[i]? = some o → o.i64) (hsz : (len + 85) * 48 ≤ 140737488355328)
    (ho : (len = 0) ∨ ∃ b off, ao = some ⟨b, off, none⟩ ∧ b < w.heap.size ∧ ∀ (i : Nat) (o : LStep), ops[i]? = some o → ∀ (j : Nat) (v : Value), o.cells[j]? = some v → w.cell? ⟨b, off + i * 6 + j, none⟩ = some v) :
    Calls Try.prog 8 #[.agg #[.int .i64 x, .int .i64 y, .int .i64 z], .int .i64 qu, .int .i64 po, .slice ao len cap] w fun e w' => e = .returned (.bool true) ∧ Below w.heap.size w w' := by
  have HX : Hid ((len = 0) ∨ ∃ b off, ao = some ⟨b, off, none⟩ ∧ b < w.heap.size ∧ ∀ (i : Nat) (o : LStep), ops[i]? = some o → ∀ (j : Nat) (v : Value), o.cells[j]? = some v → w.cell? ⟨b, off + i * 6 + j, none⟩ = some v) := ho
  have HL : Hid (ops.length = len) := hl
  have HO : Hid (∀ (i : Nat) (o : LStep), ops[i]? = some o → o.i64) := hok
  have HF : Hid (∀ j : Nat, j ≤ len + 80 → (j + 2) * 48 ≤ 140737488355328) := fun j hj => by clear ho; omega
  have hlen : len ≤ 2932031007402 := by omega
  clear ho hl hok hsz
  have la1 : 1 ≤ cfA x := by unfold cfA; omega
  have lb8 := cfB_le y
  have lc4 := cfC_le z
  have lc1 : 2 ≤ cfC z := by unfold cfC; omega
  have HKP := fun w => kept_any P x y z qu po hx hy hz hq hp w
  obtain ⟨fa, hfa⟩ : ∃ v, cfA x = v := ⟨_, rfl⟩
  obtain ⟨fb, hfb⟩ : ∃ v, cfB y = v := ⟨_, rfl⟩
  obtain ⟨fc, hfc⟩ : ∃ v, cfC z = v := ⟨_, rfl⟩
  rw [hfa] at la1 HKP
  rw [hfb] at lb8 HKP
  rw [hfc] at lc4 lc1 HKP
  clear hfa hfb hfc
  go_enter Try.func8, Try.ntmps8
  go_wp2_with fail
  refine (HKP _).mono ?_
  rintro e w1 ⟨m, bf, own, k, rfl, hFK, hin, hs1⟩
  obtain ⟨W0, hW0⟩ : ∃ W0 : World, W0 = w.alloc (.cells #[.int .i64 x, .int .i64 y, .int .i64 z] 23) := ⟨_, rfl⟩
  have hbW : Below w.heap.size w W0 := by rw [hW0]; exact (Below.refl _ _).alloc (Nat.le_refl _) _
  rw [← hW0] at hFK hs1
  have hWs : w.heap.size ≤ W0.heap.size := hbW.size
  clear hW0 HKP
  have h12 := HF.out 1 (by omega)
  go_wp2_with fail
  refine (works_any P la1 hFK hin h12).mono ?_
  rintro e w2 ⟨rfl, own2, s2, k2, hG⟩
  clear hFK hin
  go_wp2_with fail
  go_loopg [10, 11] len (fun n vok x wr => ∃ (r : Nat) (own' : Nat → Nat × Nat) (s' : RSt) (k' : KSt) (has' : Bool), vok = .bool true ∧ x = .int .i64 r ∧ r + n = len ∧ FK M W0 m bf (r + 2) own' s' wr k' has' fa fb fc)
  case atStart => exact ⟨0, _, _, _, _, rfl, rfl, by omega, hG⟩
  case round =>
    obtain ⟨r, own', s', k', has', rfl, rfl, hk, hf⟩ := hrel
    have HK : Hid (r + gk = len) := hk
    have hr : r ≤ len := by omega
    clear hk hG
    have m0 := hf.blk.cell 0
    have m1 := hf.blk.cell 1
    have m2 := hf.blk.cell 2
    have m3 := hf.blk.cell 3
    simp [flcells] at m0 m1 m2 m3
    have hbl := hf.sk.bel
    have hblt := hf.blk.lt
    by_cases hlt : r < len
    · rcases HX.out with h0 | ⟨bS, off, hao, hbS, hcS⟩
      · omega
      first | subst hao | (simp only [Option.some.injEq, Addr.mk.injEq, and_true, true_and] at hao; obtain ⟨rfl, rfl⟩ := hao)
      obtain ⟨o, hoo⟩ : ∃ o, ops[r]? = some o := ⟨ops[r]'(by rw [HL.out]; omega), by simp⟩
      have hoi := HO.out r o hoo
      have cc : ∀ j, j < 6 → wr.cell? ⟨bS, off + r * 6 + j, none⟩ = o.cells[j]? := fun j hj => by
        obtain ⟨v, hv⟩ : ∃ v, o.cells[j]? = some v := ⟨o.cells[j]'(by simpa [LStep.cells] using hj), by simp⟩
        rw [hv, ← hcS r o hoo j v hv]
        exact (hbW.trans (hbl.mono hWs)).cell (p := ⟨bS, off + r * 6 + j, none⟩) hbS
      have c0 := (cc 0 (by omega)).trans (show _ = some (.int .i64 o.K) from rfl)
      have c1 := (cc 1 (by omega)).trans (show _ = some (.int .i64 o.V) from rfl)
      have c2 := (cc 2 (by omega)).trans (show _ = some (.int .i64 o.A) from rfl)
      have c3 := (cc 3 (by omega)).trans (show _ = some (.int .i64 o.B) from rfl)
      have c4 := (cc 4 (by omega)).trans (show _ = some (.int .i64 o.C) from rfl)
      have c5 := (cc 5 (by omega)).trans (show _ = some (.bool o.F) from rfl)
      simp only [Nat.add_zero] at c0
      have hr0 : (0 : Int) ≤ (r : Int) := by omega
      have hr1 : (r : Int) < (len : Int) := by omega
      have hfew := HF.out (r + 2) (by omega)
      have hba : Below wr.heap.size wr (wr.alloc (.cells #[.int .i64 o.K, .int .i64 o.V, .int .i64 o.A, .int .i64 o.B, .int .i64 o.C, .bool o.F] 31)) := (Below.refl _ _).alloc (Nat.le_refl _) _
      have hf2 := hf.below P hba
      clear cc hoo hcS
      have hfew2 := HF.out (r + 2 + 1) (by omega)
      by_cases hK13 : 13 ≤ o.K
      · go_wp2_with fail
        refine (own_any P hf2 hfew hfew2 o hoi).mono ?_
        rintro e w3 ⟨rfl, own3, s3, k3, has3, h3⟩
        go_wp2_with fail
        go_roundg (gk - 1)
        case measure => have := HK.out; omega
        case rel => exact ⟨r + 1, own3, s3, k3, has3, rfl, by go_num, by have := HK.out; omega, (by rw [show r + 1 + 2 = r + 2 + 1 by omega]; exact h3)⟩
      · have hfd := hf.below P hba.drew
        have hbx := (Blk.new wr [.int .i64 o.K, .int .i64 o.V, .int .i64 o.A, .int .i64 o.B, .int .i64 o.C, .bool o.F] 31).drew
        have htx := hf.sk.top wr.heap.size (Nat.le_refl _)
        go_wp2_with fail
        go_region_held3 (fun w' => w'.cell? ⟨bf, 0, none⟩ = some (.pointer (some ⟨m, 0, none⟩)) ∧ w'.cell? ⟨bf, 1, none⟩ = some (.int .i64 fa) ∧ w'.cell? ⟨bf, 2, none⟩ = some (.int .i64 fb) ∧ w'.cell? ⟨bf, 3, none⟩ = some (.int .i64 fc) ∧ w'.cell? ⟨wr.heap.size, 0, none⟩ = some (.int .i64 o.K) ∧ w'.cell? ⟨wr.heap.size, 1, none⟩ = some (.int .i64 o.V) ∧ w'.cell? ⟨wr.heap.size, 2, none⟩ = some (.int .i64 o.A) ∧ w'.cell? ⟨wr.heap.size, 3, none⟩ = some (.int .i64 o.B) ∧ w'.cell? ⟨wr.heap.size, 4, none⟩ = some (.int .i64 o.C) ∧ w'.cell? ⟨wr.heap.size, 5, none⟩ = some (.bool o.F)) (go_keep)
          ((go_at_call 14; refine (noiseK_any P hfd.sk hfew o hoi fa fb fc lb8 lc4 lc1).mono ?_; rintro e w3 ⟨rfl, s3, hnk, hn⟩
            have d0 := (hn.blk hfd.blk (by rw [hfd.tag]; omega)).cell 0
            have d1 := (hn.blk hfd.blk (by rw [hfd.tag]; omega)).cell 1
            have d2 := (hn.blk hfd.blk (by rw [hfd.tag]; omega)).cell 2
            have d3 := (hn.blk hfd.blk (by rw [hfd.tag]; omega)).cell 3
            have e0 := (hn.blk hbx (by rw [htx]; omega)).cell 0
            have e1 := (hn.blk hbx (by rw [htx]; omega)).cell 1
            have e2 := (hn.blk hbx (by rw [htx]; omega)).cell 2
            have e3 := (hn.blk hbx (by rw [htx]; omega)).cell 3
            have e4 := (hn.blk hbx (by rw [htx]; omega)).cell 4
            have e5 := (hn.blk hbx (by rw [htx]; omega)).cell 5
            simp [flcells] at d0 d1 d2 d3 e0 e1 e2 e3 e4 e5))
        obtain ⟨own3, h3, -, -, -⟩ := hfd.noise hnk hn
        go_wp2_with fail
        go_roundg (gk - 1)
        case measure => have := HK.out; omega
        case rel => exact ⟨r + 1, own3, s3, k', has', rfl, by go_num, by have := HK.out; omega, (by rw [show r + 1 + 2 = r + 2 + 1 by omega]; exact h3)⟩
    · obtain rfl : r = len := by omega
      go_wp2_with fail
      refine (fmarked_any P hf (HF.out (r + 2) (by omega))).mono ?_
      rintro e w4 ⟨rfl, hb4⟩
      have hf4 := hf.below P hb4
      go_wp2_with fail
      refine (all_any P hf4 (fun q hq => HF.out (r + 2 + q) (by omega))).mono ?_
      rintro e w3 ⟨rfl, own3, s3, k3, has3, h3⟩
      go_wp2_with fail
      go_ret
      exact ⟨rfl, hbW.trans (h3.sk.bel.mono hWs)⟩
end Go.Proofs.Ytinlkcmdbjcofab
