/-
  'Handles' itself.
-/
import Derived.Test.YtkonobbhohfjlaaBookK
namespace Go.Proofs.Ytkonobbhohfjlaa
open Go.RowKit
set_option linter.unusedVariables false
attribute [local go_sem ↓] Go.wp_at_zero Go.wp_at_succ

def bk (m a s c q : Nat) : List Value := [.pointer (some ⟨m, 0, none⟩), .int .i64 a, .int .i64 s, .int .i64 c, .slice none 0 0, .bool (decide (0 < q)), .bool (decide (1 < q)), .bool (decide (2 < q)), .bool (decide (3 < q))]
theorem bk_set (m a s c : Nat) {q : Nat} (h : q < 4) : (bk m a s c q).set (5 + q) (.bool true) = bk m a s c (q + 1) := by
  have : q = 0 ∨ q = 1 ∨ q = 2 ∨ q = 3 := by omega
  rcases this with rfl | rfl | rfl | rfl <;> rfl
theorem bk_get (m a s c : Nat) {q : Nat} (h : q < 4) : ∃ v, (bk m a s c q)[5 + q]? = some (.bool v) := by
  have : q = 0 ∨ q = 1 ∨ q = 2 ∨ q = 3 := by omega
  rcases this with rfl | rfl | rfl | rfl <;> exact ⟨_, rfl⟩
theorem bk_full (m a s : Nat) {c : Nat} : bk m a s c c = bcells m s (RSt.fresh a s c) (.slice none 0 0) := by
  have h : ∀ j, alAt (RSt.fresh a s c) j = decide (j < c) := fun j => by
    unfold alAt RSt.fresh
    simp only [List.getElem?_replicate]
    by_cases hj : j < c <;> simp [hj]
  simp only [bk, bcells, h]
  rfl

theorem hb_fresh {w0 w w' : World} {b m a s c : Nat} (hb : Blk w' b (bk m a s c c) 36) (hm : NewMach w0 w m a c) (hk : Below w.heap.size w w') (hwb : w.heap.size ≤ b) (hw : Below w0.heap.size w0 w') (h0 : w0.heap.size ≤ w.heap.size) (ha : a ≤ 16) (hs : s ≤ 8) (hc : c ≤ 4) : HB w0 b m s c 0 w' := by
  obtain ⟨e, f, m1, m2, m3, n1, n2, n3, n4, n5, n6⟩ := hm
  have l1 := m1.lt
  have l2 := m2.lt
  have l3 := m3.lt
  obtain ⟨own, hown⟩ : ∃ own : Nat → Nat × Nat, own = fun x => if x = b then (1, 0) else if x = m then (2, 0) else if x = e then (2, 1) else if x = f then (2, 2) else (0, 0) := ⟨_, rfl⟩
  have gb : own b = (1, 0) := by rw [hown]; simp
  have gm : own m = (2, 0) := by rw [hown]; simp only [if_neg (show ¬ m = b by omega), if_true]
  have ge : own e = (2, 1) := by rw [hown]; simp only [if_neg (show ¬ e = b by omega), if_neg (show ¬ e = m by omega), if_true]
  have gf : own f = (2, 2) := by rw [hown]; simp only [if_neg (show ¬ f = b by omega), if_neg (show ¬ f = m by omega), if_neg (show ¬ f = e by omega), if_true]
  have gz : ∀ x, x < w0.heap.size → (own x).1 = 0 := fun x hx => by rw [hown]; simp only [if_neg (show ¬ x = b by omega), if_neg (show ¬ x = m by omega), if_neg (show ¬ x = e by omega), if_neg (show ¬ x = f by omega)]
  rw [bk_full] at hb
  exact ⟨own, RSt.fresh a s c, PSt.fresh a c, c, _, _, _, _, prep_fresh (m1.below hk l1) (m2.below hk l2) (m3.below hk l3) ha hc gm ge gf,
    ⟨hb, Row.nil _ _ _, gb, Tg.nil _ _⟩, sim_fresh a s c, hinv_fresh a s c, rfix_fresh ha hs hc, by simp [RSt.fresh], rfl, gz, hw⟩

theorem HB.cne {w0 w : World} {b m s E i : Nat} (h : HB w0 b m s E i w) : w.cell? ⟨b, 3, none⟩ = some (.int .i64 E) := by
  obtain ⟨own, rs, ps, nk, vE, vF, vL, vM, h1, h2, h3, h4, h5, h6, h7, h8, h9⟩ := h
  rw [h2.c3, h7]
theorem HB.bel {w0 w : World} {b m s E i : Nat} (h : HB w0 b m s E i w) : Below w0.heap.size w0 w := by
  obtain ⟨own, rs, ps, nk, vE, vF, vL, vM, h1, h2, h3, h4, h5, h6, h7, h8, h9⟩ := h
  exact h9
theorem HB.told {w0 w : World} {b m s E i : Nat} (h : HB w0 b m s E i w) (hi : (i + 2) * 48 ≤ 140737488355328) (env : Nat) (he : env < E) :
    Calls Try.prog 11 #[.pointer (some ⟨b, 0, none⟩), .int .i64 env] w fun e w' => e = .returned (.bool true) ∧ HB w0 b m s E i w' := by
  have hx := h
  obtain ⟨own, rs, ps, nk, vE, vF, vL, vM, h1, h2, h3, h4, h5, h6, h7, h8, h9⟩ := hx
  refine (btold_any h1 h2 h3 h5 h6 (by omega) env (by omega)).mono ?_
  rintro e w1 ⟨rfl, hb1⟩
  exact ⟨rfl, h.below hb1⟩
theorem HB.framed {w0 w : World} {b m s E i : Nat} (h : HB w0 b m s E i w) (hi : (i + 2) * 48 ≤ 140737488355328) :
    Calls Try.prog 12 #[.pointer (some ⟨b, 0, none⟩)] w fun e w' => e = .returned (.bool true) ∧ Below w0.heap.size w0 w' := by
  have hx := h
  obtain ⟨own, rs, ps, nk, vE, vF, vL, vM, h1, h2, h3, h4, h5, h6, h7, h8, h9⟩ := hx
  refine (bframed_any h1 h2 h3 h4 h5 h6 (by omega)).mono ?_
  rintro e w1 ⟨rfl, hb1⟩
  exact ⟨rfl, (h.below hb1).bel⟩

def Inr64 (n : Int) : Prop := -9223372036854775808 ≤ n ∧ n ≤ 9223372036854775807

set_option maxHeartbeats 4000000 in
set_option maxRecDepth 100000 in
theorem handles_any (x y z : Int) (hx0 : -9223372036854775808 ≤ x) (hx1 : x ≤ 9223372036854775807) (hy0 : -9223372036854775808 ≤ y) (hy1 : y ≤ 9223372036854775807) (hz0 : -9223372036854775808 ≤ z) (hz1 : z ≤ 9223372036854775807)
    (ao : Option Addr) (len cap : Nat) (w : World) (ops : List LStep) (hl : ops.length = len) (hok : ∀ (i : Nat) (o : LStep), ops[i]? = some o → Inr64 o.V ∧ Inr64 o.A ∧ Inr64 o.B) (hsz : (len + 2) * 48 ≤ 140737488355328)
    (ho : (len = 0) ∨ ∃ b off, ao = some ⟨b, off, none⟩ ∧ b < w.heap.size ∧ ∀ (i : Nat) (o : LStep), ops[i]? = some o → ∀ (j : Nat) (v : Value), o.cells[j]? = some v → w.cell? ⟨b, off + i * 6 + j, none⟩ = some v) :
    Calls Try.prog 6 #[.agg #[.int .i64 x, .int .i64 y, .int .i64 z], .slice ao len cap] w fun e w' => e = .returned (.bool true) ∧ Below w.heap.size w w' := by
  have HX : Hid ((len = 0) ∨ ∃ b off, ao = some ⟨b, off, none⟩ ∧ b < w.heap.size ∧ ∀ (i : Nat) (o : LStep), ops[i]? = some o → ∀ (j : Nat) (v : Value), o.cells[j]? = some v → w.cell? ⟨b, off + i * 6 + j, none⟩ = some v) := ho
  have HL : Hid (ops.length = len) := hl
  have HO : Hid (∀ (i : Nat) (o : LStep), ops[i]? = some o → Inr64 o.V ∧ Inr64 o.A ∧ Inr64 o.B) := hok
  clear ho hl hok
  go_enter Try.func6, Try.ntmps6
  go_wp2_with fail
  refine (built_any x y z hx0 hx1 hy0 hy1 hz0 hz1 _).mono ?_
  rintro e w1 ⟨m, rfl, hb1, hm1⟩
  have hbx := (Blk.new w [.int .i64 x, .int .i64 y, .int .i64 z] 26).below hb1 (by simp)
  have e0 := hbx.cell 0
  have e1 := hbx.cell 1
  have e2 := hbx.cell 2
  simp at e0 e1 e2
  have hs1 : w.heap.size < w1.heap.size := hbx.lt
  have hbw1 : Below w.heap.size w w1 := ((Below.refl _ _).alloc (Nat.le_refl _) _).trans (hb1.mono (by simp))
  have hmm : NewMach w w1 m (cfA x) (cfC z) := hm1.low (by simp)
  clear hb1 hm1
  go_wp2_with fail
  refine (config_any x y z hx0 hx1 hy0 hy1 hz0 hz1 _).mono ?_
  rintro e w2 ⟨rfl, hb2⟩
  have la := cfA_le x
  have lb := cfB_le y
  have lc := cfC_le z
  have lc1 := cfC_ge z
  obtain ⟨fa, hfa⟩ : ∃ v, cfA x = v := ⟨_, rfl⟩
  obtain ⟨fb, hfb⟩ : ∃ v, cfB y = v := ⟨_, rfl⟩
  obtain ⟨fc, hfc⟩ : ∃ v, cfC z = v := ⟨_, rfl⟩
  rw [hfa, hfb, hfc]
  rw [hfa] at la hmm
  rw [hfb] at lb
  rw [hfc] at lc lc1 hmm
  clear hfa hfb hfc hbx e0 e1 e2
  have hs2 := hb2.size
  have hbw2 : Below w.heap.size w w2 := hbw1.trans (hb2.mono (by omega))
  have hmm2 : NewMach w w2 m fa fc := hmm.of (fun k _ h2 => hb2.block k h2)
  clear hmm hb2 hbw1
  go_wp2_with fail
  go_loopg [7] fc (fun k i wr => ∃ q : Nat, i = .int .i64 q ∧ q + k = fc ∧ Below w2.heap.size w2 wr ∧ Blk wr w2.heap.size (bk m fa fb fc q) 36)
  case atStart => exact ⟨0, rfl, by omega, (Below.refl _ _).alloc (Nat.le_refl _) _, Blk.new _ (bk m fa fb fc 0) _⟩
  case round =>
    obtain ⟨q, rfl, hk, hbl, hbk⟩ := hrel
    have HK : Hid (q + gk = fc) := hk
    have hq : q ≤ fc := by omega
    clear hk
    have k3 : wr.cell? ⟨w2.heap.size, 3, none⟩ = some (.int .i64 fc) := (hbk.cell 3).trans rfl
    by_cases hlt : q < fc
    · obtain ⟨v, hv⟩ := bk_get m fa fb fc (show q < 4 by omega)
      have kq := (hbk.cell (5 + q)).trans hv
      have kf := hbk.frozen (5 + q)
      have hq0 : (0 : Int) ≤ (q : Int) := by omega
      have hq1 : (q : Int) < 4 := by omega
      clear hv
      go_wp2_with fail
      go_roundg (gk - 1)
      case measure => have := HK.out; omega
      case rel => exact ⟨q + 1, by go_num, by have := HK.out; omega, hbl.setCell (by simp) _, by rw [← bk_set m fa fb fc (show q < 4 by omega)]; exact hbk.set _ _⟩
    · obtain rfl : q = fc := by omega
      have hB0 : HB w w2.heap.size m fb q 0 wr := hb_fresh hbk hmm2 hbl (Nat.le_refl _) (hbw2.trans (hbl.mono (by omega))) (by omega) la lb lc
      clear hbl hbk HK
      go_wp2_with fail
      obtain ⟨wo0, rfl⟩ : ∃ wo : World, wo = wr := ⟨_, rfl⟩
      obtain ⟨go0, rfl⟩ : ∃ go : Nat, go = gk := ⟨_, rfl⟩
      go_loopg [8] len (fun k i wx => ∃ r : Nat, i = .int .i64 r ∧ r + k = len ∧ HB w w2.heap.size m fb q r wx)
      case atStart => exact ⟨0, rfl, by omega, hB0⟩
      case round =>
        clear hB0 k3
        obtain ⟨r, rfl, hk, hB⟩ := hrel
        have HK : Hid (r + gk = len) := hk
        have hr : r ≤ len := by omega
        clear hk
        by_cases hlt : r < len
        · obtain ⟨o, ho⟩ : ∃ o, ops[r]? = some o := ⟨ops[r]'(by rw [HL.out]; exact hlt), by simp⟩
          obtain ⟨⟨v0, v1⟩, ⟨a0, a1⟩, ⟨b0, b1⟩⟩ := HO.out r o ho
          rcases HX.out with h0 | ⟨bS, off, rfl, hbS, hc⟩
          · omega
          have hbl := hB.bel
          have hy : ∀ (j : Nat) (v : Value), o.cells[j]? = some v → wr.cell? ⟨bS, off + r * 6 + j, none⟩ = some v := fun j v hv => (hbl.cell (p := ⟨bS, off + r * 6 + j, none⟩) hbS).trans (hc r o ho j v hv)
          have c0 := hy 0 _ rfl
          have c1 := hy 1 _ rfl
          have c2 := hy 2 _ rfl
          have c3 := hy 3 _ rfl
          have c4 := hy 4 _ rfl
          have c5 := hy 5 _ rfl
          simp only [Nat.add_zero] at c0
          clear hy hc ho
          have hr0 : (0 : Int) ≤ (r : Int) := by omega
          have hr1 : (r : Int) < (len : Int) := by omega
          go_wp2_with fail
          refine (play_any hB (by omega) lc1 o v0 v1 a0 a1 b0 b1).mono ?_
          rintro e w3 ⟨rfl, hB3⟩
          go_wp2_with fail
          go_roundg (gk - 1)
          case measure => have := HK.out; omega
          case rel => exact ⟨r + 1, by go_num, by have := HK.out; omega, hB3⟩
        · obtain rfl : r = len := by omega
          clear HX HL HO HK
          go_wp2_with fail
          obtain ⟨wo1, rfl⟩ : ∃ wo : World, wo = wr := ⟨_, rfl⟩
          obtain ⟨go1, rfl⟩ : ∃ go : Nat, go = gk := ⟨_, rfl⟩
          go_loopg [10] q (fun k i wx => ∃ t : Nat, i = .int .i64 t ∧ t + k = q ∧ HB w w2.heap.size m fb q r wx)
          case atStart => exact ⟨0, rfl, by omega, hB⟩
          case round =>
            clear hB
            obtain ⟨t, rfl, hk, hB⟩ := hrel
            have HK : Hid (t + gk = q) := hk
            have ht : t ≤ q := by omega
            clear hk
            have k3 := hB.cne
            by_cases hlt : t < q
            · go_wp2_with fail
              refine (hB.told (by omega) t hlt).mono ?_
              rintro e w3 ⟨rfl, hB3⟩
              go_wp2_with fail
              go_roundg (gk - 1)
              case measure => have := HK.out; omega
              case rel => exact ⟨t + 1, by go_num, by have := HK.out; omega, hB3⟩
            · obtain rfl : t = q := by omega
              go_wp2_with fail
              refine (hB.framed (by omega)).mono ?_
              rintro e w3 ⟨rfl, hb3⟩
              go_wp2_with fail
              go_ret
              exact ⟨rfl, hb3⟩

end Go.Proofs.Ytkonobbhohfjlaa
