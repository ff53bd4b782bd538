import Derived.Test.YtinlkcmdbjcofabM16
/-
  'fresh': a new frame, if there is one, is all 0; what is stored there is loaded.
-/
namespace Go.Proofs.Ytinlkcmdbjcofab
open Go.RowKit
set_option linter.unusedVariables false
attribute [local go_sem ↓] Go.wp_at_zero Go.wp_at_succ

theorem alloc_cases {s : RSt} (hok : SOk s) (hnk : NoK s) (env : Int) : (∃ x, allocR s env = ((0, x), s) ∧ (x = 2 ∨ x = 12)) ∨
    ∃ (f : Nat) (s1 : RSt), allocR s env = (((s.rights.length : Int) + 1, 0), s1) ∧ leastFree s = some f ∧ s1.rights = s.rights ++ [⟨s.rights.length + 1, env, f, true, -1, false⟩] ∧ lv s1.rights (s.rights.length : Nat) = true ∧ f < s.nf ∧ s1.bytes = s.bytes.set f [0, 0, 0, 0] ∧ (∀ a, byteAt s1 f a = 0) ∧
      s1.slots = s.slots ∧ s1.alive = s.alive ∧ s1.ne = s.ne ∧ s1.nf = s.nf ∧ s1.ns = s.ns ∧ aliveB s env = true := by
  unfold allocR
  rw [rawE_nok (hnk env)]
  rcases liveE_cases s env with ⟨h2, ha⟩ | ⟨h0, ha⟩
  · left; exact ⟨2, by rw [h2]; rfl, .inl rfl⟩
  · rw [h0]
    simp only [ne_eq, not_true_eq_false, if_false]
    unfold firstS
    cases hl : leastFree s with
    | none => left; exact ⟨12, rfl, .inr rfl⟩
    | some f =>
      simp only
      by_cases hc : cnt s.rights < 32
      · right
        have hf := leastFree_lt hl
        have hfl : f < s.bytes.length := by rw [hok.fix.by_]; exact hf
        rw [if_pos hc]
        refine ⟨f, _, rfl, rfl, rfl, ?_, hf, rfl, fun a => ?_, rfl, rfl, rfl, rfl, rfl, ha⟩
        · have hx : (s.rights ++ [⟨s.rights.length + 1, env, f, true, -1, false⟩])[s.rights.length]? = some (⟨s.rights.length + 1, env, f, true, -1, false⟩ : RR) := by simp
          show lv (s.rights ++ [⟨s.rights.length + 1, env, f, true, -1, false⟩]) (s.rights.length : Nat) = true
          rw [lv_step (hok.inv.ord.append (by simp) (by simp; omega)) hx]
          simp only [Bool.not_false, Bool.true_and]
          exact lv_neg (by omega)
        · unfold byteAt addR
          simp only [Int.toNat_natCast, List.getElem?_set_self hfl, Option.getD_some]
          generalize a.toNat = k
          match k with
          | 0 => rfl
          | 1 => rfl
          | 2 => rfl
          | 3 => rfl
          | k + 4 => rfl
      · left; rw [if_neg hc]; exact ⟨12, rfl, .inr rfl⟩

section
variable {M : MT} {w0 w w' : World} {m i : Nat} {own : Nat → Nat × Nat} {s s' : RSt}
theorem St.relen (h : St M w0 m i own s w) {j : Nat} (hl : s.rights.length ≤ j) : St M w0 m j own s w := ⟨h.rep, h.hok, h.hinv, hl, h.bot, h.top, h.bel⟩
theorem StN.trans {j : Nat} {own1 : Nat → Nat × Nat} {w1 : World} {s1 : RSt} (ho : ∀ b, b < w.heap.size → own1 b = own b) (hk : ∀ b, b < w.heap.size → (own b).1 ≠ 2 → w1.heap[b]? = w.heap[b]?) (hs : w.heap.size ≤ w1.heap.size) (h2 : StN M w0 m j own1 s1 w1 w') : StN M w0 m j own s1 w w' := by
  obtain ⟨own2, h3, h4, h5, h6⟩ := h2
  exact ⟨own2, h3, fun b hb => (h4 b (by omega)).trans (ho b hb), fun b hb hn => (h5 b (by omega) (by rw [ho b hb]; exact hn)).trans (hk b hb hn), by omega⟩

/-- The entry of a new frame is there, of which the first k bytes are written. -/
structure Fr (s t : RSt) (env : Int) (p : Nat) (f : Nat) (q k : Nat) : Prop where
  ent : t.slots[q]? = some ⟨true, env, p, f, true⟩
  raw : rawE t env = 0
  nf : f < t.nf
  done : ∀ j : Nat, j < k → j ≤ 3 → byteAt t f j = 255 - j
  left : ∀ j : Nat, k ≤ j → j ≤ 3 → byteAt t f j = 0
  len : t.rights.length = s.rights.length + 1
  ns : t.ns = s.ns
theorem Fr.load {t : RSt} {env : Int} {p f q k : Nat} (h : Fr s t env p f q k) (hok : SOk t) (j : Nat) (hj : j ≤ 3) : loadR t env p j = (if j < k then 255 - (j : Int) else 0, 0) := by
  have h1 := load_at hok h.ent rfl h.raw (a := j) (by omega) (by omega)
  simp only at h1
  rw [h1]
  by_cases hk : j < k
  · rw [if_pos hk, h.done j hk hj]
  · rw [if_neg hk, h.left j (by omega) hj]
theorem Fr.store {t : RSt} {env : Int} {p f q k : Nat} (h : Fr s t env p f q k) (hok : SOk t) (hk : k ≤ 3) : ∃ t', storeR t env p k (255 - (k : Int)) = (0, t') ∧ Fr s t' env p f q (k + 1) := by
  have h1 := store_at hok h.ent rfl rfl h.raw (a := k) (v := 255 - (k : Int)) (by omega) (by omega) (by omega) (by omega)
  simp only at h1
  have hb := fun j : Nat => byte_put hok (f := f) (by omega) (by have := h.nf; omega) (a := k) (b := j) (v := 255 - (k : Int)) (by omega) (by omega) (by omega)
  refine ⟨_, h1, h.ent, h.raw, h.nf, fun j hj h3 => ?_, fun j hj h3 => ?_, h.len, h.ns⟩
  · rw [hb]
    by_cases e : j = k
    · subst e; rw [if_pos rfl]
    · rw [if_neg (by omega)]; exact h.done j (by omega) h3
  · rw [hb, if_neg (by omega)]; exact h.left j (by omega) h3

set_option maxHeartbeats 8000000 in
set_option maxRecDepth 100000 in
theorem fresh_any (P : Api M) (h : St M w0 m i own s w) (hi : (i + 3) * 48 ≤ 140737488355328) (o : LStep) (ho : o.i64) (a b c : Nat) (hb1 : 1 ≤ b) (hb : b ≤ 8) (hc : c ≤ 4) (hc2 : 2 ≤ c) (hns : s.ns = b) (must : Bool) (hmust : must = true → ∀ env : Nat, env < c → (allocR s env).1.2 = 0) :
    Calls Try.prog 11 #[.pointer (some ⟨m, 0, none⟩), .agg #[.int .i64 o.K, .int .i64 o.V, .int .i64 o.A, .int .i64 o.B, .int .i64 o.C, .bool o.F], .agg #[.int .i64 a, .int .i64 b, .int .i64 c], .bool must] w fun e w' => e = .returned (.bool true) ∧ ∃ s', s'.ns = s.ns ∧ StN M w0 m (i + 1) own s' w w' := by
  obtain ⟨⟨v0, v1⟩, ⟨a0, a1⟩, ⟨b0, b1⟩, ⟨c0, c1⟩⟩ := ho
  have hW0 : Below w.heap.size w (box2 w o a b c) := ((Below.refl _ _).alloc (Nat.le_refl _) _).alloc (by simp) _
  have ht := h.top w.heap.size (Nat.le_refl _)
  have ht2 := h.top (w.heap.size + 1) (by omega)
  have ie4 : (c : Int) ≤ 4611686018427387904 := by omega
  have ie3 : (0 : Int) < (c : Int) := by omega
  have hs0 := h.below P hW0
  have hbx := (Blk.new w [.int .i64 o.K, .int .i64 o.V, .int .i64 o.A, .int .i64 o.B, .int .i64 o.C, .bool o.F] 31).alloc (.cells #[.int .i64 a, .int .i64 b, .int .i64 c] 27)
  have hcx := Blk.at (w.alloc (.cells #[.int .i64 o.K, .int .i64 o.V, .int .i64 o.A, .int .i64 o.B, .int .i64 o.C, .bool o.F] 31)) [.int .i64 a, .int .i64 b, .int .i64 c] 27 (w.heap.size + 1) (by simp)
  have hi2 : (i + 2) * 48 ≤ 140737488355328 := by omega
  go_enter Try.func11, Try.ntmps11
  go_wp2_with fail
  refine (pick_ex _ _ v0 v1 ie3 ie4 _).mono ?_
  rintro e w5 ⟨env, henv, rfl, hw5⟩
  subst w5
  have ie : I64 (env : Int) := ⟨by omega, by omega⟩
  go_wp2_with fail
  refine (hs0.alloc P hi2 env ie).mono ?_
  rintro e w6 ⟨rfl, own6, hst6, ho6, hk6, hs6⟩
  rcases alloc_cases h.hok h.hinv.nok (env : Int) with ⟨x, hx, hx2⟩ | ⟨f, s1, hx, -, hr1, hl1, hf1, -, hby1, hsl1, hal1, hne1, hnf1, hns1, hal⟩
  · have hm0 : must = false := by
      cases must with
      | false => rfl
      | true =>
        have := hmust rfl env (by omega)
        rw [hx] at this
        simp at this
        omega
    subst hm0
    rw [hx] at hst6 ⊢
    have hx0 : (x != 0) = true := by rcases hx2 with rfl | rfl <;> rfl
    simp only at hst6 ⊢
    rcases hx2 with rfl | rfl
    · go_wp2_with fail
      go_ret
      exact ⟨rfl, s, rfl, StN.after hW0 ⟨own6, hst6, ho6, hk6, hs6⟩⟩
    · go_wp2_with fail
      go_ret
      exact ⟨rfl, s, rfl, StN.after hW0 ⟨own6, hst6, ho6, hk6, hs6⟩⟩
  · rw [hx] at hst6 ⊢
    simp only at hst6 ⊢
    have hll := h.len
    have hr6 : s1.rights[s.rights.length]? = some ⟨s.rights.length + 1, env, f, true, -1, false⟩ := by rw [hr1]; simp
    have hx6 := rightE_ok hst6.hok.inv hst6.hinv hr6 hl1
    have hraw6 := hst6.hinv.raw hr6 hl1
    simp only at hx6 hraw6
    have hlen6 : s1.rights.length = s.rights.length + 1 := by rw [hr1]; simp
    have hbx6 := hbx.of (hk6 _ hbx.lt (by rw [ht]; omega))
    have hcx6 := hcx.of (hk6 _ hcx.lt (by rw [ht2]; omega))
    have hz0 := hW0.size
    have c1 : ∀ b, b < w.heap.size → own6 b = own b := fun b hb => ho6 b (Nat.lt_of_lt_of_le hb hz0)
    have c2 : ∀ b, b < w.heap.size → (own b).1 ≠ 2 → w6.heap[b]? = w.heap[b]? := fun b hb hn => (hk6 b (Nat.lt_of_lt_of_le hb hz0) hn).trans (hW0.block b hb)
    have c3 : w.heap.size ≤ w6.heap.size := Nat.le_trans hz0 hs6
    have HC : Hid ((∀ b, b < w.heap.size → own6 b = own b) ∧ (∀ b, b < w.heap.size → (own b).1 ≠ 2 → w6.heap[b]? = w.heap[b]?) ∧ w.heap.size ≤ w6.heap.size) := ⟨c1, c2, c3⟩
    have t6 : (own6 w.heap.size).1 = 0 := by rw [ho6 _ hbx.lt]; exact ht
    have t6' : (own6 (w.heap.size + 1)).1 = 0 := by rw [ho6 _ hcx.lt]; exact ht2
    have q2 := hbx6.cell 2
    have q3 := hbx6.cell 3
    have p1 := hcx6.cell 1
    simp at q2 q3 p1
    obtain ⟨L, hL⟩ : ∃ L : Nat, s.rights.length + 1 = L := ⟨_, rfl⟩
    have hLi : ((s.rights.length : Int) + 1) = (L : Int) := by omega
    rw [hLi] at hx6 ⊢
    have HX6 : Hid (rightE s1 env L = (((s.rights.length : Nat) : Int), (0 : Int))) := hx6
    have HR6 : Hid (s1.rights[s.rights.length]? = some ⟨s.rights.length + 1, env, f, true, -1, false⟩) := hr6
    have HW6 : Hid (rawE s1 env = 0) := hraw6
    have HB6 : Hid (∀ a, byteAt s1 f a = 0) := hby1
    have iL : I64 (L : Int) := ⟨by omega, by omega⟩
    have hi3 : (i + 1 + 2) * 48 ≤ 140737488355328 := hi
    have hst6d := hst6
    have hns6 : s1.ns = b := by rw [hns1, hns]
    clear hr1 hl1 hal1 hx hx6 hr6 hraw6 hby1 hsl1 hne1 hk6 ho6 hs6 hbx hcx hs0 hmust hst6 c1 c2 c3 hz0
    go_wp2_with fail
    refine (pick_ex _ _ a0 a1 (by decide) (by decide) _).mono ?_
    rintro e w7 ⟨pg, hpg, rfl, hw7⟩
    subst w7
    have ip : I64 (pg : Int) := ⟨by omega, by omega⟩
    have ib1 : (0 : Int) < (b : Int) := by omega
    have ib2 : (b : Int) ≤ 4611686018427387904 := by omega
    go_wp2_with fail
    refine (pick_ex _ _ b0 b1 ib1 ib2 _).mono ?_
    rintro e w7 ⟨te, hte, rfl, hw7⟩
    subst w7
    go_wp2_with fail
    refine (hst6d.map P hi3 env pg L true te ie ip iL ⟨by omega, by omega⟩).mono ?_
    rintro e w8 ⟨rfl, hn8⟩
    obtain ⟨s2, hm2, hsl2, hr2, hby2, hal2, hne2, hnf2, hns2, hkp2⟩ := map_done (env := env) (page := pg) (hd := L) (slot := te) (wt := true) HW6.out HX6.out HR6.out (fun _ => rfl) (by omega) (by omega) (by omega) (by rw [hns6]; omega) hst6d.hok
    rw [hm2] at hn8 ⊢
    simp only at hn8 ⊢
    obtain ⟨own8, hst8, ho8, hk8, hs8⟩ := hn8
    have hfr : Fr s s2 env pg f te 0 := ⟨by simpa using hsl2, by rw [← HW6.out]; unfold rawE aliveB keptB keptO; rw [hne2, hal2, hkp2], by rw [hnf2, hnf1]; exact hf1, fun j hj => by omega, fun j _ _ => by have := HB6.out j; unfold byteAt at this ⊢; rw [hby2]; exact this, by rw [hr2, hlen6], by rw [hns2, hns1]⟩
    have hn8' : StN M w0 m (i + 1) own s2 w w8 := StN.trans HC.out.1 HC.out.2.1 HC.out.2.2 ⟨own8, hst8.relen (by rw [hfr.len]; omega), ho8, hk8, hs8⟩
    clear hm2 hsl2 hr2 hby2 hal2 hne2 hnf2 hns2 hkp2
    go_wp2_with fail
    go_loopg [13] 4 (fun k x wr => ∃ (r : Nat) (t : RSt), x = .int .i64 r ∧ r + k = 4 ∧ StN M w0 m (i + 1) own t w wr ∧ Fr s t env pg f te r)
    case atStart => exact ⟨0, s2, rfl, by omega, hn8', hfr⟩
    case round =>
      obtain ⟨r, t, rfl, hk, ⟨ow, hst, g1, g2, g3⟩, hfrr⟩ := hrel
      have HK : Hid (r + gk = 4) := hk
      have hr4 : r ≤ 4 := by omega
      clear hk hst8 ho8 hk8 hs8 hn8' hfr
      by_cases hlt : r < 4
      · have ir : I64 (r : Int) := ⟨by omega, by omega⟩
        have hl1 := hfrr.load hst.hok r (by omega)
        rw [if_neg (by omega)] at hl1
        obtain ⟨t', hs1, hfr1⟩ := hfrr.store hst.hok (by omega)
        have hw1 : IntKind.i64.wrap (255 - (r : Int)) = 255 - (r : Int) := by rw [IntKind.wrap_i64]; omega
        have iv : I64 (255 - (r : Int)) := ⟨by omega, by omega⟩
        have HL1 : Hid (loadR t env pg r = (0, 0)) := hl1
        have HS1 : Hid (storeR t env pg r (255 - (r : Int)) = (0, t')) := hs1
        clear hl1 hs1
        go_wp2_with fail
        refine (hst.load P hi3 env pg r ie ip ir).mono ?_
        rintro e w9 ⟨rfl, ow9, hst9, g4, g5, g6⟩
        rw [HL1.out]
        go_wp2_with fail
        refine (hst9.store P hi3 env pg r (255 - (r : Int)) ie ip ir iv).mono ?_
        rintro e w10 ⟨rfl, ow10, hst10, g7, g8, g9⟩
        rw [HS1.out] at hst10 ⊢
        simp only at hst10 ⊢
        go_wp2_with fail
        go_roundg (gk - 1)
        case measure => have := HK.out; omega
        case rel => exact ⟨r + 1, t', by go_num, by have := HK.out; omega, StN.trans g1 g2 g3 (StN.trans g4 g5 g6 ⟨ow10, hst10.relen (by rw [hfr1.len]; omega), g7, g8, g9⟩), hfr1⟩
      · obtain rfl : r = 4 := by omega
        clear hlt hr4
        go_wp2_with fail
        obtain ⟨wo, hwo⟩ : ∃ wo : World, wo = wr := ⟨_, rfl⟩
        have hst2 : StN M w0 m (i + 1) own t w wr := ⟨ow, hst, g1, g2, g3⟩
        rw [← hwo] at hst2 ⊢
        obtain ⟨go, hgo⟩ : ∃ go : Nat, go = gk := ⟨_, rfl⟩
        clear hst g1 g2 g3 hwo HK hgo
        go_loopg [17] 4 (fun k x wr => ∃ (r : Nat), x = .int .i64 r ∧ r + k = 4 ∧ StN M w0 m (i + 1) own t w wr)
        case atStart => exact ⟨0, rfl, by omega, hst2⟩
        case round =>
          obtain ⟨r, rfl, hk, ⟨ow, hst, g1, g2, g3⟩⟩ := hrel
          have HK : Hid (r + gk = 4) := hk
          have hr4 : r ≤ 4 := by omega
          clear hk hst2
          by_cases hlt : r < 4
          · have ir : I64 (r : Int) := ⟨by omega, by omega⟩
            have hl1 := hfrr.load hst.hok r (by omega)
            rw [if_pos hlt] at hl1
            have hw1 : IntKind.i64.wrap (255 - (r : Int)) = 255 - (r : Int) := by rw [IntKind.wrap_i64]; omega
            have HL1 : Hid (loadR t env pg r = (255 - (r : Int), 0)) := hl1
            clear hl1
            go_wp2_with fail
            refine (hst.load P hi3 env pg r ie ip ir).mono ?_
            rintro e w9 ⟨rfl, ow9, hst9, g4, g5, g6⟩
            rw [HL1.out]
            go_wp2_with fail
            go_roundg (gk - 1)
            case measure => have := HK.out; omega
            case rel => exact ⟨r + 1, by go_num, by have := HK.out; omega, StN.trans g1 g2 g3 ⟨ow9, hst9, g4, g5, g6⟩⟩
          · go_wp2_with fail
            go_ret
            exact ⟨rfl, t, hfrr.ns, ow, hst, g1, g2, g3⟩
end
end Go.Proofs.Ytinlkcmdbjcofab

/-
  'Fresh' itself.
-/
namespace Go.Proofs.Ytinlkcmdbjcofab
open Go.RowKit
set_option linter.unusedVariables false
attribute [local go_sem ↓] Go.wp_at_zero Go.wp_at_succ

set_option maxHeartbeats 4000000 in
set_option maxRecDepth 100000 in
theorem freshlaw_any {M : MT} (P : Api M) (x y z : Int) (hx0 : -9223372036854775808 ≤ x) (hx1 : x ≤ 9223372036854775807) (hy0 : -9223372036854775808 ≤ y) (hy1 : y ≤ 9223372036854775807) (hz0 : -9223372036854775808 ≤ z) (hz1 : z ≤ 9223372036854775807)
    (ao : Option Addr) (len cap : Nat) (w : World) (ops : List LStep) (hl : ops.length = len) (hok : ∀ (i : Nat) (o : LStep), ops[i]? = some o → o.i64) (hsz : (len + 4) * 48 ≤ 140737488355328)
    (ho : (len = 0) ∨ ∃ b off, ao = some ⟨b, off, none⟩ ∧ b < w.heap.size ∧ ∀ (i : Nat) (o : LStep), ops[i]? = some o → ∀ (j : Nat) (v : Value), o.cells[j]? = some v → w.cell? ⟨b, off + i * 6 + j, none⟩ = some v) :
    Calls Try.prog 3 #[.agg #[.int .i64 x, .int .i64 y, .int .i64 z], .slice ao len cap] w fun e w' => e = .returned (.bool true) ∧ Below w.heap.size w w' := by
  have HX : Hid ((len = 0) ∨ ∃ b off, ao = some ⟨b, off, none⟩ ∧ b < w.heap.size ∧ ∀ (i : Nat) (o : LStep), ops[i]? = some o → ∀ (j : Nat) (v : Value), o.cells[j]? = some v → w.cell? ⟨b, off + i * 6 + j, none⟩ = some v) := ho
  have HL : Hid (ops.length = len) := hl
  have HO : Hid (∀ (i : Nat) (o : LStep), ops[i]? = some o → o.i64) := hok
  clear ho hl hok
  go_enter Try.func3, Try.ntmps3
  go_wp2_with fail
  refine (built_any P x y z hx0 hx1 hy0 hy1 hz0 hz1 _).mono ?_
  rintro e w1 ⟨m, f, rfl, hb1, hm1⟩
  have hbx := (Blk.new w [.int .i64 x, .int .i64 y, .int .i64 z] 23).below hb1 (by simp)
  have e0 := hbx.cell 0
  have e1 := hbx.cell 1
  have e2 := hbx.cell 2
  simp at e0 e1 e2
  have hs1 : w.heap.size < w1.heap.size := hbx.lt
  have hbw1 : Below w.heap.size w w1 := ((Below.refl _ _).alloc (Nat.le_refl _) _).trans (hb1.mono (by simp))
  have hmm : NewF M w w1 m f (RSt.fresh (cfA x) (cfB y) (cfC z)) := hm1.low (by simp)
  clear hb1 hm1
  go_wp2_with fail
  refine (config_any x y z hx0 hx1 hy0 hy1 hz0 hz1 _).mono ?_
  rintro e w2 ⟨rfl, hb2⟩
  have la := cfA_le x
  have lb := cfB_le y
  have lc := cfC_le z
  have la1 : 1 ≤ cfA x := by unfold cfA; omega
  have lb1 : 1 ≤ cfB y := by unfold cfB; omega
  have lc1 : 2 ≤ cfC z := by unfold cfC; omega
  obtain ⟨fa, hfa⟩ : ∃ v, cfA x = v := ⟨_, rfl⟩
  obtain ⟨fb, hfb⟩ : ∃ v, cfB y = v := ⟨_, rfl⟩
  obtain ⟨fc, hfc⟩ : ∃ v, cfC z = v := ⟨_, rfl⟩
  rw [hfa, hfb, hfc]
  rw [hfa] at la la1 hmm
  rw [hfb] at lb lb1 hmm
  rw [hfc] at lc lc1 hmm
  clear hfa hfb hfc hbx e0 e1 e2
  have hs2 := hb2.size
  have hbw2 : Below w.heap.size w w2 := hbw1.trans (hb2.mono (by omega))
  obtain ⟨own0, hst0⟩ := St.fresh (NewF.of P hmm (fun k _ h2 => hb2.block k h2) hs2) hbw2 la lb1 lb lc
  clear hmm hb2 hbw1
  have hal : ∀ env : Nat, env < fc → (allocR (RSt.fresh fa fb fc) env).1.2 = 0 := fun env he => by
    obtain ⟨s1, ha1, -⟩ := fresh_alloc (b := fb) la1 (env := (env : Int)) (by omega) (show (env : Int) < (fc : Int) by omega)
    rw [ha1]
  have hns0 : (RSt.fresh fa fb fc).ns = fb := rfl
  obtain ⟨s0, hs0⟩ : ∃ s0, RSt.fresh fa fb fc = s0 := ⟨_, rfl⟩
  rw [hs0] at hal hst0 hns0
  clear hs0
  have hba : Below w2.heap.size w2 (w2.alloc (.cells #[.int .i64 fa, .int .i64 fb, .int .i64 fc] 27)) := (Below.refl _ _).alloc (Nat.le_refl _) _
  have hcx := Blk.new w2 [.int .i64 fa, .int .i64 fb, .int .i64 fc] 27
  have ht0 := hst0.top w2.heap.size (Nat.le_refl _)
  obtain ⟨cB, hcB⟩ : ∃ cB, w2.heap.size = cB := ⟨_, rfl⟩
  have hst := hst0.below P hba
  go_wp2_with fail
  have HF : Hid (∀ j : Nat, j ≤ len → (j + 3) * 48 ≤ 140737488355328) := fun j hj => by omega
  have HF2 : Hid (∀ j : Nat, j ≤ len → (j + 2) * 48 ≤ 140737488355328) := fun j hj => by omega
  have io0 : LStep.i64 ⟨0, 0, 0, 0, 0, false⟩ := ⟨⟨by decide, by decide⟩, ⟨by decide, by decide⟩, ⟨by decide, by decide⟩, ⟨by decide, by decide⟩⟩
  refine (fresh_any P hst (HF.out 0 (Nat.zero_le _)) ⟨0, 0, 0, 0, 0, false⟩ io0 fa fb fc lb1 lb lc lc1 hns0 true (fun _ => hal)).mono ?_
  rintro e w3 ⟨rfl, s1, hn1, own3, hst3, ho3, hk3, hs3⟩
  have hc3 : Blk w3 cB [.int .i64 fa, .int .i64 fb, .int .i64 fc] 27 := by rw [← hcB]; exact hcx.of (hk3 _ hcx.lt (by rw [ht0]; omega))
  have ht3 : (own3 cB).1 = 0 := by rw [← hcB, ho3 _ hcx.lt]; exact ht0
  have hnsf : s1.ns = fb := by rw [hn1, hns0]
  clear hal hn1 hst hst0 ho3 hk3 hcx ht0 hba hs3
  go_wp2_with fail
  go_loopg [7, 8] len (fun k ok y wr => ∃ (r : Nat) (own : Nat → Nat × Nat) (s : RSt), ok = .bool true ∧ y = .int .i64 r ∧ r + k = len ∧ St M w m (r + 1) own s wr ∧ Blk wr cB [.int .i64 fa, .int .i64 fb, .int .i64 fc] 27 ∧ (own cB).1 = 0 ∧ s.ns = fb)
  case atStart => exact ⟨0, own3, s1, rfl, rfl, by omega, hst3, hc3, ht3, hnsf⟩
  case round =>
    clear hst3 hc3 ht3 hnsf
    obtain ⟨r, own, s, rfl, rfl, hk, hst, hc, ht, hns⟩ := hrel
    have HK : Hid (r + gk = len) := hk
    have hr : r ≤ len := by omega
    clear hk
    have k0 := hc.cell 0
    have k1 := hc.cell 1
    have k2 := hc.cell 2
    simp at k0 k1 k2
    by_cases hlt : r < len
    · obtain ⟨o, ho⟩ : ∃ o, ops[r]? = some o := ⟨ops[r]'(by rw [HL.out]; exact hlt), by simp⟩
      have hoi := HO.out r o ho
      rcases HX.out with h0 | ⟨bS, off, rfl, hbS, hcS⟩
      · omega
      have hfew := HF.out (r + 1) (by omega)
      have hfew2 := HF2.out (r + 1) (by omega)
      have hbl := hst.bel
      have hy : ∀ (j : Nat) (v : Value), o.cells[j]? = some v → wr.cell? ⟨bS, off + r * 6 + j, none⟩ = some v := fun j v hv => (hbl.cell (p := ⟨bS, off + r * 6 + j, none⟩) hbS).trans (hcS r o ho j v hv)
      have c0 := hy 0 _ rfl
      have c1 := hy 1 _ rfl
      have c2 := hy 2 _ rfl
      have c3 := hy 3 _ rfl
      have c4 := hy 4 _ rfl
      have c5 := hy 5 _ rfl
      simp only [Nat.add_zero] at c0
      have HW : Hid (∀ (j : Nat) (v : Value), o.cells[j]? = some v → w.cell? ⟨bS, off + r * 6 + j, none⟩ = some v) := hcS r o ho
      clear hy hcS ho
      have hr0 : (0 : Int) ≤ (r : Int) := by omega
      have hr1 : (r : Int) < (len : Int) := by omega
      have hstd := hst.below P (Below.refl _ _).drew
      have hcd := hc.drew
      by_cases hK : 13 ≤ o.K
      · go_wp2_with fail
        go_region_held3 (fun w' => w'.cell? ⟨bS, off + r * 6, none⟩ = some (.int .i64 o.K) ∧ w'.cell? ⟨bS, off + r * 6 + 1, none⟩ = some (.int .i64 o.V) ∧ w'.cell? ⟨bS, off + r * 6 + 2, none⟩ = some (.int .i64 o.A) ∧ w'.cell? ⟨bS, off + r * 6 + 3, none⟩ = some (.int .i64 o.B) ∧ w'.cell? ⟨bS, off + r * 6 + 4, none⟩ = some (.int .i64 o.C) ∧ w'.cell? ⟨bS, off + r * 6 + 5, none⟩ = some (.bool o.F) ∧ w'.cell? ⟨cB, 0, none⟩ = some (.int .i64 fa) ∧ w'.cell? ⟨cB, 1, none⟩ = some (.int .i64 fb) ∧ w'.cell? ⟨cB, 2, none⟩ = some (.int .i64 fc)) (go_keep)
          ((first
            | (go_at_call 11; refine (fresh_any P hstd hfew o hoi fa fb fc lb1 lb lc lc1 hns false (fun h => by simp at h)).mono ?_; rintro e w7 ⟨rfl, s3, hns3, own7, hst7, ho7, hk7, hs7⟩
               have hc7 : Blk w7 cB [.int .i64 fa, .int .i64 fb, .int .i64 fc] 27 := hcd.of (hk7 _ hcd.lt (by rw [ht]; omega))
               have g0 := hc7.cell 0
               have g1 := hc7.cell 1
               have g2 := hc7.cell 2
               simp at g0 g1 g2
               have hv : ∀ (j : Nat) (v : Value), o.cells[j]? = some v → w7.cell? ⟨bS, off + r * 6 + j, none⟩ = some v := fun j v hv => (hst7.bel.cell (p := ⟨bS, off + r * 6 + j, none⟩) hbS).trans (HW.out j v hv)
               have v0 := hv 0 _ rfl
               have v1 := hv 1 _ rfl
               have v2 := hv 2 _ rfl
               have v3 := hv 3 _ rfl
               have v4 := hv 4 _ rfl
               have v5 := hv 5 _ rfl
               simp only [Nat.add_zero] at v0
               clear hv)))
        have ht7 : (own7 cB).1 = 0 := by rw [ho7 _ hcd.lt]; exact ht
        have hn7 : s3.ns = fb := by rw [hns3, hns]
        go_wp2_with fail
        go_roundg (gk - 1)
        case measure => have := HK.out; omega
        case rel => exact ⟨r + 1, own7, s3, rfl, by go_num, by have := HK.out; omega, hst7, hc7, ht7, hn7⟩
      · go_wp2_with fail
        go_region_held3 (fun w' => w'.cell? ⟨bS, off + r * 6, none⟩ = some (.int .i64 o.K) ∧ w'.cell? ⟨bS, off + r * 6 + 1, none⟩ = some (.int .i64 o.V) ∧ w'.cell? ⟨bS, off + r * 6 + 2, none⟩ = some (.int .i64 o.A) ∧ w'.cell? ⟨bS, off + r * 6 + 3, none⟩ = some (.int .i64 o.B) ∧ w'.cell? ⟨bS, off + r * 6 + 4, none⟩ = some (.int .i64 o.C) ∧ w'.cell? ⟨bS, off + r * 6 + 5, none⟩ = some (.bool o.F) ∧ w'.cell? ⟨cB, 0, none⟩ = some (.int .i64 fa) ∧ w'.cell? ⟨cB, 1, none⟩ = some (.int .i64 fb) ∧ w'.cell? ⟨cB, 2, none⟩ = some (.int .i64 fc)) (go_keep)
          ((first
            | (go_at_call 12; refine (any2_any P hstd hfew2 o hoi fa fb fc lb lc lc1).mono ?_; rintro e w7 ⟨rfl, s3, hns3, own7, hst7, ho7, hk7, hs7⟩
               have hc7 : Blk w7 cB [.int .i64 fa, .int .i64 fb, .int .i64 fc] 27 := hcd.of (hk7 _ hcd.lt (by rw [ht]; omega))
               have g0 := hc7.cell 0
               have g1 := hc7.cell 1
               have g2 := hc7.cell 2
               simp at g0 g1 g2
               have hv : ∀ (j : Nat) (v : Value), o.cells[j]? = some v → w7.cell? ⟨bS, off + r * 6 + j, none⟩ = some v := fun j v hv => (hst7.bel.cell (p := ⟨bS, off + r * 6 + j, none⟩) hbS).trans (HW.out j v hv)
               have v0 := hv 0 _ rfl
               have v1 := hv 1 _ rfl
               have v2 := hv 2 _ rfl
               have v3 := hv 3 _ rfl
               have v4 := hv 4 _ rfl
               have v5 := hv 5 _ rfl
               simp only [Nat.add_zero] at v0
               clear hv)))
        have ht7 : (own7 cB).1 = 0 := by rw [ho7 _ hcd.lt]; exact ht
        have hn7 : s3.ns = fb := by
          have g1 := hns3.grows.2.2.2.2.1
          have g2 := hst7.hok.ns
          have g3 := hst.hok.ns
          omega
        go_wp2_with fail
        go_roundg (gk - 1)
        case measure => have := HK.out; omega
        case rel => exact ⟨r + 1, own7, s3, rfl, by go_num, by have := HK.out; omega, hst7, hc7, ht7, hn7⟩
    · go_wp2_with fail
      go_ret
      exact ⟨rfl, hst.bel⟩
end Go.Proofs.Ytinlkcmdbjcofab

namespace Go.Proofs.Ytinlkcmdbjcofab.fresh
open Go.ChangeShapes Go.WideShapes Go.ChangeAt Go.RowKit
set_option linter.unusedVariables false

set_option maxRecDepth 100000 in
theorem lifted (os : Os) (started : os.Started) (H : Type) (enc : TypeId × Value → H) :
    ReturnsInHanded {} Try.checked os 3 .any (Rows.freshSpec.pre6 enc Try.prog Try.f3 Rows.freshRow.domain false) (Rows.freshSpec.post enc Try.prog Try.f3 false true false false) := by
  refine returnsInHanded_of_change_sized (C := Try.checked) Try.own started (by kernel_rfl) Try.func3
    (ChangeSpec.witness6 (enc := enc) (C := Try.checked) false ⟨#[], #[.agg #[.int .i64 0, .int .i64 0, .int .i64 0], .slice none 0 0], []⟩ 8 (by kernel_rfl) (by kernel_rfl) (by kernel_rfl) (by kernel_rfl)) ?_
  intro W base args ds gs before hval0 hW hcnd hsz _
  have hval : ∀ (j : Nat) t v, Try.f3.params[j]? = some t → args[j]? = some v → Value.okWide Try.prog W .any base t v := hval0
  have hW' := hW
  obtain ⟨p, q, hA0, hV, rfl, hfz, hnd⟩ := hW
  have hA : DataW.TrodAll enc Try.prog W 0 (fun _ => true) true Try.f3.params.toList args.toList ds p := hA0
  rw [Try.params3] at hA hval
  obtain ⟨v0, vs0, d0, ds0, p0, q0, hargs, rfl, rfl, h0, r0⟩ := trodAll_cons hA
  obtain ⟨v1, vs1, d1, ds1, p1, q1, hargs1, rfl, rfl, h1, r1⟩ := trodAll_cons r0
  obtain ⟨rfl, rfl, rfl⟩ := trodAll_nil r1
  obtain rfl : args = #[v0, v1] := by cases args; simp_all
  obtain ⟨rfl, rfl⟩ := trodVars_none hV
  obtain ⟨cs0, rfl, hcs⟩ := okWide_struct Try.underlying23 (hval 0 23 v0 rfl rfl)
  obtain ⟨a0, len0, cap0, rfl⟩ := okWide_slice Try.underlying24 (hval 1 24 v1 rfl rfl)
  have k0 := h0
  have k1 := h1
  have lt1 : ∀ x ∈ p1, x.block < W.heap.size := by obtain ⟨m, hm⟩ := k1; exact DataW.trod_lt m _ _ _ hm
  have lt0 : ∀ x ∈ p0, x.block < W.heap.size := by obtain ⟨m, hm⟩ := k0; exact DataW.trod_lt m _ _ _ hm
  obtain ⟨fuel0, hf0⟩ := h0
  obtain ⟨x, y, z, hxyz, ix, iy, iz⟩ := open_size hf0
  obtain rfl : cs0 = #[.int .i64 x, .int .i64 y, .int .i64 z] := by
    have : cs0.toList = [.int .i64 x, .int .i64 y, .int .i64 z] := hxyz
    rw [← Array.toArray_toList (xs := cs0), this]
  obtain ⟨fuel, hf⟩ := h1
  obtain ⟨ops, hl, hops, hdat, hok⟩ := open_steps (by simpa [Value.cells] using hf)
  have hb16 : (len0 + 4) * 48 ≤ 140737488355328 := by
    rcases hdat with h | ⟨elems, spare, hd, he⟩
    · subst h; omega
    · simp only at hd
      subst hd
      have : (elems.length + spare.length) * Try.prog.bytesOf 31 ≤ reachBytes := sized_slice hsz (j := 1) (t := 24) (e := 31) rfl rfl Try.underlying24
      rw [Try.bytesStep] at this
      simp only [reachBytes] at this
      omega
  clear hA0 hval0
  refine (freshlaw_any api x y z ix.1 ix.2 iy.1 iy.2 iz.1 iz.2 a0 len0 cap0 W ops hl hok hb16 hops).mono fun e W' ⟨he, bel⟩ => ?_
  subst he
  exact ⟨_, rfl, _, _, _, [], _, [], hW', trodAll_mk1 (shut_bool Try.underlying4 _), (trodAll_cons_mk (Below.trod Try.laidOut (by kernel_rfl) (of_decide_eq_true (by kernel_rfl)) k0 bel lt0) (trodAll_cons_mk (Below.trod Try.laidOut (by kernel_rfl) (of_decide_eq_true (by kernel_rfl)) k1 bel lt1) trodAll_mk0)), rfl, bel.frame _, fun h => by cases h⟩

theorem over : Rows.freshRow.holds Try.pinned (OpenSpec.ofChange Rows.freshSpec) :=
  OpenClaim.holds_of_wide 3 Try.f3 rfl rfl rfl rfl rfl rfl rfl ⟨rfl, rfl, rfl, rfl, rfl⟩ rfl rfl rfl rfl rfl (by kernel_rfl) Try.func3 (by kernel_rfl)
    (of_decide_eq_true (by kernel_rfl)) (by unfold Func.isWrapper; first | (rw [if_pos (by decide +kernel)]; kernel_rfl) | (rw [if_neg (by decide +kernel)]; exact ⟨rfl, rfl⟩))
    (fun os started H enc _ => lifted os started H enc)

end Go.Proofs.Ytinlkcmdbjcofab.fresh

namespace Go.Proofs.Ytinlkcmdbjcofab
theorem fresh_holds : Rows.FreshSaid := fresh.over
end Go.Proofs.Ytinlkcmdbjcofab
