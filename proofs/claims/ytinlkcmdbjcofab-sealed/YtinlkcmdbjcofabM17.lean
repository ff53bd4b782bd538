import Derived.Test.YtinlkcmdbjcofabM16
/-
  'fresh': a new frame, if there is one, is all 0; what is stored there is loaded.
-/
namespace Go.Proofs.Ytinlkcmdbjcofab
open Go.RowKit
set_option linter.unusedVariables false
attribute [local go_sem ↓] Go.wp_at_zero Go.wp_at_succ

theorem alloc_cases {s : RSt} (hok : SOk s) (hnk : NoK s) (env : Int) : (∃ x, allocR s env = ((0, x), s) ∧ (x = 2 ∨ x = 12)) ∨
    ∃ (f : Nat) (s1 : RSt), allocR s env = (((s.rights.length : Int) + 1, 0), s1) ∧ leastFree s = some f ∧ s1.rights = s.rights ++ [⟨s.rights.length + 1, env, f, true, -1, false⟩] ∧ lv s1.rights (s.rights.length : Nat) = true ∧ f < s.nf ∧ s1.bytes = s.bytes.set f [0, 0, 0, 0] ∧ (∀ a, byteAt s1 f a = 0) ∧
      s1.slots = s.slots ∧ s1.alive = s.alive ∧ s1.ne = s.ne ∧ s1.nf = s.nf ∧ s1.ns = s.ns ∧ aliveB s env = true := by
  unfold allocR
  rw [rawE_nok (hnk env)]
  rcases liveE_cases s env with ⟨h2, ha⟩ | ⟨h0, ha⟩
  · left; exact ⟨2, by rw [h2]; rfl, .inl rfl⟩
  · rw [h0]
    simp only [ne_eq, not_true_eq_false, if_false]
    unfold firstS
    cases hl : leastFree s with
    | none => left; exact ⟨12, rfl, .inr rfl⟩
    | some f =>
      simp only
      by_cases hc : cnt s.rights < 32
      · right
        have hf := leastFree_lt hl
        have hfl : f < s.bytes.length := by rw [hok.fix.by_]; exact hf
        rw [if_pos hc]
        refine ⟨f, _, rfl, rfl, rfl, ?_, hf, rfl, fun a => ?_, rfl, rfl, rfl, rfl, rfl, ha⟩
        · have hx : (s.rights ++ [⟨s.rights.length + 1, env, f, true, -1, false⟩])[s.rights.length]? = some (⟨s.rights.length + 1, env, f, true, -1, false⟩ : RR) := by simp
          show lv (s.rights ++ [⟨s.rights.length + 1, env, f, true, -1, false⟩]) (s.rights.length : Nat) = true
          rw [lv_step (hok.inv.ord.append (by simp) (by simp; omega)) hx]
          simp only [Bool.not_false, Bool.true_and]
          exact lv_neg (by omega)
        · unfold byteAt addR
          simp only [Int.toNat_natCast, List.getElem?_set_self hfl, Option.getD_some]
          generalize a.toNat = k
          match k with
          | 0 => rfl
          | 1 => rfl
          | 2 => rfl
          | 3 => rfl
          | k + 4 => rfl
      · left; rw [if_neg hc]; exact ⟨12, rfl, .inr rfl⟩

section
variable {M : MT} {w0 w w' : World} {m i : Nat} {own : Nat → Nat × Nat} {s s' : RSt}
theorem St.relen (h : St M w0 m i own s w) {j : Nat} (hl : s.rights.length ≤ j) : St M w0 m j own s w := ⟨h.rep, h.hok, h.hinv, hl, h.bot, h.top, h.bel⟩
theorem StN.trans {j : Nat} {own1 : Nat → Nat × Nat} {w1 : World} {s1 : RSt} (ho : ∀ b, b < w.heap.size → own1 b = own b) (hk : ∀ b, b < w.heap.size → (own b).1 ≠ 2 → w1.heap[b]? = w.heap[b]?) (hs : w.heap.size ≤ w1.heap.size) (h2 : StN M w0 m j own1 s1 w1 w') : StN M w0 m j own s1 w w' := by
  obtain ⟨own2, h3, h4, h5, h6⟩ := h2
  exact ⟨own2, h3, fun b hb => (h4 b (by omega)).trans (ho b hb), fun b hb hn => (h5 b (by omega) (by rw [ho b hb]; exact hn)).trans (hk b hb hn), by omega⟩

/-- The entry of a new frame is there, of which the first k bytes are written. -/
structure Fr (s t : RSt) (env : Int) (p : Nat) (f : Nat) (q k : Nat) : Prop where
  ent : t.slots[q]? = some ⟨true, env, p, f, true⟩
  raw : rawE t env = 0
  nf : f < t.nf
  done : ∀ j : Nat, j < k → j ≤ 3 → byteAt t f j = 255 - j
  left : ∀ j : Nat, k ≤ j → j ≤ 3 → byteAt t f j = 0
  len : t.rights.length = s.rights.length + 1
  ns : t.ns = s.ns
theorem Fr.load {t : RSt} {env : Int} {p f q k : Nat} (h : Fr s t env p f q k) (hok : SOk t) (j : Nat) (hj : j ≤ 3) : loadR t env p j = (if j < k then 255 - (j : Int) else 0, 0) := by
  have h1 := load_at hok h.ent rfl h.raw (a := j) (by omega) (by omega)
  simp only at h1
  rw [h1]
  by_cases hk : j < k
  · rw [if_pos hk, h.done j hk hj]
  · rw [if_neg hk, h.left j (by omega) hj]
theorem Fr.store {t : RSt} {env : Int} {p f q k : Nat} (h : Fr s t env p f q k) (hok : SOk t) (hk : k ≤ 3) : ∃ t', storeR t env p k (255 - (k : Int)) = (0, t') ∧ Fr s t' env p f q (k + 1) := by
  have h1 := store_at hok h.ent rfl rfl h.raw (a := k) (v := 255 - (k : Int)) (by omega) (by omega) (by omega) (by omega)
  simp only at h1
  have hb := fun j : Nat => byte_put hok (f := f) (by omega) (by have := h.nf; omega) (a := k) (b := j) (v := 255 - (k : Int)) (by omega) (by omega) (by omega)
  refine ⟨_, h1, h.ent, h.raw, h.nf, fun j hj h3 => ?_, fun j hj h3 => ?_, h.len, h.ns⟩
  · rw [hb]
    by_cases e : j = k
    · subst e; rw [if_pos rfl]
    · rw [if_neg (by omega)]; exact h.done j (by omega) h3
  · rw [hb, if_neg (by omega)]; exact h.left j (by omega) h3

set_option maxHeartbeats 8000000 in
set_option maxRecDepth 100000 in
theorem fresh_any (P : Api M) (h : St M w0 m i own s w) (hi : (i + 3) * 48 ≤ 140737488355328) (o : LStep) (ho : o.i64) (a b c : Nat) (hb1 : 1 ≤ b) (hb : b ≤ 8) (hc : c ≤ 4) (hc2 : 2 ≤ c) (hns : s.ns = b) (must : Bool) (hmust : must = true → ∀ env : Nat, env < c → (allocR s env).1.2 = 0) :
    Calls Try.prog 11 #[.pointer (some ⟨m, 0, none⟩), .agg #[.int .i64 o.K, .int .i64 o.V, .int .i64 o.A, .int .i64 o.B, .int .i64 o.C, .bool o.F], .agg #[.int .i64 a, .int .i64 b, .int .i64 c], .bool must] w fun e w' => e = .returned (.bool true) ∧ ∃ s', s'.ns = s.ns ∧ StN M w0 m (i + 1) own s' w w' := by
  obtain ⟨⟨v0, v1⟩, ⟨a0, a1⟩, ⟨b0, b1⟩, ⟨c0, c1⟩⟩ := ho
  have hW0 : Below w.heap.size w (box2 w o a b c) := ((Below.refl _ _).alloc (Nat.le_refl _) _).alloc (by simp) _
  have ht := h.top w.heap.size (Nat.le_refl _)
  have ht2 := h.top (w.heap.size + 1) (by omega)
  have ie4 : (c : Int) ≤ 4611686018427387904 := by omega
  have ie3 : (0 : Int) < (c : Int) := by omega
  have hs0 := h.below P hW0
  have hbx := (Blk.new w [.int .i64 o.K, .int .i64 o.V, .int .i64 o.A, .int .i64 o.B, .int .i64 o.C, .bool o.F] 31).alloc (.cells #[.int .i64 a, .int .i64 b, .int .i64 c] 27)
  have hcx := Blk.at (w.alloc (.cells #[.int .i64 o.K, .int .i64 o.V, .int .i64 o.A, .int .i64 o.B, .int .i64 o.C, .bool o.F] 31)) [.int .i64 a, .int .i64 b, .int .i64 c] 27 (w.heap.size + 1) (by simp)
  have hi2 : (i + 2) * 48 ≤ 140737488355328 := by omega
  go_enter Try.func11, Try.ntmps11
  go_wp2_with fail
  refine (pick_ex _ _ v0 v1 ie3 ie4 _).mono ?_
  rintro e w5 ⟨env, henv, rfl, hw5⟩
  subst w5
  have ie : I64 (env : Int) := ⟨by omega, by omega⟩
  go_wp2_with fail
  refine (hs0.alloc P hi2 env ie).mono ?_
  rintro e w6 ⟨rfl, own6, hst6, ho6, hk6, hs6⟩
  rcases alloc_cases h.hok h.hinv.nok (env : Int) with ⟨x, hx, hx2⟩ | ⟨f, s1, hx, -, hr1, hl1, hf1, -, hby1, hsl1, hal1, hne1, hnf1, hns1, hal⟩
  · have hm0 : must = false := by
      cases must with
      | false => rfl
      | true =>
        have := hmust rfl env (by omega)
        rw [hx] at this
        simp at this
        omega
    subst hm0
    rw [hx] at hst6 ⊢
    have hx0 : (x != 0) = true := by rcases hx2 with rfl | rfl <;> rfl
    simp only at hst6 ⊢
    rcases hx2 with rfl | rfl
    · go_wp2_with fail
      go_ret
      exact ⟨rfl, s, rfl, StN.after hW0 ⟨own6, hst6, ho6, hk6, hs6⟩⟩
    · go_wp2_with fail
      go_ret
      exact ⟨rfl, s, rfl, StN.after hW0 ⟨own6, hst6, ho6, hk6, hs6⟩⟩
  · rw [hx] at hst6 ⊢
    simp only at hst6 ⊢
    have hll := h.len
    have hr6 : s1.rights[s.rights.length]? = some ⟨s.rights.length + 1, env, f, true, -1, false⟩ := by rw [hr1]; simp
    have hx6 := rightE_ok hst6.hok.inv hst6.hinv hr6 hl1
    have hraw6 := hst6.hinv.raw hr6 hl1
    simp only at hx6 hraw6
    have hlen6 : s1.rights.length = s.rights.length + 1 := by rw [hr1]; simp
    have hbx6 := hbx.of (hk6 _ hbx.lt (by rw [ht]; omega))
    have hcx6 := hcx.of (hk6 _ hcx.lt (by rw [ht2]; omega))
    have hz0 := hW0.size
    have c1 : ∀ b, b < w.heap.size → own6 b = own b := fun b hb => ho6 b (Nat.lt_of_lt_of_le hb hz0)
    have c2 : ∀ b, b < w.heap.size → (own b).1 ≠ 2 → w6.heap[b]? = w.heap[b]? := fun b hb hn => (hk6 b (Nat.lt_of_lt_of_le hb hz0) hn).trans (hW0.block b hb)
    have c3 : w.heap.size ≤ w6.heap.size := Nat.le_trans hz0 hs6
    have HC : Hid ((∀ b, b < w.heap.size → own6 b = own b) ∧ (∀ b, b < w.heap.size → (own b).1 ≠ 2 → w6.heap[b]? = w.heap[b]?) ∧ w.heap.size ≤ w6.heap.size) := ⟨c1, c2, c3⟩
    have t6 : (own6 w.heap.size).1 = 0 := by rw [ho6 _ hbx.lt]; exact ht
    have t6' : (own6 (w.heap.size + 1)).1 = 0 := by rw [ho6 _ hcx.lt]; exact ht2
    have q2 := hbx6.cell 2
    have q3 := hbx6.cell 3
    have p1 := hcx6.cell 1
    simp at q2 q3 p1
    obtain ⟨L, hL⟩ : ∃ L : Nat, s.rights.length + 1 = L := ⟨_, rfl⟩
    have hLi : ((s.rights.length : Int) + 1) = (L : Int) := by omega
    rw [hLi] at hx6 ⊢
    have HX6 : Hid (rightE s1 env L = (((s.rights.length : Nat) : Int), (0 : Int))) := hx6
    have HR6 : Hid (s1.rights[s.rights.length]? = some ⟨s.rights.length + 1, env, f, true, -1, false⟩) := hr6
    have HW6 : Hid (rawE s1 env = 0) := hraw6
    have HB6 : Hid (∀ a, byteAt s1 f a = 0) := hby1
    have iL : I64 (L : Int) := ⟨by omega, by omega⟩
    have hi3 : (i + 1 + 2) * 48 ≤ 140737488355328 := hi
    have hst6d := hst6
    have hns6 : s1.ns = b := by rw [hns1, hns]
    clear hr1 hl1 hal1 hx hx6 hr6 hraw6 hby1 hsl1 hne1 hk6 ho6 hs6 hbx hcx hs0 hmust hst6 c1 c2 c3 hz0
    go_wp2_with fail
    refine (pick_ex _ _ a0 a1 (by decide) (by decide) _).mono ?_
    rintro e w7 ⟨pg, hpg, rfl, hw7⟩
    subst w7
    have ip : I64 (pg : Int) := ⟨by omega, by omega⟩
    have ib1 : (0 : Int) < (b : Int) := by omega
    have ib2 : (b : Int) ≤ 4611686018427387904 := by omega
    go_wp2_with fail
    refine (pick_ex _ _ b0 b1 ib1 ib2 _).mono ?_
    rintro e w7 ⟨te, hte, rfl, hw7⟩
    subst w7
    go_wp2_with fail
    refine (hst6d.map P hi3 env pg L true te ie ip iL ⟨by omega, by omega⟩).mono ?_
    rintro e w8 ⟨rfl, hn8⟩
    obtain ⟨s2, hm2, hsl2, hr2, hby2, hal2, hne2, hnf2, hns2, hkp2⟩ := map_done (env := env) (page := pg) (hd := L) (slot := te) (wt := true) HW6.out HX6.out HR6.out (fun _ => rfl) (by omega) (by omega) (by omega) (by rw [hns6]; omega) hst6d.hok
    rw [hm2] at hn8 ⊢
    simp only at hn8 ⊢
    obtain ⟨own8, hst8, ho8, hk8, hs8⟩ := hn8
    have hfr : Fr s s2 env pg f te 0 := ⟨by simpa using hsl2, by rw [← HW6.out]; unfold rawE aliveB keptB keptO; rw [hne2, hal2, hkp2], by rw [hnf2, hnf1]; exact hf1, fun j hj => by omega, fun j _ _ => by have := HB6.out j; unfold byteAt at this ⊢; rw [hby2]; exact this, by rw [hr2, hlen6], by rw [hns2, hns1]⟩
    have hn8' : StN M w0 m (i + 1) own s2 w w8 := StN.trans HC.out.1 HC.out.2.1 HC.out.2.2 ⟨own8, hst8.relen (by rw [hfr.len]; omega), ho8, hk8, hs8⟩
    clear hm2 hsl2 hr2 hby2 hal2 hne2 hnf2 hns2 hkp2
    go_wp2_with fail
    go_loopg [13] 4 (fun k x wr => ∃ (r : Nat) (t : RSt), x = .int .i64 r ∧ r + k = 4 ∧ StN M w0 m (i + 1) own t w wr ∧ Fr s t env pg f te r)
    case atStart => exact ⟨0, s2, rfl, by omega, hn8', hfr⟩
    case round =>
      obtain ⟨r, t, rfl, hk, ⟨ow, hst, g1, g2, g3⟩, hfrr⟩ := hrel
      have HK : Hid (r + gk = 4) := hk
      have hr4 : r ≤ 4 := by omega
      clear hk hst8 ho8 hk8 hs8 hn8' hfr
      by_cases hlt : r < 4
      · have ir : I64 (r : Int) := ⟨by omega, by omega⟩
        have hl1 := hfrr.load hst.hok r (by omega)
        rw [if_neg (by omega)] at hl1
        obtain ⟨t', hs1, hfr1⟩ := hfrr.store hst.hok (by omega)
        have hw1 : IntKind.i64.wrap (255 - (r : Int)) = 255 - (r : Int) := by rw [IntKind.wrap_i64]; omega
        have iv : I64 (255 - (r : Int)) := ⟨by omega, by omega⟩
        have HL1 : Hid (loadR t env pg r = (0, 0)) := hl1
        have HS1 : Hid (storeR t env pg r (255 - (r : Int)) = (0, t')) := hs1
        clear hl1 hs1
        go_wp2_with fail
        refine (hst.load P hi3 env pg r ie ip ir).mono ?_
        rintro e w9 ⟨rfl, ow9, hst9, g4, g5, g6⟩
        rw [HL1.out]
        go_wp2_with fail
        refine (hst9.store P hi3 env pg r (255 - (r : Int)) ie ip ir iv).mono ?_
        rintro e w10 ⟨rfl, ow10, hst10, g7, g8, g9⟩
        rw [HS1.out] at hst10 ⊢
        simp only at hst10 ⊢
        go_wp2_with fail
        go_roundg (gk - 1)
        case measure => have := HK.out; omega
        case rel => exact ⟨r + 1, t', by go_num, by have := HK.out; omega, StN.trans g1 g2 g3 (StN.trans g4 g5 g6 ⟨ow10, hst10.relen (by rw [hfr1.len]; omega), g7, g8, g9⟩), hfr1⟩
      · obtain rfl : r = 4 := by omega
        clear hlt hr4
        go_wp2_with fail
        obtain ⟨wo, hwo⟩ : ∃ wo : World, wo = wr := ⟨_, rfl⟩
        have hst2 : StN M w0 m (i + 1) own t w wr := ⟨ow, hst, g1, g2, g3⟩
        rw [← hwo] at hst2 ⊢
        obtain ⟨go, hgo⟩ : ∃ go : Nat, go = gk := ⟨_, rfl⟩
        clear hst g1 g2 g3 hwo HK hgo
        go_loopg [17] 4 (fun k x wr => ∃ (r : Nat), x = .int .i64 r ∧ r + k = 4 ∧ StN M w0 m (i + 1) own t w wr)
        case atStart => exact ⟨0, rfl, by omega, hst2⟩
        case round =>
          obtain ⟨r, rfl, hk, ⟨ow, hst, g1, g2, g3⟩⟩ := hrel
          have HK : Hid (r + gk = 4) := hk
          have hr4 : r ≤ 4 := by omega
          clear hk hst2
          by_cases hlt : r < 4
          · have ir : I64 (r : Int) := ⟨by omega, by omega⟩
            have hl1 := hfrr.load hst.hok r (by omega)
            rw [if_pos hlt] at hl1
            have hw1 : IntKind.i64.wrap (255 - (r : Int)) = 255 - (r : Int) := by rw [IntKind.wrap_i64]; omega
            have HL1 : Hid (loadR t env pg r = (255 - (r : Int), 0)) := hl1
            clear hl1
            go_wp2_with fail
            refine (hst.load P hi3 env pg r ie ip ir).mono ?_
            rintro e w9 ⟨rfl, ow9, hst9, g4, g5, g6⟩
            rw [HL1.out]
            go_wp2_with fail
            go_roundg (gk - 1)
            case measure => have := HK.out; omega
            case rel => exact ⟨r + 1, by go_num, by have := HK.out; omega, StN.trans g1 g2 g3 ⟨ow9, hst9, g4, g5, g6⟩⟩
          · go_wp2_with fail
            go_ret
            exact ⟨rfl, t, hfrr.ns, ow, hst, g1, g2, g3⟩
end
end Go.Proofs.Ytinlkcmdbjcofab

/-
  What nobody else has a right to, nobody else changes (no program, no memory).
-/
namespace Go.Proofs.Ytinlkcmdbjcofab
open Go.RowKit
set_option linter.unusedVariables false

/-- The first right is alive, of environment 0, to f; no other is to f; the bytes of f. -/
structure Sl (s : RSt) (f : Int) (bs : List Int) : Prop where
  r0 : s.rights[0]? = some ⟨1, 0, f, true, -1, false⟩
  l0 : lv s.rights (0 : Nat) = true
  only : ∀ (i : Nat) (r : RR), 0 < i → s.rights[i]? = some r → lv s.rights i = true → r.fr ≠ f
  by_ : ∀ a : Nat, a ≤ 3 → byteAt s f a = (bs[a]?).getD 0

section
variable {s t : RSt} {f : Int} {bs : List Int}

theorem Sl.same (h : Sl s f bs) (h1 : t.rights = s.rights) (h2 : t.bytes = s.bytes) : Sl t f bs := by
  refine ⟨by rw [h1]; exact h.r0, by rw [h1]; exact h.l0, by rw [h1]; exact h.only, fun a ha => ?_⟩
  rw [← h.by_ a ha]
  unfold byteAt
  rw [h2]
theorem Sl.mark (h : Sl s f bs) (hI : RInv s) (P : Nat → Bool) (hP : P 0 = false) (h1 : t.rights = markAt P s.rights) (h2 : t.bytes = s.bytes) : Sl t f bs := by
  have hg : (markAt P s.rights)[0]? = some ⟨1, 0, f, true, -1, false⟩ := by rw [markAt_get, h.r0, hP]; rfl
  refine ⟨by rw [h1]; exact hg, ?_, ?_, fun a ha => ?_⟩
  · rw [h1, lv_mark hI.ord P h.r0, hP]
    simp only [Bool.or_self, Bool.not_false, Bool.true_and]
    exact lv_neg (by omega)
  · rw [h1]
    intro i r hi hr hl
    have hl' := lv_mark_le hI.ord P _ i (Nat.le_refl _) (by have := (List.getElem?_eq_some_iff.1 hr).1; rw [markAt_len] at this; omega) hl
    rw [markAt_get] at hr
    cases hx : s.rights[i]? with
    | none => rw [hx] at hr; simp at hr
    | some x =>
      rw [hx] at hr
      simp only [Option.map_some, Option.some.injEq] at hr
      have := h.only i x hi hx hl'
      subst hr
      cases P i <;> exact this
  · rw [← h.by_ a ha]
    unfold byteAt
    rw [h2]
theorem Sl.add (h : Sl s f bs) (hI : RInv s) {x : RR} (h1 : t.rights = s.rights ++ [x]) (hx : x.fr ≠ f) (hb : ∀ a : Nat, a ≤ 3 → byteAt t f a = byteAt s f a) : Sl t f bs := by
  have h0 := (List.getElem?_eq_some_iff.1 h.r0).1
  refine ⟨?_, ?_, ?_, fun a ha => (hb a ha).trans (h.by_ a ha)⟩
  · rw [h1, List.getElem?_append_left h0]; exact h.r0
  · rw [h1, lv_append hI.ord x (by omega)]; exact h.l0
  · rw [h1]
    intro i r hi hr hl
    rcases getApp hr with h2 | ⟨rfl, rfl⟩
    · have h3 := (List.getElem?_eq_some_iff.1 h2).1
      rw [lv_append hI.ord x (by omega)] at hl
      exact h.only i r hi h2 hl
    · exact hx
theorem Sl.zero (h : Sl s f bs) {env : Nat} (he : 1 ≤ env) {j : Nat} {r : RR} (hr : s.rights[j]? = some r) (hre : r.env = env) : j ≠ 0 := fun e => by
  subst e
  rw [h.r0] at hr
  simp only [Option.some.injEq] at hr
  subst hr
  simp at hre
  omega

theorem Sl.alloc (h : Sl s f bs) (hok : SOk s) (hnk : NoK s) (f0 : 0 ≤ f) (env : Int) : Sl (allocR s env).2 f bs := by
  rcases alloc_cases hok hnk env with ⟨x, hx, -⟩ | ⟨g, s1, hx, hlf, hr1, -, -, hby, -⟩
  · rw [hx]; exact h
  · rw [hx]
    have hfree : freeB s g = true := List.find?_some hlf
    have hgf : (g : Int) ≠ f := fun e => freeB_no hok.inv hfree 0 _ h.r0 h.l0 e.symm
    refine h.add hok.inv hr1 hgf (fun a _ => ?_)
    unfold byteAt
    show (((s1.bytes[f.toNat]?).getD [])[_]?).getD 0 = _
    rw [hby, List.getElem?_set_ne (by omega)]
theorem Sl.derive (h : Sl s f bs) (hok : SOk s) {env : Nat} (he : 1 ≤ env) (hd te : Int) (wt : Bool) : Sl (deriveR s env hd te wt).2 f bs := by
  unfold deriveR
  rcases rightE_cases s env hd with ⟨x, h1, h3⟩ | ⟨j, r, h1, hrr, hd1, hre, hl, hal⟩
  · have : x ≠ 0 := by omega
    rw [h1]
    simp only [ne_eq, this, not_false_eq_true, if_true]
    exact h
  · rw [h1]
    simp only [ne_eq, not_true_eq_false, if_false, Int.toNat_natCast, hrr]
    have hj := h.zero he hrr hre
    split
    · exact h
    · split
      · exact h
      · split
        · exact h
        · exact h.add hok.inv rfl (h.only j r (by omega) hrr hl) (fun _ _ => rfl)
theorem Sl.revoke (h : Sl s f bs) (hok : SOk s) {env : Nat} (he : 1 ≤ env) (hd : Int) : Sl (revokeR s env hd).2 f bs := by
  unfold revokeR
  rcases rightE_cases s env hd with ⟨x, h1, h3⟩ | ⟨j, r, h1, hrr, hd1, hre, hl, hal⟩
  · have : x ≠ 0 := by omega
    rw [h1]
    simp only [ne_eq, this, not_false_eq_true, if_true]
    exact h
  · rw [h1]
    simp only [ne_eq, not_true_eq_false, if_false]
    refine h.mark hok.inv (fun i => (s.rights[i]?.map fun r => r.frm == (j : Int)).getD false) ?_ ?_ rfl
    · simp only [h.r0, Option.map_some, Option.getD_some]
      simp <;> omega
    · show s.rights.map (markIf _) = _
      rw [mark_map]
theorem Sl.drop (h : Sl s f bs) (hok : SOk s) {env : Nat} (he : 1 ≤ env) (hd : Int) : Sl (dropR s env hd).2 f bs := by
  unfold dropR
  rcases rightE_cases s env hd with ⟨x, h1, h3⟩ | ⟨j, r, h1, hrr, hd1, hre, hl, hal⟩
  · have : x ≠ 0 := by omega
    rw [h1]
    simp only [ne_eq, this, not_false_eq_true, if_true]
    exact h
  · rw [h1]
    simp only [ne_eq, not_true_eq_false, if_false, Int.toNat_natCast, hrr]
    have hj := h.zero he hrr hre
    refine h.mark hok.inv (fun i => i == j) (by simp; omega) ?_ rfl
    show s.rights.set j r.end = _
    rw [mark_set _ _ _ hrr]
theorem Sl.kill (h : Sl s f bs) (hok : SOk s) {env : Nat} (he : 1 ≤ env) : Sl (killR s env).2 f bs := by
  unfold killR
  split
  · refine h.mark hok.inv (fun i => (s.rights[i]?.map fun r => r.env == (env : Int)).getD false) ?_ ?_ rfl
    · simp only [h.r0, Option.map_some, Option.getD_some]
      simp <;> omega
    · show s.rights.map (markIf _) = _
      rw [mark_map]
  · exact h
theorem Sl.spawn (h : Sl s f bs) (env : Int) : Sl (spawnR s env).2 f bs := by
  unfold spawnR
  repeat' split
  all_goals first | exact h | exact h.same rfl rfl
theorem Sl.map (h : Sl s f bs) (env page hd : Int) (wt : Bool) (slot : Int) : Sl (mapR s env page hd wt slot).2 f bs := by
  unfold mapR
  repeat' split
  all_goals first | exact h | exact h.same rfl rfl
theorem Sl.unmap (h : Sl s f bs) (env page : Int) : Sl (unmapR s env page).2 f bs := by
  unfold unmapR
  repeat' split
  all_goals first | exact h | exact h.same rfl rfl
theorem Sl.store (h : Sl s f bs) (hok : SOk s) (f0 : 0 ≤ f) {env : Nat} (he : 1 ≤ env) (page a v : Int) : Sl (storeR s env page a v).2 f bs := by
  unfold storeR
  split
  · exact h
  · split
    · exact h
    · split
      · exact h
      · split
        · exact h
        · split
          · exact h
          · rename_i hne
            rcases entI_cases s env page with hx | ⟨q, e, hx, heq, hp⟩
            · rw [hx] at hne; exact absurd (by omega) hne
            · rw [hx]
              simp only [Int.toNat_natCast, heq]
              split
              · exact h
              · simp [entP] at hp
                have hent := (hok.ent q e heq hp.1).2.2
                have hfr := hok.sfr q e heq hp.1
                obtain ⟨k, r, hrr, hl, hre, hrf, -⟩ := owned_ex.1 hent
                have hk := h.zero he hrr (hre.trans hp.2.1)
                have hne : e.fr ≠ f := fun e2 => h.only k r (by omega) hrr hl (hrf.trans e2)
                refine ⟨h.r0, h.l0, h.only, fun b hb => ?_⟩
                rw [← h.by_ b hb]
                unfold byteAt putByte
                simp only
                rw [List.getElem?_set_ne (by omega)]
theorem Sl.ns (h : Sl s f bs) (hok : SOk s) (hnk : NoK s) (f0 : 0 ≤ f) {hi : Nat} (hn : Ns 1 hi s t) : Sl t f bs := by
  rcases hn with rfl | ⟨env, h1, h2, rfl | ⟨hd, te, wt, rfl⟩ | ⟨hd, rfl⟩ | ⟨hd, rfl⟩ | rfl | rfl | ⟨page, hd, wt, slot, rfl⟩ | ⟨page, rfl⟩ | ⟨page, a, v, rfl⟩⟩
  · exact h
  · exact h.alloc hok hnk f0 env
  · exact h.derive hok h1 hd te wt
  · exact h.revoke hok h1 hd
  · exact h.drop hok h1 hd
  · exact h.kill hok h1
  · exact h.spawn env
  · exact h.map _ _ _ _ _
  · exact h.unmap _ _
  · exact h.store hok f0 h1 page a v

/-- Environment 0 maps the frame, loads and stores there. -/
theorem Sl.mine (h : Sl s f bs) (hok : SOk s) (hH : HInv s) (f0 : 0 ≤ f) (f1 : f < s.nf) {p k slot : Nat} (hp : p ≤ 15) (hs : slot < s.ns) :
    ∃ s1, mapR s 0 p 1 true slot = (0, s1) ∧ Sl s1 f bs ∧ s1.rights.length = s.rights.length ∧ s1.ns = s.ns ∧ s1.nf = s.nf ∧ (SOk s1 → ∀ a : Nat, a ≤ 3 → loadR s1 0 p a = ((bs[a]?).getD 0, 0) ∧
      ∀ v : Nat, v ≤ 255 → bs.length = 4 → ∃ s2, storeR s1 0 p a v = (0, s2) ∧ Sl s2 f (bs.set a v) ∧ s2.rights.length = s.rights.length ∧ s2.ns = s.ns ∧ s2.nf = s.nf) := by
  have hx := rightE_ok hok.inv hH h.r0 h.l0
  have hraw := hH.raw h.r0 h.l0
  simp only at hx hraw
  obtain ⟨s1, hm, hsl, hr, hb, hal, hne, hnf, hns, hkp2⟩ := map_done (env := 0) (page := p) (hd := 1) (slot := slot) (wt := true) hraw (by simpa using hx) h.r0 (fun _ => rfl) (by omega) (by omega) (by omega) (by omega) hok
  have h1 : Sl s1 f bs := h.same hr hb
  have hraw1 : rawE s1 0 = 0 := by have e : aliveB s1 0 = aliveB s 0 := (by unfold aliveB; rw [hne, hal]); have e2 : keptB s1 0 = keptB s 0 := (by unfold keptB keptO; rw [hkp2]); unfold rawE at hraw ⊢; rw [e, e2]; exact hraw
  have hsl' : s1.slots[slot]? = some ⟨true, 0, p, f, true⟩ := by simpa using hsl
  refine ⟨s1, hm, h1, by rw [hr], hns, hnf, fun hok1 a ha => ⟨?_, fun v hv hbl => ?_⟩⟩
  · have := load_at hok1 hsl' rfl hraw1 (a := a) (by omega) (by omega)
    simp only at this
    rw [this, h1.by_ a ha]
  · have := store_at hok1 hsl' rfl rfl hraw1 (a := a) (v := v) (by omega) (by omega) (by omega) (by omega)
    simp only at this
    refine ⟨_, this, ⟨h1.r0, h1.l0, h1.only, fun b hb => ?_⟩, by show s1.rights.length = _; rw [hr], hns, hnf⟩
    rw [byte_put hok1 f0 (by rw [hnf]; exact f1) (by omega) (by omega) (by omega)]
    by_cases e : b = a
    · subst e
      rw [if_pos rfl, List.getElem?_set_self (by omega)]; rfl
    · rw [if_neg (by omega), List.getElem?_set_ne (fun e2 => e e2.symm)]; exact h1.by_ b hb
end
end Go.Proofs.Ytinlkcmdbjcofab

/-
  'Sealed' itself.
-/
namespace Go.Proofs.Ytinlkcmdbjcofab
open Go.RowKit
set_option linter.unusedVariables false
attribute [local go_sem ↓] Go.wp_at_zero Go.wp_at_succ

theorem sl_fresh {a b c : Nat} {s1 : RSt} (hr : s1.rights = [⟨1, 0, 0, true, -1, false⟩]) (hI : RInv s1) (hH : HInv s1) (hb : s1.bytes = (RSt.fresh a b c).bytes) : Sl s1 0 [0, 0, 0, 0] := by
  obtain ⟨h0, hl, -, -⟩ := first_right hr hI hH
  refine ⟨h0, hl, fun i r hi hri => ?_, fun k hk => ?_⟩
  · rw [hr] at hri
    have := (List.getElem?_eq_some_iff.1 hri).1
    simp at this
    omega
  · unfold byteAt
    rw [hb]
    show ((((List.replicate a [0, 0, 0, 0])[(0 : Int).toNat]?).getD [])[((k : Nat) : Int).toNat]?).getD 0 = _
    rw [List.getElem?_replicate]
    have : k = 0 ∨ k = 1 ∨ k = 2 ∨ k = 3 := by omega
    split <;> rcases this with rfl | rfl | rfl | rfl <;> rfl

/-- What a law holds beside the machine: its config, its bytes. -/
structure Sd (M : MT) (W1 : World) (m cB gB fa fb fc : Nat) (n : Nat) (own : Nat → Nat × Nat) (s : RSt) (bs : List Int) (w : World) : Prop where
  st : St M W1 m n own s w
  cb : Blk w cB [.int .i64 fa, .int .i64 fb, .int .i64 fc] 27
  gb : Blk w gB (bs.map (.int .i64)) 3
  tc : (own cB).1 = 0
  tg : (own gB).1 = 0
  sl : Sl s 0 bs
  bl : bs.length = 4
  ns : s.ns = fb
  nf : s.nf = fa

section
variable {M : MT} {W1 w w' : World} {m cB gB fa fb fc n : Nat} {own : Nat → Nat × Nat} {s s' : RSt} {bs : List Int}
theorem Sd.next (h : Sd M W1 m cB gB fa fb fc n own s bs w) {j : Nat} {own' : Nat → Nat × Nat} (hst : St M W1 m j own' s' w') (ho : ∀ b, b < w.heap.size → own' b = own b) (hk : ∀ b, b < w.heap.size → (own b).1 ≠ 2 → w'.heap[b]? = w.heap[b]?) (hs : Sl s' 0 bs) (h1 : s'.ns = s.ns) (h2 : s'.nf = s.nf) : Sd M W1 m cB gB fa fb fc j own' s' bs w' :=
  ⟨hst, h.cb.of (hk _ h.cb.lt (by rw [h.tc]; omega)), h.gb.of (hk _ h.gb.lt (by rw [h.tg]; omega)), by rw [ho _ h.cb.lt]; exact h.tc, by rw [ho _ h.gb.lt]; exact h.tg, hs, h.bl, by rw [h1, h.ns], by rw [h2, h.nf]⟩
theorem Sd.below (P : Api M) (h : Sd M W1 m cB gB fa fb fc n own s bs w) (hb : Below w.heap.size w w') : Sd M W1 m cB gB fa fb fc n own s bs w' :=
  ⟨h.st.below P hb, h.cb.below hb h.cb.lt, h.gb.below hb h.gb.lt, h.tc, h.tg, h.sl, h.bl, h.ns, h.nf⟩
theorem Sd.relen (P : Api M) (h : Sd M W1 m cB gB fa fb fc n own s bs w) : Sd M W1 m cB gB fa fb fc (n + 1) own s bs w := ⟨h.st.mono, h.cb, h.gb, h.tc, h.tg, h.sl, h.bl, h.ns, h.nf⟩
theorem St.poke (P : Api M) {w0 : World} (h : St M w0 m n own s w) {a : Addr} (ha : (own a.block).1 ≠ 2) (hb : w0.heap.size ≤ a.block) (v : Value) : St M w0 m n own s (w.setCell a v) :=
  ⟨P.of h.rep (fun _ _ => rfl) (fun b hl ht => heap_setCell_other w a b v (fun e => ha (e ▸ ht))), h.hok, h.hinv, h.len, h.bot, fun x hx => h.top x (by simpa [World.setCell] using hx), h.bel.setCell hb _⟩
theorem Ns.ns {lo hi : Nat} (hn : Ns lo hi s s') (h1 : SOk s) (h2 : SOk s') : s'.ns = s.ns := by
  have g := hn.grows.2.2.2.2.1
  have := h1.ns
  have := h2.ns
  omega
end

set_option maxHeartbeats 4000000 in
set_option maxRecDepth 100000 in
theorem sealedlaw_any {M : MT} (P : Api M) (x y z : Int) (hx0 : -9223372036854775808 ≤ x) (hx1 : x ≤ 9223372036854775807) (hy0 : -9223372036854775808 ≤ y) (hy1 : y ≤ 9223372036854775807) (hz0 : -9223372036854775808 ≤ z) (hz1 : z ≤ 9223372036854775807)
    (ao : Option Addr) (len cap : Nat) (w : World) (ops : List LStep) (hl : ops.length = len) (hok : ∀ (i : Nat) (o : LStep), ops[i]? = some o → o.i64) (hsz : (len + 4) * 48 ≤ 140737488355328)
    (ho : (len = 0) ∨ ∃ b off, ao = some ⟨b, off, none⟩ ∧ b < w.heap.size ∧ ∀ (i : Nat) (o : LStep), ops[i]? = some o → ∀ (j : Nat) (v : Value), o.cells[j]? = some v → w.cell? ⟨b, off + i * 6 + j, none⟩ = some v) :
    Calls Try.prog 4 #[.agg #[.int .i64 x, .int .i64 y, .int .i64 z], .slice ao len cap] w fun e w' => e = .returned (.bool true) ∧ Below w.heap.size w w' := by
  have HX : Hid ((len = 0) ∨ ∃ b off, ao = some ⟨b, off, none⟩ ∧ b < w.heap.size ∧ ∀ (i : Nat) (o : LStep), ops[i]? = some o → ∀ (j : Nat) (v : Value), o.cells[j]? = some v → w.cell? ⟨b, off + i * 6 + j, none⟩ = some v) := ho
  have HL : Hid (ops.length = len) := hl
  have HO : Hid (∀ (i : Nat) (o : LStep), ops[i]? = some o → o.i64) := hok
  clear ho hl hok
  have HF2 : Hid (∀ j : Nat, j ≤ len + 2 → (j + 2) * 48 ≤ 140737488355328) := fun j hj => by omega
  have hbox := Blk.new w [.int .i64 x, .int .i64 y, .int .i64 z] 23
  have hbl0 : Below w.heap.size w (w.alloc (.cells #[.int .i64 x, .int .i64 y, .int .i64 z] 23)) := (Below.refl _ _).alloc (Nat.le_refl _) _
  go_enter Try.func4, Try.ntmps4
  go_wp2_with fail
  have hbox2 : Blk (w.alloc (.cells #[.int .i64 x, .int .i64 y, .int .i64 z] 23)) w.heap.size [.int .i64 x, .int .i64 y, .int .i64 z] 23 := hbox
  obtain ⟨W1, hW1⟩ : ∃ W1, w.alloc (.cells #[.int .i64 x, .int .i64 y, .int .i64 z] 23) = W1 := ⟨_, rfl⟩
  rw [hW1] at hbox2 hbl0 ⊢
  clear hbox hW1
  have hWs := hbox2.lt
  refine (built_any P x y z hx0 hx1 hy0 hy1 hz0 hz1 _).mono ?_
  rintro e w1 ⟨m, f, rfl, hb1, hm1⟩
  have hbx := hbox2.below hb1 hbox2.lt
  have e0 := hbx.cell 0
  have e1 := hbx.cell 1
  have e2 := hbx.cell 2
  simp at e0 e1 e2
  have hs1 := hb1.size
  go_wp2_with fail
  refine (config_any x y z hx0 hx1 hy0 hy1 hz0 hz1 _).mono ?_
  rintro e w2 ⟨rfl, hb2⟩
  have la := cfA_le x
  have lb := cfB_le y
  have lc := cfC_le z
  have la1 : 1 ≤ cfA x := by unfold cfA; omega
  have lb1 : 1 ≤ cfB y := by unfold cfB; omega
  have lc1 : 2 ≤ cfC z := by unfold cfC; omega
  obtain ⟨fa, hfa⟩ : ∃ v, cfA x = v := ⟨_, rfl⟩
  obtain ⟨fb, hfb⟩ : ∃ v, cfB y = v := ⟨_, rfl⟩
  obtain ⟨fc, hfc⟩ : ∃ v, cfC z = v := ⟨_, rfl⟩
  rw [hfa, hfb, hfc]
  rw [hfa] at la la1 hm1
  rw [hfb] at lb lb1 hm1
  rw [hfc] at lc lc1 hm1
  clear hfa hfb hfc hbx e0 e1 e2
  have hs2 := hb2.size
  have hbw2 : Below W1.heap.size W1 w2 := hb1.trans (hb2.mono hs1)
  obtain ⟨own0, hst0⟩ := St.fresh (NewF.of P hm1 (fun k _ h2 => hb2.block k h2) hs2) hbw2 la lb1 lb lc
  clear hm1 hb2 hb1
  obtain ⟨s1, ha1, hr1, -, -, hne1, hnf1, hns1, hby1, -⟩ := fresh_alloc (b := fb) la1 (env := 0) (by omega) (show (0 : Int) < (fc : Int) by omega)
  have HA1 : Hid (allocR (RSt.fresh fa fb fc) 0 = ((1, 0), s1)) := ha1
  obtain ⟨s0, hs0⟩ : ∃ s0, RSt.fresh fa fb fc = s0 := ⟨_, rfl⟩
  have hbyX : Hid (s1.bytes = (RSt.fresh fa fb fc).bytes) := hby1
  rw [hs0] at HA1 hst0
  clear hs0 ha1 hby1
  have hba : Below w2.heap.size w2 (w2.alloc (.cells #[.int .i64 fa, .int .i64 fb, .int .i64 fc] 27)) := (Below.refl _ _).alloc (Nat.le_refl _) _
  have hcx := Blk.new w2 [.int .i64 fa, .int .i64 fb, .int .i64 fc] 27
  have ht0 := hst0.top w2.heap.size (Nat.le_refl _)
  obtain ⟨cB, hcB⟩ : ∃ cB, w2.heap.size = cB := ⟨_, rfl⟩
  have hst := hst0.below P hba
  go_wp2_with fail
  have ie0 : I64 0 := by unfold I64; omega
  have ie1 : I64 1 := by unfold I64; omega
  refine (hst.alloc P (HF2.out 0 (Nat.zero_le _)) 0 ie0).mono ?_
  rintro e w3 ⟨rfl, own3, hst3, ho3, hk3, hs3⟩
  rw [HA1.out] at hst3 ⊢
  have hc3 : Blk w3 cB [.int .i64 fa, .int .i64 fb, .int .i64 fc] 27 := by rw [← hcB]; exact hcx.of (hk3 _ hcx.lt (by rw [ht0]; omega))
  have ht3 : (own3 cB).1 = 0 := by rw [← hcB, ho3 _ hcx.lt]; exact ht0
  have hsl3 := sl_fresh (a := fa) (b := fb) (c := fc) hr1 hst3.hok.inv hst3.hinv hbyX.out
  obtain ⟨gB, hgB⟩ : ∃ gB, w3.heap.size = gB := ⟨_, rfl⟩
  have hgW : W1.heap.size ≤ gB := by rw [← hgB]; exact hst3.bel.size
  have hga : Below w3.heap.size w3 (w3.alloc (.cells #[.int .i64 0, .int .i64 0, .int .i64 0, .int .i64 0] 3)) := (Below.refl _ _).alloc (Nat.le_refl _) _
  have hgx : Blk (w3.alloc (.cells #[.int .i64 0, .int .i64 0, .int .i64 0, .int .i64 0] 3)) gB (([0, 0, 0, 0] : List Int).map (.int .i64)) 3 := by rw [← hgB]; exact Blk.new w3 [.int .i64 0, .int .i64 0, .int .i64 0, .int .i64 0] 3
  have hsd : Sd M W1 m cB gB fa fb fc 1 own3 s1 [0, 0, 0, 0] (w3.alloc (.cells #[.int .i64 0, .int .i64 0, .int .i64 0, .int .i64 0] 3)) :=
    ⟨hst3.below P hga, hc3.below hga hc3.lt, hgx, ht3, by rw [← hgB]; exact hst3.top _ (Nat.le_refl _), hsl3, rfl, hns1, hnf1⟩
  clear hst hst0 hst3 hc3 ht3 hsl3 hga hgx ho3 hk3 hs3 hcx ht0 hba hr1 hne1 hnf1 hns1 hbyX HA1
  go_wp2_with fail
  go_loopg [10] len (fun k y wr => ∃ (r : Nat) (own : Nat → Nat × Nat) (s : RSt) (bs : List Int), y = .int .i64 r ∧ r + k = len ∧ Sd M W1 m cB gB fa fb fc (r + 1) own s bs wr)
  case atStart => exact ⟨0, own3, s1, [0, 0, 0, 0], rfl, by omega, hsd⟩
  case round =>
    clear hsd hbw2
    obtain ⟨r, own, s, bs, rfl, hk, hd⟩ := hrel
    have HK : Hid (r + gk = len) := hk
    have hr : r ≤ len := by omega
    clear hk
    have k0 := hd.cb.cell 0
    have k1 := hd.cb.cell 1
    have k2 := hd.cb.cell 2
    simp at k0 k1 k2
    have hclt := hd.cb.lt
    have hglt := hd.gb.lt
    have hne : cB ≠ gB := fun e => by have h1 := hd.cb; have h2 := hd.gb; rw [e] at h1; have := (h1.same h2).2; simp at this
    have hne2 : gB ≠ cB := fun e => hne e.symm
    by_cases hlt : r < len
    · obtain ⟨o, ho⟩ : ∃ o, ops[r]? = some o := ⟨ops[r]'(by rw [HL.out]; exact hlt), by simp⟩
      have hoi := HO.out r o ho
      obtain ⟨⟨v0, v1⟩, ⟨a0, a1⟩, ⟨b0, b1⟩, ⟨c0', c1'⟩⟩ := id hoi
      rcases HX.out with h0 | ⟨bS, off, rfl, hbS, hcS⟩
      · omega
      have hfew := HF2.out (r + 1) (by omega)
      have hbl := hd.st.bel
      have hy : ∀ (j : Nat) (v : Value), o.cells[j]? = some v → wr.cell? ⟨bS, off + r * 6 + j, none⟩ = some v := fun j v hv => ((hbl0.trans (hbl.mono (Nat.le_of_lt hWs))).cell (p := ⟨bS, off + r * 6 + j, none⟩) hbS).trans (hcS r o ho j v hv)
      have c0 := hy 0 _ rfl
      have c1 := hy 1 _ rfl
      have c2 := hy 2 _ rfl
      have c3 := hy 3 _ rfl
      have c4 := hy 4 _ rfl
      have c5 := hy 5 _ rfl
      simp only [Nat.add_zero] at c0
      clear hy hcS ho
      have hr0 : (0 : Int) ≤ (r : Int) := by omega
      have hr1 : (r : Int) < (len : Int) := by omega
      have hba : Below wr.heap.size wr (wr.alloc (.cells #[.int .i64 o.K, .int .i64 o.V, .int .i64 o.A, .int .i64 o.B, .int .i64 o.C, .bool o.F] 31)) := (Below.refl _ _).alloc (Nat.le_refl _) _
      have hsx := Blk.new wr [.int .i64 o.K, .int .i64 o.V, .int .i64 o.A, .int .i64 o.B, .int .i64 o.C, .bool o.F] 31
      have hd2 := hd.below P hba
      have tS := hd.st.top wr.heap.size (Nat.le_refl _)
      by_cases hK : 13 ≤ o.K
      · have hsxd := hsx.drew
        go_wp2_with fail
        go_region_held3 (fun w' => w'.cell? ⟨wr.heap.size, 2, none⟩ = some (.int .i64 o.A) ∧ w'.cell? ⟨wr.heap.size, 3, none⟩ = some (.int .i64 o.B)) (go_keep)
          ((first
            | (go_at_call 15; refine (pick_int _ _ (by first | exact a0 | exact b0) (by first | exact a1 | exact b1) (by decide) (by decide) _).mono ?_; rintro e w5 ⟨rfl, hw5⟩; subst hw5)))
        have hdw := hd2.below P (Below.refl _ _).drew
        obtain ⟨W2, hW2⟩ : ∃ W2, (wr.alloc (.cells #[.int .i64 o.K, .int .i64 o.V, .int .i64 o.A, .int .i64 o.B, .int .i64 o.C, .bool o.F] 31)).drew = W2 := ⟨_, rfl⟩
        have hsx2 : Blk (wr.alloc (.cells #[.int .i64 o.K, .int .i64 o.V, .int .i64 o.A, .int .i64 o.B, .int .i64 o.C, .bool o.F] 31)).drew wr.heap.size [.int .i64 o.K, .int .i64 o.V, .int .i64 o.A, .int .i64 o.B, .int .i64 o.C, .bool o.F] 31 := hsxd
        rw [hW2] at hdw hsx2 ⊢
        have lp := pk_lt o.A (show 0 < 16 by omega)
        have lq := pk_lt o.B (show 0 < 4 by omega)
        obtain ⟨pg, hpg⟩ : ∃ v, pk o.A 16 = v := ⟨_, rfl⟩
        obtain ⟨ak, hak⟩ : ∃ v, pk o.B 4 = v := ⟨_, rfl⟩
        rw [hpg] at lp ⊢
        rw [hak] at lq ⊢
        obtain ⟨sB, hsB⟩ : ∃ v, wr.heap.size = v := ⟨_, rfl⟩
        rw [hsB] at hsx2 tS ⊢
        have hslt := hsx2.lt
        have ip : I64 (pg : Int) := ⟨by omega, by omega⟩
        have ia : I64 (ak : Int) := ⟨by omega, by omega⟩
        have ib1 : (0 : Int) < (fb : Int) := by omega
        have ib2 : (fb : Int) ≤ 4611686018427387904 := by omega
        have n1 : sB ≠ gB := by omega
        have n2 : gB ≠ sB := by omega
        have n3 : sB ≠ cB := by omega
        have hfew2 := HF2.out (r + 1 + 1) (by omega)
        have j4 := hsx2.cell 4
        have i1 := hdw.cb.cell 1
        simp at j4 i1
        clear hpg hak hsx hsxd hd2 hd hba hW2 c0 c1 c2 c3 c4 c5 k0 k1 k2 hclt hglt hbl
        go_wp2_with fail
        refine (pick_ex _ _ c0' c1' ib1 ib2 _).mono ?_
        rintro e w5 ⟨te, hte, rfl, hw5⟩
        subst w5
        obtain ⟨s2, hm2, hsl2, hl2, hn2, hf2, hld⟩ := hdw.sl.mine hdw.st.hok hdw.st.hinv (Int.le_refl 0) (by rw [hdw.nf]; omega) (p := pg) (k := 0) (slot := te) (by omega) (by rw [hdw.ns]; omega)
        have HM2 : Hid (mapR s 0 pg 1 true te = (0, s2)) := hm2
        have it : I64 (te : Int) := ⟨by omega, by omega⟩
        clear hm2
        go_wp2_with fail
        refine (hdw.st.map P hfew 0 pg 1 true te ie0 ip ie1 it).mono ?_
        rintro e w6 ⟨rfl, own6, hst6, ho6, hk6, hs6⟩
        rw [HM2.out] at hst6 ⊢
        simp only at hst6 ⊢
        have hd6 := hdw.next hst6 ho6 hk6 hsl2 hn2 hf2
        have hsx6 := hsx2.of (hk6 _ hslt (by rw [tS]; omega))
        have tS6 : (own6 sB).1 = 0 := by rw [ho6 _ hslt]; exact tS
        obtain ⟨hl6, hst6'⟩ := hld hst6.hok ak (by omega)
        have lv6 := pk_lt o.V (show 0 < 256 by omega)
        have hln := hdw.st.len
        obtain ⟨s3, hs3, hsl3, hl3, hn3, hf3⟩ := hst6' (pk o.V 256) (by omega) hd6.bl
        obtain ⟨v, hv⟩ : ∃ v, bs[ak]? = some v := ⟨bs[ak]'(by rw [hd6.bl]; omega), by simp⟩
        rw [hv] at hl6
        simp only [Option.getD_some] at hl6
        have HL6 : Hid (loadR s2 0 pg ak = (v, 0)) := hl6
        have HS3 : Hid (storeR s2 0 pg ak (pk o.V 256) = (0, s3)) := hs3
        have HV : Hid (bs[ak]? = some v) := hv
        clear hl6 hst6' hld hv hs3 hst6 ho6 hk6 HM2 hsl2 hsx2 tS i1 j4
        go_wp2_with fail
        refine (hd6.st.load P hfew2 0 pg ak ie0 ip ia).mono ?_
        rintro e w7 ⟨rfl, own7, hst7, ho7, hk7, hs7⟩
        rw [HL6.out]
        have hd7 := hd6.next hst7 ho7 hk7 hd6.sl rfl rfl
        have hsx7 := hsx6.of (hk7 _ hsx6.lt (by rw [tS6]; omega))
        have tS7 : (own7 sB).1 = 0 := by rw [ho7 _ hsx6.lt]; exact tS6
        have g0 : w7.cell? ⟨gB, ak, none⟩ = some (.int .i64 v) := by rw [hd7.gb.cell ak, List.getElem?_map, HV.out]; rfl
        have f0 := hd7.gb.frozen ak
        have q1 := hsx7.cell 1
        simp at q1
        have hg7 := hd7.gb.lt
        have hak4 : (ak : Int) < 4 := by omega
        have hak0 : (0 : Int) ≤ (ak : Int) := by omega
        clear hst7 ho7 hk7 hd6 hsx6 tS6 hdw
        go_wp2_with fail
        refine (pick_int _ _ v0 v1 (by decide) (by decide) _).mono ?_
        rintro e w5 ⟨rfl, hw5⟩
        subst w5
        have e256 : (256 : Int).toNat = 256 := rfl
        rw [e256]
        obtain ⟨vv, hvv⟩ : ∃ vv, pk o.V 256 = vv := ⟨_, rfl⟩
        rw [hvv] at lv6 HS3 hsl3 ⊢
        have iv : I64 (vv : Int) := ⟨by omega, by omega⟩
        have hst8 := hd7.st.poke P (a := ⟨gB, ak, none⟩) (by show (own7 gB).1 ≠ 2; rw [hd7.tg]; omega) hgW (.int .i64 vv)
        have hgb8 := hd7.gb.set ak (.int .i64 vv)
        have hcb8 := hd7.cb.other (a := ⟨gB, ak, none⟩) (.int .i64 vv) hne
        have hln3 : s3.rights.length ≤ r + 1 + 1 := by omega
        clear hvv hsx7 tS7 q1
        go_wp2_with fail
        refine (hst8.store P hfew2 0 pg ak vv ie0 ip ia iv).mono ?_
        rintro e w9 ⟨rfl, own9, hst9, ho9, hk9, hs9⟩
        rw [HS3.out] at hst9 ⊢
        simp only at hst9 ⊢
        have hd9 : Sd M W1 m cB gB fa fb fc (r + 1 + 1) own9 s3 (bs.set ak vv) w9 := ⟨hst9.relen hln3, hcb8.of (hk9 _ hcb8.lt (by rw [hd7.tc]; omega)), by rw [List.map_set]; exact hgb8.of (hk9 _ hgb8.lt (by rw [hd7.tg]; omega)), by rw [ho9 _ hcb8.lt]; exact hd7.tc, by rw [ho9 _ hgb8.lt]; exact hd7.tg, hsl3, by rw [List.length_set]; exact hd7.bl, by have := hd7.ns; omega, by have := hd7.nf; omega⟩
        go_wp2_with fail
        go_roundg (gk - 1)
        case measure => have := HK.out; omega
        case rel => exact ⟨r + 1, own9, s3, bs.set ak vv, by go_num, by have := HK.out; omega, hd9⟩
      · by_cases hK7 : o.K < 7
        · go_wp2_with fail
          refine (noise_any P hd2.st hfew o hoi (by omega) fa fb fc lb lc lc1).mono ?_
          rintro e w7 ⟨rfl, s3, hns3, own7, hst7, ho7, hk7, hs7⟩
          have hd7 := hd2.next hst7 ho7 hk7 (hd2.sl.ns hd2.st.hok hd2.st.hinv.nok (Int.le_refl 0) hns3) (hns3.ns hd2.st.hok hst7.hok) hns3.grows.1
          go_wp2_with fail
          go_roundg (gk - 1)
          case measure => have := HK.out; omega
          case rel => exact ⟨r + 1, own7, s3, bs, by go_num, by have := HK.out; omega, hd7⟩
        · by_cases hK10 : 10 < o.K
          · go_wp2_with fail
            refine (noise_any P hd2.st hfew o hoi (by omega) fa fb fc lb lc lc1).mono ?_
            rintro e w7 ⟨rfl, s3, hns3, own7, hst7, ho7, hk7, hs7⟩
            have hd7 := hd2.next hst7 ho7 hk7 (hd2.sl.ns hd2.st.hok hd2.st.hinv.nok (Int.le_refl 0) hns3) (hns3.ns hd2.st.hok hst7.hok) hns3.grows.1
            go_wp2_with fail
            go_roundg (gk - 1)
            case measure => have := HK.out; omega
            case rel => exact ⟨r + 1, own7, s3, bs, by go_num, by have := HK.out; omega, hd7⟩
          · go_wp2_with fail
            go_roundg (gk - 1)
            case measure => have := HK.out; omega
            case rel => exact ⟨r + 1, own, s, bs, by go_num, by have := HK.out; omega, (hd2.relen P)⟩
    · obtain rfl : r = len := by omega
      have q1 := (hd.st.bel.cell (p := ⟨w.heap.size, 1, none⟩) hWs).trans (hbox2.cell 1)
      simp at q1
      go_wp2_with fail
      refine (pick_ex _ _ hy0 hy1 (by decide) (by decide) _).mono ?_
      rintro e w5 ⟨pg, hpg, rfl, hw5⟩
      subst w5
      have ip : I64 (pg : Int) := ⟨by omega, by omega⟩
      have hfew := HF2.out (r + 1) (by omega)
      have hfew2 := HF2.out (r + 2) (by omega)
      obtain ⟨s2, hm2, hsl2, hl2, hn2, hf2, hld⟩ := hd.sl.mine hd.st.hok hd.st.hinv (Int.le_refl 0) (by rw [hd.nf]; omega) (p := pg) (k := 0) (slot := 0) (by omega) (by rw [hd.ns]; omega)
      have HM2 : Hid (mapR s 0 pg 1 true 0 = (0, s2)) := hm2
      clear hm2
      go_wp2_with fail
      refine (hd.st.map P hfew 0 pg 1 true 0 ie0 ip ie1 ie0).mono ?_
      rintro e w6 ⟨rfl, own6, hst6, ho6, hk6, hs6⟩
      rw [HM2.out] at hst6 ⊢
      simp only at hst6 ⊢
      have hd6 := hd.next hst6 ho6 hk6 hsl2 hn2 hf2
      have HLD : Hid (∀ a : Nat, a ≤ 3 → loadR s2 0 pg a = ((bs[a]?).getD 0, 0)) := fun a ha => (hld hst6.hok a ha).1
      obtain ⟨wo, hwo⟩ : ∃ wo : World, wo = wr := ⟨_, rfl⟩
      clear hld hd hst6 ho6 hk6 hs6 HM2 hsl2 hl2 hn2 hf2 q1 k0 k1 k2 hclt hglt hwo HK
      go_wp2_with fail
      go_loopg [18] 4 (fun k y w7 => ∃ (a : Nat) (own7 : Nat → Nat × Nat), y = .int .i64 a ∧ a + k = 4 ∧ Sd M W1 m cB gB fa fb fc (r + 1 + 1) own7 s2 bs w7)
      case atStart => exact ⟨0, own6, rfl, by omega, hd6⟩
      case round =>
        obtain ⟨a, own7, rfl, hk, hd⟩ := hrel
        have HK : Hid (a + gk = 4) := hk
        have ha4 : a ≤ 4 := by omega
        clear hk hd6
        have hglt := hd.gb.lt
        by_cases hlt : a < 4
        · have ia : I64 (a : Int) := ⟨by omega, by omega⟩
          obtain ⟨v, hv⟩ : ∃ v, bs[a]? = some v := ⟨bs[a]'(by rw [hd.bl]; exact hlt), by simp⟩
          have hl3 := HLD.out a (by omega)
          rw [hv] at hl3
          simp only [Option.getD_some] at hl3
          have HL3 : Hid (loadR s2 0 pg a = (v, 0)) := hl3
          have HV : Hid (bs[a]? = some v) := hv
          clear hl3 hv
          go_wp2_with fail
          refine (hd.st.load P hfew2 0 pg a ie0 ip ia).mono ?_
          rintro e w9 ⟨rfl, own9, hst9, ho9, hk9, hs9⟩
          rw [HL3.out]
          have hd9 := hd.next hst9 ho9 hk9 hd.sl rfl rfl
          have g0 : w9.cell? ⟨gB, a, none⟩ = some (.int .i64 v) := by rw [hd9.gb.cell a, List.getElem?_map, HV.out]; rfl
          have hg9 := hd9.gb.lt
          go_wp2_with fail
          go_roundg (gk - 1)
          case measure => have := HK.out; omega
          case rel => exact ⟨a + 1, own9, by go_num, by have := HK.out; omega, hd9⟩
        · go_wp2_with fail
          go_ret
          exact ⟨rfl, hbl0.trans (hd.st.bel.mono (Nat.le_of_lt hWs))⟩
end Go.Proofs.Ytinlkcmdbjcofab

namespace Go.Proofs.Ytinlkcmdbjcofab.sealed
open Go.ChangeShapes Go.WideShapes Go.ChangeAt Go.RowKit
set_option linter.unusedVariables false

set_option maxRecDepth 100000 in
theorem lifted (os : Os) (started : os.Started) (H : Type) (enc : TypeId × Value → H) :
    ReturnsInHanded {} Try.checked os 4 .any (Rows.sealedSpec.pre6 enc Try.prog Try.f4 Rows.sealedRow.domain false) (Rows.sealedSpec.post enc Try.prog Try.f4 false true false false) := by
  refine returnsInHanded_of_change_sized (C := Try.checked) Try.own started (by kernel_rfl) Try.func4
    (ChangeSpec.witness6 (enc := enc) (C := Try.checked) false ⟨#[], #[.agg #[.int .i64 0, .int .i64 0, .int .i64 0], .slice none 0 0], []⟩ 8 (by kernel_rfl) (by kernel_rfl) (by kernel_rfl) (by kernel_rfl)) ?_
  intro W base args ds gs before hval0 hW hcnd hsz _
  have hval : ∀ (j : Nat) t v, Try.f4.params[j]? = some t → args[j]? = some v → Value.okWide Try.prog W .any base t v := hval0
  have hW' := hW
  obtain ⟨p, q, hA0, hV, rfl, hfz, hnd⟩ := hW
  have hA : DataW.TrodAll enc Try.prog W 0 (fun _ => true) true Try.f4.params.toList args.toList ds p := hA0
  rw [Try.params4] at hA hval
  obtain ⟨v0, vs0, d0, ds0, p0, q0, hargs, rfl, rfl, h0, r0⟩ := trodAll_cons hA
  obtain ⟨v1, vs1, d1, ds1, p1, q1, hargs1, rfl, rfl, h1, r1⟩ := trodAll_cons r0
  obtain ⟨rfl, rfl, rfl⟩ := trodAll_nil r1
  obtain rfl : args = #[v0, v1] := by cases args; simp_all
  obtain ⟨rfl, rfl⟩ := trodVars_none hV
  obtain ⟨cs0, rfl, hcs⟩ := okWide_struct Try.underlying23 (hval 0 23 v0 rfl rfl)
  obtain ⟨a0, len0, cap0, rfl⟩ := okWide_slice Try.underlying24 (hval 1 24 v1 rfl rfl)
  have k0 := h0
  have k1 := h1
  have lt1 : ∀ x ∈ p1, x.block < W.heap.size := by obtain ⟨m, hm⟩ := k1; exact DataW.trod_lt m _ _ _ hm
  have lt0 : ∀ x ∈ p0, x.block < W.heap.size := by obtain ⟨m, hm⟩ := k0; exact DataW.trod_lt m _ _ _ hm
  obtain ⟨fuel0, hf0⟩ := h0
  obtain ⟨x, y, z, hxyz, ix, iy, iz⟩ := open_size hf0
  obtain rfl : cs0 = #[.int .i64 x, .int .i64 y, .int .i64 z] := by
    have : cs0.toList = [.int .i64 x, .int .i64 y, .int .i64 z] := hxyz
    rw [← Array.toArray_toList (xs := cs0), this]
  obtain ⟨fuel, hf⟩ := h1
  obtain ⟨ops, hl, hops, hdat, hok⟩ := open_steps (by simpa [Value.cells] using hf)
  have hb16 : (len0 + 4) * 48 ≤ 140737488355328 := by
    rcases hdat with h | ⟨elems, spare, hd, he⟩
    · subst h; omega
    · simp only at hd
      subst hd
      have : (elems.length + spare.length) * Try.prog.bytesOf 31 ≤ reachBytes := sized_slice hsz (j := 1) (t := 24) (e := 31) rfl rfl Try.underlying24
      rw [Try.bytesStep] at this
      simp only [reachBytes] at this
      omega
  clear hA0 hval0
  refine (sealedlaw_any api x y z ix.1 ix.2 iy.1 iy.2 iz.1 iz.2 a0 len0 cap0 W ops hl hok hb16 hops).mono fun e W' ⟨he, bel⟩ => ?_
  subst he
  exact ⟨_, rfl, _, _, _, [], _, [], hW', trodAll_mk1 (shut_bool Try.underlying4 _), (trodAll_cons_mk (Below.trod Try.laidOut (by kernel_rfl) (of_decide_eq_true (by kernel_rfl)) k0 bel lt0) (trodAll_cons_mk (Below.trod Try.laidOut (by kernel_rfl) (of_decide_eq_true (by kernel_rfl)) k1 bel lt1) trodAll_mk0)), rfl, bel.frame _, fun h => by cases h⟩

theorem over : Rows.sealedRow.holds Try.pinned (OpenSpec.ofChange Rows.sealedSpec) :=
  OpenClaim.holds_of_wide 4 Try.f4 rfl rfl rfl rfl rfl rfl rfl ⟨rfl, rfl, rfl, rfl, rfl⟩ rfl rfl rfl rfl rfl (by kernel_rfl) Try.func4 (by kernel_rfl)
    (of_decide_eq_true (by kernel_rfl)) (by unfold Func.isWrapper; first | (rw [if_pos (by decide +kernel)]; kernel_rfl) | (rw [if_neg (by decide +kernel)]; exact ⟨rfl, rfl⟩))
    (fun os started H enc _ => lifted os started H enc)

end Go.Proofs.Ytinlkcmdbjcofab.sealed

namespace Go.Proofs.Ytinlkcmdbjcofab
theorem sealed_holds : Rows.SealedSaid := sealed.over
end Go.Proofs.Ytinlkcmdbjcofab
