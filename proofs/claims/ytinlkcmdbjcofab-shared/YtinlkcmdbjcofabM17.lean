import Derived.Test.YtinlkcmdbjcofabM16
/-
  'fresh': a new frame, if there is one, is all 0; what is stored there is loaded.
-/
namespace Go.Proofs.Ytinlkcmdbjcofab
open Go.RowKit
set_option linter.unusedVariables false
attribute [local go_sem ↓] Go.wp_at_zero Go.wp_at_succ

theorem alloc_cases {s : RSt} (hok : SOk s) (hnk : NoK s) (env : Int) : (∃ x, allocR s env = ((0, x), s) ∧ (x = 2 ∨ x = 12)) ∨
    ∃ (f : Nat) (s1 : RSt), allocR s env = (((s.rights.length : Int) + 1, 0), s1) ∧ leastFree s = some f ∧ s1.rights = s.rights ++ [⟨s.rights.length + 1, env, f, true, -1, false⟩] ∧ lv s1.rights (s.rights.length : Nat) = true ∧ f < s.nf ∧ s1.bytes = s.bytes.set f [0, 0, 0, 0] ∧ (∀ a, byteAt s1 f a = 0) ∧
      s1.slots = s.slots ∧ s1.alive = s.alive ∧ s1.ne = s.ne ∧ s1.nf = s.nf ∧ s1.ns = s.ns ∧ aliveB s env = true := by
  unfold allocR
  rw [rawE_nok (hnk env)]
  rcases liveE_cases s env with ⟨h2, ha⟩ | ⟨h0, ha⟩
  · left; exact ⟨2, by rw [h2]; rfl, .inl rfl⟩
  · rw [h0]
    simp only [ne_eq, not_true_eq_false, if_false]
    unfold firstS
    cases hl : leastFree s with
    | none => left; exact ⟨12, rfl, .inr rfl⟩
    | some f =>
      simp only
      by_cases hc : cnt s.rights < 32
      · right
        have hf := leastFree_lt hl
        have hfl : f < s.bytes.length := by rw [hok.fix.by_]; exact hf
        rw [if_pos hc]
        refine ⟨f, _, rfl, rfl, rfl, ?_, hf, rfl, fun a => ?_, rfl, rfl, rfl, rfl, rfl, ha⟩
        · have hx : (s.rights ++ [⟨s.rights.length + 1, env, f, true, -1, false⟩])[s.rights.length]? = some (⟨s.rights.length + 1, env, f, true, -1, false⟩ : RR) := by simp
          show lv (s.rights ++ [⟨s.rights.length + 1, env, f, true, -1, false⟩]) (s.rights.length : Nat) = true
          rw [lv_step (hok.inv.ord.append (by simp) (by simp; omega)) hx]
          simp only [Bool.not_false, Bool.true_and]
          exact lv_neg (by omega)
        · unfold byteAt addR
          simp only [Int.toNat_natCast, List.getElem?_set_self hfl, Option.getD_some]
          generalize a.toNat = k
          match k with
          | 0 => rfl
          | 1 => rfl
          | 2 => rfl
          | 3 => rfl
          | k + 4 => rfl
      · left; rw [if_neg hc]; exact ⟨12, rfl, .inr rfl⟩

section
variable {M : MT} {w0 w w' : World} {m i : Nat} {own : Nat → Nat × Nat} {s s' : RSt}
theorem St.relen (h : St M w0 m i own s w) {j : Nat} (hl : s.rights.length ≤ j) : St M w0 m j own s w := ⟨h.rep, h.hok, h.hinv, hl, h.bot, h.top, h.bel⟩
theorem StN.trans {j : Nat} {own1 : Nat → Nat × Nat} {w1 : World} {s1 : RSt} (ho : ∀ b, b < w.heap.size → own1 b = own b) (hk : ∀ b, b < w.heap.size → (own b).1 ≠ 2 → w1.heap[b]? = w.heap[b]?) (hs : w.heap.size ≤ w1.heap.size) (h2 : StN M w0 m j own1 s1 w1 w') : StN M w0 m j own s1 w w' := by
  obtain ⟨own2, h3, h4, h5, h6⟩ := h2
  exact ⟨own2, h3, fun b hb => (h4 b (by omega)).trans (ho b hb), fun b hb hn => (h5 b (by omega) (by rw [ho b hb]; exact hn)).trans (hk b hb hn), by omega⟩

/-- The entry of a new frame is there, of which the first k bytes are written. -/
structure Fr (s t : RSt) (env : Int) (p : Nat) (f : Nat) (q k : Nat) : Prop where
  ent : t.slots[q]? = some ⟨true, env, p, f, true⟩
  raw : rawE t env = 0
  nf : f < t.nf
  done : ∀ j : Nat, j < k → j ≤ 3 → byteAt t f j = 255 - j
  left : ∀ j : Nat, k ≤ j → j ≤ 3 → byteAt t f j = 0
  len : t.rights.length = s.rights.length + 1
  ns : t.ns = s.ns
theorem Fr.load {t : RSt} {env : Int} {p f q k : Nat} (h : Fr s t env p f q k) (hok : SOk t) (j : Nat) (hj : j ≤ 3) : loadR t env p j = (if j < k then 255 - (j : Int) else 0, 0) := by
  have h1 := load_at hok h.ent rfl h.raw (a := j) (by omega) (by omega)
  simp only at h1
  rw [h1]
  by_cases hk : j < k
  · rw [if_pos hk, h.done j hk hj]
  · rw [if_neg hk, h.left j (by omega) hj]
theorem Fr.store {t : RSt} {env : Int} {p f q k : Nat} (h : Fr s t env p f q k) (hok : SOk t) (hk : k ≤ 3) : ∃ t', storeR t env p k (255 - (k : Int)) = (0, t') ∧ Fr s t' env p f q (k + 1) := by
  have h1 := store_at hok h.ent rfl rfl h.raw (a := k) (v := 255 - (k : Int)) (by omega) (by omega) (by omega) (by omega)
  simp only at h1
  have hb := fun j : Nat => byte_put hok (f := f) (by omega) (by have := h.nf; omega) (a := k) (b := j) (v := 255 - (k : Int)) (by omega) (by omega) (by omega)
  refine ⟨_, h1, h.ent, h.raw, h.nf, fun j hj h3 => ?_, fun j hj h3 => ?_, h.len, h.ns⟩
  · rw [hb]
    by_cases e : j = k
    · subst e; rw [if_pos rfl]
    · rw [if_neg (by omega)]; exact h.done j (by omega) h3
  · rw [hb, if_neg (by omega)]; exact h.left j (by omega) h3

set_option maxHeartbeats 8000000 in
set_option maxRecDepth 100000 in
theorem fresh_any (P : Api M) (h : St M w0 m i own s w) (hi : (i + 3) * 48 ≤ 140737488355328) (o : LStep) (ho : o.i64) (a b c : Nat) (hb1 : 1 ≤ b) (hb : b ≤ 8) (hc : c ≤ 4) (hc2 : 2 ≤ c) (hns : s.ns = b) (must : Bool) (hmust : must = true → ∀ env : Nat, env < c → (allocR s env).1.2 = 0) :
    Calls Try.prog 11 #[.pointer (some ⟨m, 0, none⟩), .agg #[.int .i64 o.K, .int .i64 o.V, .int .i64 o.A, .int .i64 o.B, .int .i64 o.C, .bool o.F], .agg #[.int .i64 a, .int .i64 b, .int .i64 c], .bool must] w fun e w' => e = .returned (.bool true) ∧ ∃ s', s'.ns = s.ns ∧ StN M w0 m (i + 1) own s' w w' := by
  obtain ⟨⟨v0, v1⟩, ⟨a0, a1⟩, ⟨b0, b1⟩, ⟨c0, c1⟩⟩ := ho
  have hW0 : Below w.heap.size w (box2 w o a b c) := ((Below.refl _ _).alloc (Nat.le_refl _) _).alloc (by simp) _
  have ht := h.top w.heap.size (Nat.le_refl _)
  have ht2 := h.top (w.heap.size + 1) (by omega)
  have ie4 : (c : Int) ≤ 4611686018427387904 := by omega
  have ie3 : (0 : Int) < (c : Int) := by omega
  have hs0 := h.below P hW0
  have hbx := (Blk.new w [.int .i64 o.K, .int .i64 o.V, .int .i64 o.A, .int .i64 o.B, .int .i64 o.C, .bool o.F] 31).alloc (.cells #[.int .i64 a, .int .i64 b, .int .i64 c] 27)
  have hcx := Blk.at (w.alloc (.cells #[.int .i64 o.K, .int .i64 o.V, .int .i64 o.A, .int .i64 o.B, .int .i64 o.C, .bool o.F] 31)) [.int .i64 a, .int .i64 b, .int .i64 c] 27 (w.heap.size + 1) (by simp)
  have hi2 : (i + 2) * 48 ≤ 140737488355328 := by omega
  go_enter Try.func11, Try.ntmps11
  go_wp2_with fail
  refine (pick_ex _ _ v0 v1 ie3 ie4 _).mono ?_
  rintro e w5 ⟨env, henv, rfl, hw5⟩
  subst w5
  have ie : I64 (env : Int) := ⟨by omega, by omega⟩
  go_wp2_with fail
  refine (hs0.alloc P hi2 env ie).mono ?_
  rintro e w6 ⟨rfl, own6, hst6, ho6, hk6, hs6⟩
  rcases alloc_cases h.hok h.hinv.nok (env : Int) with ⟨x, hx, hx2⟩ | ⟨f, s1, hx, -, hr1, hl1, hf1, -, hby1, hsl1, hal1, hne1, hnf1, hns1, hal⟩
  · have hm0 : must = false := by
      cases must with
      | false => rfl
      | true =>
        have := hmust rfl env (by omega)
        rw [hx] at this
        simp at this
        omega
    subst hm0
    rw [hx] at hst6 ⊢
    have hx0 : (x != 0) = true := by rcases hx2 with rfl | rfl <;> rfl
    simp only at hst6 ⊢
    rcases hx2 with rfl | rfl
    · go_wp2_with fail
      go_ret
      exact ⟨rfl, s, rfl, StN.after hW0 ⟨own6, hst6, ho6, hk6, hs6⟩⟩
    · go_wp2_with fail
      go_ret
      exact ⟨rfl, s, rfl, StN.after hW0 ⟨own6, hst6, ho6, hk6, hs6⟩⟩
  · rw [hx] at hst6 ⊢
    simp only at hst6 ⊢
    have hll := h.len
    have hr6 : s1.rights[s.rights.length]? = some ⟨s.rights.length + 1, env, f, true, -1, false⟩ := by rw [hr1]; simp
    have hx6 := rightE_ok hst6.hok.inv hst6.hinv hr6 hl1
    have hraw6 := hst6.hinv.raw hr6 hl1
    simp only at hx6 hraw6
    have hlen6 : s1.rights.length = s.rights.length + 1 := by rw [hr1]; simp
    have hbx6 := hbx.of (hk6 _ hbx.lt (by rw [ht]; omega))
    have hcx6 := hcx.of (hk6 _ hcx.lt (by rw [ht2]; omega))
    have hz0 := hW0.size
    have c1 : ∀ b, b < w.heap.size → own6 b = own b := fun b hb => ho6 b (Nat.lt_of_lt_of_le hb hz0)
    have c2 : ∀ b, b < w.heap.size → (own b).1 ≠ 2 → w6.heap[b]? = w.heap[b]? := fun b hb hn => (hk6 b (Nat.lt_of_lt_of_le hb hz0) hn).trans (hW0.block b hb)
    have c3 : w.heap.size ≤ w6.heap.size := Nat.le_trans hz0 hs6
    have HC : Hid ((∀ b, b < w.heap.size → own6 b = own b) ∧ (∀ b, b < w.heap.size → (own b).1 ≠ 2 → w6.heap[b]? = w.heap[b]?) ∧ w.heap.size ≤ w6.heap.size) := ⟨c1, c2, c3⟩
    have t6 : (own6 w.heap.size).1 = 0 := by rw [ho6 _ hbx.lt]; exact ht
    have t6' : (own6 (w.heap.size + 1)).1 = 0 := by rw [ho6 _ hcx.lt]; exact ht2
    have q2 := hbx6.cell 2
    have q3 := hbx6.cell 3
    have p1 := hcx6.cell 1
    simp at q2 q3 p1
    obtain ⟨L, hL⟩ : ∃ L : Nat, s.rights.length + 1 = L := ⟨_, rfl⟩
    have hLi : ((s.rights.length : Int) + 1) = (L : Int) := by omega
    rw [hLi] at hx6 ⊢
    have HX6 : Hid (rightE s1 env L = (((s.rights.length : Nat) : Int), (0 : Int))) := hx6
    have HR6 : Hid (s1.rights[s.rights.length]? = some ⟨s.rights.length + 1, env, f, true, -1, false⟩) := hr6
    have HW6 : Hid (rawE s1 env = 0) := hraw6
    have HB6 : Hid (∀ a, byteAt s1 f a = 0) := hby1
    have iL : I64 (L : Int) := ⟨by omega, by omega⟩
    have hi3 : (i + 1 + 2) * 48 ≤ 140737488355328 := hi
    have hst6d := hst6
    have hns6 : s1.ns = b := by rw [hns1, hns]
    clear hr1 hl1 hal1 hx hx6 hr6 hraw6 hby1 hsl1 hne1 hk6 ho6 hs6 hbx hcx hs0 hmust hst6 c1 c2 c3 hz0
    go_wp2_with fail
    refine (pick_ex _ _ a0 a1 (by decide) (by decide) _).mono ?_
    rintro e w7 ⟨pg, hpg, rfl, hw7⟩
    subst w7
    have ip : I64 (pg : Int) := ⟨by omega, by omega⟩
    have ib1 : (0 : Int) < (b : Int) := by omega
    have ib2 : (b : Int) ≤ 4611686018427387904 := by omega
    go_wp2_with fail
    refine (pick_ex _ _ b0 b1 ib1 ib2 _).mono ?_
    rintro e w7 ⟨te, hte, rfl, hw7⟩
    subst w7
    go_wp2_with fail
    refine (hst6d.map P hi3 env pg L true te ie ip iL ⟨by omega, by omega⟩).mono ?_
    rintro e w8 ⟨rfl, hn8⟩
    obtain ⟨s2, hm2, hsl2, hr2, hby2, hal2, hne2, hnf2, hns2, hkp2⟩ := map_done (env := env) (page := pg) (hd := L) (slot := te) (wt := true) HW6.out HX6.out HR6.out (fun _ => rfl) (by omega) (by omega) (by omega) (by rw [hns6]; omega) hst6d.hok
    rw [hm2] at hn8 ⊢
    simp only at hn8 ⊢
    obtain ⟨own8, hst8, ho8, hk8, hs8⟩ := hn8
    have hfr : Fr s s2 env pg f te 0 := ⟨by simpa using hsl2, by rw [← HW6.out]; unfold rawE aliveB keptB keptO; rw [hne2, hal2, hkp2], by rw [hnf2, hnf1]; exact hf1, fun j hj => by omega, fun j _ _ => by have := HB6.out j; unfold byteAt at this ⊢; rw [hby2]; exact this, by rw [hr2, hlen6], by rw [hns2, hns1]⟩
    have hn8' : StN M w0 m (i + 1) own s2 w w8 := StN.trans HC.out.1 HC.out.2.1 HC.out.2.2 ⟨own8, hst8.relen (by rw [hfr.len]; omega), ho8, hk8, hs8⟩
    clear hm2 hsl2 hr2 hby2 hal2 hne2 hnf2 hns2 hkp2
    go_wp2_with fail
    go_loopg [13] 4 (fun k x wr => ∃ (r : Nat) (t : RSt), x = .int .i64 r ∧ r + k = 4 ∧ StN M w0 m (i + 1) own t w wr ∧ Fr s t env pg f te r)
    case atStart => exact ⟨0, s2, rfl, by omega, hn8', hfr⟩
    case round =>
      obtain ⟨r, t, rfl, hk, ⟨ow, hst, g1, g2, g3⟩, hfrr⟩ := hrel
      have HK : Hid (r + gk = 4) := hk
      have hr4 : r ≤ 4 := by omega
      clear hk hst8 ho8 hk8 hs8 hn8' hfr
      by_cases hlt : r < 4
      · have ir : I64 (r : Int) := ⟨by omega, by omega⟩
        have hl1 := hfrr.load hst.hok r (by omega)
        rw [if_neg (by omega)] at hl1
        obtain ⟨t', hs1, hfr1⟩ := hfrr.store hst.hok (by omega)
        have hw1 : IntKind.i64.wrap (255 - (r : Int)) = 255 - (r : Int) := by rw [IntKind.wrap_i64]; omega
        have iv : I64 (255 - (r : Int)) := ⟨by omega, by omega⟩
        have HL1 : Hid (loadR t env pg r = (0, 0)) := hl1
        have HS1 : Hid (storeR t env pg r (255 - (r : Int)) = (0, t')) := hs1
        clear hl1 hs1
        go_wp2_with fail
        refine (hst.load P hi3 env pg r ie ip ir).mono ?_
        rintro e w9 ⟨rfl, ow9, hst9, g4, g5, g6⟩
        rw [HL1.out]
        go_wp2_with fail
        refine (hst9.store P hi3 env pg r (255 - (r : Int)) ie ip ir iv).mono ?_
        rintro e w10 ⟨rfl, ow10, hst10, g7, g8, g9⟩
        rw [HS1.out] at hst10 ⊢
        simp only at hst10 ⊢
        go_wp2_with fail
        go_roundg (gk - 1)
        case measure => have := HK.out; omega
        case rel => exact ⟨r + 1, t', by go_num, by have := HK.out; omega, StN.trans g1 g2 g3 (StN.trans g4 g5 g6 ⟨ow10, hst10.relen (by rw [hfr1.len]; omega), g7, g8, g9⟩), hfr1⟩
      · obtain rfl : r = 4 := by omega
        clear hlt hr4
        go_wp2_with fail
        obtain ⟨wo, hwo⟩ : ∃ wo : World, wo = wr := ⟨_, rfl⟩
        have hst2 : StN M w0 m (i + 1) own t w wr := ⟨ow, hst, g1, g2, g3⟩
        rw [← hwo] at hst2 ⊢
        obtain ⟨go, hgo⟩ : ∃ go : Nat, go = gk := ⟨_, rfl⟩
        clear hst g1 g2 g3 hwo HK hgo
        go_loopg [17] 4 (fun k x wr => ∃ (r : Nat), x = .int .i64 r ∧ r + k = 4 ∧ StN M w0 m (i + 1) own t w wr)
        case atStart => exact ⟨0, rfl, by omega, hst2⟩
        case round =>
          obtain ⟨r, rfl, hk, ⟨ow, hst, g1, g2, g3⟩⟩ := hrel
          have HK : Hid (r + gk = 4) := hk
          have hr4 : r ≤ 4 := by omega
          clear hk hst2
          by_cases hlt : r < 4
          · have ir : I64 (r : Int) := ⟨by omega, by omega⟩
            have hl1 := hfrr.load hst.hok r (by omega)
            rw [if_pos hlt] at hl1
            have hw1 : IntKind.i64.wrap (255 - (r : Int)) = 255 - (r : Int) := by rw [IntKind.wrap_i64]; omega
            have HL1 : Hid (loadR t env pg r = (255 - (r : Int), 0)) := hl1
            clear hl1
            go_wp2_with fail
            refine (hst.load P hi3 env pg r ie ip ir).mono ?_
            rintro e w9 ⟨rfl, ow9, hst9, g4, g5, g6⟩
            rw [HL1.out]
            go_wp2_with fail
            go_roundg (gk - 1)
            case measure => have := HK.out; omega
            case rel => exact ⟨r + 1, by go_num, by have := HK.out; omega, StN.trans g1 g2 g3 ⟨ow9, hst9, g4, g5, g6⟩⟩
          · go_wp2_with fail
            go_ret
            exact ⟨rfl, t, hfrr.ns, ow, hst, g1, g2, g3⟩
end
end Go.Proofs.Ytinlkcmdbjcofab

/-
  One right and a lesser one that comes of it: what each call answers (no program, no memory).
-/
namespace Go.Proofs.Ytinlkcmdbjcofab
open Go.RowKit
set_option linter.unusedVariables false

theorem few_lit (j : Nat) (hj : j ≤ 20) : (j + 2) * 48 ≤ 140737488355328 := by omega

/-- The two environments are alive; the bytes of frame 0; the sizes. -/
structure Sh (s : RSt) (fb : Nat) : Prop where
  r0 : rawE s 0 = 0
  r1 : rawE s 1 = 0
  ns : s.ns = fb
  nf : 1 ≤ s.nf

section
variable {s t : RSt} {fb : Nat}
theorem Sh.of (h : Sh s fb) (h1 : t.alive = s.alive) (h2 : t.ne = s.ne) (h3 : t.ns = s.ns) (h4 : t.nf = s.nf) (h5 : t.kept = s.kept) : Sh t fb := by
  have e : ∀ env, rawE t env = rawE s env := fun env => by unfold rawE aliveB keptB keptO; rw [h1, h2, h5]
  exact ⟨by rw [e]; exact h.r0, by rw [e]; exact h.r1, by rw [h3]; exact h.ns, by rw [h4]; exact h.nf⟩

def Two (s : RSt) : Prop := s.rights = [⟨1, 0, 0, true, -1, false⟩, ⟨2, 1, 0, false, 0, false⟩]
def Gone (s : RSt) : Prop := s.rights = [⟨1, 0, 0, true, -1, false⟩, ⟨2, 1, 0, false, 0, true⟩]

theorem derive_one (hr : s.rights = [⟨1, 0, 0, true, -1, false⟩]) (hI : RInv s) (hH : HInv s) (h : Sh s fb) : ∃ t, deriveR s 0 1 1 false = ((2, 0), t) ∧ Two t ∧ t.bytes = s.bytes ∧ t.slots = s.slots ∧ Sh t fb := by
  obtain ⟨h0, hl, hx, -⟩ := first_right hr hI hH
  have hlen : s.rights.length = 1 := by rw [hr]; rfl
  have hc : ¬ 32 ≤ cnt s.rights := by
    have := cntTo_le s.rights s.rights.length
    unfold cnt
    omega
  refine ⟨addR s 1 0 false 0, ?_, ?_, rfl, rfl, h.of rfl rfl rfl rfl rfl⟩
  · unfold deriveR
    rw [hx, h.r1]
    simp only [ne_eq, not_true_eq_false, if_false, Int.toNat_natCast, h0, Bool.false_and, Bool.false_eq_true, if_neg hc, hlen]
    rfl
  · unfold Two addR
    rw [hr]
    rfl

theorem Two.rights (h : Two s) (hI : RInv s) : s.rights[0]? = some ⟨1, 0, 0, true, -1, false⟩ ∧ lv s.rights (0 : Nat) = true ∧ s.rights[1]? = some ⟨2, 1, 0, false, 0, false⟩ ∧ lv s.rights (1 : Nat) = true := by
  have h0 : s.rights[0]? = some ⟨1, 0, 0, true, -1, false⟩ := by rw [h]; rfl
  have h1 : s.rights[1]? = some ⟨2, 1, 0, false, 0, false⟩ := by rw [h]; rfl
  have l0 : lv s.rights (0 : Nat) = true := by
    rw [lv_step hI.ord h0]
    simp only [Bool.not_false, Bool.true_and]
    exact lv_neg (by omega)
  refine ⟨h0, l0, h1, ?_⟩
  rw [lv_step hI.ord h1]
  simp only [Bool.not_false, Bool.true_and]
  exact l0
theorem Two.e0 (h : Two s) (hI : RInv s) (hH : HInv s) : rightE s 0 1 = (((0 : Nat) : Int), (0 : Int)) := by
  obtain ⟨h0, l0, -, -⟩ := h.rights hI
  simpa using rightE_ok hI hH h0 l0
theorem Two.e1 (h : Two s) (hI : RInv s) (hH : HInv s) : rightE s 1 2 = (((1 : Nat) : Int), (0 : Int)) := by
  obtain ⟨-, -, h1, l1⟩ := h.rights hI
  simpa using rightE_ok hI hH h1 l1
theorem Two.noderive (h : Two s) (hI : RInv s) (hH : HInv s) (hs : Sh s fb) : deriveR s 1 2 0 true = ((0, 10), s) := by
  obtain ⟨-, -, h1, -⟩ := h.rights hI
  unfold deriveR
  rw [h.e1 hI hH, hs.r0]
  simp only [ne_eq, not_true_eq_false, if_false, Int.toNat_natCast, h1, Bool.not_false, Bool.and_self, if_true]
theorem Two.map0 (h : Two s) (hok : SOk s) (hH : HInv s) (hs : Sh s fb) {p : Nat} (hp : p ≤ 15) (hb : 1 ≤ fb) : ∃ t, mapR s 0 p 1 true 0 = (0, t) ∧ t.slots[0]? = some ⟨true, 0, p, 0, true⟩ ∧ Two t ∧ t.bytes = s.bytes ∧ Sh t fb := by
  obtain ⟨h0, -, -, -⟩ := h.rights hok.inv
  obtain ⟨t, hm, hsl, hr, hby, hal, hne, hnf, hns, hkp2⟩ := map_done (env := 0) (page := p) (hd := 1) (slot := 0) (wt := true) hs.r0 (h.e0 hok.inv hH) h0 (fun _ => rfl) (by omega) (by omega) (by omega) (by rw [hs.ns]; omega) hok
  exact ⟨t, hm, hsl, by unfold Two; rw [hr]; exact h, hby, hs.of hal hne hns hnf hkp2⟩
theorem Two.nomap (h : Two s) (hI : RInv s) (hH : HInv s) (hs : Sh s fb) {p : Nat} (hp : p ≤ 15) (slot : Int) : mapR s 1 p 2 true slot = (10, s) := by
  obtain ⟨-, -, h1, -⟩ := h.rights hI
  unfold mapR
  rw [hs.r1, h.e1 hI hH, if_neg (by simp), if_neg (by omega)]
  simp only [ne_eq, not_true_eq_false, if_false, Int.toNat_natCast, h1, Bool.not_false, Bool.and_self, if_true]
theorem Two.map1 (h : Two s) (hok : SOk s) (hH : HInv s) (hs : Sh s fb) {p : Nat} (hp : p ≤ 15) (hb : 1 ≤ fb) : ∃ t, mapR s 1 p 2 false ((fb : Int) - 1) = (0, t) ∧ t.slots[fb - 1]? = some ⟨true, 1, p, 0, false⟩ ∧ Two t ∧ t.bytes = s.bytes ∧ Sh t fb := by
  obtain ⟨-, -, h1, -⟩ := h.rights hok.inv
  obtain ⟨t, hm, hsl, hr, hby, hal, hne, hnf, hns, hkp2⟩ := map_done (env := 1) (page := p) (hd := 2) (slot := (fb : Int) - 1) (wt := false) hs.r1 (h.e1 hok.inv hH) h1 (fun e => by simp at e) (by omega) (by omega) (by omega) (by rw [hs.ns]; omega) hok
  rw [show ((fb : Int) - 1).toNat = fb - 1 by omega] at hsl
  exact ⟨t, hm, hsl, by unfold Two; rw [hr]; exact h, hby, hs.of hal hne hns hnf hkp2⟩
theorem store_no (hok : SOk s) {q : Nat} {e : Ent} (he : s.slots[q]? = some e) (hu : e.used = true) (hw : e.wr = false) (hr : rawE s e.env = 0) {a v : Int} (a0 : 0 ≤ a) (a3 : a ≤ 3) (v0 : 0 ≤ v) (v1 : v ≤ 255) : storeR s e.env e.page a v = (14, s) := by
  obtain ⟨p0, p1, _⟩ := hok.ent q e he hu
  unfold storeR
  rw [hr, if_neg (by simp), if_neg (by omega), if_neg (by omega), if_neg (by omega), entI_at hok he hu, if_neg (by omega)]
  simp only [Int.toNat_natCast, he, hw, Bool.not_false, if_true]
theorem Two.revoke (h : Two s) (hI : RInv s) (hH : HInv s) (hs : Sh s fb) : ∃ t, revokeR s 0 1 = (0, t) ∧ Gone t ∧ t.bytes = s.bytes ∧ Sh t fb := by
  refine ⟨sweepS (endIf (fun r => r.frm == ((0 : Nat) : Int)) s), ?_, ?_, rfl, hs.of rfl rfl rfl rfl rfl⟩
  · unfold revokeR
    rw [h.e0 hI hH]
    simp only [ne_eq, not_true_eq_false, if_false]
  · show s.rights.map (markIf _) = _
    rw [h]
    rfl
theorem Gone.rights (h : Gone s) (hI : RInv s) : s.rights[0]? = some ⟨1, 0, 0, true, -1, false⟩ ∧ lv s.rights (0 : Nat) = true ∧ s.rights[1]? = some ⟨2, 1, 0, false, 0, true⟩ ∧ lv s.rights (1 : Nat) = false := by
  have h0 : s.rights[0]? = some ⟨1, 0, 0, true, -1, false⟩ := by rw [h]; rfl
  have h1 : s.rights[1]? = some ⟨2, 1, 0, false, 0, true⟩ := by rw [h]; rfl
  have l0 : lv s.rights (0 : Nat) = true := by
    rw [lv_step hI.ord h0]
    simp only [Bool.not_false, Bool.true_and]
    exact lv_neg (by omega)
  refine ⟨h0, l0, h1, ?_⟩
  rw [lv_step hI.ord h1]
  simp only [Bool.not_true, Bool.false_and]
theorem Gone.noload (h : Gone s) (hok : SOk s) (hs : Sh s fb) {p a : Nat} (hp : p ≤ 15) (ha : a ≤ 3) : loadR s 1 p a = (0, 13) := by
  obtain ⟨h0, -, h1, l1⟩ := h.rights hok.inv
  have hlen : s.rights.length = 2 := by rw [h]; rfl
  have hent : entI s 1 p = -1 := by
    rcases entI_cases s 1 p with hx | ⟨q, e, hx, heq, hp2⟩
    · exact hx
    · exfalso
      simp [entP] at hp2
      obtain ⟨k, r, hr, hl, hre, -, -⟩ := owned_ex.1 (hok.ent q e heq hp2.1).2.2
      have hk := (List.getElem?_eq_some_iff.1 hr).1
      have : k = 0 ∨ k = 1 := by omega
      rcases this with rfl | rfl
      · rw [h0] at hr
        simp only [Option.some.injEq] at hr
        subst hr
        rw [hp2.2.1] at hre
        simp at hre
      · rw [l1] at hl; simp at hl
  unfold loadR
  rw [hs.r1, hent, if_neg (by simp), if_neg (by omega), if_neg (by omega), if_pos (by omega)]
theorem Gone.nomap (h : Gone s) (hI : RInv s) (hs : Sh s fb) {p : Nat} (hp : p ≤ 15) : mapR s 1 p 2 false 0 = (9, s) := by
  obtain ⟨-, -, h1, l1⟩ := h.rights hI
  have hlen : s.rights.length = 2 := by rw [h]; rfl
  have hx : rightE s 1 2 = (-1, 9) := by
    unfold rightE
    rw [hs.r1]
    have h2 : (1 : Int) ≤ 2 ∧ (2 : Int) ≤ s.rights.length := by omega
    have e2 : ((2 : Int) - 1) = ((1 : Nat) : Int) := rfl
    simp only [ne_eq, not_true_eq_false, if_false, if_pos h2, e2, Int.toNat_natCast, h1, l1, Bool.false_eq_true]
  unfold mapR
  rw [hs.r1, hx, if_neg (by simp), if_neg (by omega)]
  rfl
theorem Gone.map0 (h : Gone s) (hok : SOk s) (hH : HInv s) (hs : Sh s fb) {p : Nat} (hp : p ≤ 15) (hb : 1 ≤ fb) : ∃ t, mapR s 0 p 1 true 0 = (0, t) ∧ t.slots[0]? = some ⟨true, 0, p, 0, true⟩ ∧ t.bytes = s.bytes ∧ Sh t fb := by
  obtain ⟨h0, l0, -, -⟩ := h.rights hok.inv
  have hx : rightE s 0 1 = (((0 : Nat) : Int), (0 : Int)) := by simpa using rightE_ok hok.inv hH h0 l0
  obtain ⟨t, hm, hsl, hr, hby, hal, hne, hnf, hns, hkp2⟩ := map_done (env := 0) (page := p) (hd := 1) (slot := 0) (wt := true) hs.r0 hx h0 (fun _ => rfl) (by omega) (by omega) (by omega) (by rw [hs.ns]; omega) hok
  exact ⟨t, hm, hsl, hby, hs.of hal hne hns hnf hkp2⟩
end
end Go.Proofs.Ytinlkcmdbjcofab

/-
  'Shared' itself.
-/
namespace Go.Proofs.Ytinlkcmdbjcofab
open Go.RowKit
set_option linter.unusedVariables false
attribute [local go_sem ↓] Go.wp_at_zero Go.wp_at_succ

theorem by_of {s t : RSt} (h : t.bytes = s.bytes) (f a : Int) : byteAt t f a = byteAt s f a := by unfold byteAt; rw [h]

/-- What the law holds beside the machine: its config. -/
structure Kp (M : MT) (W1 : World) (m cB fa fb fc : Nat) (own : Nat → Nat × Nat) (s : RSt) (w : World) : Prop where
  st : St M W1 m 4 own s w
  cb : Blk w cB [.int .i64 fa, .int .i64 fb, .int .i64 fc] 27
  tc : (own cB).1 = 0
theorem Kp.next {M : MT} {W1 w w' : World} {m cB fa fb fc j : Nat} {own own' : Nat → Nat × Nat} {s s' : RSt} (h : Kp M W1 m cB fa fb fc own s w) (hst : St M W1 m j own' s' w') (ho : ∀ b, b < w.heap.size → own' b = own b) (hk : ∀ b, b < w.heap.size → (own b).1 ≠ 2 → w'.heap[b]? = w.heap[b]?) (hl : s'.rights.length ≤ 4) : Kp M W1 m cB fa fb fc own' s' w' :=
  ⟨hst.relen hl, h.cb.of (hk _ h.cb.lt (by rw [h.tc]; omega)), by rw [ho _ h.cb.lt]; exact h.tc⟩
theorem Kp.c1 {M : MT} {W1 w : World} {m cB fa fb fc : Nat} {own : Nat → Nat × Nat} {s : RSt} (h : Kp M W1 m cB fa fb fc own s w) : w.cell? ⟨cB, 1, none⟩ = some (.int .i64 fb) := (h.cb.cell 1).trans rfl
theorem Two.len {s : RSt} (h : Two s) : s.rights.length ≤ 4 := by rw [h]; simp
theorem Gone.len {s : RSt} (h : Gone s) : s.rights.length ≤ 4 := by rw [h]; simp

theorem St.any {M : MT} {w0 w : World} {m i : Nat} {own : Nat → Nat × Nat} {s : RSt} (h : St M w0 m i own s w) {N : Nat} (hN : i ≤ N) : St M w0 m N own s w := h.relen (Nat.le_trans h.len hN)

set_option maxHeartbeats 4000000 in
set_option maxRecDepth 100000 in
theorem sharedlaw_any {M : MT} (P : Api M) (x y z : Int) (hx0 : -9223372036854775808 ≤ x) (hx1 : x ≤ 9223372036854775807) (hy0 : -9223372036854775808 ≤ y) (hy1 : y ≤ 9223372036854775807) (hz0 : -9223372036854775808 ≤ z) (hz1 : z ≤ 9223372036854775807)
    (p q at_ val : Int) (p0 : -9223372036854775808 ≤ p) (p1 : p ≤ 9223372036854775807) (q0 : -9223372036854775808 ≤ q) (q1 : q ≤ 9223372036854775807) (a0 : -9223372036854775808 ≤ at_) (a1 : at_ ≤ 9223372036854775807) (v0 : -9223372036854775808 ≤ val) (v1 : val ≤ 9223372036854775807) (w : World) :
    Calls Try.prog 5 #[.agg #[.int .i64 x, .int .i64 y, .int .i64 z], .int .i64 p, .int .i64 q, .int .i64 at_, .int .i64 val] w fun e w' => e = .returned (.bool true) ∧ Below w.heap.size w w' := by
  have hbox := Blk.new w [.int .i64 x, .int .i64 y, .int .i64 z] 23
  have hbl0 : Below w.heap.size w (w.alloc (.cells #[.int .i64 x, .int .i64 y, .int .i64 z] 23)) := (Below.refl _ _).alloc (Nat.le_refl _) _
  go_enter Try.func5, Try.ntmps5
  go_wp2_with fail
  have hbox2 : Blk (w.alloc (.cells #[.int .i64 x, .int .i64 y, .int .i64 z] 23)) w.heap.size [.int .i64 x, .int .i64 y, .int .i64 z] 23 := hbox
  obtain ⟨W1, hW1⟩ : ∃ W1, w.alloc (.cells #[.int .i64 x, .int .i64 y, .int .i64 z] 23) = W1 := ⟨_, rfl⟩
  rw [hW1] at hbox2 hbl0 ⊢
  clear hbox hW1
  have hWs := hbox2.lt
  refine (built_any P x y z hx0 hx1 hy0 hy1 hz0 hz1 _).mono ?_
  rintro e w1 ⟨m, f, rfl, hb1, hm1⟩
  have hbx := hbox2.below hb1 hbox2.lt
  have e0 := hbx.cell 0
  have e1 := hbx.cell 1
  have e2 := hbx.cell 2
  simp at e0 e1 e2
  have hs1 := hb1.size
  go_wp2_with fail
  refine (config_any x y z hx0 hx1 hy0 hy1 hz0 hz1 _).mono ?_
  rintro e w2 ⟨rfl, hb2⟩
  have la := cfA_le x
  have lb := cfB_le y
  have lc := cfC_le z
  have la1 : 1 ≤ cfA x := by unfold cfA; omega
  have lb1 : 1 ≤ cfB y := by unfold cfB; omega
  have lc1 : 2 ≤ cfC z := by unfold cfC; omega
  obtain ⟨fa, hfa⟩ : ∃ v, cfA x = v := ⟨_, rfl⟩
  obtain ⟨fb, hfb⟩ : ∃ v, cfB y = v := ⟨_, rfl⟩
  obtain ⟨fc, hfc⟩ : ∃ v, cfC z = v := ⟨_, rfl⟩
  rw [hfa, hfb, hfc]
  rw [hfa] at la la1 hm1
  rw [hfb] at lb lb1 hm1
  rw [hfc] at lc lc1 hm1
  clear hfa hfb hfc hbx e0 e1 e2
  have hs2 := hb2.size
  have hbw2 : Below W1.heap.size W1 w2 := hb1.trans (hb2.mono hs1)
  obtain ⟨own0, hst0⟩ := St.fresh (NewF.of P hm1 (fun k _ h2 => hb2.block k h2) hs2) hbw2 la lb1 lb lc
  clear hm1 hb2 hb1
  obtain ⟨s1, ha1, hr1, hsl1, hal1, hne1, hnf1, hns1, hby1, hkp1⟩ := fresh_alloc (b := fb) la1 (env := 0) (by omega) (show (0 : Int) < (fc : Int) by omega)
  have hraw0 : rawE (RSt.fresh fa fb fc) 0 = 0 := fresh_raw (by omega) (by omega)
  have hraw1 : rawE (RSt.fresh fa fb fc) 1 = 0 := fresh_raw (by omega) (by omega)
  have hsh0 : Sh (RSt.fresh fa fb fc) fb := ⟨hraw0, hraw1, rfl, la1⟩
  have hsh1 : Sh s1 fb := hsh0.of hal1 (by rw [hne1]; rfl) (by rw [hns1]; rfl) (by rw [hnf1]; rfl) hkp1
  have HA1 : Hid (allocR (RSt.fresh fa fb fc) 0 = ((1, 0), s1)) := ha1
  obtain ⟨s0, hs0⟩ : ∃ s0, RSt.fresh fa fb fc = s0 := ⟨_, rfl⟩
  rw [hs0] at HA1 hst0
  clear hs0 ha1 hby1 hsl1 hal1 hne1 hnf1 hns1 hkp1 hraw0 hraw1 hsh0
  have hba : Below w2.heap.size w2 (w2.alloc (.cells #[.int .i64 fa, .int .i64 fb, .int .i64 fc] 27)) := (Below.refl _ _).alloc (Nat.le_refl _) _
  have hcx := Blk.new w2 [.int .i64 fa, .int .i64 fb, .int .i64 fc] 27
  have ht0 := hst0.top w2.heap.size (Nat.le_refl _)
  obtain ⟨cB, hcB⟩ : ∃ cB, w2.heap.size = cB := ⟨_, rfl⟩
  have hst := hst0.below P hba
  have ie0 : I64 0 := by unfold I64; omega
  have ie1 : I64 1 := by unfold I64; omega
  have ie2 : I64 2 := by unfold I64; omega
  go_wp2_with fail
  refine (pick_ex _ _ p0 p1 (by decide) (by decide) _).mono ?_
  rintro e w5 ⟨pa, hpa, rfl, hw5⟩
  subst w5
  go_wp2_with fail
  refine (pick_ex _ _ q0 q1 (by decide) (by decide) _).mono ?_
  rintro e w5 ⟨pb, hpb, rfl, hw5⟩
  subst w5
  go_wp2_with fail
  refine (pick_ex _ _ a0 a1 (by decide) (by decide) _).mono ?_
  rintro e w5 ⟨pi, hpi, rfl, hw5⟩
  subst w5
  go_wp2_with fail
  refine (pick_ex _ _ v0 v1 (by decide) (by decide) _).mono ?_
  rintro e w5 ⟨pv, hpv, rfl, hw5⟩
  subst w5
  have ipa : I64 (pa : Int) := ⟨by omega, by omega⟩
  have ipb : I64 (pb : Int) := ⟨by omega, by omega⟩
  have ipi : I64 (pi : Int) := ⟨by omega, by omega⟩
  have ipv : I64 (pv : Int) := ⟨by omega, by omega⟩
  have ifb : I64 ((fb : Int) - 1) := ⟨by omega, by omega⟩
  have hwb : IntKind.i64.wrap ((fb : Int) - 1) = (fb : Int) - 1 := by rw [IntKind.wrap_i64]; omega
  have hN := few_lit 4 (by omega)
  go_wp2_with fail
  refine (hst.alloc P (few_lit 0 (Nat.zero_le _)) 0 ie0).mono ?_
  rintro e w3 ⟨rfl, own3, hst3, ho3, hk3, hs3⟩
  rw [HA1.out] at hst3 ⊢
  simp only at hst3 ⊢
  have hc3 : Blk w3 cB [.int .i64 fa, .int .i64 fb, .int .i64 fc] 27 := by rw [← hcB]; exact hcx.of (hk3 _ hcx.lt (by rw [ht0]; omega))
  have ht3 : (own3 cB).1 = 0 := by rw [← hcB, ho3 _ hcx.lt]; exact ht0
  have kp3 : Kp M W1 m cB fa fb fc own3 s1 w3 := ⟨hst3.relen (by rw [hr1]; simp), hc3, ht3⟩
  obtain ⟨s2, hd2, two2, hb2, -, sh2⟩ := derive_one hr1 hst3.hok.inv hst3.hinv hsh1
  have HD : Hid (deriveR s1 0 1 1 false = ((2, 0), s2)) := hd2
  clear hd2 hst3 hc3 ht3 ho3 hk3 hs3 hst hst0 hcx ht0 hba HA1 hr1
  go_wp2_with fail
  refine (kp3.st.derive P hN 0 1 1 false ie0 ie1 ie1).mono ?_
  rintro e w4 ⟨rfl, own4, hst4, ho4, hk4, hs4⟩
  rw [HD.out] at hst4 ⊢
  simp only at hst4 ⊢
  have kp4 := kp3.next hst4 ho4 hk4 two2.len
  clear hst4 ho4 hk4 hs4 kp3 HD
  have HE : Hid (deriveR s2 1 2 0 true = ((0, 10), s2)) := two2.noderive kp4.st.hok.inv kp4.st.hinv sh2
  go_wp2_with fail
  refine (kp4.st.derive P hN 1 2 0 true ie1 ie2 ie0).mono ?_
  rintro e w5 ⟨rfl, own5, hst5, ho5, hk5, hs5⟩
  rw [HE.out] at hst5 ⊢
  simp only at hst5 ⊢
  have kp5 := kp4.next hst5 ho5 hk5 two2.len
  clear hst5 ho5 hk5 hs5 kp4 HE
  obtain ⟨s3, hm3, hsl3, two3, hb3, sh3⟩ := two2.map0 kp5.st.hok kp5.st.hinv sh2 (p := pa) (by omega) lb1
  have HM3 : Hid (mapR s2 0 pa 1 true 0 = (0, s3)) := hm3
  clear hm3
  go_wp2_with fail
  refine (kp5.st.map P hN 0 pa 1 true 0 ie0 ipa ie1 ie0).mono ?_
  rintro e w6 ⟨rfl, own6, hst6, ho6, hk6, hs6⟩
  rw [HM3.out] at hst6 ⊢
  simp only at hst6 ⊢
  have kp6 := kp5.next hst6 ho6 hk6 two3.len
  clear hst6 ho6 hk6 hs6 kp5 HM3
  have hst4 := store_at kp6.st.hok hsl3 rfl rfl sh3.r0 (a := pi) (v := pv) (by omega) (by omega) (by omega) (by omega)
  simp only at hst4
  have hb4 := byte_put kp6.st.hok (f := 0) (Int.le_refl 0) (by have := sh3.nf; omega) (a := pi) (b := pi) (v := pv) (by omega) (by omega) (by omega)
  rw [if_pos rfl] at hb4
  have two4 : Two (putByte s3 0 pi pv) := two3
  have sh4 : Sh (putByte s3 0 pi pv) fb := sh3.of rfl rfl rfl rfl rfl
  obtain ⟨s4, hs4⟩ : ∃ s4, putByte s3 0 pi pv = s4 := ⟨_, rfl⟩
  rw [hs4] at hst4 hb4 two4 sh4
  have HS4 : Hid (storeR s3 0 pa pi pv = (0, s4)) := hst4
  clear hst4 hs4 hsl3
  go_wp2_with fail
  refine (kp6.st.store P hN 0 pa pi pv ie0 ipa ipi ipv).mono ?_
  rintro e w7 ⟨rfl, own7, hst7, ho7, hk7, hs7⟩
  rw [HS4.out] at hst7 ⊢
  simp only at hst7 ⊢
  have kp7 := kp6.next hst7 ho7 hk7 two4.len
  clear hst7 ho7 hk7 hs7 kp6 HS4
  have HN4 : Hid (mapR s4 1 pb 2 true ((fb : Int) - 1) = (10, s4)) := two4.nomap kp7.st.hok.inv kp7.st.hinv sh4 (by omega) _
  have c7 := kp7.c1
  go_wp2_with fail
  refine (kp7.st.map P hN 1 pb 2 true ((fb : Int) - 1) ie1 ipb ie2 ifb).mono ?_
  rintro e w8 ⟨rfl, own8, hst8, ho8, hk8, hs8⟩
  rw [HN4.out] at hst8 ⊢
  simp only at hst8 ⊢
  have kp8 := kp7.next hst8 ho8 hk8 two4.len
  clear hst8 ho8 hk8 hs8 kp7 HN4
  obtain ⟨s5, hm5, hsl5, two5, hb5, sh5⟩ := two4.map1 kp8.st.hok kp8.st.hinv sh4 (p := pb) (by omega) lb1
  have HM5 : Hid (mapR s4 1 pb 2 false ((fb : Int) - 1) = (0, s5)) := hm5
  have c8 := kp8.c1
  clear hm5 c7
  go_wp2_with fail
  refine (kp8.st.map P hN 1 pb 2 false ((fb : Int) - 1) ie1 ipb ie2 ifb).mono ?_
  rintro e w9 ⟨rfl, own9, hst9, ho9, hk9, hs9⟩
  rw [HM5.out] at hst9 ⊢
  simp only at hst9 ⊢
  have kp9 := kp8.next hst9 ho9 hk9 two5.len
  clear hst9 ho9 hk9 hs9 kp8 HM5
  have hl5 := load_at kp9.st.hok hsl5 rfl sh5.r1 (a := pi) (by omega) (by omega)
  simp only at hl5
  rw [by_of hb5, hb4] at hl5
  have HL5 : Hid (loadR s5 1 pb pi = ((pv : Int), 0)) := hl5
  have hno5 := store_no kp9.st.hok hsl5 rfl rfl sh5.r1 (a := pi) (v := pv) (by omega) (by omega) (by omega) (by omega)
  simp only at hno5
  have HN5 : Hid (storeR s5 1 pb pi pv = (14, s5)) := hno5
  clear hl5 hno5 c8 hsl5
  go_wp2_with fail
  refine (kp9.st.load P hN 1 pb pi ie1 ipb ipi).mono ?_
  rintro e w10 ⟨rfl, own10, hst10, ho10, hk10, hs10⟩
  rw [HL5.out]
  have kp10 := kp9.next hst10 ho10 hk10 two5.len
  clear hst10 ho10 hk10 hs10 kp9 HL5
  go_wp2_with fail
  refine (kp10.st.store P hN 1 pb pi pv ie1 ipb ipi ipv).mono ?_
  rintro e w11 ⟨rfl, own11, hst11, ho11, hk11, hs11⟩
  rw [HN5.out] at hst11 ⊢
  simp only at hst11 ⊢
  have kp11 := kp10.next hst11 ho11 hk11 two5.len
  clear hst11 ho11 hk11 hs11 kp10 HN5
  obtain ⟨s6, hr6, gone6, hb6, sh6⟩ := two5.revoke kp11.st.hok.inv kp11.st.hinv sh5
  have HR6 : Hid (revokeR s5 0 1 = (0, s6)) := hr6
  clear hr6
  go_wp2_with fail
  refine (kp11.st.revoke P hN 0 1 ie0 ie1).mono ?_
  rintro e w12 ⟨rfl, own12, hst12, ho12, hk12, hs12⟩
  rw [HR6.out] at hst12 ⊢
  simp only at hst12 ⊢
  have kp12 := kp11.next hst12 ho12 hk12 gone6.len
  clear hst12 ho12 hk12 hs12 kp11 HR6
  have HL6 : Hid (loadR s6 1 pb pi = (0, 13)) := gone6.noload kp12.st.hok sh6 (by omega) (by omega)
  have HM6 : Hid (mapR s6 1 pb 2 false 0 = (9, s6)) := gone6.nomap kp12.st.hok.inv sh6 (by omega)
  go_wp2_with fail
  refine (kp12.st.load P hN 1 pb pi ie1 ipb ipi).mono ?_
  rintro e w13 ⟨rfl, own13, hst13, ho13, hk13, hs13⟩
  rw [HL6.out]
  have kp13 := kp12.next hst13 ho13 hk13 gone6.len
  clear hst13 ho13 hk13 hs13 kp12 HL6
  go_wp2_with fail
  refine (kp13.st.map P hN 1 pb 2 false 0 ie1 ipb ie2 ie0).mono ?_
  rintro e w14 ⟨rfl, own14, hst14, ho14, hk14, hs14⟩
  rw [HM6.out] at hst14 ⊢
  simp only at hst14 ⊢
  have kp14 := kp13.next hst14 ho14 hk14 gone6.len
  clear hst14 ho14 hk14 hs14 kp13 HM6
  obtain ⟨s7, hm7, hsl7, hb7, sh7⟩ := gone6.map0 kp14.st.hok kp14.st.hinv sh6 (p := pa) (by omega) lb1
  have hl7 : s7.rights.length ≤ 4 := by
    have h1 := (mapR_grows (s := s6) 0 pa 1 true 0).2.2.2.2.2
    rw [hm7] at h1
    have h2 : s6.rights.length = 2 := by rw [gone6]; rfl
    simp only at h1
    omega
  have HM7 : Hid (mapR s6 0 pa 1 true 0 = (0, s7)) := hm7
  clear hm7
  go_wp2_with fail
  refine (kp14.st.map P hN 0 pa 1 true 0 ie0 ipa ie1 ie0).mono ?_
  rintro e w15 ⟨rfl, own15, hst15, ho15, hk15, hs15⟩
  rw [HM7.out] at hst15 ⊢
  simp only at hst15 ⊢
  have kp15 := kp14.next hst15 ho15 hk15 hl7
  clear hst15 ho15 hk15 hs15 kp14 HM7
  have hl8 := load_at kp15.st.hok hsl7 rfl sh7.r0 (a := pi) (by omega) (by omega)
  simp only at hl8
  rw [by_of hb7, by_of hb6, by_of hb5, hb4] at hl8
  have HL8 : Hid (loadR s7 0 pa pi = ((pv : Int), 0)) := hl8
  clear hl8 hsl7
  go_wp2_with fail
  refine (kp15.st.load P hN 0 pa pi ie0 ipa ipi).mono ?_
  rintro e w16 ⟨rfl, own16, hst16, ho16, hk16, hs16⟩
  rw [HL8.out]
  have kp16 := kp15.next hst16 ho16 hk16 hl7
  clear hst16 ho16 hk16 hs16 kp15 HL8
  go_wp2_with fail
  go_ret
  exact ⟨rfl, hbl0.trans (kp16.st.bel.mono (Nat.le_of_lt hWs))⟩
end Go.Proofs.Ytinlkcmdbjcofab

namespace Go.Proofs.Ytinlkcmdbjcofab.shared
open Go.ChangeShapes Go.WideShapes Go.ChangeAt Go.RowKit
set_option linter.unusedVariables false

/-- A number, read as data. -/
theorem open_int {H : Type} {enc : TypeId × Value → H} {w : World} {n : Int} {x : DataW H × List MemPlace} (h : ∃ k, DataW.trod enc Try.prog w 0 (fun _ => true) true k 3 (Value.int .i64 n).cells.toList = some x) : Inr64 n := by
  obtain ⟨k, hk⟩ := h
  obtain ⟨a, g, _, z⟩ := DataW.trod_int Try.underlying3 hk
  simp [Value.cells] at g
  subst g
  exact inr64_of z

set_option maxRecDepth 100000 in
theorem lifted (os : Os) (started : os.Started) (H : Type) (enc : TypeId × Value → H) :
    ReturnsInHanded {} Try.checked os 5 .any (Rows.sharedSpec.pre6 enc Try.prog Try.f5 Rows.sharedRow.domain false) (Rows.sharedSpec.post enc Try.prog Try.f5 false true false false) := by
  refine returnsInHanded_of_change_sized (C := Try.checked) Try.own started (by kernel_rfl) Try.func5
    (ChangeSpec.witness6 (enc := enc) (C := Try.checked) false ⟨#[], #[.agg #[.int .i64 0, .int .i64 0, .int .i64 0], .int .i64 0, .int .i64 0, .int .i64 0, .int .i64 0], []⟩ 8 (by kernel_rfl) (by kernel_rfl) (by kernel_rfl) (by kernel_rfl)) ?_
  intro W base args ds gs before hval0 hW hcnd hsz _
  have hval : ∀ (j : Nat) t v, Try.f5.params[j]? = some t → args[j]? = some v → Value.okWide Try.prog W .any base t v := hval0
  have hW' := hW
  obtain ⟨p, q, hA0, hV, rfl, hfz, hnd⟩ := hW
  have hA : DataW.TrodAll enc Try.prog W 0 (fun _ => true) true Try.f5.params.toList args.toList ds p := hA0
  rw [Try.params5] at hA hval
  obtain ⟨v0, vs0, d0, ds0, p0, q0, hargs, rfl, rfl, h0, r0⟩ := trodAll_cons hA
  obtain ⟨v1, vs1, d1, ds1, p1, q1, hargs1, rfl, rfl, h1, r1⟩ := trodAll_cons r0
  obtain ⟨v2, vs2, d2, ds2, p2, q2, hargs2, rfl, rfl, h2, r2⟩ := trodAll_cons r1
  obtain ⟨v3, vs3, d3, ds3, p3, q3, hargs3, rfl, rfl, h3, r3⟩ := trodAll_cons r2
  obtain ⟨v4, vs4, d4, ds4, p4, q4, hargs4, rfl, rfl, h4, r4⟩ := trodAll_cons r3
  obtain ⟨rfl, rfl, rfl⟩ := trodAll_nil r4
  obtain rfl : args = #[v0, v1, v2, v3, v4] := by cases args; simp_all
  obtain ⟨rfl, rfl⟩ := trodVars_none hV
  obtain ⟨cs0, rfl, hcs⟩ := okWide_struct Try.underlying23 (hval 0 23 v0 rfl rfl)
  obtain ⟨n1, rfl⟩ := okWide_int Try.underlying3 (hval 1 3 v1 rfl rfl)
  obtain ⟨n2, rfl⟩ := okWide_int Try.underlying3 (hval 2 3 v2 rfl rfl)
  obtain ⟨n3, rfl⟩ := okWide_int Try.underlying3 (hval 3 3 v3 rfl rfl)
  obtain ⟨n4, rfl⟩ := okWide_int Try.underlying3 (hval 4 3 v4 rfl rfl)
  have k0 := h0
  have k1 := h1
  have k2 := h2
  have k3 := h3
  have k4 := h4
  have lt0 : ∀ x ∈ p0, x.block < W.heap.size := by obtain ⟨m, hm⟩ := k0; exact DataW.trod_lt m _ _ _ hm
  have lt1 : ∀ x ∈ p1, x.block < W.heap.size := by obtain ⟨m, hm⟩ := k1; exact DataW.trod_lt m _ _ _ hm
  have lt2 : ∀ x ∈ p2, x.block < W.heap.size := by obtain ⟨m, hm⟩ := k2; exact DataW.trod_lt m _ _ _ hm
  have lt3 : ∀ x ∈ p3, x.block < W.heap.size := by obtain ⟨m, hm⟩ := k3; exact DataW.trod_lt m _ _ _ hm
  have lt4 : ∀ x ∈ p4, x.block < W.heap.size := by obtain ⟨m, hm⟩ := k4; exact DataW.trod_lt m _ _ _ hm
  obtain ⟨fuel0, hf0⟩ := h0
  obtain ⟨x, y, z, hxyz, ix, iy, iz⟩ := open_size hf0
  obtain rfl : cs0 = #[.int .i64 x, .int .i64 y, .int .i64 z] := by
    have : cs0.toList = [.int .i64 x, .int .i64 y, .int .i64 z] := hxyz
    rw [← Array.toArray_toList (xs := cs0), this]
  have i1 := open_int h1
  have i2 := open_int h2
  have i3 := open_int h3
  have i4 := open_int h4
  clear hA0 hval0
  refine (sharedlaw_any api x y z ix.1 ix.2 iy.1 iy.2 iz.1 iz.2 n1 n2 n3 n4 i1.1 i1.2 i2.1 i2.2 i3.1 i3.2 i4.1 i4.2 W).mono fun e W' ⟨he, bel⟩ => ?_
  subst he
  exact ⟨_, rfl, _, _, _, [], _, [], hW', trodAll_mk1 (shut_bool Try.underlying4 _), (trodAll_cons_mk (Below.trod Try.laidOut (by kernel_rfl) (of_decide_eq_true (by kernel_rfl)) k0 bel lt0) (trodAll_cons_mk (Below.trod Try.laidOut (by kernel_rfl) (of_decide_eq_true (by kernel_rfl)) k1 bel lt1) (trodAll_cons_mk (Below.trod Try.laidOut (by kernel_rfl) (of_decide_eq_true (by kernel_rfl)) k2 bel lt2) (trodAll_cons_mk (Below.trod Try.laidOut (by kernel_rfl) (of_decide_eq_true (by kernel_rfl)) k3 bel lt3) (trodAll_cons_mk (Below.trod Try.laidOut (by kernel_rfl) (of_decide_eq_true (by kernel_rfl)) k4 bel lt4) trodAll_mk0))))), rfl, bel.frame _, fun h => by cases h⟩

theorem over : Rows.sharedRow.holds Try.pinned (OpenSpec.ofChange Rows.sharedSpec) :=
  OpenClaim.holds_of_wide 5 Try.f5 rfl rfl rfl rfl rfl rfl rfl ⟨rfl, rfl, rfl, rfl, rfl⟩ rfl rfl rfl rfl rfl (by kernel_rfl) Try.func5 (by kernel_rfl)
    (of_decide_eq_true (by kernel_rfl)) (by unfold Func.isWrapper; first | (rw [if_pos (by decide +kernel)]; kernel_rfl) | (rw [if_neg (by decide +kernel)]; exact ⟨rfl, rfl⟩))
    (fun os started H enc _ => lifted os started H enc)

end Go.Proofs.Ytinlkcmdbjcofab.shared

namespace Go.Proofs.Ytinlkcmdbjcofab
theorem shared_holds : Rows.SharedSaid := shared.over
end Go.Proofs.Ytinlkcmdbjcofab
