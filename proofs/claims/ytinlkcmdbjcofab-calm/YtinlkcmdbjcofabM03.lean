import Derived.Test.YtinlkcmdbjcofabM02
/-
  What the document's machine keeps to where environments are kept; each of the earlier calls keeps it.
-/
namespace Go.Proofs.Ytinlkcmdbjcofab
open Go.RowKit
set_option linter.unusedVariables false

/-- The lengths of a kept memory, and its counts. (While a page comes in: x is the page, n one more than the accesses; else -1 and the accesses.) -/
structure KLen0 (k : KSt) (x : Int) (n : Nat) : Prop where
  by_ : k.bytes.length = 64
  hnd : k.hnd.length = 16
  chg : k.chg.length = 16
  dty : k.dty.length = 16
  out : k.out.length = 16
  r0 : 0 ≤ k.refills
  r1 : k.refills ≤ k.uses.length
  i0 : 0 ≤ k.ins
  i1 : k.ins ≤ n
  o0 : 0 ≤ k.outs
  o1 : k.outs + k.chg.count true ≤ k.uses.length
  q0 : 1 ≤ k.quota
  q1 : k.quota ≤ 16
  p0 : 0 ≤ k.policy
  p1 : k.policy ≤ 2
  nod : k.inp.Nodup
  pg : ∀ p, p ∈ k.inp → 0 ≤ p ∧ p < 16
  met : ∀ p, p ∈ k.inp → p ≠ x → ∃ u, u ∈ k.uses ∧ u.1 = p
  chi : ∀ p : Nat, k.chg[p]? = some true → (p : Int) ∈ k.inp
  val : ∀ x, x ∈ k.bytes → 0 ≤ x ∧ x ≤ 255

/-- The page p of environment i lies in the frame of right j. -/
def Lies (s : RSt) (i : Nat) (k : KSt) (p : Int) (j : Nat) : Prop := k.hnd[p.toNat]? = some ((j : Int) + 1) ∧ ∃ r, s.rights[j]? = some r ∧ lv s.rights j = true ∧ r.env = i ∧ r.frm < 0 ∧ r.wr = true

structure KOk1 (s : RSt) (i : Nat) (k : KSt) (x : Int) (n : Nat) : Prop where
  alv : aliveB s i = true
  len : KLen0 k x n
  hr : ∀ p, p ∈ k.inp → ∃ j, Lies s i k p j
  inj : ∀ p q, p ∈ k.inp → q ∈ k.inp → k.hnd[p.toNat]? = k.hnd[q.toNat]? → p = q
  all : ∀ (j : Nat) (r : RR), s.rights[j]? = some r → lv s.rights j = true → r.env = i → ∃ p, p ∈ k.inp ∧ k.hnd[p.toNat]? = some ((j : Int) + 1)

structure KOk (s : RSt) : Prop where
  k1 : ∀ (i : Nat) (k : KSt), s.kept[i]? = some (some k) → KOk1 s i k (-1) k.uses.length
  klen : s.kept.length = s.ne
  t0 : 0 ≤ s.turn
  t1 : s.turn < s.ns
  der : ∀ (i : Nat) (r q : RR), s.rights[i]? = some r → lv s.rights i = true → 0 ≤ r.frm → s.rights[r.frm.toNat]? = some q → keptB s q.env = false

theorem kok_fresh (a b c : Nat) (hb : 1 ≤ b) : KOk (RSt.fresh a b c) := by
  refine ⟨fun i k h => ?_, by simp [RSt.fresh], by simp [RSt.fresh], by simp [RSt.fresh]; omega, fun i r q h => by simp [RSt.fresh] at h⟩
  simp [RSt.fresh, List.getElem?_replicate] at h

theorem keptB_at {s : RSt} {i : Nat} {k : KSt} (h : s.kept[i]? = some (some k)) : keptB s i = true := by
  unfold keptB keptO
  simp [h]
theorem keptO_at {s : RSt} {i : Nat} {k : KSt} (h : s.kept[i]? = some (some k)) : keptO s i = some k := by
  unfold keptO
  simp [h]
theorem keptO_get {s : RSt} {i : Nat} {k : KSt} (h : keptO s i = some k) : s.kept[i]? = some (some k) := by
  unfold keptO at h
  simp only [Int.toNat_natCast] at h
  cases hx : s.kept[i]? with
  | none => rw [hx] at h; simp at h
  | some x => rw [hx] at h; simp at h; rw [h]
theorem raw_no {s : RSt} {env : Int} (h : rawE s env = 0) : aliveB s env = true ∧ keptB s env = false := by
  unfold rawE at h
  cases ha : aliveB s env with
  | false => rw [ha] at h; simp at h
  | true =>
    rw [ha] at h
    cases hk : keptB s env with
    | false => exact ⟨rfl, rfl⟩
    | true => rw [hk] at h; simp at h
/-- The right that a call names, where it names one: its environment is raw. -/
theorem rightE_raw {s : RSt} {env hd : Int} (h : (rightE s env hd).2 = 0) : ∃ (j : Nat) (r : RR), rightE s env hd = ((j : Int), 0) ∧ s.rights[j]? = some r ∧ hd = j + 1 ∧ r.env = env ∧ lv s.rights j = true ∧ aliveB s env = true ∧ keptB s env = false := by
  have hraw : rawE s env = 0 := by
    by_cases hz : rawE s env = 0
    · exact hz
    · exfalso
      unfold rightE at h
      rw [if_pos hz] at h
      exact hz h
  rcases rightE_cases s env hd with ⟨x, hx, hv⟩ | ⟨j, r, h1, h2, h3, h4, h5, h6⟩
  · rw [hx] at h
    simp only at h
    omega
  · exact ⟨j, r, h1, h2, h3, h4, h5, h6, (raw_no hraw).2⟩
theorem lv_first {rs : List RR} (ho : Ordered rs) {j : Nat} {r : RR} (hr : rs[j]? = some r) (hf : r.frm < 0) : lv rs j = !r.ended := by
  rw [lv_step ho hr, lv_neg hf]; simp

section
variable {s t : RSt} {i : Nat} {k : KSt} {y : Int} {n : Nat}

theorem KOk1.same (h : KOk1 s i k y n) (hr : t.rights = s.rights) (ha : aliveB t i = true) : KOk1 t i k y n := by
  refine ⟨ha, h.len, ?_, h.inj, ?_⟩
  · unfold Lies; rw [hr]; exact h.hr
  · rw [hr]; exact h.all
theorem KOk1.add (h : KOk1 s i k y n) (ho : Ordered s.rights) {x : RR} (hr : t.rights = s.rights ++ [x]) (ha : aliveB t i = true) (hx : x.env ≠ i) : KOk1 t i k y n := by
  refine ⟨ha, h.len, fun p hp => ?_, h.inj, fun j r hj hl he => ?_⟩
  · obtain ⟨j, h1, r, h2, h3, h4⟩ := h.hr p hp
    have := (List.getElem?_eq_some_iff.1 h2).1
    exact ⟨j, h1, r, by rw [hr, List.getElem?_append_left this]; exact h2, by rw [hr, lv_append ho x (by omega)]; exact h3, h4⟩
  · rw [hr] at hj hl
    rcases getApp hj with hj | ⟨-, rfl⟩
    · have := (List.getElem?_eq_some_iff.1 hj).1
      rw [lv_append ho x (by omega)] at hl
      exact h.all j r hj hl he
    · exact absurd he hx
theorem KOk1.mark (h : KOk1 s i k y n) (ho : Ordered s.rights) (P : Nat → Bool) (hr : t.rights = markAt P s.rights) (ha : aliveB t i = true)
    (hP : ∀ (j : Nat) (r : RR), s.rights[j]? = some r → lv s.rights j = true → r.env = i → r.frm < 0 → P j = false) : KOk1 t i k y n := by
  refine ⟨ha, h.len, fun p hp => ?_, h.inj, fun j r hj hl he => ?_⟩
  · obtain ⟨j, h1, r, h2, h3, h4, h5, h6⟩ := h.hr p hp
    have hPj := hP j r h2 h3 h4 h5
    refine ⟨j, h1, r, by rw [hr, markAt_get, h2, hPj]; rfl, ?_, h4, h5, h6⟩
    rw [hr, lv_mark ho P h2, hPj, lv_neg h5]
    rw [lv_first ho h2 h5] at h3
    simpa using h3
  · rw [hr] at hj hl
    rw [markAt_get] at hj
    cases hx : s.rights[j]? with
    | none => rw [hx] at hj; simp at hj
    | some x =>
      have hjl := (List.getElem?_eq_some_iff.1 hx).1
      have hlx := lv_mark_le ho P (j + 1) j (by omega) (by omega) hl
      rw [hx] at hj
      simp only [Option.map_some, Option.some.injEq] at hj
      have hxe : x.env = r.env := by rw [← hj]; split <;> rfl
      exact h.all j x hx hlx (by rw [hxe]; exact he)

theorem KOk.same (h : KOk s) (hr : t.rights = s.rights) (hk : t.kept = s.kept) (ha : ∀ e, aliveB s e = true → aliveB t e = true) (hn : t.ne = s.ne) (ht : t.turn = s.turn) (hs : t.ns = s.ns) : KOk t := by
  refine ⟨fun i k hi => ?_, by rw [hk, hn]; exact h.klen, by rw [ht]; exact h.t0, by rw [ht, hs]; exact h.t1, fun i r q h1 h2 h3 h4 => ?_⟩
  · rw [hk] at hi
    exact (h.k1 i k hi).same hr (ha _ (h.k1 i k hi).alv)
  · rw [hr] at h1 h2 h4
    have := h.der i r q h1 h2 h3 h4
    unfold keptB keptO at *
    rw [hk]; exact this
theorem KOk.add (h : KOk s) (hI : RInv s) {x : RR} (hr : t.rights = s.rights ++ [x]) (hk : t.kept = s.kept) (ha : t.alive = s.alive) (hn : t.ne = s.ne) (ht : t.turn = s.turn) (hs : t.ns = s.ns) (hx0 : 0 ≤ x.env) (hx : keptB s x.env = false)
    (hp : 0 ≤ x.frm → x.frm < s.rights.length ∧ ∀ q, s.rights[x.frm.toNat]? = some q → keptB s q.env = false) : KOk t := by
  have hal : ∀ e, aliveB t e = aliveB s e := fun e => by unfold aliveB; rw [ha, hn]
  refine ⟨fun i k hi => ?_, by rw [hk, hn]; exact h.klen, by rw [ht]; exact h.t0, by rw [ht, hs]; exact h.t1, fun i r q h1 h2 h3 h4 => ?_⟩
  · rw [hk] at hi
    refine (h.k1 i k hi).add hI.ord hr (by rw [hal]; exact (h.k1 i k hi).alv) (fun e => ?_)
    rw [e, keptB_at hi] at hx
    simp at hx
  · have hkb : ∀ e, keptB t e = keptB s e := fun e => by unfold keptB keptO; rw [hk]
    rw [hkb]
    rw [hr] at h1 h2 h4
    rcases getApp h1 with h1 | ⟨-, rfl⟩
    · have hi := (List.getElem?_eq_some_iff.1 h1).1
      rw [lv_append hI.ord x (by omega)] at h2
      have ho := hI.ord i r h1
      rw [List.getElem?_append_left (by omega)] at h4
      exact h.der i r q h1 h2 h3 h4
    · obtain ⟨p1, p2⟩ := hp h3
      rw [List.getElem?_append_left (by omega)] at h4
      exact p2 q h4
theorem KOk.mark (h : KOk s) (hI : RInv s) (P : Nat → Bool) (hr : t.rights = markAt P s.rights) (hkl : t.kept.length = s.kept.length) (hn : t.ne = s.ne) (ht : t.turn = s.turn) (hs : t.ns = s.ns)
    (hk : ∀ (i : Nat) (k : KSt), t.kept[i]? = some (some k) → s.kept[i]? = some (some k) ∧ aliveB t i = true ∧ ∀ (j : Nat) (r : RR), s.rights[j]? = some r → lv s.rights j = true → r.env = i → r.frm < 0 → P j = false) : KOk t := by
  refine ⟨fun i k hi => ?_, by rw [hkl, hn]; exact h.klen, by rw [ht]; exact h.t0, by rw [ht, hs]; exact h.t1, fun i r q h1 h2 h3 h4 => ?_⟩
  · obtain ⟨a, b, c⟩ := hk i k hi
    exact (h.k1 i k a).mark hI.ord P hr b c
  · rw [hr] at h1 h2 h4
    rw [markAt_get] at h1 h4
    cases hx : s.rights[i]? with
    | none => rw [hx] at h1; simp at h1
    | some x =>
      have hjl := (List.getElem?_eq_some_iff.1 hx).1
      have hlx := lv_mark_le hI.ord P (i + 1) i (by omega) (by omega) h2
      rw [hx] at h1
      simp only [Option.map_some, Option.some.injEq] at h1
      have hxf : x.frm = r.frm := by rw [← h1]; split <;> rfl
      cases hy : s.rights[r.frm.toNat]? with
      | none => rw [hy] at h4; simp at h4
      | some y =>
        rw [hy] at h4
        simp only [Option.map_some, Option.some.injEq] at h4
        have hye : y.env = q.env := by rw [← h4]; split <;> rfl
        have hd := h.der i x y hx hlx (by rw [hxf]; exact h3) (by rw [hxf]; exact hy)
        rw [hye] at hd
        cases hkt : keptB t q.env with
        | false => rfl
        | true =>
          obtain ⟨k, hk2⟩ := Option.isSome_iff_exists.1 hkt
          have hq0 := hI.env _ y hy
          obtain ⟨e, he⟩ : ∃ e : Nat, q.env = e := ⟨q.env.toNat, by omega⟩
          rw [he] at hk2 hd
          have := keptB_at (hk e k (keptO_get hk2)).1
          rw [this] at hd
          simp at hd

theorem KOk.alloc (h : KOk s) (hI : RInv s) (env : Int) : KOk (allocR s env).2 := by
  unfold allocR
  by_cases hr : rawE s env = 0
  · obtain ⟨ha, hk⟩ := raw_no hr
    rw [hr]
    simp only [ne_eq, not_true_eq_false, if_false]
    unfold firstS
    cases hl : leastFree s with
    | none => exact h
    | some f =>
      simp only
      by_cases hc : cnt s.rights < 32
      · rw [if_pos hc]
        exact h.add hI (x := ⟨s.rights.length + 1, env, f, true, -1, false⟩) rfl rfl rfl rfl rfl rfl (aliveB_range ha).1 hk (fun h => by simp at h)
      · rw [if_neg hc]; exact h
  · rw [if_pos hr]; exact h
theorem KOk.derive (h : KOk s) (hI : RInv s) (env hd te : Int) (wt : Bool) : KOk (deriveR s env hd te wt).2 := by
  unfold deriveR
  by_cases h0 : (rightE s env hd).2 = 0
  · obtain ⟨j, r, h1, h2, h3, h4, h5, h6, h7⟩ := rightE_raw h0
    have hj := (List.getElem?_eq_some_iff.1 h2).1
    rw [h1]
    simp only [ne_eq, not_true_eq_false, if_false, Int.toNat_natCast, h2]
    by_cases ht : rawE s te = 0
    · obtain ⟨ha, hk⟩ := raw_no ht
      rw [ht]
      simp only [not_true_eq_false, if_false]
      cases (wt && !r.wr) with
      | true => exact h
      | false =>
        simp only [Bool.false_eq_true, if_false]
        by_cases hc : 32 ≤ cnt s.rights
        · rw [if_pos hc]; exact h
        · rw [if_neg hc]
          refine h.add hI (x := ⟨s.rights.length + 1, te, r.fr, wt, j, false⟩) rfl rfl rfl rfl rfl rfl (aliveB_range ha).1 hk (fun _ => ⟨by show (j : Int) < _; omega, fun q hq => ?_⟩)
          simp only [Int.toNat_natCast, h2, Option.some.injEq] at hq
          subst hq
          rw [h4]; exact h7
    · rw [if_pos ht]; exact h
  · rw [if_pos h0]; exact h
theorem KOk.revoke (h : KOk s) (hI : RInv s) (env hd : Int) : KOk (revokeR s env hd).2 := by
  unfold revokeR
  by_cases h0 : (rightE s env hd).2 = 0
  · obtain ⟨j, r, h1, h2, h3, h4, h5, h6, h7⟩ := rightE_raw h0
    rw [if_neg (by rw [h0]; simp)]
    refine h.mark hI _ (by simp only [sweepS, endIf]; exact mark_map _ _) rfl rfl rfl rfl (fun i k hi => ⟨hi, (h.k1 i k hi).alv, fun j' r' a b c d => ?_⟩)
    simp only [a, Option.map_some, Option.getD_some, h1]
    simp; omega
  · rw [if_pos h0]; exact h
theorem KOk.drop (h : KOk s) (hI : RInv s) (env hd : Int) : KOk (dropR s env hd).2 := by
  unfold dropR
  by_cases h0 : (rightE s env hd).2 = 0
  · obtain ⟨j, r, h1, h2, h3, h4, h5, h6, h7⟩ := rightE_raw h0
    rw [h1]
    simp only [ne_eq, not_true_eq_false, if_false, Int.toNat_natCast, h2]
    refine h.mark hI _ (by simp only [sweepS]; exact mark_set _ _ _ h2) rfl rfl rfl rfl (fun i k hi => ⟨hi, (h.k1 i k hi).alv, fun j' r' a b c d => ?_⟩)
    have hne : j' ≠ j := fun e => by
      rw [e, h2] at a
      simp at a
      rw [← a, h4] at c
      have hi' : s.kept[i]? = some (some k) := hi
      rw [c, keptB_at hi'] at h7
      simp at h7
    simpa using hne
  · rw [if_pos h0]; exact h
theorem KOk.kill (h : KOk s) (hI : RInv s) (env : Int) : KOk (killR s env).2 := by
  unfold killR
  split
  · rename_i hal
    have hrg := aliveB_range hal
    obtain ⟨e, rfl⟩ : ∃ e : Nat, env = e := ⟨env.toNat, by omega⟩
    refine h.mark hI _ (by simp only [sweepS, endIf]; exact mark_map _ _) (by simp [sweepS, endIf]) rfl rfl rfl (fun i k hi => ?_)
    simp only [sweepS, endIf, Int.toNat_natCast] at hi
    rw [List.getElem?_set] at hi
    split at hi
    · split at hi <;> simp at hi
    · rename_i hne
      refine ⟨hi, ?_, fun j' r' a b c d => ?_⟩
      · have := (h.k1 i k hi).alv
        simp only [aliveB, sweepS, endIf, Int.toNat_natCast] at this ⊢
        rw [List.getElem?_set_ne hne]
        exact this
      · simp only [a, Option.map_some, Option.getD_some]
        simp; omega
  · exact h
theorem KOk.spawn (h : KOk s) (env : Int) : KOk (spawnR s env).2 := by
  unfold spawnR
  split
  · exact h
  · split
    · exact h
    · refine h.same rfl rfl (fun e he => ?_) rfl rfl rfl
      simp only [aliveB] at he ⊢
      simp only [Bool.and_eq_true] at he ⊢
      refine ⟨he.1, he.2.1, ?_⟩
      rw [List.getElem?_set]
      split
      · split
        · rfl
        · rename_i h1 h2
          rw [← h1] at he
          rw [List.getElem?_eq_none (by omega)] at he
          simp at he
      · exact he.2.2
theorem KOk.unmap (h : KOk s) (env page : Int) : KOk (unmapR s env page).2 := by
  unfold unmapR
  repeat' split
  all_goals first | exact h | exact h.same rfl rfl (fun _ h => h) rfl rfl rfl
theorem KOk.map (h : KOk s) (env page hd : Int) (wt : Bool) (slot : Int) : KOk (mapR s env page hd wt slot).2 := by
  unfold mapR
  repeat' split
  all_goals first | exact h | exact h.same rfl rfl (fun _ h => h) rfl rfl rfl
theorem KOk.store (h : KOk s) (env page a v : Int) : KOk (storeR s env page a v).2 := by
  unfold storeR
  repeat' split
  all_goals first | exact h | exact h.same rfl rfl (fun _ h => h) rfl rfl rfl

/-! ### All together -/
theorem HInv0.same_rights (h : HInv0 s) (h1 : t.rights = s.rights) (ha : ∀ e, aliveB s e = true → aliveB t e = true) : HInv0 t := by
  refine ⟨?_, ?_, ?_⟩
  · rw [h1]; exact h.one
  · rw [h1]; exact h.same
  · rw [h1]; intro i r hr hl; exact ha _ (h.alv i r hr hl)
theorem HInv0.map (h : HInv0 s) (env page hd : Int) (wt : Bool) (slot : Int) : HInv0 (mapR s env page hd wt slot).2 := by
  unfold mapR
  repeat' split
  all_goals first | exact h | exact h.same_rights rfl (fun _ h => h)
theorem HInv0.unmap (h : HInv0 s) (env page : Int) : HInv0 (unmapR s env page).2 := by
  unfold unmapR
  repeat' split
  all_goals first | exact h | exact h.same_rights rfl (fun _ h => h)
theorem HInv0.store (h : HInv0 s) (env page a v : Int) : HInv0 (storeR s env page a v).2 := by
  unfold storeR
  repeat' split
  all_goals first | exact h | exact h.same_rights rfl (fun _ h => h)
end

structure SOk (s : RSt) : Prop extends SOk0 s where
  hin : HInv0 s
  kok : KOk s
theorem sok_fresh {a b c : Nat} (ha : a ≤ 16) (hb0 : 1 ≤ b) (hb : b ≤ 8) (hc : c ≤ 4) : SOk (RSt.fresh a b c) := ⟨sok0_fresh ha hb hc, hinv0_fresh a b c, kok_fresh a b c hb0⟩
section
variable {s : RSt}
theorem SOk.alloc (h : SOk s) (env : Int) : SOk (allocR s env).2 := ⟨h.toSOk0.alloc env, h.hin.alloc h.inv env, h.kok.alloc h.inv env⟩
theorem SOk.derive (h : SOk s) (env hd te : Int) (wt : Bool) : SOk (deriveR s env hd te wt).2 := ⟨h.toSOk0.derive env hd te wt, h.hin.derive h.inv env hd te wt, h.kok.derive h.inv env hd te wt⟩
theorem SOk.revoke (h : SOk s) (env hd : Int) : SOk (revokeR s env hd).2 := ⟨h.toSOk0.revoke env hd, h.hin.revoke h.inv env hd, h.kok.revoke h.inv env hd⟩
theorem SOk.drop (h : SOk s) (env hd : Int) : SOk (dropR s env hd).2 := ⟨h.toSOk0.drop env hd, h.hin.drop h.inv env hd, h.kok.drop h.inv env hd⟩
theorem SOk.kill (h : SOk s) (env : Int) : SOk (killR s env).2 := ⟨h.toSOk0.kill env, h.hin.kill h.inv env, h.kok.kill h.inv env⟩
theorem SOk.spawn (h : SOk s) (env : Int) : SOk (spawnR s env).2 := ⟨h.toSOk0.spawn env, h.hin.spawn env, h.kok.spawn env⟩
theorem SOk.map (h : SOk s) (env page hd : Int) (wt : Bool) (slot : Int) : SOk (mapR s env page hd wt slot).2 := ⟨h.toSOk0.map env page hd wt slot, h.hin.map env page hd wt slot, h.kok.map env page hd wt slot⟩
theorem SOk.unmap (h : SOk s) (env page : Int) : SOk (unmapR s env page).2 := ⟨h.toSOk0.unmap env page, h.hin.unmap env page, h.kok.unmap env page⟩
theorem SOk.store (h : SOk s) (env page a v : Int) : SOk (storeR s env page a v).2 := ⟨h.toSOk0.store env page a v, h.hin.store env page a v, h.kok.store env page a v⟩
end
end Go.Proofs.Ytinlkcmdbjcofab

/-
  Kept memories: the page that goes out; a page that comes in; an access.
-/
namespace Go.Proofs.Ytinlkcmdbjcofab
open Go.RowKit
set_option linter.unusedVariables false

theorem pigeonI : ∀ (l m : List Int), l.Nodup → (∀ x, x ∈ l → x ∈ m) → l.length ≤ m.length := by
  intro l
  induction l with
  | nil => intro m _ _; simp
  | cons x xs ih =>
    intro m hn hs
    have hx : x ∈ m := hs x (by simp)
    rw [List.nodup_cons] at hn
    have := ih (m.erase x) hn.2 (fun y hy => by
      have hne : y ≠ x := fun e => hn.1 (e ▸ hy)
      exact (List.mem_erase_of_ne hne).2 (hs y (by simp [hy])))
    rw [List.length_erase_of_mem hx] at this
    have hpos := List.length_pos_of_mem hx
    simp
    omega
theorem KLen0.inpL {k : KSt} {x : Int} {n : Nat} (h : KLen0 k x n) : k.inp.length ≤ 16 := by
  have := pigeonI k.inp ((List.range 16).map Int.ofNat) h.nod (fun p hp => by
    have := h.pg p hp
    exact List.mem_map.2 ⟨p.toNat, List.mem_range.2 (by omega), by simp; omega⟩)
  simpa using this
theorem KLen0.full {k : KSt} {x : Int} {n : Nat} (h : KLen0 k x n) (hn : n ≤ k.uses.length) (hu : (k.uses.length + 2) * 48 ≤ 140737488355328) : KLen k := by
  have o1 := h.o1
  have i1 := h.i1
  exact ⟨h.by_, h.inpL, h.hnd, h.chg, h.dty, h.out, hu, h.r0, h.r1, h.i0, by omega, h.o0, by omega⟩

theorem hasK_iff {k : KSt} {p : Int} : hasK k p = true ↔ p ∈ k.inp := by
  unfold hasK
  rw [List.any_eq_true]
  constructor
  · rintro ⟨x, hx, h⟩
    rw [← eq_of_beq h]; exact hx
  · intro h
    exact ⟨p, h, by simp⟩
theorem anyI_iff {l : List Int} {p : Int} : anyI l p = true ↔ p ∈ l := by
  unfold anyI
  rw [List.any_eq_true]
  constructor
  · rintro ⟨x, hx, h⟩
    rw [← eq_of_beq h]; exact hx
  · intro h
    exact ⟨p, h, by simp⟩
theorem met_mem (k : KSt) (p : Int) : ∀ (L acc : List Int), p ∈ L.foldl (metStep k) acc ↔ p ∈ acc ∨ (p ∈ L ∧ p ∈ k.inp) := by
  intro L
  induction L with
  | nil => intro acc; simp
  | cons x L ih =>
    intro acc
    rw [List.foldl_cons, ih]
    unfold metStep
    cases h1 : hasK k x with
    | false =>
      have : x ∉ k.inp := fun e => by rw [hasK_iff.2 e] at h1; simp at h1
      simp only [Bool.false_and, Bool.false_eq_true, if_false, List.mem_cons]
      constructor
      · rintro (h | h)
        · exact .inl h
        · exact .inr ⟨.inr h.1, h.2⟩
      · rintro (h | ⟨rfl | h, h2⟩)
        · exact .inl h
        · exact absurd h2 this
        · exact .inr ⟨h, h2⟩
    | true =>
      have hx := hasK_iff.1 h1
      cases h2 : anyI acc x with
      | true =>
        have := anyI_iff.1 h2
        simp only [Bool.not_true, Bool.and_false, Bool.false_eq_true, if_false, List.mem_cons]
        constructor
        · rintro (h | h)
          · exact .inl h
          · exact .inr ⟨.inr h.1, h.2⟩
        · rintro (h | ⟨rfl | h, h2⟩)
          · exact .inl h
          · exact .inl this
          · exact .inr ⟨h, h2⟩
      | false =>
        simp only [Bool.not_false, Bool.and_true, if_true, List.mem_append, List.mem_cons, List.not_mem_nil, or_false]
        constructor
        · rintro ((h | h) | h)
          · exact .inl h
          · exact .inr ⟨.inl h, h ▸ hx⟩
          · exact .inr ⟨.inr h.1, h.2⟩
        · rintro (h | ⟨h | h, h2⟩)
          · exact .inl (.inl h)
          · exact .inl (.inr h)
          · exact .inr ⟨h, h2⟩
theorem metFrom_mem {k : KSt} {p : Int} : p ∈ metFrom k 0 ↔ p ∈ k.inp ∧ ∃ u, u ∈ k.uses ∧ u.1 = p := by
  unfold metFrom
  rw [met_mem]
  simp only [List.drop_zero, List.not_mem_nil, false_or, List.mem_map, List.mem_reverse]
  constructor
  · rintro ⟨h1, h2⟩; exact ⟨h2, h1⟩
  · rintro ⟨h1, h2⟩; exact ⟨h2, h1⟩
theorem pick_mem {k : KSt} (hne : 0 < k.inp.length) (hmet : ∀ p, p ∈ k.inp → ∃ u, u ∈ k.uses ∧ u.1 = p) : pickK k ∈ k.inp ∧ 1 ≤ (metFrom k 0).length := by
  obtain ⟨p0, hp0⟩ : ∃ p, k.inp[0]? = some p := ⟨k.inp[0], by simp⟩
  have hm0 : p0 ∈ k.inp := List.mem_of_getElem? hp0
  have hpos : 0 < (metFrom k 0).length := List.length_pos_of_mem (metFrom_mem.2 ⟨hm0, hmet p0 hm0⟩)
  refine ⟨?_, hpos⟩
  unfold pickK
  split
  · rw [hp0]; exact hm0
  · split
    · rw [List.getElem?_eq_getElem hpos]
      exact (metFrom_mem.1 (List.getElem_mem hpos)).1
    · have hl : (metFrom k 0).length - 1 < (metFrom k 0).length := by omega
      rw [List.getElem?_eq_getElem hl]
      exact (metFrom_mem.1 (List.getElem_mem hl)).1

section
variable {s t : RSt} {env : Nat} {k k' : KSt}

theorem keptB_set (hO : s.kept[env]? = some (some k)) (hk : t.kept = s.kept.set env (some k')) (e : Int) : keptB t e = keptB s e := by
  unfold keptB keptO
  rw [hk, List.getElem?_set]
  split
  · rename_i h
    rw [← h, hO]
    split
    · rfl
    · rename_i h2
      exact absurd (List.getElem?_eq_some_iff.1 hO).1 h2
  · rfl
theorem kept_set {i : Nat} {k2 : KSt} (hk : t.kept = s.kept.set env (some k')) (h : t.kept[i]? = some (some k2)) : (i = env ∧ k2 = k') ∨ (i ≠ env ∧ s.kept[i]? = some (some k2)) := by
  rw [hk, List.getElem?_set] at h
  split at h
  · rename_i e
    split at h
    · simp at h; exact .inl ⟨e.symm, h.symm⟩
    · simp at h
  · rename_i e
    exact .inr ⟨fun e2 => e e2.symm, h⟩

/-- One kept memory has turned. -/
theorem KOk.put (h : KOk s) (hO : s.kept[env]? = some (some k)) (hr : t.rights = s.rights) (hk : t.kept = s.kept.set env (some k')) (ha : t.alive = s.alive) (hn : t.ne = s.ne) (t0 : 0 ≤ t.turn) (t1 : t.turn < t.ns) (h1 : KOk1 t env k' (-1) k'.uses.length) : KOk t := by
  have hal : ∀ e, aliveB t e = aliveB s e := fun e => by unfold aliveB; rw [ha, hn]
  refine ⟨fun i k2 hi => ?_, by rw [hk, List.length_set, hn]; exact h.klen, t0, t1, fun i r q a b c d => ?_⟩
  · rcases kept_set hk hi with ⟨rfl, rfl⟩ | ⟨hne, hi⟩
    · exact h1
    · exact (h.k1 i k2 hi).same hr (by rw [hal]; exact (h.k1 i k2 hi).alv)
  · rw [hr] at a b d
    rw [keptB_set hO hk]
    exact h.der i r q a b c d
/-- The others, when a right of env is made, or when rights of env end. -/
theorem KOk.putAdd (h : KOk s) (hI : RInv s) (hO : s.kept[env]? = some (some k)) {x : RR} (hr : t.rights = s.rights ++ [x]) (hx : x.env = env) (hxf : x.frm < 0) (hk : t.kept = s.kept.set env (some k')) (ha : t.alive = s.alive) (hn : t.ne = s.ne) (t0 : 0 ≤ t.turn) (t1 : t.turn < t.ns) (h1 : KOk1 t env k' (-1) k'.uses.length) : KOk t := by
  have hal : ∀ e, aliveB t e = aliveB s e := fun e => by unfold aliveB; rw [ha, hn]
  refine ⟨fun i k2 hi => ?_, by rw [hk, List.length_set, hn]; exact h.klen, t0, t1, fun i r q a b c d => ?_⟩
  · rcases kept_set hk hi with ⟨rfl, rfl⟩ | ⟨hne, hi⟩
    · exact h1
    · exact (h.k1 i k2 hi).add hI.ord hr (by rw [hal]; exact (h.k1 i k2 hi).alv) (fun e => hne (by omega))
  · rw [keptB_set hO hk]
    rw [hr] at a b d
    rcases getApp a with a | ⟨-, rfl⟩
    · have hi := (List.getElem?_eq_some_iff.1 a).1
      rw [lv_append hI.ord x (by omega)] at b
      have ho := hI.ord i r a
      rw [List.getElem?_append_left (by omega)] at d
      exact h.der i r q a b c d
    · omega
theorem KOk.putMark (h : KOk s) (hI : RInv s) (hO : s.kept[env]? = some (some k)) (P : Nat → Bool) (hr : t.rights = markAt P s.rights) (hP : ∀ (j : Nat) (r : RR), s.rights[j]? = some r → r.env ≠ env → P j = false) (hk : t.kept = s.kept.set env (some k')) (ha : t.alive = s.alive) (hn : t.ne = s.ne) (ht : t.turn = s.turn) (hs : t.ns = s.ns) (h1 : KOk1 t env k' (-1) k'.uses.length) : KOk t := by
  have hal : ∀ e, aliveB t e = aliveB s e := fun e => by unfold aliveB; rw [ha, hn]
  refine ⟨fun i k2 hi => ?_, by rw [hk, List.length_set, hn]; exact h.klen, by rw [ht]; exact h.t0, by rw [ht, hs]; exact h.t1, fun i r q a b c d => ?_⟩
  · rcases kept_set hk hi with ⟨rfl, rfl⟩ | ⟨hne, hi⟩
    · exact h1
    · exact (h.k1 i k2 hi).mark hI.ord P hr (by rw [hal]; exact (h.k1 i k2 hi).alv) (fun j r a b c d => hP j r a (by omega))
  · rw [keptB_set hO hk]
    rw [hr] at a b d
    rw [markAt_get] at a d
    cases hx : s.rights[i]? with
    | none => rw [hx] at a; simp at a
    | some x =>
      have hjl := (List.getElem?_eq_some_iff.1 hx).1
      have hlx := lv_mark_le hI.ord P (i + 1) i (by omega) (by omega) b
      rw [hx] at a
      simp only [Option.map_some, Option.some.injEq] at a
      have hxf : x.frm = r.frm := by rw [← a]; split <;> rfl
      cases hy : s.rights[r.frm.toNat]? with
      | none => rw [hy] at d; simp at d
      | some y =>
        rw [hy] at d
        simp only [Option.map_some, Option.some.injEq] at d
        have hye : y.env = q.env := by rw [← d]; split <;> rfl
        rw [← hye]
        exact h.der i x y hx hlx (by rw [hxf]; exact c) (by rw [hxf]; exact hy)
end

/-! ### A page goes out -/
section
variable {s t : RSt} {env : Nat} {k : KSt} {x : Int} {n : Nat}

theorem leave_inp {k : KSt} {p : Nat} {q : Int} : q ∈ (leaveK k p).inp ↔ q ∈ k.inp ∧ q ≠ p := by
  unfold leaveK
  simp [List.mem_filter]
theorem leave_uses (k : KSt) (p : Nat) : (leaveK k p).uses = k.uses := rfl
theorem leave_hnd (k : KSt) (p : Nat) : (leaveK k p).hnd = k.hnd := rfl
theorem leave_len0 (h : KLen0 k x n) {p : Nat} (hp : p < 16) : KLen0 (leaveK k p) x n := by
  have hc : (leaveK k p).outs + ((leaveK k p).chg.count true : Int) = k.outs + k.chg.count true := by
    have hpl : p < k.chg.length := by rw [h.chg]; exact hp
    unfold leaveK chgB
    simp only
    rw [List.count_set hpl, List.getElem?_eq_getElem hpl]
    simp only [Option.getD_some]
    cases hv : k.chg[p] with
    | false => simp
    | true =>
      have : 0 < k.chg.count true := List.count_pos_iff.2 (by rw [← hv]; exact List.getElem_mem hpl)
      simp; omega
  refine ⟨h.by_, h.hnd, by unfold leaveK; simp [h.chg], h.dty, by unfold leaveK; simp only; split <;> simp [h.out], h.r0, h.r1, h.i0, h.i1, ?_, by rw [hc]; exact h.o1, h.q0, h.q1, h.p0, h.p1, ?_, ?_, ?_, ?_, h.val⟩
  · unfold leaveK; simp only; have := h.o0; split <;> omega
  · unfold leaveK; exact h.nod.filter _
  · intro q hq; exact h.pg q (leave_inp.1 hq).1
  · intro q hq hx; exact h.met q (leave_inp.1 hq).1 hx
  · intro q hq
    have h1 : (k.chg.set p false)[q]? = some true := hq
    rw [List.getElem?_set] at h1
    split at h1
    · split at h1 <;> simp at h1
    · rename_i hne
      exact leave_inp.2 ⟨h.chi q h1, by omega⟩
theorem leave_length (h : KLen0 k x n) {p : Nat} (hp : (p : Int) ∈ k.inp) : (leaveK k p).inp.length + 1 = k.inp.length := by
  have : (leaveK k p).inp = k.inp.erase p := by
    unfold leaveK
    simp only
    rw [h.nod.erase_eq_filter]
    congr 1
  rw [this, List.length_erase_of_mem hp]
  have := List.length_pos_of_mem hp
  omega

/-! ### A page comes in -/
theorem in_inp {k : KSt} {p : Nat} {h q : Int} : q ∈ (inK k p h).inp ↔ q ∈ k.inp ∨ q = p := by
  unfold inK; simp
theorem in_len0 (h : KLen0 k (-1) k.uses.length) {p : Nat} (hp : p < 16) (hno : (p : Int) ∉ k.inp) (hh : Int) : KLen0 (inK k p hh) p (k.uses.length + 1) := by
  have i0 := h.i0
  have i1 := h.i1
  refine ⟨h.by_, by unfold inK; simp [h.hnd], h.chg, h.dty, h.out, h.r0, h.r1, ?_, ?_, h.o0, h.o1, h.q0, h.q1, h.p0, h.p1, ?_, ?_, ?_, ?_, h.val⟩
  · unfold inK; simp only; split <;> omega
  · unfold inK; simp only; split <;> omega
  · unfold inK
    simp only
    rw [List.nodup_append]
    exact ⟨h.nod, by simp, fun a ha b hb e => by simp at hb; exact hno (hb ▸ e ▸ ha)⟩
  · intro q hq
    rcases in_inp.1 hq with hq | rfl
    · exact h.pg q hq
    · omega
  · intro q hq hx
    rcases in_inp.1 hq with hq | rfl
    · exact h.met q hq (by have := h.pg q hq; omega)
    · exact absurd rfl hx
  · intro q hq
    exact in_inp.2 (.inl (h.chi q hq))
theorem hnd_old {k : KSt} {p : Nat} {hh q : Int} (hq : q.toNat ≠ p) : (inK k p hh).hnd[q.toNat]? = k.hnd[q.toNat]? := by
  unfold inK
  simp only
  rw [List.getElem?_set_ne (fun e => hq e.symm)]
theorem hnd_new {k : KSt} {p : Nat} {hh : Int} (hp : p < k.hnd.length) : (inK k p hh).hnd[(p : Int).toNat]? = some hh := by
  unfold inK
  simp only [Int.toNat_natCast]
  rw [List.getElem?_set_self hp]

/-- With a right of its own. -/
theorem KOk1.inFirst (h : KOk1 s env k (-1) k.uses.length) (hI : RInv s) {p : Nat} (hp : p < 16) (hno : (p : Int) ∉ k.inp) {y : RR} (hr : t.rights = s.rights ++ [y]) (y1 : y.env = env) (y2 : y.frm = -1) (y3 : y.wr = true) (y4 : y.ended = false) (ha : aliveB t env = true) :
    KOk1 t env (inK k p ((s.rights.length : Int) + 1)) p (k.uses.length + 1) := by
  have hne : ∀ q, q ∈ k.inp → q.toNat ≠ p := fun q hq e => hno (by have := h.len.pg q hq; rw [show (p : Int) = q by omega]; exact hq)
  have hl := h.len.hnd
  have ho : Ordered (s.rights ++ [y]) := hI.ord.append (by omega) (by omega)
  have hold : ∀ q, q ∈ k.inp → ∃ j : Nat, j < s.rights.length ∧ k.hnd[q.toNat]? = some ((j : Int) + 1) := fun q hq => by
    obtain ⟨j, h1, r, h2, -⟩ := h.hr q hq
    exact ⟨j, (List.getElem?_eq_some_iff.1 h2).1, h1⟩
  refine ⟨ha, in_len0 h.len hp hno _, fun q hq => ?_, fun q r hq hr' e => ?_, fun j r hj hl2 he => ?_⟩
  · rcases in_inp.1 hq with hq | rfl
    · obtain ⟨j, h1, r, h2, h3, h4⟩ := h.hr q hq
      have := (List.getElem?_eq_some_iff.1 h2).1
      exact ⟨j, by rw [hnd_old (hne q hq)]; exact h1, r, by rw [hr, List.getElem?_append_left this]; exact h2, by rw [hr, lv_append hI.ord y (by omega)]; exact h3, h4⟩
    · have hy : (s.rights ++ [y])[s.rights.length]? = some y := by simp
      refine ⟨s.rights.length, by rw [hnd_new (by omega)], y, by rw [hr]; exact hy, ?_, y1, by omega, y3⟩
      rw [hr, lv_first ho hy (by omega), y4]; rfl
  · rcases in_inp.1 hq with hq | rfl <;> rcases in_inp.1 hr' with hr' | rfl
    · rw [hnd_old (hne q hq), hnd_old (hne r hr')] at e
      exact h.inj q r hq hr' e
    · rw [hnd_old (hne q hq), hnd_new (by omega)] at e
      obtain ⟨j, a, b⟩ := hold q hq
      rw [b] at e
      simp at e
      omega
    · rw [hnd_old (hne r hr'), hnd_new (by omega)] at e
      obtain ⟨j, a, b⟩ := hold r hr'
      rw [b] at e
      simp at e
      omega
    · rfl
  · rw [hr] at hj hl2
    rcases getApp hj with hj | ⟨rfl, rfl⟩
    · have := (List.getElem?_eq_some_iff.1 hj).1
      rw [lv_append hI.ord y (by omega)] at hl2
      obtain ⟨q, a, b⟩ := h.all j r hj hl2 he
      exact ⟨q, in_inp.2 (.inl a), by rw [hnd_old (hne q a)]; exact b⟩
    · exact ⟨p, in_inp.2 (.inr rfl), by rw [hnd_new (by omega)]⟩

/-- A page has gone out, and its right has none yet: of the others. -/
theorem KOk1.inLeave (h : KOk1 s env k (-1) k.uses.length) {p q : Nat} (hp : p < 16) (hno : (p : Int) ∉ k.inp) (hq : (q : Int) ∈ k.inp) (hr : t.rights = s.rights) (ha : aliveB t env = true) :
    KOk1 t env (inK (leaveK k q) p ((k.hnd[q]?).getD 0)) p (k.uses.length + 1) := by
  have hl := h.len.hnd
  have hq16 : q < 16 := by have := h.len.pg _ hq; omega
  have hno' : (p : Int) ∉ (leaveK k q).inp := fun e => hno (leave_inp.1 e).1
  have hne : ∀ r, r ∈ k.inp → r.toNat ≠ p := fun r hr e => hno (by have := h.len.pg r hr; rw [show (p : Int) = r by omega]; exact hr)
  obtain ⟨j0, j1, r0, j2, j3⟩ := h.hr q hq
  simp only [Int.toNat_natCast] at j1
  have hg : (k.hnd[q]?).getD 0 = (j0 : Int) + 1 := by rw [j1]; rfl
  rw [hg]
  have hn : ∀ {r : Int}, r ∈ k.inp → (inK (leaveK k q) p ((j0 : Int) + 1)).hnd[r.toNat]? = k.hnd[r.toNat]? := fun hr => by rw [hnd_old (hne _ hr), leave_hnd]
  have hnp : (inK (leaveK k q) p ((j0 : Int) + 1)).hnd[(p : Int).toNat]? = some ((j0 : Int) + 1) := hnd_new (by rw [leave_hnd]; omega)
  refine ⟨ha, in_len0 (k := leaveK k q) (leave_len0 h.len hq16) hp hno' _, fun r hr' => ?_, fun r r' a b e => ?_, fun j r hj hl2 he => ?_⟩
  · rcases in_inp.1 hr' with hr' | rfl
    · obtain ⟨c1, c2⟩ := leave_inp.1 hr'
      obtain ⟨j, h1, h2⟩ := h.hr r c1
      exact ⟨j, by rw [hn c1]; exact h1, by rw [hr]; exact h2⟩
    · exact ⟨j0, hnp, r0, by rw [hr]; exact ⟨j2, j3⟩⟩
  · rcases in_inp.1 a with a | rfl <;> rcases in_inp.1 b with b | rfl
    · obtain ⟨a1, a2⟩ := leave_inp.1 a
      obtain ⟨b1, b2⟩ := leave_inp.1 b
      rw [hn a1, hn b1] at e
      exact h.inj _ _ a1 b1 e
    · obtain ⟨a1, a2⟩ := leave_inp.1 a
      rw [hn a1, hnp] at e
      exact absurd (h.inj r q a1 hq (by simp only [Int.toNat_natCast]; rw [e, j1])) a2
    · obtain ⟨b1, b2⟩ := leave_inp.1 b
      rw [hn b1, hnp] at e
      exact absurd (h.inj r' q b1 hq (by simp only [Int.toNat_natCast]; rw [← e, j1])) b2
    · rfl
  · rw [hr] at hj hl2
    obtain ⟨r', a, b⟩ := h.all j r hj hl2 he
    by_cases e : r' = q
    · subst e
      simp only [Int.toNat_natCast, j1, Option.some.injEq] at b
      exact ⟨p, in_inp.2 (.inr rfl), by rw [hnp, b]⟩
    · exact ⟨r', in_inp.2 (.inl (leave_inp.2 ⟨a, e⟩)), by rw [hn a]; exact b⟩

/-- A page goes out, and its right ends. -/
theorem KOk1.leaveEnd (h : KOk1 s env k (-1) k.uses.length) (hI : RInv s) {q j0 : Nat} (hq : (q : Int) ∈ k.inp) (hj0 : k.hnd[q]? = some ((j0 : Int) + 1)) (hr : t.rights = markAt (fun i => i == j0) s.rights) (ha : aliveB t env = true) : KOk1 t env (leaveK k q) (-1) k.uses.length := by
  have hq16 : q < 16 := by have := h.len.pg _ hq; omega
  refine ⟨ha, leave_len0 h.len hq16, fun r hr' => ?_, fun r r' a b e => h.inj r r' (leave_inp.1 a).1 (leave_inp.1 b).1 e, fun j r hj hl2 he => ?_⟩
  · obtain ⟨c1, c2⟩ := leave_inp.1 hr'
    obtain ⟨j, h1, x, h2, h3, h4, h5, h6⟩ := h.hr r c1
    have hne : j ≠ j0 := fun e => c2 (h.inj r q c1 hq (by simp only [Int.toNat_natCast]; rw [h1, hj0, e]))
    have hPj : (j == j0) = false := by simpa using hne
    refine ⟨j, h1, x, by rw [hr, markAt_get, h2]; simp [hPj], ?_, h4, h5, h6⟩
    rw [hr, lv_mark hI.ord _ h2, lv_neg h5, hPj]
    rw [lv_first hI.ord h2 h5] at h3
    simpa using h3
  · rw [hr] at hj hl2
    rw [markAt_get] at hj
    cases hx : s.rights[j]? with
    | none => rw [hx] at hj; simp at hj
    | some x =>
      have hjl := (List.getElem?_eq_some_iff.1 hx).1
      have hlx := lv_mark_le hI.ord _ (j + 1) j (by omega) (by omega) hl2
      rw [hx] at hj
      simp only [Option.map_some, Option.some.injEq] at hj
      have hxe : x.env = r.env := by rw [← hj]; split <;> rfl
      obtain ⟨r', a, b⟩ := h.all j x hx hlx (by rw [hxe]; exact he)
      refine ⟨r', leave_inp.2 ⟨a, fun e => ?_⟩, b⟩
      subst e
      simp only [Int.toNat_natCast, hj0, Option.some.injEq] at b
      have : j0 = j := by omega
      subst this
      rw [lv_mark hI.ord _ hx] at hl2
      simp at hl2

/-! ### The access itself -/
/-- What an access leaves of the memory, when the page is in. -/
def touchK (s : RSt) (k : KSt) (env page : Nat) (wt : Bool) : KSt := markK { useK k page wt with refills := if needB s env page wt then k.refills + 1 else k.refills } page wt
theorem touchK_len0 (h : KLen0 k x n) {p : Nat} (hp : p < 16) (hx : x = -1 ∨ x = p) (hn : n ≤ k.uses.length + 1) (hin : (p : Int) ∈ k.inp) (wt : Bool) : KLen0 (touchK s k env p wt) (-1) (touchK s k env p wt).uses.length := by
  have hul : (touchK s k env p wt).uses.length = k.uses.length + 1 := by unfold touchK markK useK; simp
  have r0 := h.r0
  have r1 := h.r1
  have i1 := h.i1
  have o1 := h.o1
  refine ⟨h.by_, h.hnd, by show (k.chg.set _ _).length = 16; simp [h.chg], by show (k.dty.set _ _).length = 16; simp [h.dty], h.out, ?_, ?_, h.i0, ?_, h.o0, ?_, h.q0, h.q1, h.p0, h.p1, h.nod, h.pg, ?_, ?_, h.val⟩
  · show 0 ≤ (if needB s env p wt then k.refills + 1 else k.refills); split <;> omega
  · rw [hul]; show (if needB s env p wt then k.refills + 1 else k.refills) ≤ ((k.uses.length + 1 : Nat) : Int); split <;> omega
  · rw [hul]; show k.ins ≤ _; omega
  · rw [hul]
    show k.outs + ((k.chg.set p (chgB k p || wt)).count true : Int) ≤ _
    have hpl : p < k.chg.length := by rw [h.chg]; exact hp
    rw [List.count_set hpl]
    split
    · rename_i hv
      have : 0 < k.chg.count true := List.count_pos_iff.2 (by rw [← eq_of_beq hv]; exact List.getElem_mem hpl)
      split <;> omega
    · split <;> omega
  · intro q hq _
    by_cases e : q = p
    · exact ⟨((p : Int), wt), by show _ ∈ k.uses ++ [((p : Int), wt)]; simp, e.symm⟩
    · obtain ⟨u, a, b⟩ := h.met q hq (by rcases hx with rfl | rfl; (have := h.pg q hq; omega); exact e)
      exact ⟨u, by show _ ∈ k.uses ++ [((p : Int), wt)]; simp [a], b⟩
  · intro q hq
    have h1 : (k.chg.set p (chgB k p || wt))[q]? = some true := hq
    rw [List.getElem?_set] at h1
    split at h1
    · rename_i e
      rw [← e]; exact hin
    · exact h.chi q h1
theorem KOk1.touch (h : KOk1 s env k x n) {p : Nat} (hp : p < 16) (hx : x = -1 ∨ x = p) (hn : n ≤ k.uses.length + 1) (hin : (p : Int) ∈ k.inp) (wt : Bool) {s0 : RSt} (hr : t.rights = s.rights) (ha : aliveB t env = true) : KOk1 t env (touchK s0 k env p wt) (-1) (touchK s0 k env p wt).uses.length := by
  refine ⟨ha, touchK_len0 h.len hp hx hn hin wt, ?_, h.inj, ?_⟩
  · unfold Lies; rw [hr]; exact h.hr
  · rw [hr]; exact h.all
end
end Go.Proofs.Ytinlkcmdbjcofab

/-
  Each call of a kept memory keeps what the machine keeps to.
-/
namespace Go.Proofs.Ytinlkcmdbjcofab
open Go.RowKit
set_option linter.unusedVariables false

section
variable {s t : RSt}

/-- Nothing of it asks who is kept, nor whose turn it is. -/
theorem SOk0.kept (h : SOk0 s) (e1 : t.nf = s.nf) (e2 : t.ns = s.ns) (e3 : t.ne = s.ne) (e4 : t.rights = s.rights) (e5 : t.bytes = s.bytes) (e6 : t.slots = s.slots) (e7 : t.alive = s.alive) : SOk0 t := by
  refine ⟨⟨by rw [e4]; exact h.inv.ord, by rw [e4]; exact h.inv.hnd, by rw [e4, e3]; exact h.inv.env, by rw [e4, e1]; exact h.inv.fr⟩, by rw [e3]; exact h.fix.of e1 e3 (by rw [e7]) (by rw [e5]) (by rw [e6]), by rw [e6, e2]; exact h.ns, by rw [e5]; exact h.bys, ?_, by rw [e6]; exact h.emp, by rw [e6]; exact h.uni⟩
  rw [e6, e4]; exact h.ent
/-- An entry is put in. -/
theorem SOk0.entry (h : SOk0 s) {q : Nat} {env page fr : Int} {wt : Bool} (hp : 0 ≤ page ∧ page ≤ 15) (ho : owned s.rights env fr wt = true) (hu : ∀ (j : Nat) (e : Ent), s.slots[j]? = some e → e.used = true → e.env = env → e.page = page → j = q) :
    SOk0 { s with slots := s.slots.set q ⟨true, env, page, fr, wt⟩ } := by
  have hget : ∀ (i : Nat) (e : Ent), (s.slots.set q ⟨true, env, page, fr, wt⟩)[i]? = some e → (i = q ∧ e = ⟨true, env, page, fr, wt⟩) ∨ (i ≠ q ∧ s.slots[i]? = some e) := by
    intro i e hx
    rw [List.getElem?_set] at hx
    split at hx
    · rename_i hqi
      split at hx
      · simp at hx; exact .inl ⟨hqi.symm, hx.symm⟩
      · simp at hx
    · rename_i hqi
      exact .inr ⟨fun e => hqi e.symm, hx⟩
  refine ⟨⟨h.inv.ord, h.inv.hnd, h.inv.env, h.inv.fr⟩, h.fix.of rfl rfl rfl rfl (by simp), by simp [h.ns], h.bys, ?_, ?_, ?_⟩
  · intro i e hx hu
    rcases hget i e hx with ⟨-, rfl⟩ | ⟨-, hx⟩
    · exact ⟨hp.1, hp.2, ho⟩
    · exact h.ent i e hx hu
  · intro i e hx hu
    rcases hget i e hx with ⟨-, rfl⟩ | ⟨-, hx⟩
    · simp at hu
    · exact h.emp i e hx hu
  · intro i i2 e f hx hy hu' hv e1 e2
    rcases hget i e hx with ⟨hi, rfl⟩ | ⟨hi, hx⟩ <;> rcases hget i2 f hy with ⟨hi2, rfl⟩ | ⟨hi2, hy⟩
    · omega
    · exact absurd (hu i2 f hy hv e1.symm e2.symm) hi2
    · exact absurd (hu i e hx hu' e1 e2) hi
    · exact h.uni i i2 e f hx hy hu' hv e1 e2

theorem entI_neg {env page : Int} (h : entI s env page < 0) : ∀ (j : Nat) (e : Ent), s.slots[j]? = some e → entP env page e = false := by
  intro j e he
  unfold entI at h
  cases hx : s.slots.findIdx? (entP env page) with
  | none =>
    rw [List.findIdx?_eq_none_iff] at hx
    exact hx e (List.mem_of_getElem? he)
  | some i => rw [hx] at h; simp only at h; omega

theorem slotFor_turn (s : RSt) (i : Int) : ∃ x, (slotFor s i).2 = { s with turn := x } ∧ (0 ≤ s.turn → s.turn < s.ns → 0 ≤ x ∧ x < s.ns) := by
  unfold slotFor
  split
  · exact ⟨s.turn, rfl, fun a b => ⟨a, b⟩⟩
  · split
    · exact ⟨s.turn, rfl, fun a b => ⟨a, b⟩⟩
    · refine ⟨_, rfl, fun a b => ?_⟩
      split <;> omega

/-- What an access leaves, when the page is in. -/
theorem touchS_parts (s : RSt) (k : KSt) (env page : Nat) (wt : Bool) : (touchS s k env page wt).kept = s.kept.set env (some (touchK s k env page wt)) ∧ (touchS s k env page wt).rights = s.rights ∧ (touchS s k env page wt).alive = s.alive ∧ (touchS s k env page wt).ne = s.ne ∧ (touchS s k env page wt).nf = s.nf ∧
    (touchS s k env page wt).ns = s.ns ∧ (touchS s k env page wt).bytes = s.bytes ∧ (0 ≤ s.turn → s.turn < s.ns → 0 ≤ (touchS s k env page wt).turn ∧ (touchS s k env page wt).turn < s.ns) ∧
    ((needB s env page wt = false ∧ (touchS s k env page wt).slots = s.slots) ∨ (needB s env page wt = true ∧ (touchS s k env page wt).slots = s.slots.set (slotFor s (entI s env page)).1.toNat ⟨true, env, page, frameOf s k page, wt || chgB k page⟩)) := by
  unfold touchS touchK
  cases hn : needB s env page wt with
  | false =>
    simp only [Bool.false_eq_true, if_false]
    exact ⟨rfl, rfl, rfl, rfl, rfl, rfl, rfl, fun a b => ⟨a, b⟩, .inl ⟨by first | rfl | trivial, rfl⟩⟩
  | true =>
    simp only [if_true]
    unfold refillS
    have e0 : entI (putK s env (useK k page wt)) env page = entI s env page := rfl
    rw [e0]
    obtain ⟨x, hx, hx2⟩ := slotFor_turn (putK s env (useK k page wt)) (entI s env page)
    have e1 : (slotFor (putK s env (useK k page wt)) (entI s env page)).1 = (slotFor s (entI s env page)).1 := by
      unfold slotFor
      split
      · rfl
      · show (if 0 ≤ leastEmpty s.slots then _ else _ : Int × RSt).1 = (if 0 ≤ leastEmpty s.slots then _ else _ : Int × RSt).1
        split <;> rfl
    rw [hx, e1]
    refine ⟨?_, rfl, rfl, rfl, rfl, rfl, rfl, fun a b => hx2 a b, .inr ⟨by first | rfl | trivial, rfl⟩⟩
    show ((s.kept.set env _).set env _).set env _ = _
    rw [List.set_set, List.set_set]

theorem SOk0.touch (h : SOk0 s) {k : KSt} {env page : Nat} {wt : Bool} (hp : page < 16) {j : Nat} (hL : Lies s env k page j) : SOk0 (touchS s k env page wt) := by
  obtain ⟨h1, h2, h3, h4, h5, h6, h7, h8, h9⟩ := touchS_parts s k env page wt
  rcases h9 with ⟨-, h9⟩ | ⟨-, h9⟩
  · exact h.kept h5 h6 h4 h2 h7 h9 h3
  · obtain ⟨a, r, b, c, d, e, f⟩ := hL
    have hf : frameOf s k page = r.fr := by
      unfold frameOf
      simp only [Int.toNat_natCast] at a
      rw [a]
      simp only [Option.getD_some]
      rw [show ((j : Int) + 1 - 1).toNat = j by omega, b]; rfl
    have hE := h.entry (q := (slotFor s (entI s env page)).1.toNat) (env := env) (page := page) (fr := frameOf s k page) (wt := wt || chgB k page) ⟨by omega, by omega⟩ (owned_ex.2 ⟨j, r, b, c, d, hf.symm, fun _ => f⟩) (fun j2 e2 g1 g2 g3 g4 => by
      have hP : entP env page e2 = true := by unfold entP; simp [g2, g3, g4]
      rcases entI_cases s env page with h0 | ⟨q, e3, h0, h10, h11⟩
      · rw [entI_neg (by rw [h0]; decide) j2 e2 g1] at hP
        simp at hP
      · have hq : (slotFor s (entI s env page)).1.toNat = q := by
          unfold slotFor
          rw [h0, if_pos (by omega)]
          simp
        rw [hq]
        unfold entP at h11
        simp at h11
        exact h.uni j2 q e2 e3 g1 h10 g2 h11.1 (g3.trans h11.2.1.symm) (g4.trans h11.2.2.symm))
    exact hE.kept h5 h6 h4 h2 h7 h9 h3

/-- What comes in: by a right of its own, or by that of a page that goes out. -/
theorem comes_cases {k : KSt} {env page : Nat} {s1 : RSt} (h : comesS s k env page = some s1) (hmet : ∀ p, p ∈ k.inp → ∃ u, u ∈ k.uses ∧ u.1 = p) :
    (∃ f, leastFree s = some f ∧ cnt s.rights < 32 ∧ (k.inp.length : Int) < k.quota ∧ s1 = putK (addR { s with bytes := s.bytes.set f [0, 0, 0, 0] } env f true (-1)) env (inK k page ((s.rights.length : Int) + 1))) ∨
    (∃ q : Int, q = pickK k ∧ q ∈ k.inp ∧ (if (k.inp.length : Int) < k.quota then firstS s env else none) = none ∧ s1 = putK (leavesS s k env q.toNat) env (inK (leaveK k q.toNat) page ((k.hnd[q.toNat]?).getD 0))) := by
  unfold comesS at h
  cases hf : (if (k.inp.length : Int) < k.quota then firstS s env else none) with
  | some s2 =>
    rw [hf] at h
    simp only [Option.some.injEq] at h
    split at hf
    · rename_i hlt
      unfold firstS at hf
      split at hf
      · rename_i f hl
        split at hf
        · rename_i hc
          simp only [Option.some.injEq] at hf
          subst hf
          exact .inl ⟨f, hl, hc, hlt, h.symm⟩
        · simp at hf
      · simp at hf
    · simp at hf
  | none =>
    rw [hf] at h
    simp only at h
    split at h
    · rename_i hlen
      simp only [Option.some.injEq] at h
      exact .inr ⟨pickK k, rfl, (pick_mem hlen hmet).1, rfl, h.symm⟩
    · simp at h

theorem kept_lt {env : Nat} {k : KSt} (h : s.kept[env]? = some (some k)) : env < s.kept.length := (List.getElem?_eq_some_iff.1 h).1
theorem keptO_putK {env : Nat} {k' : KSt} (h : env < s.kept.length) : keptO (putK s env k') env = some k' := by
  unfold keptO putK
  simp [List.getElem?_set_self h]

/-- Behind a page has come in. -/
theorem comes_ok (h : SOk s) {env page : Nat} {k : KSt} (hO : s.kept[env]? = some (some k)) (hp : page < 16) (hno : (page : Int) ∉ k.inp) {s1 : RSt} (hc : comesS s k env page = some s1) :
    ∃ k1, keptO s1 env = some k1 ∧ SOk0 s1 ∧ HInv0 s1 ∧ KOk1 s1 env k1 page (k1.uses.length + 1) ∧ (page : Int) ∈ k1.inp ∧ k1.uses = k.uses ∧ k1.bytes = k.bytes ∧ Grows s s1 ∧ s1.turn = s.turn ∧ s1.ns = s.ns ∧ s1.alive = s.alive ∧ s1.kept = s.kept.set env (some k1) ∧
      (s1.rights = s.rights ∨ ∃ y : RR, s1.rights = s.rights ++ [y] ∧ y.env = env ∧ y.frm < 0) := by
  have hK := h.kok.k1 env k hO
  have hal := hK.alv
  have hmet : ∀ p, p ∈ k.inp → ∃ u, u ∈ k.uses ∧ u.1 = p := fun p hp => hK.len.met p hp (by have := hK.len.pg p hp; omega)
  have hlt := kept_lt hO
  rcases comes_cases hc hmet with ⟨f, hl, hcn, hq, rfl⟩ | ⟨q, hq, hin, hnf, rfl⟩
  · have hfl := leastFree_lt hl
    have hg : Grows s (addR { s with bytes := s.bytes.set f [0, 0, 0, 0] } env f true (-1)) := ⟨rfl, rfl, rfl, by simp [addR], rfl, by simp [addR]⟩
    have hs1 : SOk0 (addR { s with bytes := s.bytes.set f [0, 0, 0, 0] } env f true (-1)) := by
      refine h.toSOk0.more (RInv.add (s := { s with bytes := s.bytes.set f [0, 0, 0, 0] }) ⟨h.inv.ord, h.inv.hnd, h.inv.env, h.inv.fr⟩ (aliveB_range hal) ⟨by omega, by show (f : Int) < s.nf; omega⟩ (by omega) (by show (-1 : Int) < s.rights.length; omega)) hg rfl rfl (fun _ _ _ => owned_append h.inv.ord _) ?_
      intro i l hli
      simp only [addR] at hli
      rw [List.getElem?_set] at hli
      split at hli
      · split at hli
        · simp at hli
          subst hli
          refine ⟨rfl, fun j x hx => ?_⟩
          match j, hx with
          | 0, hx => simp at hx; omega
          | 1, hx => simp at hx; omega
          | 2, hx => simp at hx; omega
          | 3, hx => simp at hx; omega
        · simp at hli
      · exact h.bys i l hli
    have hH : HInv0 (addR { s with bytes := s.bytes.set f [0, 0, 0, 0] } env f true (-1)) := h.hin.add h.inv (x := ⟨s.rights.length + 1, env, f, true, -1, false⟩) rfl rfl rfl hal (by simp) (by simp; omega) (fun _ => freeB_no h.inv (List.find?_some hl)) (fun h => by simp at h)
    refine ⟨_, keptO_putK hlt, hs1.kept rfl rfl rfl rfl rfl rfl rfl, hH.same_rights rfl (fun _ h => h), ?_, in_inp.2 (.inr rfl), rfl, rfl, hg, rfl, rfl, rfl, rfl, .inr ⟨_, rfl, rfl, by show (-1 : Int) < 0; omega⟩⟩
    exact hK.inFirst h.inv hp hno (y := ⟨s.rights.length + 1, env, f, true, -1, false⟩) rfl rfl rfl rfl rfl hal
  · obtain ⟨q0, rfl⟩ : ∃ q0 : Nat, q = q0 := ⟨q.toNat, by have := hK.len.pg q hin; omega⟩
    simp only [Int.toNat_natCast]
    have hs1 : SOk0 (leavesS s k env q0) := (h.toSOk0.gone env q0).kept rfl rfl rfl rfl rfl rfl rfl
    have hlt' : env < (leavesS s k env q0).kept.length := by simp [leavesS, goneS, putK, hlt]
    refine ⟨_, keptO_putK hlt', hs1.kept rfl rfl rfl rfl rfl rfl rfl, h.hin.same_rights rfl (fun _ h => h), ?_, in_inp.2 (.inr rfl), rfl, rfl, ⟨rfl, rfl, rfl, rfl, by simp [putK, leavesS, goneS], by simp [putK, leavesS, goneS]⟩, rfl, rfl, rfl, ?_, .inl rfl⟩
    · exact hK.inLeave hp hno hin rfl hal
    · show (s.kept.set env _).set env _ = _
      rw [List.set_set]

theorem access_ok (h : SOk s) {env page : Nat} {k : KSt} (hO : s.kept[env]? = some (some k)) (hp : page < 16) {wt : Bool} {s' : RSt} (ha : accessS s k env page wt = some s') :
    SOk s' ∧ Grows s s' ∧ ∃ k', s'.kept = s.kept.set env (some k') ∧ k'.uses.length = k.uses.length + 1 ∧ k'.bytes = k.bytes ∧ (page : Int) ∈ k'.inp := by
  have hK := h.kok.k1 env k hO
  have hlt := kept_lt hO
  unfold accessS at ha
  by_cases hin : (page : Int) ∈ k.inp
  · rw [if_pos (hasK_iff.2 hin)] at ha
    simp only [Option.some.injEq] at ha
    subst ha
    obtain ⟨h1, h2, h3, h4, h5, h6, h7, h8, h9⟩ := touchS_parts s k env page wt
    obtain ⟨t0, t1⟩ := h8 h.kok.t0 h.kok.t1
    obtain ⟨j, hL⟩ := hK.hr page hin
    have hal : aliveB (touchS s k env page wt) env = true := by unfold aliveB; rw [h3, h4]; exact hK.alv
    refine ⟨⟨h.toSOk0.touch hp hL, h.hin.same_rights h2 (fun e he => by unfold aliveB at he ⊢; rw [h3, h4]; exact he), h.kok.put hO h2 h1 h3 h4 t0 (by rw [h6]; exact t1) (hK.touch hp (.inl rfl) (by omega) hin wt h2 hal)⟩, ?_, _, h1, by unfold touchK markK useK; simp, rfl, hin⟩
    exact ⟨h5, h4, by rw [h3], by rw [h7], by rcases h9 with ⟨-, h9⟩ | ⟨-, h9⟩ <;> rw [h9] <;> simp, by rw [h2]; omega⟩
  · rw [if_neg (fun e => hin (hasK_iff.1 e))] at ha
    cases hc : comesS s k env page with
    | none => rw [hc] at ha; simp at ha
    | some s1 =>
      obtain ⟨k1, c1, c2, c3, c4, c5, c6, cb, c7, c8, c9, c10, c11, c12⟩ := comes_ok h hO hp hin hc
      rw [hc] at ha
      simp only [c1, Option.some.injEq] at ha
      subst ha
      obtain ⟨h1, h2, h3, h4, h5, h6, h7, h8, h9⟩ := touchS_parts s1 k1 env page wt
      obtain ⟨t0, t1⟩ := h8 (by rw [c8]; exact h.kok.t0) (by rw [c8, c9]; exact h.kok.t1)
      obtain ⟨g1, g2, g3, g4, g5, g6⟩ := c7
      obtain ⟨j, hL⟩ := c4.hr page c5
      have hal : ∀ e, aliveB (touchS s1 k1 env page wt) e = aliveB s e := fun e => by unfold aliveB; rw [h3, h4, c10, g2]
      have hk' : (touchS s1 k1 env page wt).kept = s.kept.set env (some (touchK s1 k1 env page wt)) := by rw [h1, c11, List.set_set]
      have hT : KOk1 (touchS s1 k1 env page wt) env (touchK s1 k1 env page wt) (-1) (touchK s1 k1 env page wt).uses.length := c4.touch hp (.inr rfl) (by omega) c5 wt h2 (by rw [hal]; exact hK.alv)
      refine ⟨⟨c2.touch hp hL, c3.same_rights h2 (fun e he => by unfold aliveB at he ⊢; rw [h3, h4]; exact he), ?_⟩, ?_, _, hk', by unfold touchK markK useK; simp [c6], ?_, c5⟩
      · rcases c12 with c12 | ⟨y, y1, y2, y3⟩
        · exact h.kok.put hO (h2.trans c12) hk' (h3.trans c10) (h4.trans g2) t0 (by rw [h6]; exact t1) hT
        · exact h.kok.putAdd h.inv hO (h2.trans y1) y2 y3 hk' (h3.trans c10) (h4.trans g2) t0 (by rw [h6]; exact t1) hT
      · exact ⟨h5.trans g1, h4.trans g2, by rw [h3]; exact g3, by rw [h7]; exact g4, by rcases h9 with ⟨-, h9⟩ | ⟨-, h9⟩ <;> rw [h9] <;> simp [g5], by rw [h2]; exact g6⟩
      · show k1.bytes = k.bytes
        exact cb
end
end Go.Proofs.Ytinlkcmdbjcofab
