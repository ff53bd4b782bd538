import Derived.Deep.RegionLaw
import Derived.Test.YtinlkcmdbjcofabM03
/-
  Keep, Read, Write, Clean, Squeeze keep what the machine keeps to; how much a machine has grown.
-/
namespace Go.Proofs.Ytinlkcmdbjcofab
open Go.RowKit
set_option linter.unusedVariables false

/-- At most n rights, and n accesses of each kept memory. -/
def Sz (s : RSt) (n : Nat) : Prop := s.rights.length ≤ n ∧ ∀ (i : Nat) (k : KSt), s.kept[i]? = some (some k) → k.uses.length ≤ n
def KSub (s t : RSt) : Prop := ∀ (i : Nat) (k : KSt), t.kept[i]? = some (some k) → s.kept[i]? = some (some k)
def FewU (s : RSt) : Prop := ∀ (i : Nat) (k : KSt), s.kept[i]? = some (some k) → (k.uses.length + 2) * 48 ≤ 140737488355328
theorem Sz.fewU {s : RSt} {n : Nat} (h : Sz s n) (hn : (n + 2) * 48 ≤ 140737488355328) : FewU s := fun i k hi => by have := h.2 i k hi; omega
theorem sz_fresh (a b c : Nat) : Sz (RSt.fresh a b c) 0 := by
  refine ⟨by simp [RSt.fresh], fun i k h => ?_⟩
  simp [RSt.fresh, List.getElem?_replicate] at h
theorem Sz.mono {s : RSt} {n m : Nat} (h : Sz s n) (hm : n ≤ m) : Sz s m := ⟨by have := h.1; omega, fun i k hi => by have := h.2 i k hi; omega⟩

section
variable {s t : RSt}
theorem Sz.of {n : Nat} (h : Sz s n) (hg : Grows s t) (hk : KSub s t) : Sz t (n + 1) := ⟨by have := hg.2.2.2.2.2; have := h.1; omega, fun i k hi => by have := h.2 i k (hk i k hi); omega⟩
theorem KSub.same (h : t.kept = s.kept) : KSub s t := fun i k hi => by rw [h] at hi; exact hi
theorem Sz.put {n : Nat} (h : Sz s n) (hg : Grows s t) {env : Nat} {k k' : KSt} (hk : t.kept = s.kept.set env (some k')) (hO : s.kept[env]? = some (some k)) (hu : k'.uses.length ≤ k.uses.length + 1) : Sz t (n + 1) := by
  refine ⟨by have := hg.2.2.2.2.2; have := h.1; omega, fun i k2 hi => ?_⟩
  rcases kept_set hk hi with ⟨rfl, rfl⟩ | ⟨hne, hi⟩
  · have := h.2 _ k hO; omega
  · have := h.2 i k2 hi; omega

theorem Sz.alloc {n : Nat} (h : Sz s n) (env : Int) : Sz (allocR s env).2 (n + 1) := by
  refine h.of (allocR_grows env) ?_
  unfold allocR
  split
  · exact .same rfl
  · split
    · rename_i s' hs
      unfold firstS at hs
      split at hs
      · split at hs
        · simp only [Option.some.injEq] at hs
          subst hs
          exact .same rfl
        · simp at hs
      · simp at hs
    · exact .same rfl
theorem Sz.derive {n : Nat} (h : Sz s n) (env hd te : Int) (wt : Bool) : Sz (deriveR s env hd te wt).2 (n + 1) := by
  refine h.of (deriveR_grows env hd te wt) ?_
  unfold deriveR
  repeat' split
  all_goals exact .same rfl
theorem Sz.revoke {n : Nat} (h : Sz s n) (env hd : Int) : Sz (revokeR s env hd).2 (n + 1) := by
  refine h.of (revokeR_grows env hd) ?_
  unfold revokeR
  repeat' split
  all_goals exact .same rfl
theorem Sz.drop {n : Nat} (h : Sz s n) (env hd : Int) : Sz (dropR s env hd).2 (n + 1) := by
  refine h.of (dropR_grows env hd) ?_
  unfold dropR
  repeat' split
  all_goals exact .same rfl
theorem Sz.kill {n : Nat} (h : Sz s n) (env : Int) : Sz (killR s env).2 (n + 1) := by
  refine h.of (killR_grows env) ?_
  unfold killR
  split
  · intro i k hi
    simp only [sweepS, endIf] at hi
    rw [List.getElem?_set] at hi
    split at hi
    · split at hi <;> simp at hi
    · exact hi
  · exact .same rfl
theorem Sz.spawn {n : Nat} (h : Sz s n) (env : Int) : Sz (spawnR s env).2 (n + 1) := by
  refine h.of (spawnR_grows env) ?_
  unfold spawnR
  repeat' split
  all_goals exact .same rfl
theorem Sz.map {n : Nat} (h : Sz s n) (env page hd : Int) (wt : Bool) (slot : Int) : Sz (mapR s env page hd wt slot).2 (n + 1) := by
  refine h.of (mapR_grows env page hd wt slot) ?_
  unfold mapR
  repeat' split
  all_goals exact .same rfl
theorem Sz.unmap {n : Nat} (h : Sz s n) (env page : Int) : Sz (unmapR s env page).2 (n + 1) := by
  refine h.of (unmapR_grows env page) ?_
  unfold unmapR
  repeat' split
  all_goals exact .same rfl
theorem Sz.store {n : Nat} (h : Sz s n) (env page a v : Int) : Sz (storeR s env page a v).2 (n + 1) := by
  refine h.of (storeR_grows env page a v) ?_
  unfold storeR
  repeat' split
  all_goals exact .same rfl

/-! ### The calls of a kept memory -/
/-- One kept memory has turned, and nothing else. -/
theorem SOk.putK (h : SOk s) {env : Nat} {k k' : KSt} (hO : s.kept[env]? = some (some k)) (hu : k'.uses = k.uses) (h1 : KLen0 k' (-1) k'.uses.length) (hi : k'.inp = k.inp) (hh : k'.hnd = k.hnd) : SOk (putK s env k') := by
  have hK := h.kok.k1 env k hO
  refine ⟨h.toSOk0.kept rfl rfl rfl rfl rfl rfl rfl, h.hin.same_rights rfl (fun _ h => h), h.kok.put hO rfl rfl rfl rfl h.kok.t0 h.kok.t1 ⟨hK.alv, h1, ?_, ?_, ?_⟩⟩
  · intro p hp
    rw [hi] at hp
    obtain ⟨j, h1, h2⟩ := hK.hr p hp
    exact ⟨j, by rw [hh]; exact h1, h2⟩
  · rw [hi, hh]; exact hK.inj
  · rw [hi, hh]; exact hK.all
theorem held_get {env : Int} {j : Nat} {k : KSt} (h : heldE s env = 0 ∧ env = j ∧ j < s.ne ∧ keptO s j = some k) : s.kept[j]? = some (some k) := keptO_get h.2.2.2

theorem read_ok (h : SOk s) {n : Nat} (hz : Sz s n) (env a : Int) : SOk (readR s env a).2 ∧ Grows s (readR s env a).2 ∧ Sz (readR s env a).2 (n + 1) := by
  have hsame : SOk s ∧ Grows s s ∧ Sz s (n + 1) := ⟨h, Grows.refl s, hz.mono (by omega)⟩
  unfold readR
  rcases heldE_cases s env with ⟨y, hr, hy⟩ | ⟨j, k, hr, rfl, hj, hO⟩
  · rw [if_pos (by rw [hr]; omega)]; exact hsame
  · rw [if_neg (by rw [hr]; simp)]
    split
    · exact hsame
    · rw [hO]
      simp only [Int.toNat_natCast]
      cases ha : accessS s k j (a / 4).toNat false with
      | none => exact hsame
      | some s1 =>
        obtain ⟨a1, a2, k', a3, a4, a5, a6⟩ := access_ok h (keptO_get hO) (by omega) ha
        exact ⟨a1, a2, hz.put a2 a3 (keptO_get hO) (by omega)⟩
theorem write_ok (h : SOk s) {n : Nat} (hz : Sz s n) (env a v : Int) : SOk (writeR s env a v).2 ∧ Grows s (writeR s env a v).2 ∧ Sz (writeR s env a v).2 (n + 1) := by
  have hsame : SOk s ∧ Grows s s ∧ Sz s (n + 1) := ⟨h, Grows.refl s, hz.mono (by omega)⟩
  unfold writeR
  rcases heldE_cases s env with ⟨y, hr, hy⟩ | ⟨j, k, hr, rfl, hj, hO⟩
  · rw [if_pos (by rw [hr]; omega)]; exact hsame
  · rw [if_neg (by rw [hr]; simp)]
    split
    · exact hsame
    · rename_i hv
      rw [hO]
      simp only [Int.toNat_natCast]
      cases ha : accessS s k j (a / 4).toNat true with
      | none => exact hsame
      | some s1 =>
        obtain ⟨a1, a2, k', a3, a4, a5, a6⟩ := access_ok h (keptO_get hO) (by omega) ha
        have hk1 : s1.kept[j]? = some (some k') := by rw [a3, List.getElem?_set_self (kept_lt (keptO_get hO))]
        simp only [keptO_at hk1]
        have hL := (a1.kok.k1 j k' hk1).len
        refine ⟨a1.putK hk1 rfl ?_ rfl rfl, ?_, ?_⟩
        · refine ⟨by show (k'.bytes.set _ _).length = 64; simp [hL.by_], hL.hnd, hL.chg, hL.dty, hL.out, hL.r0, hL.r1, hL.i0, hL.i1, hL.o0, hL.o1, hL.q0, hL.q1, hL.p0, hL.p1, hL.nod, hL.pg, hL.met, hL.chi, fun x hx => ?_⟩
          have hx' : x ∈ k'.bytes.set a.toNat v := hx
          rcases List.mem_or_eq_of_mem_set hx' with h1 | rfl
          · exact hL.val x h1
          · omega
        · exact a2
        · refine hz.put (t := Go.Proofs.Ytinlkcmdbjcofab.putK s1 j _) a2 (k' := { k' with bytes := k'.bytes.set a.toNat v }) ?_ (keptO_get hO) (by show k'.uses.length ≤ _; omega)
          show s1.kept.set j _ = s.kept.set j _
          rw [a3, List.set_set]
theorem clean_ok (h : SOk s) {n : Nat} (hz : Sz s n) (env : Int) : SOk (cleanR s env).2 ∧ Grows s (cleanR s env).2 ∧ Sz (cleanR s env).2 (n + 1) := by
  have hsame : SOk s ∧ Grows s s ∧ Sz s (n + 1) := ⟨h, Grows.refl s, hz.mono (by omega)⟩
  unfold cleanR
  rcases heldE_cases s env with ⟨y, hr, hy⟩ | ⟨j, k, hr, rfl, hj, hO⟩
  · rw [if_pos (by rw [hr]; omega)]; exact hsame
  · rw [if_neg (by rw [hr]; simp), hO]
    simp only [Int.toNat_natCast]
    have hL := (h.kok.k1 j k (keptO_get hO)).len
    exact ⟨h.putK (keptO_get hO) rfl ⟨hL.by_, hL.hnd, hL.chg, by simp, hL.out, hL.r0, hL.r1, hL.i0, hL.i1, hL.o0, hL.o1, hL.q0, hL.q1, hL.p0, hL.p1, hL.nod, hL.pg, hL.met, hL.chi, hL.val⟩ rfl rfl, Grows.refl s, hz.put (t := Go.Proofs.Ytinlkcmdbjcofab.putK s j _) (Grows.refl s) rfl (keptO_get hO) (by simp)⟩

theorem listR_no {env : Int} (h : ¬ 0 < (listR s env).length) : ∀ (j : Nat) (r : RR), s.rights[j]? = some r → lv s.rights j = true → r.env ≠ env := by
  intro j r hj hl he
  refine h (List.length_pos_of_mem (a := r) ?_)
  unfold listR listTo
  rw [List.mem_filterMap]
  exact ⟨j, List.mem_range.2 (List.getElem?_eq_some_iff.1 hj).1, by simp [hj, hl, he]⟩
theorem new_len0 {quota policy : Int} (h1 : 1 ≤ quota) (h2 : quota ≤ 16) (h3 : 0 ≤ policy) (h4 : policy ≤ 2) : KLen0 (KSt.new quota policy) (-1) 0 := by
  refine ⟨by simp [KSt.new], by simp [KSt.new], by simp [KSt.new], by simp [KSt.new], by simp [KSt.new], by simp [KSt.new], by simp [KSt.new], by simp [KSt.new], by simp [KSt.new], by simp [KSt.new], by simp [KSt.new], h1, h2, h3, h4, by simp [KSt.new], fun p hp => by simp [KSt.new] at hp, fun p hp => by simp [KSt.new] at hp, fun p hp => ?_, fun x hx => ?_⟩
  · have hm := List.eq_of_mem_replicate (n := 16) (a := false) (List.mem_of_getElem? hp)
    simp at hm
  · simp only [KSt.new, List.mem_replicate] at hx
    omega
theorem keep_ok (h : SOk s) {n : Nat} (hz : Sz s n) (env quota policy : Int) : SOk (keepR s env quota policy).2 ∧ Grows s (keepR s env quota policy).2 ∧ Sz (keepR s env quota policy).2 (n + 1) := by
  have hsame : SOk s ∧ Grows s s ∧ Sz s (n + 1) := ⟨h, Grows.refl s, hz.mono (by omega)⟩
  unfold keepR
  by_cases hr : rawE s env = 0
  · rw [if_neg (by rw [hr]; simp)]
    split
    · exact hsame
    · rename_i hv
      split
      · exact hsame
      · rename_i hlist
        obtain ⟨ha, hk⟩ := raw_no hr
        have hrg := aliveB_range ha
        obtain ⟨e, rfl⟩ : ∃ e : Nat, env = e := ⟨env.toNat, by omega⟩
        simp only [Int.toNat_natCast]
        have hno := listR_no hlist
        have hN := new_len0 (quota := quota) (policy := policy) (by omega) (by omega) (by omega) (by omega)
        have hks : ∀ {i : Nat} {k2 : KSt}, (s.kept.set e (some (KSt.new quota policy)))[i]? = some (some k2) → (i = e ∧ k2 = KSt.new quota policy) ∨ (i ≠ e ∧ s.kept[i]? = some (some k2)) := fun hi => kept_set (t := Go.Proofs.Ytinlkcmdbjcofab.putK s e (KSt.new quota policy)) rfl hi
        refine ⟨⟨h.toSOk0.kept rfl rfl rfl rfl rfl rfl rfl, h.hin.same_rights rfl (fun _ h => h), ⟨fun i k2 hi => ?_, by simp [Go.Proofs.Ytinlkcmdbjcofab.putK, h.kok.klen], h.kok.t0, h.kok.t1, fun i r q a b c d => ?_⟩⟩, Grows.refl s, ⟨by have := hz.1; exact Nat.le_succ_of_le this, fun i k2 hi => ?_⟩⟩
        · rcases hks hi with ⟨rfl, rfl⟩ | ⟨hne, hi⟩
          · exact ⟨ha, hN, fun p hp => by simp [KSt.new] at hp, fun p q hp => by simp [KSt.new] at hp, fun j r hj hl he => absurd he (hno j r hj hl)⟩
          · exact (h.kok.k1 i k2 hi).same rfl (h.kok.k1 i k2 hi).alv
        · have hd := h.kok.der i r q a b c d
          have hq := h.inv.env _ q d
          have hlq : lv s.rights r.frm.toNat = true := by
            have hb : lv s.rights i = true := b
            rw [lv_step h.inv.ord a] at hb
            simp at hb
            rw [Int.toNat_of_nonneg c]; exact hb.2
          have hne : q.env ≠ (e : Int) := hno _ q d hlq
          unfold keptB keptO at hd ⊢
          show (((s.kept.set e _)[q.env.toNat]?).getD none).isSome = false
          rw [List.getElem?_set_ne (by omega)]
          exact hd
        · rcases hks hi with ⟨rfl, rfl⟩ | ⟨hne, hi⟩
          · simp [KSt.new]
          · have := hz.2 i k2 hi; omega
  · rw [if_pos hr]; exact hsame

/-! ### Squeeze -/
def endAt (s : RSt) (j : Nat) : RSt := { s with rights := markAt (fun i => i == j) s.rights }
/-- A page goes out, and its right ends (the table is not swept yet). -/
def sq1 (s : RSt) (env : Nat) (k : KSt) : RSt := endAt (leavesS s k env (pickK k).toNat) ((k.hnd[(pickK k).toNat]?).getD 0 - 1).toNat
def sqN : Nat → RSt → Nat → RSt
  | 0, s, _ => s
  | n + 1, s, env => match keptO s env with
    | none => s
    | some k => sqN n (sq1 s env k) env
def squeezeR (s : RSt) (env quota : Int) : Int × RSt :=
  if heldE s env ≠ 0 then (heldE s env, s) else if quota < 1 ∨ 16 < quota then (6, s) else match keptO s env with
    | none => (0, s)
    | some k => (0, sweepS (sqN (k.inp.length - quota.toNat) (putK s env.toNat { k with quota := quota }) env.toNat))

/-- As SOk0, where entries may have lost their backing. -/
structure SOkU (s : RSt) : Prop where
  inv : RInv s
  fix : RFix s s.ne
  ns : s.slots.length = s.ns
  bys : ∀ (i : Nat) (l : List Int), s.bytes[i]? = some l → l.length = 4 ∧ ∀ (j : Nat) (x : Int), l[j]? = some x → 0 ≤ x ∧ x ≤ 255
  ent : ∀ (i : Nat) (e : Ent), s.slots[i]? = some e → e.used = true → 0 ≤ e.page ∧ e.page ≤ 15
  emp : ∀ (i : Nat) (e : Ent), s.slots[i]? = some e → e.used = false → e = Ent.empty
  uni : ∀ (i j : Nat) (e f : Ent), s.slots[i]? = some e → s.slots[j]? = some f → e.used = true → f.used = true → e.env = f.env → e.page = f.page → i = j
theorem SOk0.u (h : SOk0 s) : SOkU s := ⟨h.inv, h.fix, h.ns, h.bys, fun i e he hu => ⟨(h.ent i e he hu).1, (h.ent i e he hu).2.1⟩, h.emp, h.uni⟩
theorem SOkU.sweep (h : SOkU s) : SOk0 (sweepS s) := by
  have key : ∀ (i : Nat) (e : Ent), (sweepS s).slots[i]? = some e → (e.used = true → s.slots[i]? = some e ∧ owned s.rights e.env e.fr e.wr = true) ∧ (e.used = false → e = Ent.empty) := by
    intro i e he
    simp only [sweepS, List.getElem?_map] at he
    cases hx : s.slots[i]? with
    | none => rw [hx] at he; simp at he
    | some x =>
      rw [hx] at he
      simp only [Option.map_some, Option.some.injEq] at he
      cases hc : (x.used && !owned s.rights x.env x.fr x.wr)
      · rw [hc] at he
        simp only [Bool.false_eq_true, if_false] at he
        subst he
        refine ⟨fun hu => ⟨rfl, ?_⟩, fun hu => h.emp i x hx hu⟩
        rw [hu] at hc
        simpa using hc
      · rw [hc] at he
        simp only [if_true] at he
        subst he
        exact ⟨fun hu => by simp [Ent.empty] at hu, fun _ => rfl⟩
  refine ⟨⟨h.inv.ord, h.inv.hnd, h.inv.env, h.inv.fr⟩, h.fix.of rfl rfl rfl rfl (by simp [sweepS]), by simp [sweepS, h.ns], h.bys, ?_, fun i e he hu => (key i e he).2 hu, ?_⟩
  · intro i e he hu
    obtain ⟨a, b⟩ := (key i e he).1 hu
    obtain ⟨c, d⟩ := h.ent i e a hu
    exact ⟨c, d, b⟩
  · intro i j e f he hf hu hv
    exact h.uni i j e f ((key i e he).1 hu).1 ((key j f hf).1 hv).1 hu hv
theorem SOkU.sq (h : SOkU s) (k : KSt) (env p j : Nat) : SOkU (endAt (leavesS s k env p) j) := by
  have hget : ∀ (i : Nat) (e : Ent), (s.slots.map (goneE env p))[i]? = some e → (e.used = true → s.slots[i]? = some e) ∧ (e.used = false → e = Ent.empty) := by
    intro i e he
    rw [List.getElem?_map] at he
    cases hx : s.slots[i]? with
    | none => rw [hx] at he; simp at he
    | some x =>
      rw [hx] at he
      simp only [Option.map_some, Option.some.injEq] at he
      unfold goneE at he
      cases hc : (x.env == (env : Int) && x.page == (p : Int))
      · rw [hc] at he
        simp only [Bool.false_eq_true, if_false] at he
        subst he
        exact ⟨fun _ => rfl, fun hu => h.emp i x hx hu⟩
      · rw [hc] at he
        simp only [if_true] at he
        subst he
        exact ⟨fun hu => by simp [Ent.empty] at hu, fun _ => rfl⟩
  have hI := h.inv.mark (fun i => i == j)
  refine ⟨⟨hI.ord, hI.hnd, hI.env, hI.fr⟩, h.fix.of rfl rfl rfl rfl (by simp [endAt, leavesS, goneS, putK]), by simp [endAt, leavesS, goneS, putK, h.ns], h.bys, ?_, fun i e he hu => (hget i e he).2 hu, ?_⟩
  · intro i e he hu
    exact h.ent i e ((hget i e he).1 hu) hu
  · intro i j e f he hf hu hv
    exact h.uni i j e f ((hget i e he).1 hu) ((hget j f hf).1 hv) hu hv
theorem HInv0.ended (h : HInv0 s) (hI : RInv s) {j : Nat} (hr : t.rights = markAt (fun i => i == j) s.rights) (ha : t.alive = s.alive) (hn : t.ne = s.ne) : HInv0 t :=
  h.mark hI _ hr (fun i r _ _ h => by unfold aliveB at h ⊢; rw [ha, hn]; exact h)

/-- One round of Squeeze. -/
theorem sq1_ok {env : Nat} {k : KSt} (hU : SOkU s) (hH : HInv0 s) (hK : KOk s) (hO : s.kept[env]? = some (some k)) (hne : 0 < k.inp.length) :
    SOkU (sq1 s env k) ∧ HInv0 (sq1 s env k) ∧ KOk (sq1 s env k) ∧ (sq1 s env k).kept = s.kept.set env (some (leaveK k (pickK k).toNat)) ∧ (leaveK k (pickK k).toNat).inp.length + 1 = k.inp.length ∧ Grows s (sq1 s env k) ∧ (sq1 s env k).rights.length = s.rights.length := by
  have h1 := hK.k1 env k hO
  have hmet : ∀ p, p ∈ k.inp → ∃ u, u ∈ k.uses ∧ u.1 = p := fun p hp => h1.len.met p hp (by have := h1.len.pg p hp; omega)
  have hin := (pick_mem hne hmet).1
  obtain ⟨q, hq⟩ : ∃ q : Nat, pickK k = q := ⟨(pickK k).toNat, by have := h1.len.pg _ hin; omega⟩
  rw [hq] at hin
  obtain ⟨j, a, r, b, c, d, e, f⟩ := h1.hr q hin
  simp only [Int.toNat_natCast] at a
  unfold sq1
  rw [hq]
  simp only [Int.toNat_natCast, a, Option.getD_some, Int.add_sub_cancel]
  refine ⟨hU.sq k env q j, hH.ended (s := s) hU.inv rfl rfl rfl, ?_, rfl, leave_length h1.len hin, ⟨rfl, rfl, rfl, rfl, by simp [endAt, leavesS, goneS, putK], by simp [endAt, leavesS, goneS, putK, markAt_len]⟩, by simp [endAt, leavesS, goneS, putK, markAt_len]⟩
  refine hK.putMark hU.inv hO (fun i => i == j) rfl (fun j' r' g1 g2 => ?_) rfl rfl rfl rfl rfl ?_
  · have : j' ≠ j := fun e2 => by rw [e2, b] at g1; simp at g1; rw [← g1] at g2; exact g2 d
    simpa using this
  · exact h1.leaveEnd hU.inv hin a rfl h1.alv
theorem sqN_ok {env : Nat} : ∀ (n : Nat) (s : RSt) (k : KSt), SOkU s → HInv0 s → KOk s → s.kept[env]? = some (some k) → n ≤ k.inp.length →
    SOkU (sqN n s env) ∧ HInv0 (sqN n s env) ∧ KOk (sqN n s env) ∧ Grows s (sqN n s env) ∧ (sqN n s env).rights.length = s.rights.length ∧ ∃ k', (sqN n s env).kept = s.kept.set env (some k') ∧ k'.uses = k.uses ∧ k'.bytes = k.bytes ∧ k'.dty = k.dty ∧ k'.quota = k.quota ∧ k'.policy = k.policy ∧ k'.inp.length + n = k.inp.length := by
  intro n
  induction n with
  | zero =>
    intro s k hU hH hK hO hn
    refine ⟨hU, hH, hK, Grows.refl s, rfl, k, ?_, rfl, rfl, rfl, rfl, rfl, rfl⟩
    show s.kept = _
    apply List.ext_getElem?
    intro i
    rw [List.getElem?_set]
    split
    · rename_i e
      subst e
      rw [if_pos (kept_lt hO), hO]
    · rfl
  | succ n ih =>
    intro s k hU hH hK hO hn
    obtain ⟨a, b, c, d, e, f, fl⟩ := sq1_ok hU hH hK hO (by omega)
    have hO' : (sq1 s env k).kept[env]? = some (some (leaveK k (pickK k).toNat)) := by rw [d, List.getElem?_set_self (kept_lt hO)]
    obtain ⟨g1, g2, g3, g4, gl, k', g5, g6, g7, g8, g9, g10, g11⟩ := ih (sq1 s env k) _ a b c hO' (by omega)
    have hx : sqN (n + 1) s env = sqN n (sq1 s env k) env := by
      show (match keptO s env with | none => s | some k => sqN n (sq1 s env k) env) = _
      rw [keptO_at hO]
    rw [hx]
    obtain ⟨f1, f2, f3, f4, f5, f6⟩ := f
    obtain ⟨i1, i2, i3, i4, i5, i6⟩ := g4
    refine ⟨g1, g2, g3, ⟨i1.trans f1, i2.trans f2, i3.trans f3, i4.trans f4, i5.trans f5, by omega⟩, by omega, k', by rw [g5, d, List.set_set], g6, g7, g8, g9, g10, by omega⟩
theorem squeeze_ok (h : SOk s) {n : Nat} (hz : Sz s n) (env quota : Int) : SOk (squeezeR s env quota).2 ∧ Grows s (squeezeR s env quota).2 ∧ Sz (squeezeR s env quota).2 (n + 1) := by
  have hsame : SOk s ∧ Grows s s ∧ Sz s (n + 1) := ⟨h, Grows.refl s, hz.mono (by omega)⟩
  unfold squeezeR
  rcases heldE_cases s env with ⟨y, hr, hy⟩ | ⟨j, k, hr, rfl, hj, hO⟩
  · rw [if_pos (by rw [hr]; omega)]; exact hsame
  · rw [if_neg (by rw [hr]; simp)]
    split
    · exact hsame
    · rename_i hq
      rw [hO]
      simp only [Int.toNat_natCast]
      have hL := (h.kok.k1 j k (keptO_get hO)).len
      have h1 : SOk (putK s j { k with quota := quota }) := h.putK (keptO_get hO) rfl ⟨hL.by_, hL.hnd, hL.chg, hL.dty, hL.out, hL.r0, hL.r1, hL.i0, hL.i1, hL.o0, hL.o1, by show 1 ≤ quota; omega, by show quota ≤ 16; omega, hL.p0, hL.p1, hL.nod, hL.pg, hL.met, hL.chi, hL.val⟩ rfl rfl
      have hO1 : (putK s j { k with quota := quota }).kept[j]? = some (some { k with quota := quota }) := by show (s.kept.set j _)[j]? = _; rw [List.getElem?_set_self (kept_lt (keptO_get hO))]
      obtain ⟨a, b, c, d, dl, k', e1, e2, e3, e4, e5, e6, e7⟩ := sqN_ok (k.inp.length - quota.toNat) (putK s j { k with quota := quota }) _ h1.toSOk0.u h1.hin h1.kok hO1 (by show _ ≤ k.inp.length; omega)
      obtain ⟨d1, d2, d3, d4, d5, d6⟩ := d
      have hkk : (sqN (k.inp.length - quota.toNat) (putK s j { k with quota := quota }) j).kept = s.kept.set j (some k') := by rw [e1]; show (s.kept.set j _).set j _ = _; rw [List.set_set]
      have hg : Grows s (sweepS (sqN (k.inp.length - quota.toNat) (putK s j { k with quota := quota }) j)) := ⟨d1, d2, d3, d4, by show (List.map _ _).length = _; rw [List.length_map]; exact d5, d6⟩
      refine ⟨⟨a.sweep, b.same_rights rfl (fun _ h => h), c.same rfl rfl (fun _ h => h) rfl rfl rfl⟩, hg, hz.put hg (k' := k') hkk (keptO_get hO) (by rw [e2]; show k.uses.length ≤ _; omega)⟩
end
end Go.Proofs.Ytinlkcmdbjcofab

/-
  What a machine of the program must answer, said of a document's machine that it stands for: M own id w p s: the machine at p stands for s; its blocks bear id.
-/
namespace Go.Proofs.Ytinlkcmdbjcofab
open Go.RowKit
set_option linter.unusedVariables false

def MT : Type := (Nat → Nat × Nat) → Nat → World → Nat → RSt → Prop
def MNext (M : MT) (own : Nat → Nat × Nat) (id : Nat) (w : World) (p : Nat) (w' : World) (s' : RSt) : Prop :=
  ∃ own' : Nat → Nat × Nat, M own' id w' p s' ∧ (∀ b, b < w.heap.size → own' b = own b) ∧ Touch w.heap.size (fun b => (own b).1 = id) w w'
def I64 (n : Int) : Prop := -9223372036854775808 ≤ n ∧ n ≤ 9223372036854775807
def Few (s : RSt) : Prop := (s.rights.length + 2) * 48 ≤ 140737488355328

structure Api (M : MT) : Prop where
  of : ∀ {own own' : Nat → Nat × Nat} {id : Nat} {w w' : World} {p : Nat} {s : RSt}, M own id w p s → (∀ b, b < w.heap.size → own' b = own b) → (∀ b, b < w.heap.size → (own b).1 = id → w'.heap[b]? = w.heap[b]?) → M own' id w' p s
  retag : ∀ {own own' : Nat → Nat × Nat} {id : Nat} {w : World} {p : Nat} {s : RSt}, M own id w p s → (∀ b, b < w.heap.size → (own b).1 = id → own' b = own b) → M own' id w p s
  new_no : ∀ (a b c : Int) (w : World), mayB a b c = false →
    Calls Try.prog 28 #[.agg #[.int .i64 a, .int .i64 b, .int .i64 c]] w fun e w' => e = .returned (.tuple #[.pointer none, .int .i64 1]) ∧ Below w.heap.size w w'
  new_yes : ∀ (a b c : Nat) (w : World), mayB a b c = true →
    Calls Try.prog 28 #[.agg #[.int .i64 a, .int .i64 b, .int .i64 c]] w fun e w' => ∃ (p : Nat) (f : Nat → Option Nat), e = .returned (.tuple #[.pointer (some ⟨p, 0, none⟩), .int .i64 0]) ∧ Below w.heap.size w w' ∧
      (∀ b j, f b = some j → w.heap.size ≤ b ∧ b < w'.heap.size) ∧ ∀ (own : Nat → Nat × Nat) (id : Nat), (∀ b j, f b = some j → own b = (id, j)) → M own id w' p (RSt.fresh a b c)
  alloc : ∀ {own : Nat → Nat × Nat} {id : Nat} {w : World} {p : Nat} {s : RSt}, M own id w p s → SOk s → Few s → ∀ (env : Int), I64 env →
    Calls Try.prog 13 #[.pointer (some ⟨p, 0, none⟩), .int .i64 env] w fun e w' => e = .returned (.tuple #[.int .i64 (allocR s env).1.1, .int .i64 (allocR s env).1.2]) ∧ MNext M own id w p w' (allocR s env).2
  derive : ∀ {own : Nat → Nat × Nat} {id : Nat} {w : World} {p : Nat} {s : RSt}, M own id w p s → SOk s → Few s → ∀ (env hd te : Int) (wt : Bool), I64 env → I64 hd → I64 te →
    Calls Try.prog 19 #[.pointer (some ⟨p, 0, none⟩), .int .i64 env, .int .i64 hd, .int .i64 te, .bool wt] w fun e w' => e = .returned (.tuple #[.int .i64 (deriveR s env hd te wt).1.1, .int .i64 (deriveR s env hd te wt).1.2]) ∧ MNext M own id w p w' (deriveR s env hd te wt).2
  revoke : ∀ {own : Nat → Nat × Nat} {id : Nat} {w : World} {p : Nat} {s : RSt}, M own id w p s → SOk s → Few s → ∀ (env hd : Int), I64 env → I64 hd →
    Calls Try.prog 20 #[.pointer (some ⟨p, 0, none⟩), .int .i64 env, .int .i64 hd] w fun e w' => e = .returned (.int .i64 (revokeR s env hd).1) ∧ MNext M own id w p w' (revokeR s env hd).2
  drop : ∀ {own : Nat → Nat × Nat} {id : Nat} {w : World} {p : Nat} {s : RSt}, M own id w p s → SOk s → Few s → ∀ (env hd : Int), I64 env → I64 hd →
    Calls Try.prog 61 #[.pointer (some ⟨p, 0, none⟩), .int .i64 env, .int .i64 hd] w fun e w' => e = .returned (.int .i64 (dropR s env hd).1) ∧ MNext M own id w p w' (dropR s env hd).2
  kill : ∀ {own : Nat → Nat × Nat} {id : Nat} {w : World} {p : Nat} {s : RSt}, M own id w p s → SOk s → Few s → ∀ (env : Int), I64 env →
    Calls Try.prog 63 #[.pointer (some ⟨p, 0, none⟩), .int .i64 env] w fun e w' => e = .returned (.int .i64 (killR s env).1) ∧ MNext M own id w p w' (killR s env).2
  spawn : ∀ {own : Nat → Nat × Nat} {id : Nat} {w : World} {p : Nat} {s : RSt}, M own id w p s → SOk s → Few s → ∀ (env : Int), I64 env →
    Calls Try.prog 64 #[.pointer (some ⟨p, 0, none⟩), .int .i64 env] w fun e w' => e = .returned (.int .i64 (spawnR s env).1) ∧ MNext M own id w p w' (spawnR s env).2
  rights : ∀ {own : Nat → Nat × Nat} {id : Nat} {w : World} {p : Nat} {s : RSt}, M own id w p s → SOk s → Few s → ∀ (env : Int), I64 env →
    Calls Try.prog 53 #[.pointer (some ⟨p, 0, none⟩), .int .i64 env] w fun e w' => ∃ v, e = .returned (.tuple #[v, .int .i64 (liveE s env)]) ∧ Below w.heap.size w w' ∧ (∀ x, v.ownBlock = some x → w.heap.size ≤ x) ∧
      Row w' v 64 4 (toldR s env).length ((toldR s env).flatMap rcells)
  map : ∀ {own : Nat → Nat × Nat} {id : Nat} {w : World} {p : Nat} {s : RSt}, M own id w p s → SOk s → Few s → ∀ (env page hd : Int) (wt : Bool) (slot : Int), I64 env → I64 page → I64 hd → I64 slot →
    Calls Try.prog 16 #[.pointer (some ⟨p, 0, none⟩), .int .i64 env, .int .i64 page, .int .i64 hd, .bool wt, .int .i64 slot] w fun e w' => e = .returned (.int .i64 (mapR s env page hd wt slot).1) ∧ MNext M own id w p w' (mapR s env page hd wt slot).2
  unmap : ∀ {own : Nat → Nat × Nat} {id : Nat} {w : World} {p : Nat} {s : RSt}, M own id w p s → SOk s → Few s → ∀ (env page : Int), I64 env → I64 page →
    Calls Try.prog 31 #[.pointer (some ⟨p, 0, none⟩), .int .i64 env, .int .i64 page] w fun e w' => e = .returned (.int .i64 (unmapR s env page).1) ∧ MNext M own id w p w' (unmapR s env page).2
  load : ∀ {own : Nat → Nat × Nat} {id : Nat} {w : World} {p : Nat} {s : RSt}, M own id w p s → SOk s → Few s → ∀ (env page a : Int), I64 env → I64 page → I64 a →
    Calls Try.prog 17 #[.pointer (some ⟨p, 0, none⟩), .int .i64 env, .int .i64 page, .int .i64 a] w fun e w' => e = .returned (.tuple #[.int .i64 (loadR s env page a).1, .int .i64 (loadR s env page a).2]) ∧ MNext M own id w p w' s
  store : ∀ {own : Nat → Nat × Nat} {id : Nat} {w : World} {p : Nat} {s : RSt}, M own id w p s → SOk s → Few s → ∀ (env page a v : Int), I64 env → I64 page → I64 a → I64 v →
    Calls Try.prog 18 #[.pointer (some ⟨p, 0, none⟩), .int .i64 env, .int .i64 page, .int .i64 a, .int .i64 v] w fun e w' => e = .returned (.int .i64 (storeR s env page a v).1) ∧ MNext M own id w p w' (storeR s env page a v).2
  table : ∀ {own : Nat → Nat × Nat} {id : Nat} {w : World} {p : Nat} {s : RSt}, M own id w p s → SOk s → Few s →
    Calls Try.prog 81 #[.pointer (some ⟨p, 0, none⟩)] w fun e w' => ∃ v, e = .returned v ∧ Below w.heap.size w w' ∧ (∀ x, v.ownBlock = some x → w.heap.size ≤ x) ∧ Row w' v 80 5 s.slots.length (s.slots.flatMap Ent.cells)

  keep : ∀ {own : Nat → Nat × Nat} {id : Nat} {w : World} {p : Nat} {s : RSt}, M own id w p s → SOk s → Few s → FewU s → ∀ (env quota policy : Int), I64 env → I64 quota → I64 policy →
    Calls Try.prog 36 #[.pointer (some ⟨p, 0, none⟩), .int .i64 env, .int .i64 quota, .int .i64 policy] w fun e w' => e = .returned (.int .i64 (keepR s env quota policy).1) ∧ MNext M own id w p w' (keepR s env quota policy).2
  read : ∀ {own : Nat → Nat × Nat} {id : Nat} {w : World} {p : Nat} {s : RSt}, M own id w p s → SOk s → Few s → FewU s → ∀ (env a : Int), I64 env → I64 a →
    Calls Try.prog 37 #[.pointer (some ⟨p, 0, none⟩), .int .i64 env, .int .i64 a] w fun e w' => e = .returned (.tuple #[.int .i64 (readR s env a).1.1, .int .i64 (readR s env a).1.2]) ∧ MNext M own id w p w' (readR s env a).2
  write : ∀ {own : Nat → Nat × Nat} {id : Nat} {w : World} {p : Nat} {s : RSt}, M own id w p s → SOk s → Few s → FewU s → ∀ (env a v : Int), I64 env → I64 a → I64 v →
    Calls Try.prog 38 #[.pointer (some ⟨p, 0, none⟩), .int .i64 env, .int .i64 a, .int .i64 v] w fun e w' => e = .returned (.int .i64 (writeR s env a v).1) ∧ MNext M own id w p w' (writeR s env a v).2
  counts : ∀ {own : Nat → Nat × Nat} {id : Nat} {w : World} {p : Nat} {s : RSt}, M own id w p s → SOk s → Few s → FewU s → ∀ (env : Int), I64 env →
    Calls Try.prog 52 #[.pointer (some ⟨p, 0, none⟩), .int .i64 env] w fun e w' => e = .returned (.tuple #[.agg #[.int .i64 (countsR s env).1.1, .int .i64 (countsR s env).1.2.1, .int .i64 (countsR s env).1.2.2.1, .int .i64 (countsR s env).1.2.2.2], .int .i64 (countsR s env).2]) ∧ MNext M own id w p w' s
  dirty : ∀ {own : Nat → Nat × Nat} {id : Nat} {w : World} {p : Nat} {s : RSt}, M own id w p s → SOk s → Few s → FewU s → ∀ (env : Int), I64 env →
    Calls Try.prog 57 #[.pointer (some ⟨p, 0, none⟩), .int .i64 env] w fun e w' => ∃ v, e = .returned (.tuple #[v, .int .i64 (dirtyR s env).2]) ∧ Below w.heap.size w w' ∧ (∀ x, v.ownBlock = some x → w.heap.size ≤ x) ∧ Row w' v 3 1 (dirtyR s env).1.length ((dirtyR s env).1.map (.int .i64))
  clean : ∀ {own : Nat → Nat × Nat} {id : Nat} {w : World} {p : Nat} {s : RSt}, M own id w p s → SOk s → Few s → FewU s → ∀ (env : Int), I64 env →
    Calls Try.prog 55 #[.pointer (some ⟨p, 0, none⟩), .int .i64 env] w fun e w' => e = .returned (.int .i64 (cleanR s env).1) ∧ MNext M own id w p w' (cleanR s env).2
  squeeze : ∀ {own : Nat → Nat × Nat} {id : Nat} {w : World} {p : Nat} {s : RSt}, M own id w p s → SOk s → Few s → FewU s → ∀ (env quota : Int), I64 env → I64 quota →
    Calls Try.prog 62 #[.pointer (some ⟨p, 0, none⟩), .int .i64 env, .int .i64 quota] w fun e w' => e = .returned (.int .i64 (squeezeR s env quota).1) ∧ MNext M own id w p w' (squeezeR s env quota).2

section
variable {M : MT} {own own' : Nat → Nat × Nat} {id : Nat} {w w' : World} {p : Nat} {s s' : RSt}
theorem Api.below (A : Api M) (h : M own id w p s) (hb : Below w.heap.size w w') : M own id w' p s := A.of h (fun _ _ => rfl) (fun b hl _ => hb.block b hl)
theorem MNext.of_below (A : Api M) (h : M own id w p s) (hb : Below w.heap.size w w') : MNext M own id w p w' s := ⟨own, A.below h hb, fun _ _ => rfl, Touch.of_below hb _⟩
end
end Go.Proofs.Ytinlkcmdbjcofab

/-
  The program's store of rights: package rights.
-/
namespace Go.Proofs.Ytinlkcmdbjcofab
open Go.RowKit
set_option linter.unusedVariables false

/-- A right that is alive. -/
structure PH where
  h : Int
  env : Int
  fr : Int
  wr : Bool
  par : Int

def PH.cells (x : PH) : List Value := [.int .i64 x.h, .int .i64 x.env, .int .i64 x.fr, .bool x.wr, .int .i64 x.par]
def PH.rc (x : PH) : List Value := [.int .i64 x.h, .int .i64 x.env, .int .i64 x.fr, .bool x.wr]

/-- The store at ⟨b, o⟩ of a block whose cells are cs: its list of rights, the last handle. -/
structure StoreAt (own : Nat → Nat × Nat) (t : Nat × Nat) (w : World) (b o : Nat) (T : TypeId) (cs : List Value) (vL : Value) (hs : List PH) (last : Int) : Prop where
  blk : Blk w b cs T
  c0 : cs[o]? = some vL
  c1 : cs[o + 1]? = some (.int .i64 last)
  row : Row w vL 115 5 hs.length (hs.flatMap PH.cells)
  tag : Tg own vL t
  ne : own b ≠ t

section
variable {own : Nat → Nat × Nat} {t : Nat × Nat} {w : World} {b o : Nat} {T : TypeId} {cs : List Value} {vL : Value} {hs : List PH} {last : Int}

theorem StoreAt.of {own' : Nat → Nat × Nat} {w' : World} (h : StoreAt own t w b o T cs vL hs last) (ho : ∀ x, x < w.heap.size → own' x = own x) (hb : w'.heap[b]? = w.heap[b]?) (hr : ∀ x, x < w.heap.size → own x = t → w'.heap[x]? = w.heap[x]?) : StoreAt own' t w' b o T cs vL hs last :=
  ⟨h.blk.of hb, h.c0, h.c1, h.row.kept h.tag hr, h.tag.congr h.row ho, by rw [ho b h.blk.lt]; exact h.ne⟩
theorem StoreAt.below {w' : World} (h : StoreAt own t w b o T cs vL hs last) (hb : Below w.heap.size w w') : StoreAt own t w' b o T cs vL hs last :=
  h.of (fun _ _ => rfl) (hb.block b h.blk.lt) (fun x hx _ => hb.block x hx)

theorem StoreAt.held (h : StoreAt own t w b o T cs vL hs last) {i : Nat} {x : PH} (hx : hs[i]? = some x) :
    ∃ g cap, vL = .slice (some ⟨g, 0, none⟩) hs.length cap ∧ own g = t ∧ w.cell? ⟨g, i * 5, none⟩ = some (.int .i64 x.h) ∧ w.cell? ⟨g, i * 5 + 1, none⟩ = some (.int .i64 x.env) ∧ w.cell? ⟨g, i * 5 + 2, none⟩ = some (.int .i64 x.fr) ∧
      w.cell? ⟨g, i * 5 + 3, none⟩ = some (.bool x.wr) ∧ w.cell? ⟨g, i * 5 + 4, none⟩ = some (.int .i64 x.par) := by
  have hi := (List.getElem?_eq_some_iff.1 hx).1
  obtain ⟨g, cap, hv, hc, hf⟩ := h.row.form (by omega)
  have hy : ∀ j, j < 5 → w.cell? ⟨g, i * 5 + j, none⟩ = x.cells[j]? := fun j hj => by
    rw [hc _ (by omega), flat_get PH.cells 5 (fun _ => rfl) _ _ j _ hx hj]
  exact ⟨g, cap, hv, h.tag g (by rw [hv]; rfl), hy 0 (by omega), hy 1 (by omega), hy 2 (by omega), hy 3 (by omega), hy 4 (by omega)⟩

/-- The list's shape: empty, or somewhere. -/
theorem StoreAt.shape (h : StoreAt own t w b o T cs vL hs last) : ∃ ao cap, vL = .slice ao hs.length cap ∧ (hs.length = 0 ∨ ∃ g, ao = some ⟨g, 0, none⟩) := by
  obtain ⟨ao, cap, g, hv, hao, _⟩ := h.row.view
  refine ⟨ao, cap, hv, ?_⟩
  rcases Nat.eq_zero_or_pos hs.length with h0 | h0
  · exact .inl h0
  · exact .inr ⟨g, hao h0⟩
theorem StoreAt.heldAt {g cap : Nat} (h : StoreAt own t w b o T cs vL hs last) (hv : vL = .slice (some ⟨g, 0, none⟩) hs.length cap) {i : Nat} {x : PH} (hx : hs[i]? = some x) :
    w.cell? ⟨g, i * 5, none⟩ = some (.int .i64 x.h) ∧ w.cell? ⟨g, i * 5 + 1, none⟩ = some (.int .i64 x.env) ∧ w.cell? ⟨g, i * 5 + 2, none⟩ = some (.int .i64 x.fr) ∧
      w.cell? ⟨g, i * 5 + 3, none⟩ = some (.bool x.wr) ∧ w.cell? ⟨g, i * 5 + 4, none⟩ = some (.int .i64 x.par) := by
  obtain ⟨g', cap', hv', _, h0, h1, h2, h3, h4⟩ := h.held hx
  rw [hv] at hv'
  simp at hv'
  obtain ⟨rfl, _⟩ := hv'
  exact ⟨h0, h1, h2, h3, h4⟩

set_option maxHeartbeats 1000000 in
set_option maxRecDepth 100000 in
theorem full_any (h : StoreAt own t w b o T cs vL hs last) (hm : hs.length ≤ 4611686018427387904) :
    Calls Try.prog 47 #[.pointer (some ⟨b, o, none⟩)] w fun e w' => e = .returned (.bool (decide (32 ≤ hs.length))) ∧ w' = w := by
  have k0 := (h.blk.cell o).trans h.c0
  obtain ⟨ao, cap, g, hv, _⟩ := h.row.view
  rw [hv] at k0
  clear hv
  go_enter Try.func47, Try.ntmps47
  go_wp2_with fail
  go_ret
  exact ⟨ret_bool (by rw [Bool.eq_iff_iff]; simp; omega), rfl⟩

def freeP (hs : List PH) (f : Int) : Bool := hs.all fun x => !(x.fr == f)

set_option maxHeartbeats 1000000 in
set_option maxRecDepth 100000 in
theorem pfree_any (h : StoreAt own t w b o T cs vL hs last) (hm : hs.length ≤ 4611686018427387904) (f : Int) :
    Calls Try.prog 66 #[.pointer (some ⟨b, o, none⟩), .int .i64 f] w fun e w' => e = .returned (.bool (freeP hs f)) ∧ Below w.heap.size w w' := by
  have k0 := (h.blk.cell o).trans h.c0
  obtain ⟨ao, cap, hv, hcase⟩ := h.shape
  rw [hv] at k0
  have Hv : Hid (vL = .slice ao hs.length cap) := hv
  clear hv
  rcases hcase with h0 | ⟨g, rfl⟩
  all_goals
    go_enter Try.func66, Try.ntmps66
    go_wp2_with fail
    go_loopg [12] hs.length (fun k x wr => ∃ q : Nat, x = .int .i64 q ∧ q + k = hs.length ∧ (∀ i y, i < q → hs[i]? = some y → (y.fr == f) = false) ∧ Below w.heap.size w wr)
    case atStart => exact ⟨0, rfl, by omega, fun i y hi _ => by omega, Below.refl _ _⟩
    case round =>
      obtain ⟨q, rfl, hk, hno, hbl⟩ := hrel
      have HK : Hid (q + gk = hs.length) := hk
      have HN : Hid (∀ i y, i < q → hs[i]? = some y → (y.fr == f) = false) := hno
      have hq : q ≤ hs.length := by omega
      clear hk hno
      by_cases hlt : q < hs.length
      · first
        | (exfalso; omega; done)
        | (obtain ⟨x, hx⟩ : ∃ x, hs[q]? = some x := ⟨hs[q], by simp⟩
           obtain ⟨c0, c1, c2, c3, c4⟩ := (h.below hbl).heldAt Hv.out hx
           cases he : (x.fr == f)
           · have HX : Hid (hs[q]? = some x) := hx
             clear hx
             go_wp2_with fail
             go_roundg (gk - 1)
             case measure => have := HK.out; omega
             case rel => exact ⟨q + 1, by go_num, by have := HK.out; omega, fun i y hi hy => by
               rcases Nat.lt_or_ge i q with h1 | h1
               · exact HN.out i y h1 hy
               · obtain rfl : i = q := by omega
                 rw [HX.out] at hy
                 simp at hy
                 subst hy
                 exact he, hbl.alloc hbl.size _⟩
           · have HF : Hid (freeP hs f = false) := by
               unfold Hid freeP
               rw [List.all_eq_false]
               exact ⟨x, List.mem_of_getElem? hx, by simp [he]⟩
             clear hx
             go_wp2_with fail
             go_ret
             exact ⟨ret_bool HF.out.symm, hbl.alloc hbl.size _⟩)
      · go_wp2_with fail
        go_ret
        exact ⟨ret_bool (by
          unfold freeP
          rw [eq_comm, List.all_eq_true]
          intro x hx
          obtain ⟨i, hi, rfl⟩ := List.getElem_of_mem hx
          rw [HN.out i hs[i] (by omega) (by simp)]; rfl), hbl⟩
end
end Go.Proofs.Ytinlkcmdbjcofab

namespace Go.Proofs.Ytinlkcmdbjcofab
open Go.RowKit
set_option linter.unusedVariables false

theorem Row.shape {w : World} {v : Value} {e k n : Nat} {xs : List Value} (h : Row w v e k n xs) : ∃ ao cap, v = .slice ao n cap ∧ (n = 0 ∨ ∃ g, ao = some ⟨g, 0, none⟩) := by
  obtain ⟨ao, cap, g, hv, hao, _⟩ := h.view
  refine ⟨ao, cap, hv, ?_⟩
  rcases Nat.eq_zero_or_pos n with h0 | h0
  · exact .inl h0
  · exact .inr ⟨g, hao h0⟩
theorem Row.cellAt {w : World} {e k n g cap : Nat} {xs : List Value} (h : Row w (.slice (some ⟨g, 0, none⟩) n cap) e k n xs) (j : Nat) (hj : j < n * k) : w.cell? ⟨g, j, none⟩ = xs[j]? := World.ownsRow.cellAt h j hj

def hasI (l : List Int) (n : Int) : Bool := l.any fun x => x == n

set_option maxHeartbeats 1000000 in
set_option maxRecDepth 100000 in
theorem has_any {w : World} {v : Value} {l : List Int} (h : Row w v 3 1 l.length (l.map (.int .i64))) (hm : l.length ≤ 4611686018427387904) (n : Int) :
    Calls Try.prog 93 #[v, .int .i64 n] w fun e w' => e = .returned (.bool (hasI l n)) ∧ w' = w := by
  obtain ⟨ao, cap, hv, hcase⟩ := h.shape
  subst hv
  rcases hcase with h0 | ⟨g, rfl⟩
  all_goals
    go_enter Try.func93, Try.ntmps93
    go_wp2_with fail
    go_loopg [9] l.length (fun k x wr => ∃ q : Nat, x = .int .i64 q ∧ q + k = l.length ∧ (∀ i y, i < q → l[i]? = some y → (y == n) = false) ∧ wr = w)
    case atStart => exact ⟨0, rfl, by omega, fun i y hi _ => by omega, rfl⟩
    case round =>
      obtain ⟨q, rfl, hk, hno, rfl⟩ := hrel
      have HK : Hid (q + gk = l.length) := hk
      have HN : Hid (∀ i y, i < q → l[i]? = some y → (y == n) = false) := hno
      have hq : q ≤ l.length := by omega
      clear hk hno
      by_cases hlt : q < l.length
      · first
        | (exfalso; omega; done)
        | (obtain ⟨x, hx⟩ : ∃ x, l[q]? = some x := ⟨l[q], by simp⟩
           have c0 : wr.cell? ⟨g, q, none⟩ = some (.int .i64 x) := by rw [h.cellAt q (by omega), List.getElem?_map, hx]; rfl
           have HX : Hid (l[q]? = some x) := hx
           clear hx
           cases he : (x == n)
           · go_wp2_with fail
             go_roundg (gk - 1)
             case measure => have := HK.out; omega
             case rel => exact ⟨q + 1, by go_num, by have := HK.out; omega, fun i y hi hy => by
               rcases Nat.lt_or_ge i q with h1 | h1
               · exact HN.out i y h1 hy
               · obtain rfl : i = q := by omega
                 rw [HX.out] at hy
                 simp at hy
                 subst hy
                 exact he, rfl⟩
           · have HF : Hid (hasI l n = true) := by
               unfold Hid hasI
               rw [List.any_eq_true]
               exact ⟨x, List.mem_of_getElem? HX.out, he⟩
             go_wp2_with fail
             go_ret
             exact ⟨ret_bool HF.out.symm, rfl⟩)
      · go_wp2_with fail
        go_ret
        exact ⟨ret_bool (by
          unfold hasI
          rw [eq_comm, List.any_eq_false]
          intro x hx
          obtain ⟨i, hi, rfl⟩ := List.getElem_of_mem hx
          rw [HN.out i l[i] (by omega) (by simp)]; simp), rfl⟩

section
variable {own : Nat → Nat × Nat} {t : Nat × Nat} {w : World} {b o : Nat} {T : TypeId} {cs : List Value} {vL : Value} {hs : List PH} {last : Int}

/-- The right that a handle names. -/
def findP (hs : List PH) (env hd : Int) : Option PH := hs.find? fun x => x.h == hd && x.env == env
def findV (x : Option PH) : Value := match x with
  | some x => .tuple #[.agg #[.int .i64 x.h, .int .i64 x.env, .int .i64 x.fr, .bool x.wr], .bool true]
  | none => .tuple #[.agg #[.int .i64 0, .int .i64 0, .int .i64 0, .bool false], .bool false]

theorem findP_take_none {hs : List PH} {env hd : Int} (hno : ∀ i y, i < hs.length → hs[i]? = some y → (y.h == hd && y.env == env) = false) : findP hs env hd = none := by
  unfold findP
  rw [List.find?_eq_none]
  intro x hx
  obtain ⟨i, hi, rfl⟩ := List.getElem_of_mem hx
  rw [hno i hs[i] hi (by simp)]; simp
theorem findP_hit {hs : List PH} {env hd : Int} {q : Nat} {x : PH} (hx : hs[q]? = some x) (hno : ∀ i y, i < q → hs[i]? = some y → (y.h == hd && y.env == env) = false) (hy : (x.h == hd && x.env == env) = true) : findP hs env hd = some x := by
  obtain ⟨hq, he⟩ := List.getElem?_eq_some_iff.1 hx
  unfold findP
  rw [List.find?_eq_some_iff_append]
  refine ⟨hy, hs.take q, hs.drop (q + 1), ?_, ?_⟩
  · conv => lhs; rw [← List.take_append_drop q hs, List.drop_eq_getElem_cons hq, he]
  · intro y hy'
    obtain ⟨i, hi, rfl⟩ := List.getElem_of_mem hy'
    rw [List.length_take] at hi
    rw [List.getElem_take]
    rw [hno i _ (by omega) (List.getElem?_eq_getElem (by omega))]; rfl

set_option maxHeartbeats 2000000 in
set_option maxRecDepth 100000 in
theorem find_any (h : StoreAt own t w b o T cs vL hs last) (hm : hs.length ≤ 4611686018427387904) (env hd : Int) :
    Calls Try.prog 40 #[.pointer (some ⟨b, o, none⟩), .int .i64 env, .int .i64 hd] w fun e w' => e = .returned (findV (findP hs env hd)) ∧ Below w.heap.size w w' := by
  have k0 := (h.blk.cell o).trans h.c0
  obtain ⟨ao, cap, hv, hcase⟩ := h.shape
  rw [hv] at k0
  have hbl0 := h.blk.lt
  have Hv : Hid (vL = .slice ao hs.length cap) := hv
  clear hv
  rcases hcase with h0 | ⟨g, rfl⟩
  all_goals
    go_enter Try.func40, Try.ntmps40
    go_wp2_with fail
    go_loopg [15] hs.length (fun k x wr => ∃ q : Nat, x = .int .i64 q ∧ q + k = hs.length ∧ (∀ i y, i < q → hs[i]? = some y → (y.h == hd && y.env == env) = false) ∧ Below w.heap.size w wr ∧ Blk wr w.heap.size [.int .i64 0, .int .i64 0, .int .i64 0, .bool false] 64)
    case atStart => exact ⟨0, rfl, by omega, fun i y hi _ => by omega, (Below.refl _ _).alloc (Nat.le_refl _) _, Blk.new _ _ _⟩
    case round =>
      obtain ⟨q, rfl, hk, hno, hbl, hrb⟩ := hrel
      have HK : Hid (q + gk = hs.length) := hk
      have HN : Hid (∀ i y, i < q → hs[i]? = some y → (y.h == hd && y.env == env) = false) := hno
      have hq : q ≤ hs.length := by omega
      have hrl := hrb.lt
      have r0 := hrb.cell 0
      have r1 := hrb.cell 1
      have r2 := hrb.cell 2
      have r3 := hrb.cell 3
      simp at r0 r1 r2 r3
      have s0 := hrb.frozen 0
      have s1 := hrb.frozen 1
      have s2 := hrb.frozen 2
      have s3 := hrb.frozen 3
      clear hk hno
      by_cases hlt : q < hs.length
      · first
        | (exfalso; omega; done)
        | (obtain ⟨x, hx⟩ : ∃ x, hs[q]? = some x := ⟨hs[q], by simp⟩
           obtain ⟨c0, c1, c2, c3, c4⟩ := (h.below hbl).heldAt Hv.out hx
           have HX : Hid (hs[q]? = some x) := hx
           clear hx
           have hnext : (x.h == hd && x.env == env) = false → ∀ i y, i < q + 1 → hs[i]? = some y → (y.h == hd && y.env == env) = false := fun hf i y hi hy => by
             rcases Nat.lt_or_ge i q with h1 | h1
             · exact HN.out i y h1 hy
             · obtain rfl : i = q := by omega
               rw [HX.out] at hy
               simp at hy
               subst hy
               exact hf
           have HNX : Hid ((x.h == hd && x.env == env) = false → ∀ i y, i < q + 1 → hs[i]? = some y → (y.h == hd && y.env == env) = false) := hnext
           clear hnext
           cases he : (x.h == hd)
           · go_wp2_with fail
             go_roundg (gk - 1)
             case measure => have := HK.out; omega
             case rel => exact ⟨q + 1, by go_num, by have := HK.out; omega, HNX.out (by simp [he]), hbl.alloc hbl.size _, hrb.alloc _⟩
           · cases hf : (x.env == env)
             · go_wp2_with fail
               go_roundg (gk - 1)
               case measure => have := HK.out; omega
               case rel => exact ⟨q + 1, by go_num, by have := HK.out; omega, HNX.out (by simp [hf]), hbl.alloc hbl.size _, hrb.alloc _⟩
             · have HF : Hid (findP hs env hd = some x) := findP_hit HX.out HN.out (by simp [he, hf])
               clear HNX HN
               go_wp2_with fail
               exact bodyPost_ret (v := .tuple #[.agg #[.int .i64 x.h, .int .i64 x.env, .int .i64 x.fr, .bool x.wr], .bool true]) (by simp [results, Try.results40, go_sem, r0, r1, r2, r3, hrl]) rfl ⟨by rw [HF.out]; rfl, ((((hbl.setCell (by simp) _).setCell (by simp) _).setCell (by simp) _).setCell (by simp) _).alloc (by simpa using hbl.size) _⟩)
      · have HF : Hid (findP hs env hd = none) := findP_take_none (fun i y hi => HN.out i y (by omega))
        go_wp2_with fail
        exact bodyPost_ret (v := .tuple #[.agg #[.int .i64 0, .int .i64 0, .int .i64 0, .bool false], .bool false]) (by simp [results, Try.results40, go_sem, r0, r1, r2, r3]) rfl ⟨by rw [HF.out]; rfl, (((hbl.setCell (by simp) _).setCell (by simp) _).setCell (by simp) _).setCell (by simp) _⟩
end
end Go.Proofs.Ytinlkcmdbjcofab
