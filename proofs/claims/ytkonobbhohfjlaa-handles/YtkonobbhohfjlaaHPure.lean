/-
  What the statement's own list of rights needs: of the rights that are alive, whose frame is whose.
-/
import Derived.Test.YtkonobbhohfjlaaPairs
namespace Go.Proofs.Ytkonobbhohfjlaa
set_option linter.unusedVariables false

structure HInv (s : RSt) : Prop where
  one : ∀ (i j : Nat) (ri rj : RR), s.rights[i]? = some ri → s.rights[j]? = some rj → lv s.rights i = true → lv s.rights j = true → ri.frm < 0 → rj.frm < 0 → ri.fr = rj.fr → i = j
  same : ∀ (i : Nat) (r : RR), s.rights[i]? = some r → 0 ≤ r.frm → ∃ r', s.rights[r.frm.toNat]? = some r' ∧ r'.fr = r.fr
  alv : ∀ (i : Nat) (r : RR), s.rights[i]? = some r → lv s.rights i = true → aliveB s r.env = true

theorem hinv_fresh (a b c : Nat) : HInv (RSt.fresh a b c) := ⟨fun i j ri rj h => by simp [RSt.fresh] at h, fun i r h => by simp [RSt.fresh] at h, fun i r h => by simp [RSt.fresh] at h⟩

theorem getApp {α : Type} {l : List α} {x r : α} {i : Nat} (h : (l ++ [x])[i]? = some r) : l[i]? = some r ∨ (i = l.length ∧ r = x) := by
  rcases Nat.lt_or_ge i l.length with hl | hl
  · rw [List.getElem?_append_left hl] at h; exact .inl h
  · rw [List.getElem?_append_right hl] at h
    have hz : i - l.length = 0 := by have := (List.getElem?_eq_some_iff.1 h).1; simp at this; omega
    rw [hz] at h
    simp at h
    exact .inr ⟨by omega, h.symm⟩

/-- Which rights are alive comes of the rights alone; who is alive of the environments. -/
theorem HInv.add {s s' : RSt} (h : HInv s) (hI : RInv s) {x : RR} (hr : s'.rights = s.rights ++ [x]) (ha : s'.alive = s.alive) (hn : s'.ne = s.ne) (hx : aliveB s x.env = true) (h1 : -1 ≤ x.frm) (h2 : x.frm < s.rights.length)
    (hf : x.frm < 0 → ∀ (i : Nat) (r : RR), s.rights[i]? = some r → lv s.rights i = true → r.fr ≠ x.fr) (hp : 0 ≤ x.frm → ∃ r', s.rights[x.frm.toNat]? = some r' ∧ r'.fr = x.fr) : HInv s' := by
  have hal : ∀ e, aliveB s' e = aliveB s e := fun e => by unfold aliveB; rw [ha, hn]
  have hlv : ∀ (i : Nat) (r : RR), s.rights[i]? = some r → lv s'.rights i = lv s.rights i := fun i r hr' => by
    have := (List.getElem?_eq_some_iff.1 hr').1
    rw [hr]; exact lv_append hI.ord x (by omega)
  refine ⟨fun i j ri rj hi hj li lj fi fj e => ?_, fun i r hi h0 => ?_, fun i r hi li => ?_⟩
  · rw [hr] at hi hj
    rcases getApp hi with ai | ⟨ei, ri'⟩ <;> rcases getApp hj with aj | ⟨ej, rj'⟩
    · rw [hlv i ri ai] at li; rw [hlv j rj aj] at lj; exact h.one i j ri rj ai aj li lj fi fj e
    · rw [hlv i ri ai] at li; rw [rj'] at fj e; exact absurd e (hf fj i ri ai li)
    · rw [hlv j rj aj] at lj; rw [ri'] at fi e; exact absurd e.symm (hf fi j rj aj lj)
    · omega
  · rw [hr] at hi ⊢
    have aux : ∀ {k : Nat} {q : RR}, s.rights[k]? = some q → (s.rights ++ [x])[k]? = some q := fun {k q} hk => by
      rw [List.getElem?_append_left (List.getElem?_eq_some_iff.1 hk).1]; exact hk
    rcases getApp hi with hi | ⟨ei, rfl⟩
    · obtain ⟨r', h1, h2⟩ := h.same i r hi h0; exact ⟨r', aux h1, h2⟩
    · obtain ⟨r', h1, h2⟩ := hp h0; exact ⟨r', aux h1, h2⟩
  · rw [hal]
    rw [hr] at hi
    rcases getApp hi with hi | ⟨ei, rfl⟩
    · rw [hlv i r hi] at li; exact h.alv i r hi li
    · exact hx

theorem HInv.mark {s s' : RSt} (h : HInv s) (hI : RInv s) (P : Nat → Bool) (hr : s'.rights = markAt P s.rights) (ha : ∀ (i : Nat) (r : RR), s.rights[i]? = some r → lv (markAt P s.rights) i = true → aliveB s r.env = true → aliveB s' r.env = true) : HInv s' := by
  have hget : ∀ (i : Nat) (r : RR), s'.rights[i]? = some r → ∃ x, s.rights[i]? = some x ∧ r.frm = x.frm ∧ r.env = x.env ∧ r.fr = x.fr := by
    intro i r hi
    rw [hr, markAt_get] at hi
    cases hx : s.rights[i]? with
    | none => rw [hx] at hi; simp at hi
    | some x =>
      rw [hx] at hi
      simp at hi
      refine ⟨x, rfl, ?_⟩
      subst hi
      split <;> exact ⟨rfl, rfl, rfl⟩
  have hle : ∀ (i : Nat) (r : RR), s.rights[i]? = some r → lv s'.rights i = true → lv s.rights i = true := fun i r hi hl => by
    have := (List.getElem?_eq_some_iff.1 hi).1
    rw [hr] at hl
    exact lv_mark_le hI.ord P (i + 1) i (by omega) (by omega) hl
  refine ⟨fun i j ri rj hi hj li lj fi fj e => ?_, fun i r hi h0 => ?_, fun i r hi li => ?_⟩
  · obtain ⟨x, a1, a2, a3, a4⟩ := hget i ri hi
    obtain ⟨y, b1, b2, b3, b4⟩ := hget j rj hj
    exact h.one i j x y a1 b1 (hle i x a1 li) (hle j y b1 lj) (by omega) (by omega) (by omega)
  · obtain ⟨x, a1, a2, a3, a4⟩ := hget i r hi
    obtain ⟨r', b1, b2⟩ := h.same i x a1 (by omega)
    rw [a2, hr, markAt_get, b1]
    refine ⟨_, rfl, ?_⟩
    rw [a4, ← b2]
    split <;> rfl
  · obtain ⟨x, a1, a2, a3, a4⟩ := hget i r hi
    rw [a3]
    have hl := li
    rw [hr] at li
    exact ha i x a1 li (h.alv i x a1 (hle i x a1 hl))

section
variable {rs : RSt} {ps : PSt}

theorem freeB_no {s : RSt} (hI : RInv s) {f : Nat} (h : freeB s f = true) : ∀ (i : Nat) (r : RR), s.rights[i]? = some r → lv s.rights i = true → r.fr ≠ f := fun i r hr hl e => by
  have he := hI.env i r hr
  simp [freeB] at h
  have := h r.env.toNat (by omega)
  rw [Int.toNat_of_nonneg he.1] at this
  have h2 := owned_iff.2 ⟨i, r, hr, hl, rfl, e⟩
  rw [h2] at this
  simp at this

theorem HInv.alloc (h : HInv rs) (hI : RInv rs) (env : Int) : HInv (allocR rs env).2 := by
  unfold allocR
  rcases rawE_cases rs env with ⟨h2, ha⟩ | ⟨h0, ha⟩
  · rw [h2]; simpa using h
  · rw [h0]
    simp only [ne_eq, not_true_eq_false, if_false]
    unfold firstS
    cases hl : leastFree rs with
    | none => exact h
    | some f =>
      simp only
      by_cases hc : cnt rs.rights < 32
      · rw [if_pos hc]
        have hfree : freeB rs f = true := List.find?_some hl
        exact h.add hI (x := ⟨rs.rights.length + 1, env, f, true, -1, false⟩) rfl rfl rfl ha (by simp) (by simp; omega) (fun _ => freeB_no hI hfree) (fun h => by simp at h)
      · rw [if_neg hc]; exact h

theorem HInv.derive (h : HInv rs) (hI : RInv rs) (env hd te : Int) (wt : Bool) : HInv (deriveR rs env hd te wt).2 := by
  rcases rightE_cases rs env hd with ⟨x, h1, h3⟩ | ⟨j, r, h1, hrr, hd1, he, hl, hal⟩
  · have : x ≠ 0 := by omega
    unfold deriveR
    rw [h1]
    simpa [this] using h
  · have hj := (List.getElem?_eq_some_iff.1 hrr).1
    unfold deriveR
    rw [h1]
    simp only [ne_eq, not_true_eq_false, if_false, Int.toNat_natCast, hrr]
    rcases rawE_cases rs te with ⟨ht, _⟩ | ⟨ht, hat⟩
    · rw [ht]; simpa using h
    · rw [ht]
      simp only [not_true_eq_false, if_false]
      cases (wt && !r.wr) with
      | true => exact h
      | false =>
        simp only [Bool.false_eq_true, if_false]
        by_cases hc : 32 ≤ cnt rs.rights
        · rw [if_pos hc]; exact h
        · rw [if_neg hc]
          exact h.add hI (x := ⟨rs.rights.length + 1, te, r.fr, wt, j, false⟩) rfl rfl rfl hat (by show (-1 : Int) ≤ (j : Int); omega) (by show (j : Int) < _; omega) (fun h => absurd h (by show ¬ (j : Int) < 0; omega)) (fun _ => ⟨r, by simpa using hrr, rfl⟩)

theorem HInv.revoke (h : HInv rs) (hI : RInv rs) (env hd : Int) : HInv (revokeR rs env hd).2 := by
  unfold revokeR
  split
  · exact h
  · exact h.mark hI _ (by simp only [sweepS, endIf]; exact mark_map _ _) (fun _ _ _ _ h => h)
theorem HInv.drop (h : HInv rs) (hI : RInv rs) (env hd : Int) : HInv (dropR rs env hd).2 := by
  unfold dropR
  split
  · exact h
  · split
    · exact h
    · rename_i r hr
      exact h.mark hI _ (by simp only [sweepS]; exact mark_set _ _ _ hr) (fun _ _ _ _ h => h)
theorem HInv.kill (h : HInv rs) (hI : RInv rs) (env : Int) : HInv (killR rs env).2 := by
  unfold killR
  split
  · rename_i hal
    have hrg := aliveB_range hal
    refine h.mark hI _ (by simp only [sweepS, endIf]; exact mark_map _ _) (fun i r hr hl ha => ?_)
    have hne : r.env ≠ env := fun e => by
      rw [lv_mark hI.ord _ hr] at hl
      simp [hr, e] at hl
    have hg := hI.env i r hr
    simp only [aliveB, sweepS, endIf] at ha ⊢
    rw [List.getElem?_set_ne (by omega)]
    exact ha
  · exact h
theorem HInv.spawn (h : HInv rs) (env : Int) : HInv (spawnR rs env).2 := by
  unfold spawnR
  split
  · exact h
  · split
    · exact h
    · rename_i h1 h2
      refine ⟨h.one, h.same, fun i r hi hl => ?_⟩
      have ha := h.alv i r hi hl
      have hne : r.env.toNat ≠ env.toNat := fun e => by
        have := aliveB_range ha
        have e' : r.env = env := by omega
        rw [e'] at ha; exact h2 ha
      simp only [aliveB] at ha ⊢
      rw [List.getElem?_set_ne (fun e => hne e.symm)]
      exact ha

/-! ### How many first rights are alive -/
def firstB (rs : List RR) (i : Nat) : Bool := lv rs i && (rs[i]?.map fun r => decide (r.frm < 0)).getD false
def fstL (rs : List RR) (q : Nat) : List Nat := (List.range q).filter (firstB rs)
def fstTo (rs : List RR) (q : Nat) : Nat := (fstL rs q).length
theorem fstTo_succ {rs : List RR} {q : Nat} {r : RR} (hr : rs[q]? = some r) : fstTo rs (q + 1) = fstTo rs q + if lv rs q && decide (r.frm < 0) then 1 else 0 := by
  unfold fstTo fstL
  rw [List.range_succ, List.filter_append, List.length_append]
  congr 1
  simp only [List.filter_cons, List.filter_nil, firstB, hr, Option.map_some, Option.getD_some]
  split <;> rfl

theorem pigeon : ∀ (l m : List Nat), l.Nodup → (∀ x, x ∈ l → x ∈ m) → l.length ≤ m.length := by
  intro l
  induction l with
  | nil => intro m _ _; simp
  | cons x xs ih =>
    intro m hn hs
    have hx : x ∈ m := hs x (by simp)
    rw [List.nodup_cons] at hn
    have := ih (m.erase x) hn.2 (fun y hy => by
      have hne : y ≠ x := fun e => hn.1 (e ▸ hy)
      exact (List.mem_erase_of_ne hne).2 (hs y (by simp [hy])))
    rw [List.length_erase_of_mem hx] at this
    have hpos := List.length_pos_of_mem hx
    simp
    omega

theorem root {s : RSt} (h : HInv s) (hI : RInv s) : ∀ (n i : Nat) (r : RR), i < n → s.rights[i]? = some r → lv s.rights i = true → ∃ (j : Nat) (q : RR), s.rights[j]? = some q ∧ lv s.rights j = true ∧ q.frm < 0 ∧ q.fr = r.fr := by
  intro n
  induction n with
  | zero => intro i r hi; omega
  | succ n ih =>
    intro i r hi hr hl
    by_cases h0 : r.frm < 0
    · exact ⟨i, r, hr, hl, h0, rfl⟩
    · obtain ⟨q, hq, hf⟩ := h.same i r hr (by omega)
      have ho := hI.ord i r hr
      rw [lv_step hI.ord hr] at hl
      simp at hl
      obtain ⟨j, x, a1, a2, a3, a4⟩ := ih r.frm.toNat q (by omega) hq (by rw [Int.toNat_of_nonneg (by omega)]; exact hl.2)
      exact ⟨j, x, a1, a2, a3, by rw [a4, hf]⟩

theorem mem_fst {s : RSt} {i : Nat} : i ∈ fstL s.rights s.rights.length ↔ ∃ r, s.rights[i]? = some r ∧ lv s.rights i = true ∧ r.frm < 0 := by
  unfold fstL firstB
  rw [List.mem_filter, List.mem_range]
  constructor
  · rintro ⟨h1, h2⟩
    refine ⟨s.rights[i], by simp, ?_⟩
    simpa [h1] using h2
  · rintro ⟨r, hr, hl, hf⟩
    exact ⟨(List.getElem?_eq_some_iff.1 hr).1, by simp [hr, hl, hf]⟩

/-- There is a frame that is free just if fewer first rights are alive than there are frames. -/
theorem least_none {s : RSt} (h : HInv s) (hI : RInv s) : leastFree s = none ↔ s.nf ≤ fstTo s.rights s.rights.length := by
  classical
  obtain ⟨fr, hfr⟩ : ∃ fr : Nat → Nat, ∀ (i : Nat) (r : RR), s.rights[i]? = some r → fr i = r.fr.toNat := ⟨fun i => (s.rights[i]?.map fun r => r.fr.toNat).getD 0, fun i r hr => by simp [hr]⟩
  have hmem : ∀ f, (∃ i, i ∈ fstL s.rights s.rights.length ∧ fr i = f) → f < s.nf ∧ freeB s f = false := by
    rintro f ⟨i, hi, rfl⟩
    obtain ⟨r, hr, hl, hf⟩ := mem_fst.1 hi
    have hb := hI.fr i r hr
    rw [hfr i r hr]
    refine ⟨by omega, ?_⟩
    cases hx : freeB s r.fr.toNat with
    | false => rfl
    | true => exact absurd (by omega) (freeB_no hI hx i r hr hl)
  have hnd : ((fstL s.rights s.rights.length).map fr).Nodup := by
    rw [List.nodup_iff_pairwise_ne, List.pairwise_map]
    have hp : (fstL s.rights s.rights.length).Nodup := (List.nodup_range).filter _
    refine List.Pairwise.imp_of_mem ?_ hp
    intro a b ha hb hne e
    obtain ⟨r, hr, hl, hf⟩ := mem_fst.1 ha
    obtain ⟨q, hq, ql, qf⟩ := mem_fst.1 hb
    rw [hfr a r hr, hfr b q hq] at e
    have h1 := hI.fr a r hr
    have h2 := hI.fr b q hq
    exact hne (h.one a b r q hr hq hl ql hf qf (by omega))
  constructor
  · intro hn
    have hall : ∀ f, f < s.nf → freeB s f = false := fun f hf => by
      have := List.find?_eq_none.1 hn f (List.mem_range.2 hf)
      simpa using this
    have := pigeon (List.range s.nf) ((fstL s.rights s.rights.length).map fr) List.nodup_range (fun f hf => by
      have hff := hall f (List.mem_range.1 hf)
      simp only [freeB, Bool.not_eq_false'] at hff
      rw [List.any_eq_true] at hff
      obtain ⟨e, _, ho⟩ := hff
      obtain ⟨i, r, hr, hl, _, hrf⟩ := owned_iff.1 ho
      obtain ⟨j, q, a1, a2, a3, a4⟩ := root h hI (i + 1) i r (by omega) hr hl
      exact List.mem_map.2 ⟨j, mem_fst.2 ⟨q, a1, a2, a3⟩, by rw [hfr j q a1, a4, hrf]; simp⟩)
    simpa [fstTo] using this
  · intro hle
    cases hl : leastFree s with
    | none => rfl
    | some f =>
      exfalso
      have hfree : freeB s f = true := List.find?_some hl
      have hflt := leastFree_lt hl
      have := pigeon (f :: (fstL s.rights s.rights.length).map fr) (List.range s.nf) (by
        rw [List.nodup_cons]
        refine ⟨fun hm => ?_, hnd⟩
        obtain ⟨i, hi, e⟩ := List.mem_map.1 hm
        have := (hmem f ⟨i, hi, e⟩).2
        rw [hfree] at this; simp at this) (fun x hx => by
        rcases List.mem_cons.1 hx with rfl | hx
        · exact List.mem_range.2 hflt
        · obtain ⟨i, hi, e⟩ := List.mem_map.1 hx
          exact List.mem_range.2 (hmem x ⟨i, hi, e⟩).1)
      simp [fstTo] at this hle
      omega
end
end Go.Proofs.Ytkonobbhohfjlaa
