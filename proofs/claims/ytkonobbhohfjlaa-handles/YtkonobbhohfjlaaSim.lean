/-
  The program's state and the document's: no memory here.
-/
import Derived.Test.YtkonobbhohfjlaaPCallsB
namespace Go.Proofs.Ytkonobbhohfjlaa
set_option linter.unusedVariables false

def toPH (r : RR) : PH := ⟨r.h, r.env, r.fr, r.wr, r.frm + 1⟩
def liveTo (rs : List RR) (q : Nat) : List PH := (List.range q).filterMap fun i : Nat => rs[i]?.bind fun r => if lv rs i then some (toPH r) else none
/-- The rights that are alive. -/
def live (rs : List RR) : List PH := liveTo rs rs.length

theorem liveTo_succ {rs : List RR} {q : Nat} {r : RR} (hr : rs[q]? = some r) : liveTo rs (q + 1) = liveTo rs q ++ if lv rs q then [toPH r] else [] := by
  unfold liveTo
  rw [List.range_succ, List.filterMap_append]
  congr 1
  simp only [List.filterMap_cons, List.filterMap_nil, hr, Option.bind_some]
  cases lv rs q <;> rfl
theorem liveTo_len {rs : List RR} : ∀ q, q ≤ rs.length → (liveTo rs q).length = cntTo rs q := by
  intro q
  induction q with
  | zero => intro _; rfl
  | succ q ih =>
    intro h
    obtain ⟨r, hr⟩ : ∃ r, rs[q]? = some r := ⟨rs[q], by simp⟩
    rw [liveTo_succ hr, List.length_append, ih (by omega), cntTo_succ]
    cases lv rs q <;> simp
theorem live_len (rs : List RR) : (live rs).length = cnt rs := liveTo_len _ (Nat.le_refl _)
theorem mem_live {rs : List RR} {x : PH} : x ∈ live rs ↔ ∃ (i : Nat) (r : RR), rs[i]? = some r ∧ lv rs i = true ∧ x = toPH r := by
  unfold live liveTo
  rw [List.mem_filterMap]
  constructor
  · rintro ⟨i, _, h⟩
    obtain ⟨r, hr, h2⟩ := Option.bind_eq_some_iff.1 h
    by_cases hl : lv rs i = true
    · simp [hl] at h2; exact ⟨i, r, hr, hl, h2.symm⟩
    · simp [hl] at h2
  · rintro ⟨i, r, hr, hl, rfl⟩
    exact ⟨i, List.mem_range.2 (List.getElem?_eq_some_iff.1 hr).1, by rw [hr]; simp [hl]⟩

/-- The standing facts of the list of all rights. -/
structure RInv (s : RSt) : Prop where
  ord : Ordered s.rights
  hnd : ∀ (i : Nat) (r : RR), s.rights[i]? = some r → r.h = i + 1
  env : ∀ (i : Nat) (r : RR), s.rights[i]? = some r → 0 ≤ r.env ∧ r.env < s.ne
  fr : ∀ (i : Nat) (r : RR), s.rights[i]? = some r → 0 ≤ r.fr ∧ r.fr < s.nf

theorem findP_some {s : RSt} (hI : RInv s) {i : Nat} {r : RR} {env : Int} (hr : s.rights[i]? = some r) (hl : lv s.rights i = true) (he : r.env = env) : findP (live s.rights) env (i + 1) = some (toPH r) := by
  have hx : (findP (live s.rights) env (i + 1)).isSome = true := by
    unfold findP
    rw [List.find?_isSome]
    exact ⟨toPH r, mem_live.2 ⟨i, r, hr, hl, rfl⟩, by simp [toPH, hI.hnd i r hr, he]⟩
  obtain ⟨y, hy⟩ := Option.isSome_iff_exists.1 hx
  have h1 := List.mem_of_find?_eq_some hy
  have h2 := List.find?_some hy
  obtain ⟨j, q, hq, _, rfl⟩ := mem_live.1 h1
  simp [toPH] at h2
  have := hI.hnd j q hq
  have hij : j = i := by omega
  subst hij
  rw [hr] at hq
  simp at hq
  subst hq
  exact hy
theorem findP_none {s : RSt} (hI : RInv s) {env hd : Int} (h : ∀ (i : Nat) (r : RR), s.rights[i]? = some r → hd = i + 1 → r.env = env → lv s.rights i = false) : findP (live s.rights) env hd = none := by
  unfold findP
  rw [List.find?_eq_none]
  intro x hx
  obtain ⟨j, q, hq, hl, rfl⟩ := mem_live.1 hx
  have := hI.hnd j q hq
  simp [toPH]
  intro h1 h2
  have := h j q hq (by omega) h2
  rw [hl] at this
  simp at this

theorem owned_iff {s : RSt} {env fr : Int} : owned s.rights env fr false = true ↔ ∃ (i : Nat) (r : RR), s.rights[i]? = some r ∧ lv s.rights i = true ∧ r.env = env ∧ r.fr = fr := by
  unfold owned
  rw [List.any_eq_true]
  constructor
  · rintro ⟨i, _, h⟩
    unfold ownsB at h
    cases hr : s.rights[i]? with
    | none => rw [hr] at h; simp at h
    | some r =>
      rw [hr] at h
      simp at h
      exact ⟨i, r, hr, h.1, h.2.1, h.2.2⟩
  · rintro ⟨i, r, hr, hl, he, hf⟩
    exact ⟨i, List.mem_range.2 (List.getElem?_eq_some_iff.1 hr).1, by unfold ownsB; rw [hr]; simp [hl, he, hf]⟩

theorem free_eq {s : RSt} (hI : RInv s) (f : Nat) : freeB s f = freeP (live s.rights) f := by
  unfold freeB freeP
  rw [Bool.eq_iff_iff]
  simp only [Bool.not_eq_true', List.any_eq_false, List.mem_range, List.all_eq_true]
  constructor
  · intro h x hx
    obtain ⟨i, r, hr, hl, rfl⟩ := mem_live.1 hx
    have he := hI.env i r hr
    cases hf : ((toPH r).fr == (f : Int)) with
    | false => rfl
    | true =>
      exfalso
      have hfr : r.fr = f := by simpa [toPH] using hf
      exact h r.env.toNat (by omega) (owned_iff.2 ⟨i, r, hr, hl, by omega, hfr⟩)
  · intro h e he ho
    obtain ⟨i, r, hr, hl, h1, h2⟩ := owned_iff.1 ho
    have := h (toPH r) (mem_live.2 ⟨i, r, hr, hl, rfl⟩)
    simp [toPH, h2] at this

/-! ### Appending and ending -/

theorem lvF_append {rs : List RR} (x : RR) : ∀ (n : Nat) (i : Int), i < rs.length → Ordered rs → lvF (rs ++ [x]) n i = lvF rs n i := by
  intro n
  induction n with
  | zero => intro i _ _; rfl
  | succ n ih =>
    intro i hi ho
    unfold lvF
    by_cases h0 : i < 0
    · simp [h0]
    · rw [if_neg h0, if_neg h0, List.getElem?_append_left (by omega)]
      cases hr : rs[i.toNat]? with
      | none => rfl
      | some r =>
        have := ho _ _ hr
        simp only
        rw [ih r.frm (by omega) ho]
theorem lv_append {rs : List RR} (ho : Ordered rs) (x : RR) {i : Int} (hi : i < rs.length) : lv (rs ++ [x]) i = lv rs i := lvF_append x _ i hi ho

theorem Ordered.append {rs : List RR} (ho : Ordered rs) {x : RR} (h1 : -1 ≤ x.frm) (h2 : x.frm < rs.length) : Ordered (rs ++ [x]) := by
  intro i r hr
  rcases Nat.lt_or_ge i rs.length with h | h
  · rw [List.getElem?_append_left h] at hr; exact ho i r hr
  · rw [List.getElem?_append_right h] at hr
    have : i - rs.length = 0 := by
      have := (List.getElem?_eq_some_iff.1 hr).1
      simp at this; omega
    rw [this] at hr
    simp at hr
    subst hr
    omega

theorem fm_congr {f g : Nat → Option PH} {l : List Nat} (h : ∀ i, i ∈ l → f i = g i) : l.filterMap f = l.filterMap g := by
  induction l with
  | nil => rfl
  | cons x l ih =>
    rw [List.filterMap_cons, List.filterMap_cons, h x (by simp), ih (fun i hi => h i (by simp [hi]))]

theorem live_append {rs : List RR} (ho : Ordered rs) {x : RR} (h1 : -1 ≤ x.frm) (h2 : x.frm < rs.length) (he : x.ended = false) (hl : lv rs x.frm = true) : live (rs ++ [x]) = live rs ++ [toPH x] := by
  have hq : (rs ++ [x])[rs.length]? = some x := by simp
  have ho' := ho.append h1 h2
  have hlast : lv (rs ++ [x]) rs.length = true := by
    rw [lv_step ho' hq, he, lv_append ho x (by omega), hl]; rfl
  unfold live
  rw [List.length_append, List.length_singleton, liveTo_succ hq, hlast]
  simp only [if_true]
  congr 1
  unfold liveTo
  apply fm_congr
  intro i hi
  have hi := List.mem_range.1 hi
  rw [List.getElem?_append_left hi, lv_append ho x (by omega)]

/-- The rights at the places of P end. -/
def markAt (P : Nat → Bool) (rs : List RR) : List RR := rs.mapIdx fun i r => if P i then r.end else r
theorem markAt_get (P : Nat → Bool) (rs : List RR) (i : Nat) : (markAt P rs)[i]? = rs[i]?.map fun r => if P i then r.end else r := by simp [markAt]
theorem markAt_len (P : Nat → Bool) (rs : List RR) : (markAt P rs).length = rs.length := by simp [markAt]
theorem Ordered.mark {rs : List RR} (ho : Ordered rs) (P : Nat → Bool) : Ordered (markAt P rs) := by
  intro i r hr
  rw [markAt_get] at hr
  cases hx : rs[i]? with
  | none => rw [hx] at hr; simp at hr
  | some x =>
    rw [hx] at hr
    simp at hr
    have := ho i x hx
    subst hr
    split <;> exact this
theorem lv_mark {rs : List RR} (ho : Ordered rs) (P : Nat → Bool) {i : Nat} {r : RR} (hr : rs[i]? = some r) : lv (markAt P rs) i = (!(r.ended || P i) && lv (markAt P rs) r.frm) := by
  have hx : (markAt P rs)[i]? = some (if P i then r.end else r) := by rw [markAt_get, hr]; rfl
  rw [lv_step (ho.mark P) hx]
  cases P i <;> simp [RR.end]
/-- What is alive then was alive before. -/
theorem lv_mark_le {rs : List RR} (ho : Ordered rs) (P : Nat → Bool) : ∀ (n : Nat) (i : Int), (i + 1).toNat ≤ n → i < rs.length → lv (markAt P rs) i = true → lv rs i = true := by
  intro n
  induction n with
  | zero => intro i h _ _; exact lv_neg (by omega)
  | succ n ih =>
    intro i h hi hl
    by_cases h0 : i < 0
    · exact lv_neg h0
    · obtain ⟨j, rfl⟩ := Int.eq_ofNat_of_zero_le (show 0 ≤ i by omega)
      obtain ⟨r, hr⟩ : ∃ r, rs[j]? = some r := ⟨rs[j]'(by omega), by simp⟩
      have := ho j r hr
      rw [lv_mark ho P hr] at hl
      rw [lv_step ho hr]
      simp at hl
      rw [ih r.frm (by omega) (by omega) hl.2, hl.1.1]; rfl

/-- The handles of those that were alive and are no more, among the first q. -/
def goneTo (P : Nat → Bool) (rs : List RR) (q : Nat) : List Int := (List.range q).filterMap fun i : Nat => if lv rs i && !lv (markAt P rs) i then some ((i : Int) + 1) else none
theorem goneTo_succ (P : Nat → Bool) (rs : List RR) (q : Nat) : goneTo P rs (q + 1) = goneTo P rs q ++ if lv rs q && !lv (markAt P rs) q then [(q : Int) + 1] else [] := by
  unfold goneTo
  rw [List.range_succ, List.filterMap_append]
  congr 1
  simp only [List.filterMap_cons, List.filterMap_nil]
  cases (lv rs q && !lv (markAt P rs) q) <;> rfl
theorem hasI_gone (P : Nat → Bool) (rs : List RR) (q : Nat) (n : Int) : hasI (goneTo P rs q) n = true ↔ ∃ i : Nat, i < q ∧ n = i + 1 ∧ lv rs i = true ∧ lv (markAt P rs) i = false := by
  unfold hasI goneTo
  rw [List.any_eq_true]
  constructor
  · rintro ⟨x, hx, he⟩
    obtain ⟨i, hi, h⟩ := List.mem_filterMap.1 hx
    have he : x = n := by simpa using he
    by_cases hc : (lv rs i && !lv (markAt P rs) i) = true
    · rw [if_pos hc] at h
      simp at h hc
      exact ⟨i, List.mem_range.1 hi, by omega, hc.1, hc.2⟩
    · rw [if_neg hc] at h; simp at h
  · rintro ⟨i, hi, rfl, h1, h2⟩
    exact ⟨(i : Int) + 1, List.mem_filterMap.2 ⟨i, List.mem_range.2 hi, by simp [h1, h2]⟩, by simp⟩

/-- One pass over the rights that are alive finds all that comes of those that end. -/
theorem fold_mark {s : RSt} (hI : RInv s) (P : Nat → Bool) (hd : List Int) (hP : ∀ (i : Nat), i < s.rights.length → lv s.rights i = true → hasI hd ((i : Int) + 1) = P i) :
    ∀ q, q ≤ s.rights.length → (liveTo s.rights q).foldl (eaStep hd) ([], []) = (liveTo (markAt P s.rights) q, goneTo P s.rights q) := by
  intro q
  induction q with
  | zero => intro _; rfl
  | succ q ih =>
    intro hq
    obtain ⟨r, hr⟩ : ∃ r, s.rights[q]? = some r := ⟨s.rights[q], by simp⟩
    have hx : (markAt P s.rights)[q]? = some (if P q then r.end else r) := by rw [markAt_get, hr]; rfl
    have hph : toPH (if P q then r.end else r) = toPH r := by cases P q <;> rfl
    have hbd := hI.ord q r hr
    rw [liveTo_succ hr, List.foldl_append, ih (by omega), liveTo_succ hx, hph, goneTo_succ]
    cases hl : lv s.rights q with
    | false =>
      have hl' : lv (markAt P s.rights) q = false := by
        cases h : lv (markAt P s.rights) q with
        | false => rfl
        | true => have := lv_mark_le hI.ord P _ q (Nat.le_refl _) (by omega) h; rw [hl] at this; exact absurd this (by simp)
      simp [hl']
    | true =>
      have h1 : hasI hd (toPH r).h = P q := by
        show hasI hd r.h = P q
        rw [hI.hnd q r hr]; exact hP q (by omega) hl
      have hst := lv_step hI.ord hr
      rw [hl] at hst
      have hst' : r.ended = false ∧ lv s.rights r.frm = true := by
        cases hxx : r.ended <;> rw [hxx] at hst <;> simp at hst ⊢
        exact hst
      have h2 : hasI (goneTo P s.rights q) (toPH r).par = !lv (markAt P s.rights) r.frm := by
        show hasI (goneTo P s.rights q) (r.frm + 1) = _
        by_cases h0 : r.frm < 0
        · rw [lv_neg h0]
          cases hh : hasI (goneTo P s.rights q) (r.frm + 1) with
          | false => rfl
          | true =>
            obtain ⟨i, _, hi, _⟩ := (hasI_gone P s.rights q _).1 hh
            omega
        · obtain ⟨k, hk⟩ := Int.eq_ofNat_of_zero_le (show 0 ≤ r.frm by omega)
          rw [hk] at hst' ⊢
          cases hlk : lv (markAt P s.rights) k with
          | false => exact (hasI_gone P s.rights q _).2 ⟨k, by omega, rfl, hst'.2, hlk⟩
          | true =>
            cases hh : hasI (goneTo P s.rights q) ((k : Int) + 1) with
            | false => rfl
            | true =>
              obtain ⟨i, _, hi, _, hi2⟩ := (hasI_gone P s.rights q _).1 hh
              have : i = k := by omega
              subst this
              rw [hlk] at hi2; exact hi2
      have h3 := lv_mark hI.ord P hr
      rw [hst'.1] at h3
      simp only [if_true, List.foldl_cons, List.foldl_nil, Bool.true_and]
      unfold eaStep
      simp only [h1, h2]
      rw [h3]
      have hh : (toPH r).h = (q : Int) + 1 := hI.hnd q r hr
      cases P q <;> cases lv (markAt P s.rights) r.frm <;> simp [hh]

theorem endAll_mark {s : RSt} (hI : RInv s) (P : Nat → Bool) (hd : List Int) (hP : ∀ (i : Nat), i < s.rights.length → lv s.rights i = true → hasI hd ((i : Int) + 1) = P i) :
    endAllP (live s.rights) hd = live (markAt P s.rights) := by
  have := fold_mark hI P hd hP s.rights.length (Nat.le_refl _)
  unfold endAllP eaTo
  rw [List.take_length]
  show ((liveTo s.rights s.rights.length).foldl (eaStep hd) ([], [])).1 = _
  rw [this]
  unfold live
  rw [markAt_len]

/-! ### The calls -/

structure Sim (rs : RSt) (ps : PSt) : Prop where
  inv : RInv rs
  al : ps.alive = rs.alive
  len : rs.alive.length = rs.ne
  nf : ps.nf = rs.nf
  hs : ps.hs = live rs.rights
  last : ps.last = rs.rights.length

section
variable {rs : RSt} {ps : PSt}

theorem Sim.alive (h : Sim rs ps) (env : Int) : aliveB rs env = aliveP ps env := by
  unfold aliveB aliveP isEnvP
  rw [h.al, h.len, Bool.and_assoc]
theorem Sim.raw (h : Sim rs ps) (env : Int) : rawE rs env = rawP ps env := by
  unfold rawE rawP
  rw [h.alive]
theorem Sim.least (h : Sim rs ps) : leastFree rs = leastFreeP ps := by
  unfold leastFree leastFreeP
  rw [h.nf, h.hs]
  congr 1
  funext f
  exact free_eq h.inv f
/-- Both find the same right. -/
theorem Sim.right (h : Sim rs ps) (env hd : Int) :
    (∃ x, rightE rs env hd = (-1, x) ∧ rightP ps env hd = (none, x) ∧ (x = 2 ∨ x = 9)) ∨
    ∃ (j : Nat) (r : RR), rightE rs env hd = ((j : Int), 0) ∧ rs.rights[j]? = some r ∧ hd = j + 1 ∧ r.env = env ∧ lv rs.rights j = true ∧ aliveB rs env = true ∧ rightP ps env hd = (some (toPH r), 0) := by
  rcases rawE_cases rs env with ⟨hr, ha⟩ | ⟨hr, ha⟩
  · have hr' := h.raw env
    rw [hr] at hr'
    exact .inl ⟨2, by simp [rightE, hr], by simp [rightP, ← hr'], .inl rfl⟩
  · have hr' := h.raw env
    rw [hr] at hr'
    rcases rightE_cases rs env hd with ⟨x, hx, hx2⟩ | ⟨j, r, hx, hrr, hd1, he, hl, hal⟩
    · left
      have hx9 : x = 9 := by
        rcases hx2 with rfl | rfl
        · exfalso
          unfold rightE at hx
          rw [hr] at hx
          simp only [ne_eq, not_true_eq_false, if_false] at hx
          split at hx
          · simp at hx
          · split at hx
            · simp at hx
            · split at hx
              · simp at hx
              · simp at hx
        · rfl
      subst hx9
      refine ⟨9, hx, ?_, .inr rfl⟩
      have : findP ps.hs env hd = none := by
        rw [h.hs]
        refine findP_none h.inv (fun i r hri hdi hei => ?_)
        cases hli : lv rs.rights i with
        | false => rfl
        | true =>
          exfalso
          have hi := (List.getElem?_eq_some_iff.1 hri).1
          unfold rightE at hx
          rw [hr] at hx
          have h1 : 1 ≤ hd ∧ hd ≤ rs.rights.length := by omega
          rw [show (hd - 1).toNat = i by omega, show hd - 1 = (i : Int) by omega] at hx
          simp [if_pos h1, hri, hei, hli] at hx
      simp [rightP, ← hr', this]
    · right
      refine ⟨j, r, hx, hrr, hd1, he, hl, hal, ?_⟩
      have : findP ps.hs env hd = some (toPH r) := by
        rw [h.hs, hd1]
        exact findP_some h.inv hrr hl he
      simp [rightP, ← hr', this]

theorem RInv.add {s : RSt} (hI : RInv s) {env fr frm : Int} {wt : Bool} (he : 0 ≤ env ∧ env < s.ne) (hf : 0 ≤ fr ∧ fr < s.nf) (h1 : -1 ≤ frm) (h2 : frm < s.rights.length) : RInv (addR s env fr wt frm) := by
  have hget : ∀ (i : Nat) (r : RR), (addR s env fr wt frm).rights[i]? = some r → s.rights[i]? = some r ∨ (i = s.rights.length ∧ r = ⟨s.rights.length + 1, env, fr, wt, frm, false⟩) := by
    intro i r hr
    unfold addR at hr
    rcases Nat.lt_or_ge i s.rights.length with h | h
    · simp only at hr
      rw [List.getElem?_append_left h] at hr; exact .inl hr
    · simp only at hr
      rw [List.getElem?_append_right h] at hr
      have hz : i - s.rights.length = 0 := by
        have := (List.getElem?_eq_some_iff.1 hr).1
        simp at this; omega
      rw [hz] at hr
      simp at hr
      exact .inr ⟨by omega, hr.symm⟩
  refine ⟨hI.ord.append h1 h2, fun i r hr => ?_, fun i r hr => ?_, fun i r hr => ?_⟩
  · rcases hget i r hr with h | ⟨rfl, rfl⟩
    · exact hI.hnd i r h
    · rfl
  · rcases hget i r hr with h | ⟨rfl, rfl⟩
    · exact hI.env i r h
    · exact he
  · rcases hget i r hr with h | ⟨rfl, rfl⟩
    · exact hI.fr i r h
    · exact hf

theorem aliveB_range {env : Int} (h : aliveB rs env = true) : 0 ≤ env ∧ env < rs.ne := by
  simp [aliveB] at h
  omega

theorem Sim.alloc (h : Sim rs ps) (env : Int) : (allocR rs env).1 = (allocP ps env).1 ∧ Sim (allocR rs env).2 (allocP ps env).2 := by
  have hr := h.raw env
  unfold allocR allocP
  rcases rawE_cases rs env with ⟨h2, ha⟩ | ⟨h0, ha⟩
  · rw [← hr, h2]
    simp only [ne_eq]
    exact ⟨by simp, by simpa using h⟩
  · rw [← hr, h0]
    simp only [ne_eq, not_true_eq_false, if_false]
    unfold firstS
    rw [← h.least]
    cases hl : leastFree rs with
    | none => exact ⟨rfl, h⟩
    | some f =>
      have hlen : ps.hs.length = cnt rs.rights := by rw [h.hs, live_len]
      have hflt := leastFree_lt hl
      simp only
      by_cases hc : cnt rs.rights < 32
      · rw [if_pos hc, if_neg (by omega)]
        refine ⟨by simp [h.last], ?_⟩
        have hI' : RInv { rs with bytes := rs.bytes.set f [0, 0, 0, 0] } := ⟨h.inv.ord, h.inv.hnd, h.inv.env, h.inv.fr⟩
        have hi2 := hI'.add (wt := true) (aliveB_range ha) (show (0 : Int) ≤ f ∧ (f : Int) < rs.nf by omega) (show (-1 : Int) ≤ -1 by omega) (by omega)
        refine ⟨hi2, h.al, h.len, h.nf, ?_, ?_⟩
        · show addP ps.hs ps.last env f true 0 = live (rs.rights ++ [_])
          rw [live_append h.inv.ord (by simp) (by simp; omega) rfl (lv_neg (by simp)), h.hs, h.last]
          rfl
        · show ps.last + 1 = _
          rw [h.last]; simp [addR]
      · rw [if_neg hc, if_pos (by omega)]
        exact ⟨rfl, h⟩

theorem Sim.derive (h : Sim rs ps) (env hd te : Int) (wt : Bool) : (deriveR rs env hd te wt).1 = (deriveP ps env hd te wt).1 ∧ Sim (deriveR rs env hd te wt).2 (deriveP ps env hd te wt).2 := by
  have hrt := h.raw te
  rcases h.right env hd with ⟨x, h1, h2, h3⟩ | ⟨j, r, h1, hrr, hd1, he, hl, hal, h2⟩
  · have : x ≠ 0 := by omega
    unfold deriveR deriveP
    rw [h1, h2]
    simp only [ne_eq, this, not_false_eq_true, if_true]
    exact ⟨trivial, h⟩
  · have hj := (List.getElem?_eq_some_iff.1 hrr).1
    unfold deriveR deriveP
    rw [h1, h2]
    simp only [ne_eq, not_true_eq_false, if_false, Int.toNat_natCast, hrr]
    rcases rawE_cases rs te with ⟨ht, _⟩ | ⟨ht, hat⟩
    · rw [← hrt, ht]
      exact ⟨by simp, by simpa using h⟩
    · rw [← hrt, ht]
      simp only [not_true_eq_false, if_false]
      have hlen : ps.hs.length = cnt rs.rights := by rw [h.hs, live_len]
      rw [hlen]
      have ew : (toPH r).wr = r.wr := rfl
      rw [ew]
      cases (wt && !r.wr) with
      | true => exact ⟨rfl, h⟩
      | false =>
        simp only [Bool.false_eq_true, if_false]
        by_cases hc : 32 ≤ cnt rs.rights
        · rw [if_pos hc, if_pos hc]; exact ⟨rfl, h⟩
        · rw [if_neg hc, if_neg hc]
          refine ⟨by simp [h.last], ?_⟩
          have hi2 := h.inv.add (wt := wt) (aliveB_range hat) (h.inv.fr j r hrr) (show (-1 : Int) ≤ j by omega) (by omega)
          refine ⟨hi2, h.al, h.len, h.nf, ?_, ?_⟩
          · show addP ps.hs ps.last te r.fr wt r.h = live (rs.rights ++ [_])
            rw [live_append h.inv.ord (show (-1 : Int) ≤ (j : Int) by omega) (show (j : Int) < (rs.rights.length : Int) by omega) rfl hl, h.hs, h.last]
            unfold addP toPH
            simp [h.inv.hnd j r hrr]
          · show ps.last + 1 = _
            rw [h.last]; simp [addR]

theorem RInv.mark {s : RSt} (hI : RInv s) (P : Nat → Bool) : RInv { s with rights := markAt P s.rights } := by
  have hget : ∀ (i : Nat) (r : RR), (markAt P s.rights)[i]? = some r → ∃ x, s.rights[i]? = some x ∧ r.h = x.h ∧ r.env = x.env ∧ r.fr = x.fr := by
    intro i r hr
    rw [markAt_get] at hr
    cases hx : s.rights[i]? with
    | none => rw [hx] at hr; simp at hr
    | some x =>
      rw [hx] at hr
      simp at hr
      subst hr
      exact ⟨x, rfl, by split <;> rfl, by split <;> rfl, by split <;> rfl⟩
  refine ⟨hI.ord.mark P, fun i r hr => ?_, fun i r hr => ?_, fun i r hr => ?_⟩
  · obtain ⟨x, hx, h1, _, _⟩ := hget i r hr
    rw [h1]; exact hI.hnd i x hx
  · obtain ⟨x, hx, _, h1, _⟩ := hget i r hr
    rw [h1]; exact hI.env i x hx
  · obtain ⟨x, hx, _, _, h1⟩ := hget i r hr
    rw [h1]; exact hI.fr i x hx

theorem mark_map (p : RR → Bool) (rs : List RR) : rs.map (markIf p) = markAt (fun i => (rs[i]?.map p).getD false) rs := by
  apply List.ext_getElem?
  intro i
  rw [List.getElem?_map, markAt_get]
  cases rs[i]? with
  | none => rfl
  | some r => simp [markIf]
theorem mark_set (rs : List RR) (j : Nat) (r : RR) (hr : rs[j]? = some r) : rs.set j r.end = markAt (fun i => i == j) rs := by
  apply List.ext_getElem?
  intro i
  rw [markAt_get]
  by_cases h : j = i
  · subst h
    rw [List.getElem?_set_self (List.getElem?_eq_some_iff.1 hr).1, hr]; simp
  · rw [List.getElem?_set_ne h]
    cases rs[i]? with
    | none => rfl
    | some x => simp [show ¬ i = j from fun e => h e.symm]

/-- Those that end by a mark of their own. -/
theorem Sim.ends (h : Sim rs ps) (P : Nat → Bool) (hd : List Int) (hP : ∀ (i : Nat), i < rs.rights.length → lv rs.rights i = true → hasI hd ((i : Int) + 1) = P i) (al : List Bool) (hal : al.length = rs.alive.length) :
    Sim (sweepS { rs with rights := markAt P rs.rights, alive := al }) { ps with hs := endAllP ps.hs hd, alive := al } := by
  have hi := h.inv.mark P
  refine ⟨⟨hi.ord, hi.hnd, hi.env, hi.fr⟩, rfl, hal.trans h.len, h.nf, ?_, ?_⟩
  · show endAllP ps.hs hd = live (markAt P rs.rights)
    rw [h.hs]; exact endAll_mark h.inv P hd hP
  · show ps.last = ((markAt P rs.rights).length : Int)
    rw [markAt_len]; exact h.last

theorem hasI_hdTo (hs : List PH) (p : PH → Bool) (n : Int) : hasI (hdTo hs p hs.length) n = true ↔ ∃ x, x ∈ hs ∧ p x = true ∧ x.h = n := by
  unfold hasI hdTo
  rw [List.take_length, List.any_eq_true]
  constructor
  · rintro ⟨y, hy, he⟩
    obtain ⟨x, hx, rfl⟩ := List.mem_map.1 hy
    obtain ⟨h1, h2⟩ := List.mem_filter.1 hx
    exact ⟨x, h1, h2, by simpa using he⟩
  · rintro ⟨x, h1, h2, rfl⟩
    exact ⟨x.h, List.mem_map.2 ⟨x, List.mem_filter.2 ⟨h1, h2⟩, rfl⟩, by simp⟩
/-- The handles of those that are alive and of which p holds. -/
theorem Sim.chosen (h : Sim rs ps) (p : PH → Bool) (i : Nat) (r : RR) (hr : rs.rights[i]? = some r) (hl : lv rs.rights i = true) : hasI (hdTo ps.hs p ps.hs.length) ((i : Int) + 1) = p (toPH r) := by
  rw [Bool.eq_iff_iff, hasI_hdTo, h.hs]
  constructor
  · rintro ⟨x, hx, hp, he⟩
    obtain ⟨k, q, hq, _, rfl⟩ := mem_live.1 hx
    have h1 : q.h = (i : Int) + 1 := he
    have := h.inv.hnd k q hq
    have : k = i := by omega
    subst this
    rw [hr] at hq
    simp at hq
    subst hq
    exact hp
  · intro hp
    exact ⟨toPH r, mem_live.2 ⟨i, r, hr, hl, rfl⟩, hp, h.inv.hnd i r hr⟩

theorem Sim.revoke (h : Sim rs ps) (env hd : Int) : (revokeR rs env hd).1 = (revokeP ps env hd).1 ∧ Sim (revokeR rs env hd).2 (revokeP ps env hd).2 := by
  rcases h.right env hd with ⟨x, h1, h2, h3⟩ | ⟨j, r, h1, hrr, hd1, he, hl, hal, h2⟩
  · have : x ≠ 0 := by omega
    unfold revokeR revokeP
    rw [h1, h2]
    simp only [ne_eq, this, not_false_eq_true, if_true]
    exact ⟨trivial, h⟩
  · unfold revokeR revokeP
    rw [h1, h2]
    simp only [ne_eq, not_true_eq_false, if_false]
    refine ⟨trivial, ?_⟩
    unfold endIf
    rw [mark_map]
    have hal : ps.alive = rs.alive := h.al
    have := h.ends (fun i => (rs.rights[i]?.map fun r => r.frm == (j : Int)).getD false) (hdTo ps.hs (fun x => x.par == (toPH r).h) ps.hs.length) (fun i hi hli => by
      obtain ⟨q, hq⟩ : ∃ q, rs.rights[i]? = some q := ⟨rs.rights[i], by simp⟩
      rw [h.chosen _ i q hq hli, hq]
      show (q.frm + 1 == r.h) = _
      rw [h.inv.hnd j r hrr, Bool.eq_iff_iff]
      simp) rs.alive rfl
    have e : ({ ps with hs := endAllP ps.hs (hdTo ps.hs (fun x => x.par == (toPH r).h) ps.hs.length) } : PSt) = { ps with hs := endAllP ps.hs (hdTo ps.hs (fun x => x.par == (toPH r).h) ps.hs.length), alive := rs.alive } := by rw [← hal]
    rw [e]
    exact this

theorem Sim.drop (h : Sim rs ps) (env hd : Int) : (dropR rs env hd).1 = (dropP ps env hd).1 ∧ Sim (dropR rs env hd).2 (dropP ps env hd).2 := by
  rcases h.right env hd with ⟨x, h1, h2, h3⟩ | ⟨j, r, h1, hrr, hd1, he, hl, hal, h2⟩
  · have : x ≠ 0 := by omega
    unfold dropR dropP
    rw [h1, h2]
    simp only [ne_eq, this, not_false_eq_true, if_true]
    exact ⟨trivial, h⟩
  · unfold dropR dropP
    rw [h1, h2]
    simp only [ne_eq, not_true_eq_false, if_false, Int.toNat_natCast, hrr]
    refine ⟨trivial, ?_⟩
    rw [mark_set _ _ _ hrr]
    have hal : ps.alive = rs.alive := h.al
    have := h.ends (fun i => i == j) [(toPH r).h] (fun i hi hli => by
      show hasI [r.h] _ = _
      rw [h.inv.hnd j r hrr, Bool.eq_iff_iff]
      simp [hasI]
      omega) rs.alive rfl
    have e : ({ ps with hs := endAllP ps.hs [(toPH r).h] } : PSt) = { ps with hs := endAllP ps.hs [(toPH r).h], alive := rs.alive } := by rw [← hal]
    rw [e]
    exact this

theorem Sim.kill (h : Sim rs ps) (env : Int) : (killR rs env).1 = (killP ps env).1 ∧ Sim (killR rs env).2 (killP ps env).2 := by
  unfold killR killP
  rw [← h.alive]
  cases hal : aliveB rs env with
  | false => exact ⟨rfl, h⟩
  | true =>
    simp only [if_true]
    refine ⟨trivial, ?_⟩
    unfold endIf
    rw [mark_map, h.al]
    exact h.ends _ _ (fun i hi hli => by
      obtain ⟨q, hq⟩ : ∃ q, rs.rights[i]? = some q := ⟨rs.rights[i], by simp⟩
      rw [h.chosen _ i q hq hli, hq]
      rfl) _ (by simp)

theorem Sim.spawn (h : Sim rs ps) (env : Int) : (spawnR rs env).1 = (spawnP ps env).1 ∧ Sim (spawnR rs env).2 (spawnP ps env).2 := by
  unfold spawnR spawnP
  rw [← h.alive]
  have hlen : ps.alive.length = rs.ne := by rw [h.al, h.len]
  by_cases h1 : env < 0 ∨ rs.ne ≤ env
  · have : isEnvP ps env = false := by simp [isEnvP, hlen]; omega
    rw [if_pos h1, this]
    exact ⟨rfl, h⟩
  · have : isEnvP ps env = true := by simp [isEnvP, hlen]; omega
    rw [if_neg h1, this]
    simp only [if_true]
    cases hal : aliveB rs env with
    | true => exact ⟨rfl, h⟩
    | false =>
      simp only [Bool.false_eq_true, if_false]
      refine ⟨trivial, ⟨h.inv.ord, h.inv.hnd, h.inv.env, h.inv.fr⟩, by rw [h.al], by simpa using h.len, h.nf, h.hs, h.last⟩

/-- What Rights tells. -/
theorem Sim.list (h : Sim rs ps) (env : Int) : ofP ps.hs env = (listR rs env).map toPH := by
  rw [h.hs]
  unfold ofP live listR
  have : ∀ q, q ≤ rs.rights.length → (liveTo rs.rights q).filter (fun x => x.env == env) = (listTo rs env q).map toPH := by
    intro q
    induction q with
    | zero => intro _; rfl
    | succ q ih =>
      intro hq
      obtain ⟨r, hr⟩ : ∃ r, rs.rights[q]? = some r := ⟨rs.rights[q], by simp⟩
      rw [liveTo_succ hr, listTo_succ rs env q r hr, List.filter_append, List.map_append, ih (by omega)]
      congr 1
      cases lv rs.rights q with
      | false => rfl
      | true =>
        simp only [if_true, Bool.true_and]
        have : (toPH r).env = r.env := rfl
        cases he : (r.env == env) <;> simp [this, he]
  exact this _ (Nat.le_refl _)
end
end Go.Proofs.Ytkonobbhohfjlaa
