import Derived.Deep.RegionWith
import Derived.Test.YtnolplmpanbmhaaGreatM07
/-
  The program's state and the document's: no memory here.
-/
namespace Go.Proofs.YtnolplmpanbmhaaGreat
set_option linter.unusedVariables false

def toPH (r : RR) : PH := ⟨r.h, r.env, r.fr, r.wr, r.frm + 1⟩
def liveTo (rs : List RR) (q : Nat) : List PH := (List.range q).filterMap fun i : Nat => rs[i]?.bind fun r => if lv rs i then some (toPH r) else none
/-- The rights that are alive. -/
def live (rs : List RR) : List PH := liveTo rs rs.length

theorem liveTo_succ {rs : List RR} {q : Nat} {r : RR} (hr : rs[q]? = some r) : liveTo rs (q + 1) = liveTo rs q ++ if lv rs q then [toPH r] else [] := by
  unfold liveTo
  rw [List.range_succ, List.filterMap_append]
  congr 1
  simp only [List.filterMap_cons, List.filterMap_nil, hr, Option.bind_some]
  cases lv rs q <;> rfl
theorem liveTo_len {rs : List RR} : ∀ q, q ≤ rs.length → (liveTo rs q).length = cntTo rs q := by
  intro q
  induction q with
  | zero => intro _; rfl
  | succ q ih =>
    intro h
    obtain ⟨r, hr⟩ : ∃ r, rs[q]? = some r := ⟨rs[q], by simp⟩
    rw [liveTo_succ hr, List.length_append, ih (by omega), cntTo_succ]
    cases lv rs q <;> simp
theorem live_len (rs : List RR) : (live rs).length = cnt rs := liveTo_len _ (Nat.le_refl _)
theorem mem_live {rs : List RR} {x : PH} : x ∈ live rs ↔ ∃ (i : Nat) (r : RR), rs[i]? = some r ∧ lv rs i = true ∧ x = toPH r := by
  unfold live liveTo
  rw [List.mem_filterMap]
  constructor
  · rintro ⟨i, _, h⟩
    obtain ⟨r, hr, h2⟩ := Option.bind_eq_some_iff.1 h
    by_cases hl : lv rs i = true
    · simp [hl] at h2; exact ⟨i, r, hr, hl, h2.symm⟩
    · simp [hl] at h2
  · rintro ⟨i, r, hr, hl, rfl⟩
    exact ⟨i, List.mem_range.2 (List.getElem?_eq_some_iff.1 hr).1, by rw [hr]; simp [hl]⟩

/-- The standing facts of the list of all rights. -/
theorem findP_some {s : RSt} (hI : RInv s) {i : Nat} {r : RR} {env : Int} (hr : s.rights[i]? = some r) (hl : lv s.rights i = true) (he : r.env = env) : findP (live s.rights) env (i + 1) = some (toPH r) := by
  have hx : (findP (live s.rights) env (i + 1)).isSome = true := by
    unfold findP
    rw [List.find?_isSome]
    exact ⟨toPH r, mem_live.2 ⟨i, r, hr, hl, rfl⟩, by simp [toPH, hI.hnd i r hr, he]⟩
  obtain ⟨y, hy⟩ := Option.isSome_iff_exists.1 hx
  have h1 := List.mem_of_find?_eq_some hy
  have h2 := List.find?_some hy
  obtain ⟨j, q, hq, _, rfl⟩ := mem_live.1 h1
  simp [toPH] at h2
  have := hI.hnd j q hq
  have hij : j = i := by omega
  subst hij
  rw [hr] at hq
  simp at hq
  subst hq
  exact hy
theorem findP_none {s : RSt} (hI : RInv s) {env hd : Int} (h : ∀ (i : Nat) (r : RR), s.rights[i]? = some r → hd = i + 1 → r.env = env → lv s.rights i = false) : findP (live s.rights) env hd = none := by
  unfold findP
  rw [List.find?_eq_none]
  intro x hx
  obtain ⟨j, q, hq, hl, rfl⟩ := mem_live.1 hx
  have := hI.hnd j q hq
  simp [toPH]
  intro h1 h2
  have := h j q hq (by omega) h2
  rw [hl] at this
  simp at this

theorem free_eq {s : RSt} (hI : RInv s) (f : Nat) : freeB s f = freeP (live s.rights) f := by
  unfold freeB freeP
  rw [Bool.eq_iff_iff]
  simp only [Bool.not_eq_true', List.any_eq_false, List.mem_range, List.all_eq_true]
  constructor
  · intro h x hx
    obtain ⟨i, r, hr, hl, rfl⟩ := mem_live.1 hx
    have he := hI.env i r hr
    cases hf : ((toPH r).fr == (f : Int)) with
    | false => rfl
    | true =>
      exfalso
      have hfr : r.fr = f := by simpa [toPH] using hf
      exact h r.env.toNat (by omega) (owned_iff.2 ⟨i, r, hr, hl, by omega, hfr⟩)
  · intro h e he ho
    obtain ⟨i, r, hr, hl, h1, h2⟩ := owned_iff.1 ho
    have := h (toPH r) (mem_live.2 ⟨i, r, hr, hl, rfl⟩)
    simp [toPH, h2] at this

/-! ### Appending and ending -/

theorem fm_congr {f g : Nat → Option PH} {l : List Nat} (h : ∀ i, i ∈ l → f i = g i) : l.filterMap f = l.filterMap g := by
  induction l with
  | nil => rfl
  | cons x l ih =>
    rw [List.filterMap_cons, List.filterMap_cons, h x (by simp), ih (fun i hi => h i (by simp [hi]))]

theorem live_append {rs : List RR} (ho : Ordered rs) {x : RR} (h1 : -1 ≤ x.frm) (h2 : x.frm < rs.length) (he : x.ended = false) (hl : lv rs x.frm = true) : live (rs ++ [x]) = live rs ++ [toPH x] := by
  have hq : (rs ++ [x])[rs.length]? = some x := by simp
  have ho' := ho.append h1 h2
  have hlast : lv (rs ++ [x]) rs.length = true := by
    rw [lv_step ho' hq, he, lv_append ho x (by omega), hl]; rfl
  unfold live
  rw [List.length_append, List.length_singleton, liveTo_succ hq, hlast]
  simp only [if_true]
  congr 1
  unfold liveTo
  apply fm_congr
  intro i hi
  have hi := List.mem_range.1 hi
  rw [List.getElem?_append_left hi, lv_append ho x (by omega)]

/-- The rights at the places of P end. -/
def goneTo (P : Nat → Bool) (rs : List RR) (q : Nat) : List Int := (List.range q).filterMap fun i : Nat => if lv rs i && !lv (markAt P rs) i then some ((i : Int) + 1) else none
theorem goneTo_succ (P : Nat → Bool) (rs : List RR) (q : Nat) : goneTo P rs (q + 1) = goneTo P rs q ++ if lv rs q && !lv (markAt P rs) q then [(q : Int) + 1] else [] := by
  unfold goneTo
  rw [List.range_succ, List.filterMap_append]
  congr 1
  simp only [List.filterMap_cons, List.filterMap_nil]
  cases (lv rs q && !lv (markAt P rs) q) <;> rfl
theorem hasI_gone (P : Nat → Bool) (rs : List RR) (q : Nat) (n : Int) : hasI (goneTo P rs q) n = true ↔ ∃ i : Nat, i < q ∧ n = i + 1 ∧ lv rs i = true ∧ lv (markAt P rs) i = false := by
  unfold hasI goneTo
  rw [List.any_eq_true]
  constructor
  · rintro ⟨x, hx, he⟩
    obtain ⟨i, hi, h⟩ := List.mem_filterMap.1 hx
    have he : x = n := by simpa using he
    by_cases hc : (lv rs i && !lv (markAt P rs) i) = true
    · rw [if_pos hc] at h
      simp at h hc
      exact ⟨i, List.mem_range.1 hi, by omega, hc.1, hc.2⟩
    · rw [if_neg hc] at h; simp at h
  · rintro ⟨i, hi, rfl, h1, h2⟩
    exact ⟨(i : Int) + 1, List.mem_filterMap.2 ⟨i, List.mem_range.2 hi, by simp [h1, h2]⟩, by simp⟩

/-- One pass over the rights that are alive finds all that comes of those that end. -/
theorem fold_mark {s : RSt} (hI : RInv s) (P : Nat → Bool) (hd : List Int) (hP : ∀ (i : Nat), i < s.rights.length → lv s.rights i = true → hasI hd ((i : Int) + 1) = P i) :
    ∀ q, q ≤ s.rights.length → (liveTo s.rights q).foldl (eaStep hd) ([], []) = (liveTo (markAt P s.rights) q, goneTo P s.rights q) := by
  intro q
  induction q with
  | zero => intro _; rfl
  | succ q ih =>
    intro hq
    obtain ⟨r, hr⟩ : ∃ r, s.rights[q]? = some r := ⟨s.rights[q], by simp⟩
    have hx : (markAt P s.rights)[q]? = some (if P q then r.end else r) := by rw [markAt_get, hr]; rfl
    have hph : toPH (if P q then r.end else r) = toPH r := by cases P q <;> rfl
    have hbd := hI.ord q r hr
    rw [liveTo_succ hr, List.foldl_append, ih (by omega), liveTo_succ hx, hph, goneTo_succ]
    cases hl : lv s.rights q with
    | false =>
      have hl' : lv (markAt P s.rights) q = false := by
        cases h : lv (markAt P s.rights) q with
        | false => rfl
        | true => have := lv_mark_le hI.ord P _ q (Nat.le_refl _) (by omega) h; rw [hl] at this; exact absurd this (by simp)
      simp [hl']
    | true =>
      have h1 : hasI hd (toPH r).h = P q := by
        show hasI hd r.h = P q
        rw [hI.hnd q r hr]; exact hP q (by omega) hl
      have hst := lv_step hI.ord hr
      rw [hl] at hst
      have hst' : r.ended = false ∧ lv s.rights r.frm = true := by
        cases hxx : r.ended <;> rw [hxx] at hst <;> simp at hst ⊢
        exact hst
      have h2 : hasI (goneTo P s.rights q) (toPH r).par = !lv (markAt P s.rights) r.frm := by
        show hasI (goneTo P s.rights q) (r.frm + 1) = _
        by_cases h0 : r.frm < 0
        · rw [lv_neg h0]
          cases hh : hasI (goneTo P s.rights q) (r.frm + 1) with
          | false => rfl
          | true =>
            obtain ⟨i, _, hi, _⟩ := (hasI_gone P s.rights q _).1 hh
            omega
        · obtain ⟨k, hk⟩ := Int.eq_ofNat_of_zero_le (show 0 ≤ r.frm by omega)
          rw [hk] at hst' ⊢
          cases hlk : lv (markAt P s.rights) k with
          | false => exact (hasI_gone P s.rights q _).2 ⟨k, by omega, rfl, hst'.2, hlk⟩
          | true =>
            cases hh : hasI (goneTo P s.rights q) ((k : Int) + 1) with
            | false => rfl
            | true =>
              obtain ⟨i, _, hi, _, hi2⟩ := (hasI_gone P s.rights q _).1 hh
              have : i = k := by omega
              subst this
              rw [hlk] at hi2; exact hi2
      have h3 := lv_mark hI.ord P hr
      rw [hst'.1] at h3
      simp only [if_true, List.foldl_cons, List.foldl_nil, Bool.true_and]
      unfold eaStep
      simp only [h1, h2]
      rw [h3]
      have hh : (toPH r).h = (q : Int) + 1 := hI.hnd q r hr
      cases P q <;> cases lv (markAt P s.rights) r.frm <;> simp [hh]

theorem endAll_mark {s : RSt} (hI : RInv s) (P : Nat → Bool) (hd : List Int) (hP : ∀ (i : Nat), i < s.rights.length → lv s.rights i = true → hasI hd ((i : Int) + 1) = P i) :
    endAllP (live s.rights) hd = live (markAt P s.rights) := by
  have := fold_mark hI P hd hP s.rights.length (Nat.le_refl _)
  unfold endAllP eaTo
  rw [List.take_length]
  show ((liveTo s.rights s.rights.length).foldl (eaStep hd) ([], [])).1 = _
  rw [this]
  unfold live
  rw [markAt_len]

/-! ### The calls -/

theorem back_eq (rs : List RR) (env fr : Int) (wt : Bool) : owned rs env fr wt = backsP (live rs) env fr wt := by
  rw [Bool.eq_iff_iff, owned_ex]
  unfold backsP
  rw [List.any_eq_true]
  constructor
  · rintro ⟨i, r, hr, hl, he, hf, hw⟩
    refine ⟨toPH r, mem_live.2 ⟨i, r, hr, hl, rfl⟩, ?_⟩
    simp only [backP, toPH, he, hf, beq_self_eq_true, Bool.true_and]
    cases wt
    · simp
    · simp [hw rfl]
  · rintro ⟨x, hx, hb⟩
    obtain ⟨i, r, hr, hl, rfl⟩ := mem_live.1 hx
    simp [backP, toPH] at hb
    exact ⟨i, r, hr, hl, hb.1, hb.2.1, fun hw => by rcases hb.2.2 with h | h; exact h; rw [hw] at h; simp at h⟩
theorem sweep_eq (s : RSt) : (sweepS s).slots = s.slots.map (swP (live s.rights)) := by
  unfold sweepS swP
  simp only
  apply List.map_congr_left
  intro e _
  rw [back_eq]
/-- The program's state that stands for a state of the document. -/
def toP (s : RSt) : PSt := ⟨s.alive, s.bytes, live s.rights, s.rights.length, s.slots⟩

structure Sim (rs : RSt) (ps : PSt) : Prop where
  inv : RInv rs
  al : ps.alive = rs.alive
  len : rs.alive.length = rs.ne
  by_ : ps.bytes = rs.bytes
  bl : rs.bytes.length = rs.nf
  hs : ps.hs = live rs.rights
  last : ps.last = rs.rights.length
  sl : ps.slots = rs.slots
theorem SOk.sim {s : RSt} (h : SOk s) : Sim s (toP s) := ⟨h.inv, rfl, h.fix.al, rfl, h.fix.by_, rfl, rfl, rfl⟩
theorem Sim.eq {rs : RSt} {ps : PSt} (h : Sim rs ps) : ps = toP rs := by
  obtain ⟨a, b, c, d, e⟩ := ps
  have h1 := h.al; have h2 := h.by_; have h3 := h.hs; have h4 := h.last; have h5 := h.sl
  simp only at h1 h2 h3 h4 h5
  subst h1 h2 h3 h4 h5
  rfl

section
variable {rs : RSt} {ps : PSt}

theorem Sim.alive (h : Sim rs ps) (env : Int) : aliveB rs env = aliveP ps env := by
  unfold aliveB aliveP isEnvP
  rw [h.al, h.len, Bool.and_assoc]
theorem Sim.raw (h : Sim rs ps) (env : Int) : rawE rs env = rawP ps env := by
  unfold rawE rawP
  rw [h.alive]
theorem Sim.least (h : Sim rs ps) : leastFree rs = leastFreeP ps := by
  unfold leastFree leastFreeP
  rw [h.by_, h.bl, h.hs]
  congr 1
  funext f
  exact free_eq h.inv f
/-- Both find the same right. -/
theorem Sim.right (h : Sim rs ps) (env hd : Int) :
    (∃ x, rightE rs env hd = (-1, x) ∧ rightP ps env hd = (none, x) ∧ (x = 2 ∨ x = 9)) ∨
    ∃ (j : Nat) (r : RR), rightE rs env hd = ((j : Int), 0) ∧ rs.rights[j]? = some r ∧ hd = j + 1 ∧ r.env = env ∧ lv rs.rights j = true ∧ aliveB rs env = true ∧ rightP ps env hd = (some (toPH r), 0) := by
  rcases rawE_cases rs env with ⟨hr, ha⟩ | ⟨hr, ha⟩
  · have hr' := h.raw env
    rw [hr] at hr'
    exact .inl ⟨2, by simp [rightE, hr], by simp [rightP, ← hr'], .inl rfl⟩
  · have hr' := h.raw env
    rw [hr] at hr'
    rcases rightE_cases rs env hd with ⟨x, hx, hx2⟩ | ⟨j, r, hx, hrr, hd1, he, hl, hal⟩
    · left
      have hx9 : x = 9 := by
        rcases hx2 with rfl | rfl
        · exfalso
          unfold rightE at hx
          rw [hr] at hx
          simp only [ne_eq, not_true_eq_false, if_false] at hx
          split at hx
          · simp at hx
          · split at hx
            · simp at hx
            · split at hx
              · simp at hx
              · simp at hx
        · rfl
      subst hx9
      refine ⟨9, hx, ?_, .inr rfl⟩
      have : findP ps.hs env hd = none := by
        rw [h.hs]
        refine findP_none h.inv (fun i r hri hdi hei => ?_)
        cases hli : lv rs.rights i with
        | false => rfl
        | true =>
          exfalso
          have hi := (List.getElem?_eq_some_iff.1 hri).1
          unfold rightE at hx
          rw [hr] at hx
          have h1 : 1 ≤ hd ∧ hd ≤ rs.rights.length := by omega
          rw [show (hd - 1).toNat = i by omega, show hd - 1 = (i : Int) by omega] at hx
          simp [if_pos h1, hri, hei, hli] at hx
      simp [rightP, ← hr', this]
    · right
      refine ⟨j, r, hx, hrr, hd1, he, hl, hal, ?_⟩
      have : findP ps.hs env hd = some (toPH r) := by
        rw [h.hs, hd1]
        exact findP_some h.inv hrr hl he
      simp [rightP, ← hr', this]

theorem Sim.alloc (h : Sim rs ps) (env : Int) : (allocR rs env).1 = (allocP ps env).1 ∧ Sim (allocR rs env).2 (allocP ps env).2 := by
  have hr := h.raw env
  unfold allocR allocP
  rcases rawE_cases rs env with ⟨h2, ha⟩ | ⟨h0, ha⟩
  · rw [← hr, h2]
    simp only [ne_eq]
    exact ⟨by simp, by simpa using h⟩
  · rw [← hr, h0]
    simp only [ne_eq, not_true_eq_false, if_false]
    unfold firstS
    rw [← h.least]
    cases hl : leastFree rs with
    | none => exact ⟨rfl, h⟩
    | some f =>
      have hlen : ps.hs.length = cnt rs.rights := by rw [h.hs, live_len]
      have hflt := leastFree_lt hl
      simp only
      by_cases hc : cnt rs.rights < 32
      · rw [if_pos hc, if_neg (by omega)]
        refine ⟨by simp [h.last], ?_⟩
        have hI' : RInv { rs with bytes := rs.bytes.set f [0, 0, 0, 0] } := ⟨h.inv.ord, h.inv.hnd, h.inv.env, h.inv.fr⟩
        have hi2 := hI'.add (wt := true) (aliveB_range ha) (show (0 : Int) ≤ f ∧ (f : Int) < rs.nf by omega) (show (-1 : Int) ≤ -1 by omega) (by omega)
        refine ⟨hi2, h.al, h.len, by show ps.bytes.set f [0, 0, 0, 0] = rs.bytes.set f [0, 0, 0, 0]; rw [h.by_], by simpa [addR] using h.bl, ?_, ?_, h.sl⟩
        · show addP ps.hs ps.last env f true 0 = live (rs.rights ++ [_])
          rw [live_append h.inv.ord (by simp) (by simp; omega) rfl (lv_neg (by simp)), h.hs, h.last]
          rfl
        · show ps.last + 1 = _
          rw [h.last]; simp [addR]
      · rw [if_neg hc, if_pos (by omega)]
        exact ⟨rfl, h⟩

theorem Sim.derive (h : Sim rs ps) (env hd te : Int) (wt : Bool) : (deriveR rs env hd te wt).1 = (deriveP ps env hd te wt).1 ∧ Sim (deriveR rs env hd te wt).2 (deriveP ps env hd te wt).2 := by
  have hrt := h.raw te
  rcases h.right env hd with ⟨x, h1, h2, h3⟩ | ⟨j, r, h1, hrr, hd1, he, hl, hal, h2⟩
  · have : x ≠ 0 := by omega
    unfold deriveR deriveP
    rw [h1, h2]
    simp only [ne_eq, this, not_false_eq_true, if_true]
    exact ⟨trivial, h⟩
  · have hj := (List.getElem?_eq_some_iff.1 hrr).1
    unfold deriveR deriveP
    rw [h1, h2]
    simp only [ne_eq, not_true_eq_false, if_false, Int.toNat_natCast, hrr]
    rcases rawE_cases rs te with ⟨ht, _⟩ | ⟨ht, hat⟩
    · rw [← hrt, ht]
      exact ⟨by simp, by simpa using h⟩
    · rw [← hrt, ht]
      simp only [not_true_eq_false, if_false]
      have hlen : ps.hs.length = cnt rs.rights := by rw [h.hs, live_len]
      rw [hlen]
      have ew : (toPH r).wr = r.wr := rfl
      rw [ew]
      cases (wt && !r.wr) with
      | true => exact ⟨rfl, h⟩
      | false =>
        simp only [Bool.false_eq_true, if_false]
        by_cases hc : 32 ≤ cnt rs.rights
        · rw [if_pos hc, if_pos hc]; exact ⟨rfl, h⟩
        · rw [if_neg hc, if_neg hc]
          refine ⟨by simp [h.last], ?_⟩
          have hi2 := h.inv.add (wt := wt) (aliveB_range hat) (h.inv.fr j r hrr) (show (-1 : Int) ≤ j by omega) (by omega)
          refine ⟨hi2, h.al, h.len, h.by_, h.bl, ?_, ?_, h.sl⟩
          · show addP ps.hs ps.last te r.fr wt r.h = live (rs.rights ++ [_])
            rw [live_append h.inv.ord (show (-1 : Int) ≤ (j : Int) by omega) (show (j : Int) < (rs.rights.length : Int) by omega) rfl hl, h.hs, h.last]
            unfold addP toPH
            simp [h.inv.hnd j r hrr]
          · show ps.last + 1 = _
            rw [h.last]; simp [addR]

theorem Sim.ends (h : Sim rs ps) (P : Nat → Bool) (hd : List Int) (hP : ∀ (i : Nat), i < rs.rights.length → lv rs.rights i = true → hasI hd ((i : Int) + 1) = P i) (al : List Bool) (hal : al.length = rs.alive.length) :
    Sim (sweepS { rs with rights := markAt P rs.rights, alive := al }) { endP ps (endAllP ps.hs hd) with alive := al } := by
  have hi := h.inv.mark P
  have hE : endAllP ps.hs hd = live (markAt P rs.rights) := by rw [h.hs]; exact endAll_mark h.inv P hd hP
  refine ⟨⟨hi.ord, hi.hnd, hi.env, hi.fr⟩, rfl, hal.trans h.len, h.by_, h.bl, ?_, ?_, ?_⟩
  · show endAllP ps.hs hd = live (markAt P rs.rights)
    rw [h.hs]; exact endAll_mark h.inv P hd hP
  · show ps.last = ((markAt P rs.rights).length : Int)
    rw [markAt_len]; exact h.last
  · show ps.slots.map (swP (endAllP ps.hs hd)) = (sweepS { rs with rights := markAt P rs.rights, alive := al }).slots
    rw [sweep_eq, h.sl, hE]

theorem hasI_hdTo (hs : List PH) (p : PH → Bool) (n : Int) : hasI (hdTo hs p hs.length) n = true ↔ ∃ x, x ∈ hs ∧ p x = true ∧ x.h = n := by
  unfold hasI hdTo
  rw [List.take_length, List.any_eq_true]
  constructor
  · rintro ⟨y, hy, he⟩
    obtain ⟨x, hx, rfl⟩ := List.mem_map.1 hy
    obtain ⟨h1, h2⟩ := List.mem_filter.1 hx
    exact ⟨x, h1, h2, by simpa using he⟩
  · rintro ⟨x, h1, h2, rfl⟩
    exact ⟨x.h, List.mem_map.2 ⟨x, List.mem_filter.2 ⟨h1, h2⟩, rfl⟩, by simp⟩
/-- The handles of those that are alive and of which p holds. -/
theorem Sim.chosen (h : Sim rs ps) (p : PH → Bool) (i : Nat) (r : RR) (hr : rs.rights[i]? = some r) (hl : lv rs.rights i = true) : hasI (hdTo ps.hs p ps.hs.length) ((i : Int) + 1) = p (toPH r) := by
  rw [Bool.eq_iff_iff, hasI_hdTo, h.hs]
  constructor
  · rintro ⟨x, hx, hp, he⟩
    obtain ⟨k, q, hq, _, rfl⟩ := mem_live.1 hx
    have h1 : q.h = (i : Int) + 1 := he
    have := h.inv.hnd k q hq
    have : k = i := by omega
    subst this
    rw [hr] at hq
    simp at hq
    subst hq
    exact hp
  · intro hp
    exact ⟨toPH r, mem_live.2 ⟨i, r, hr, hl, rfl⟩, hp, h.inv.hnd i r hr⟩

theorem Sim.revoke (h : Sim rs ps) (env hd : Int) : (revokeR rs env hd).1 = (revokeP ps env hd).1 ∧ Sim (revokeR rs env hd).2 (revokeP ps env hd).2 := by
  rcases h.right env hd with ⟨x, h1, h2, h3⟩ | ⟨j, r, h1, hrr, hd1, he, hl, hal, h2⟩
  · have : x ≠ 0 := by omega
    unfold revokeR revokeP
    rw [h1, h2]
    simp only [ne_eq, this, not_false_eq_true, if_true]
    exact ⟨trivial, h⟩
  · unfold revokeR revokeP
    rw [h1, h2]
    simp only [ne_eq, not_true_eq_false, if_false]
    refine ⟨trivial, ?_⟩
    unfold endIf
    rw [mark_map]
    have hal : ps.alive = rs.alive := h.al
    have := h.ends (fun i => (rs.rights[i]?.map fun r => r.frm == (j : Int)).getD false) (hdTo ps.hs (fun x => x.par == (toPH r).h) ps.hs.length) (fun i hi hli => by
      obtain ⟨q, hq⟩ : ∃ q, rs.rights[i]? = some q := ⟨rs.rights[i], by simp⟩
      rw [h.chosen _ i q hq hli, hq]
      show (q.frm + 1 == r.h) = _
      rw [h.inv.hnd j r hrr, Bool.eq_iff_iff]
      simp) rs.alive rfl
    have e : endP ps (endAllP ps.hs (hdTo ps.hs (fun x => x.par == (toPH r).h) ps.hs.length)) = { endP ps (endAllP ps.hs (hdTo ps.hs (fun x => x.par == (toPH r).h) ps.hs.length)) with alive := rs.alive } := by rw [← hal]; rfl
    rw [e]
    exact this

theorem Sim.drop (h : Sim rs ps) (env hd : Int) : (dropR rs env hd).1 = (dropP ps env hd).1 ∧ Sim (dropR rs env hd).2 (dropP ps env hd).2 := by
  rcases h.right env hd with ⟨x, h1, h2, h3⟩ | ⟨j, r, h1, hrr, hd1, he, hl, hal, h2⟩
  · have : x ≠ 0 := by omega
    unfold dropR dropP
    rw [h1, h2]
    simp only [ne_eq, this, not_false_eq_true, if_true]
    exact ⟨trivial, h⟩
  · unfold dropR dropP
    rw [h1, h2]
    simp only [ne_eq, not_true_eq_false, if_false, Int.toNat_natCast, hrr]
    refine ⟨trivial, ?_⟩
    rw [mark_set _ _ _ hrr]
    have hal : ps.alive = rs.alive := h.al
    have := h.ends (fun i => i == j) [(toPH r).h] (fun i hi hli => by
      show hasI [r.h] _ = _
      rw [h.inv.hnd j r hrr, Bool.eq_iff_iff]
      simp [hasI]
      omega) rs.alive rfl
    have e : endP ps (endAllP ps.hs [(toPH r).h]) = { endP ps (endAllP ps.hs [(toPH r).h]) with alive := rs.alive } := by rw [← hal]; rfl
    rw [e]
    exact this

theorem Sim.kill (h : Sim rs ps) (env : Int) : (killR rs env).1 = (killP ps env).1 ∧ Sim (killR rs env).2 (killP ps env).2 := by
  unfold killR killP
  rw [← h.alive]
  cases hal : aliveB rs env with
  | false => exact ⟨rfl, h⟩
  | true =>
    simp only [if_true]
    refine ⟨trivial, ?_⟩
    unfold endIf
    rw [mark_map, h.al]
    exact h.ends _ _ (fun i hi hli => by
      obtain ⟨q, hq⟩ : ∃ q, rs.rights[i]? = some q := ⟨rs.rights[i], by simp⟩
      rw [h.chosen _ i q hq hli, hq]
      rfl) _ (by simp)

theorem Sim.spawn (h : Sim rs ps) (env : Int) : (spawnR rs env).1 = (spawnP ps env).1 ∧ Sim (spawnR rs env).2 (spawnP ps env).2 := by
  unfold spawnR spawnP
  rw [← h.alive]
  have hlen : ps.alive.length = rs.ne := by rw [h.al, h.len]
  by_cases h1 : env < 0 ∨ rs.ne ≤ env
  · have : isEnvP ps env = false := by simp [isEnvP, hlen]; omega
    rw [if_pos h1, this]
    exact ⟨rfl, h⟩
  · have : isEnvP ps env = true := by simp [isEnvP, hlen]; omega
    rw [if_neg h1, this]
    simp only [if_true]
    cases hal : aliveB rs env with
    | true => exact ⟨rfl, h⟩
    | false =>
      simp only [Bool.false_eq_true, if_false]
      refine ⟨trivial, ⟨h.inv.ord, h.inv.hnd, h.inv.env, h.inv.fr⟩, by rw [h.al], by simpa using h.len, h.by_, h.bl, h.hs, h.last, h.sl⟩

/-- What Rights tells. -/
theorem Sim.list (h : Sim rs ps) (env : Int) : ofP ps.hs env = (listR rs env).map toPH := by
  rw [h.hs]
  unfold ofP live listR
  have : ∀ q, q ≤ rs.rights.length → (liveTo rs.rights q).filter (fun x => x.env == env) = (listTo rs env q).map toPH := by
    intro q
    induction q with
    | zero => intro _; rfl
    | succ q ih =>
      intro hq
      obtain ⟨r, hr⟩ : ∃ r, rs.rights[q]? = some r := ⟨rs.rights[q], by simp⟩
      rw [liveTo_succ hr, listTo_succ rs env q r hr, List.filter_append, List.map_append, ih (by omega)]
      congr 1
      cases lv rs.rights q with
      | false => rfl
      | true =>
        simp only [if_true, Bool.true_and]
        have : (toPH r).env = r.env := rfl
        cases he : (r.env == env) <;> simp [this, he]
  exact this _ (Nat.le_refl _)
end
end Go.Proofs.YtnolplmpanbmhaaGreat

/-
  The program's state and the document's: the table's calls.
-/
namespace Go.Proofs.YtnolplmpanbmhaaGreat
set_option linter.unusedVariables false

section
variable {rs : RSt} {ps : PSt}

theorem gone_eq (h : SOk rs) (env page : Int) : rs.slots.map (goneE env page) = rs.slots.map (remE env page) := by
  apply List.map_congr_left
  intro e he
  obtain ⟨i, hi, rfl⟩ := List.getElem_of_mem he
  unfold goneE remE entP
  cases hu : rs.slots[i].used with
  | true => simp
  | false =>
    have := h.emp i rs.slots[i] (by simp) hu
    simp only [Bool.false_and, Bool.false_eq_true, if_false]
    split
    · exact this.symm
    · rfl
theorem Sim.page (h : Sim rs ps) (env page : Int) : pageP ps env page = if rawE rs env ≠ 0 then rawE rs env else if page < 0 ∨ 15 < page then 7 else 0 := by
  unfold pageP
  rw [h.raw]
theorem Sim.unmap (h : Sim rs ps) (hk : SOk rs) (env page : Int) : (unmapR rs env page).1 = (unmapP ps env page).1 ∧ Sim (unmapR rs env page).2 (unmapP ps env page).2 := by
  unfold unmapR unmapP
  rw [h.page]
  by_cases h1 : rawE rs env = 0
  · by_cases h2 : page < 0 ∨ 15 < page
    · simp only [h1, ne_eq, not_true_eq_false, if_false, if_pos h2]
      exact ⟨by simp, by simpa using h⟩
    · simp only [h1, ne_eq, not_true_eq_false, if_false, if_neg h2]
      refine ⟨trivial, ⟨h.inv.ord, h.inv.hnd, h.inv.env, h.inv.fr⟩, h.al, h.len, h.by_, h.bl, h.hs, h.last, ?_⟩
      show ps.slots.map (remE env page) = rs.slots.map (goneE env page)
      rw [gone_eq hk, h.sl]
  · simp only [ne_eq, h1, not_false_eq_true, if_true]
    exact ⟨trivial, h⟩
theorem Sim.map (h : Sim rs ps) (hk : SOk rs) (env page hd : Int) (wt : Bool) (slot : Int) : (mapR rs env page hd wt slot).1 = (mapP ps env page hd wt slot).1 ∧ Sim (mapR rs env page hd wt slot).2 (mapP ps env page hd wt slot).2 := by
  have hr := h.raw env
  unfold mapR mapP
  rw [h.page]
  by_cases h1 : rawE rs env = 0
  · by_cases h2 : page < 0 ∨ 15 < page
    · simp only [h1, ne_eq, not_true_eq_false, if_false, if_pos h2]
      exact ⟨by simp, by simpa using h⟩
    · simp only [h1, ne_eq, not_true_eq_false, if_false, if_neg h2]
      rcases h.right env hd with ⟨x, g1, g2, g3⟩ | ⟨j, r, g1, hrr, hd1, he, hl, hal, g2⟩
      · have hx : x ≠ 0 := by omega
        have hf : findP ps.hs env hd = none ∧ x = 9 := by
          unfold rightP at g2
          rw [← hr, h1] at g2
          simp only [ne_eq, not_true_eq_false, if_false] at g2
          cases hf : findP ps.hs env hd with
          | none => rw [hf] at g2; simp at g2; exact ⟨rfl, g2.symm⟩
          | some y => rw [hf] at g2; simp at g2
        rw [g1, hf.1, hf.2]
        exact ⟨rfl, h⟩
      · have hf : findP ps.hs env hd = some (toPH r) := by
          unfold rightP at g2
          rw [← hr, h1] at g2
          simp only [ne_eq, not_true_eq_false, if_false] at g2
          cases hf : findP ps.hs env hd with
          | none => rw [hf] at g2; simp at g2
          | some y => rw [hf] at g2; simp at g2; rw [g2]
        rw [g1, hf]
        simp only [not_true_eq_false, if_false, Int.toNat_natCast, hrr]
        have ew : (toPH r).wr = r.wr := rfl
        rw [ew, h.sl, hk.ns]
        cases (wt && !r.wr) with
        | true => exact ⟨rfl, h⟩
        | false =>
          simp only [Bool.false_eq_true, if_false]
          by_cases h3 : slot < 0 ∨ (rs.ns : Int) ≤ slot
          · rw [if_pos h3, if_pos h3]; exact ⟨rfl, h⟩
          · rw [if_neg h3, if_neg h3]
            refine ⟨rfl, ⟨h.inv.ord, h.inv.hnd, h.inv.env, h.inv.fr⟩, h.al, h.len, h.by_, h.bl, h.hs, h.last, ?_⟩
            show (rs.slots.map (remE env page)).set _ _ = (rs.slots.map (goneE env page)).set _ _
            rw [gone_eq hk]
            rfl
  · simp only [ne_eq, h1, not_false_eq_true, if_true]
    exact ⟨trivial, h⟩
theorem find_ent (rs : RSt) (env page : Int) : (entI rs env page = -1 ∧ findT rs.slots env page = none) ∨ ∃ (q : Nat) (e : Ent), entI rs env page = q ∧ rs.slots[q]? = some e ∧ findT rs.slots env page = some e := by
  unfold entI
  cases hx : rs.slots.findIdx? (entP env page) with
  | none =>
    left
    refine ⟨rfl, ?_⟩
    rw [List.findIdx?_eq_none_iff] at hx
    unfold findT
    rw [List.find?_eq_none]
    intro x hm
    simp [hx x hm]
  | some q =>
    right
    rw [List.findIdx?_eq_some_iff_getElem] at hx
    obtain ⟨hq, h1, h2⟩ := hx
    refine ⟨q, rs.slots[q], rfl, by simp, findT_hit (q := q) (by simp) (fun i y hi hy => ?_) h1⟩
    have := h2 i hi
    obtain ⟨hi2, he⟩ := List.getElem?_eq_some_iff.1 hy
    rw [he] at this
    simpa using this
theorem Sim.place (h : Sim rs ps) (env page a : Int) : placeP ps env page a = if rawE rs env ≠ 0 then rawE rs env else if page < 0 ∨ 15 < page then 7 else if a < 0 ∨ 3 < a then 8 else 0 := by
  unfold placeP
  rw [h.page]
  by_cases h1 : rawE rs env = 0
  · by_cases h2 : page < 0 ∨ 15 < page
    · simp [h1, h2]
    · simp [h1, h2]
  · simp [h1]
theorem Sim.load (h : Sim rs ps) (env page a : Int) : loadR rs env page a = loadP ps env page a := by
  unfold loadR loadP
  rw [h.place, h.sl]
  by_cases h1 : rawE rs env = 0
  · by_cases h2 : page < 0 ∨ 15 < page
    · simp [h1, h2]
    · by_cases h3 : a < 0 ∨ 3 < a
      · simp [h1, h2, h3]
      · simp only [h1, ne_eq, not_true_eq_false, if_false, if_neg h2, if_neg h3]
        rcases find_ent rs env page with ⟨g1, g2⟩ | ⟨q, e, g1, g2, g3⟩
        · rw [g1, g2]; rfl
        · rw [g1, g3, if_neg (by omega)]
          simp only [Int.toNat_natCast, g2]
          unfold byteAt byteP
          rw [h.by_]
  · simp [h1]
theorem Sim.store (h : Sim rs ps) (env page a v : Int) : (storeR rs env page a v).1 = (storeP ps env page a v).1 ∧ Sim (storeR rs env page a v).2 (storeP ps env page a v).2 := by
  unfold storeR storeP
  rw [h.place, h.sl]
  by_cases h1 : rawE rs env = 0
  · by_cases h2 : page < 0 ∨ 15 < page
    · simp only [h1, ne_eq, not_true_eq_false, if_false, if_pos h2]
      exact ⟨by simp, by simpa using h⟩
    · by_cases h3 : a < 0 ∨ 3 < a
      · simp only [h1, ne_eq, not_true_eq_false, if_false, if_neg h2, if_pos h3]
        exact ⟨by simp, by simpa using h⟩
      · simp only [h1, ne_eq, not_true_eq_false, if_false, if_neg h2, if_neg h3]
        by_cases h4 : v < 0 ∨ 255 < v
        · rw [if_pos h4, if_pos h4]; exact ⟨rfl, h⟩
        · rw [if_neg h4, if_neg h4]
          rcases find_ent rs env page with ⟨g1, g2⟩ | ⟨q, e, g1, g2, g3⟩
          · rw [g1, g2]
            exact ⟨rfl, h⟩
          · rw [g1, g3, if_neg (by omega)]
            simp only [Int.toNat_natCast, g2]
            cases e.wr with
            | false => exact ⟨rfl, h⟩
            | true =>
              simp only [Bool.not_true, Bool.false_eq_true, if_false]
              refine ⟨trivial, ⟨h.inv.ord, h.inv.hnd, h.inv.env, h.inv.fr⟩, h.al, h.len, ?_, by simpa [putByte] using h.bl, h.hs, h.last, h.sl⟩
              show ps.bytes.set _ _ = rs.bytes.set _ _
              rw [h.by_]
  · simp only [ne_eq, h1, not_false_eq_true, if_true]
    exact ⟨trivial, h⟩
end
end Go.Proofs.YtnolplmpanbmhaaGreat

namespace Go.Proofs.YtnolplmpanbmhaaGreat
open Go.RowKit
set_option linter.unusedVariables false

set_option maxHeartbeats 400000 in
theorem mayBe_any (a b c : Int) (w : World) :
    Calls Tryz.prog 20 #[.agg #[.int .i64 a, .int .i64 b, .int .i64 c]] w fun e w' => e = .returned (.bool (mayB a b c)) ∧ Below w.heap.size w w' := by
  go_enter Tryz.func20, Tryz.ntmps20
  go_wp2
  all_goals
    go_ret
    refine ⟨ret_bool ?_, (Below.refl _ _).alloc (Nat.le_refl _) _⟩
    rw [Bool.eq_iff_iff]; simp [mayB]; omega
end Go.Proofs.YtnolplmpanbmhaaGreat

namespace Go.Proofs.YtnolplmpanbmhaaGreat
open Go.RowKit
set_option linter.unusedVariables false

theorem Tryz.infoEnv : (Tryz.prog.info? 59).map (fun i => (i.zero, i.size, i.bytes)) = some (some (.agg #[.bool false, .bool false]), 2, 2) := by kernel_rfl
theorem Tryz.infoFrame : (Tryz.prog.info? 103).map (fun i => (i.zero, i.size, i.bytes)) = some (some (.agg #[.int .u8 0, .int .u8 0, .int .u8 0, .int .u8 0]), 4, 4) := by kernel_rfl

/-- 'make([]T, n)': the block, written out. -/
theorem run_make_n {P : Program} {t e : TypeId} {z : Value} {size bytes : Nat} (ht : P.underlying t = some (.slice e))
    (hinfo : (P.info? e).map (fun i => (i.zero, i.size, i.bytes)) = some (some z, size, bytes)) (n : Nat) (hn : n ≤ 1000) (hb : bytes ≤ 1000) (C : List Value) (hC : madeCells z.cells (n * size) = C.toArray) (w : World) :
    (Instr.makeSlice t (.int .i64 (n : Int)) (.int .i64 (n : Int))).run P w = .ok (.slice (some ⟨w.heap.size, 0, none⟩) n n) (w.alloc (.cells C.toArray e)) := by
  obtain ⟨i, hi, hz, hs, hby⟩ := info_parts hinfo
  subst hs; subst hby
  have hb' : (i.bytes : Int) * (n : Int) ≤ 281474976710656 := by
    have h : i.bytes * n ≤ 1000 * 1000 := Nat.mul_le_mul hb hn
    have : ((i.bytes * n : Nat) : Int) ≤ 281474976710656 := by omega
    rwa [Int.natCast_mul] at this
  have hr := run_make (P := P) w t e i z ht hi hz .i64 .i64 n n (by omega) (Int.le_refl _) hb' (by omega)
  simp only [Int.toNat_natCast] at hr
  rw [hC] at hr
  exact hr

/-- The environments' cells: k of n are alive. -/
def envCells (k n : Nat) : List Value := (List.range (n * 2)).map fun j => .bool (decide (j % 2 = 0 ∧ j < 2 * k))
def frameCells (n : Nat) : List Value := List.replicate (n * 4) (.int .u8 0)

theorem made_env (n : Nat) : madeCells (Value.agg #[.bool false, .bool false]).cells (n * 2) = (envCells 0 n).toArray := by
  apply Array.ext'
  simp [madeCells, envCells, Value.cells]
  intro a _
  rcases Nat.mod_two_eq_zero_or_one a with h | h <;> simp [h]
theorem made_frame (n : Nat) : madeCells (Value.agg #[.int .u8 0, .int .u8 0, .int .u8 0, .int .u8 0]).cells (n * 4) = (frameCells n).toArray := by
  apply Array.ext'
  simp [madeCells, frameCells, Value.cells]
  apply List.ext_getElem
  · simp
  · intro i h1 h2
    simp
    have : i % 4 = 0 ∨ i % 4 = 1 ∨ i % 4 = 2 ∨ i % 4 = 3 := by omega
    rcases this with h | h | h | h <;> simp [h]

theorem made_ent (n : Nat) : madeCells (Value.agg #[.bool false, .int .i64 0, .int .i64 0, .int .i64 0, .bool false]).cells (n * 5) = ((List.replicate n Ent.empty).flatMap Ent.cells).toArray := by
  apply Array.ext'
  simp only [madeCells, Value.cells]
  apply List.ext_getElem?
  intro i
  rw [flat_at Ent.cells 5 (by omega) (fun _ => rfl)]
  by_cases hi : i < n * 5
  · rw [List.getElem?_replicate, if_pos (by omega)]
    have : i % 5 = 0 ∨ i % 5 = 1 ∨ i % 5 = 2 ∨ i % 5 = 3 ∨ i % 5 = 4 := by omega
    rcases this with h | h | h | h | h <;> simp [h, hi, Ent.cells, Ent.empty]
  · rw [List.getElem?_replicate, if_neg (by omega)]
    simp [hi]

def emptyCells (n : Nat) : List Value := (List.replicate n Ent.empty).flatMap Ent.cells
set_option maxHeartbeats 1000000 in
set_option maxRecDepth 100000 in
theorem tempty_any (n : Nat) (hn : n ≤ 8) (w : World) :
    Calls Tryz.prog 21 #[.int .i64 n] w fun e w' => ∃ g : Nat, e = .returned (.agg #[.slice (some ⟨g, 0, none⟩) n n]) ∧ w.heap.size ≤ g ∧ Below w.heap.size w w' ∧ Blk w' g (emptyCells n) 68 := by
  have hmk := run_make_n (P := Tryz.prog) Tryz.underlying49 Tryz.infoEnt n (by omega) (by omega) (emptyCells n) (made_ent n)
  go_enter Tryz.func21, Tryz.ntmps21
  go_wp2_with fail
  exact bodyPost_ret (v := .agg #[.slice (some ⟨w.heap.size + 1, 0, none⟩) n n]) (by simp [results, Tryz.results21, go_sem]) rfl
    ⟨w.heap.size + 1, rfl, by omega, ((Below.refl _ _).alloc (Nat.le_refl _) _).alloc (by simp) _, Blk.at _ _ _ _ (by simp)⟩

theorem envCells_set (k n : Nat) (h : k < n) : (envCells k n).set (k * 2) (.bool true) = envCells (k + 1) n := by
  apply List.ext_getElem
  · simp [envCells]
  · intro i h1 h2
    simp [envCells, List.getElem_set]
    rw [Bool.eq_iff_iff]; simp; omega

set_option maxHeartbeats 400000 in
theorem new_no (a b c : Int) (w : World) (h : mayB a b c = false) :
    Calls Tryz.prog 13 #[.agg #[.int .i64 a, .int .i64 b, .int .i64 c]] w fun e w' => e = .returned (.tuple #[.pointer none, .int .i64 1]) ∧ Below w.heap.size w w' := by
  go_enter Tryz.func13, Tryz.ntmps13
  go_wp2_with (go_at_call 20; refine (mayBe_any _ _ _ _).mono ?_; rintro e w' ⟨rfl, hb⟩; rw [h])
  go_ret2
  refine ⟨rfl, ((Below.refl _ _).alloc (Nat.le_refl _) _).trans (hb.mono (by simp))⟩


def machCells (e f g c a b : Nat) : List Value := [.slice (some ⟨e, 0, none⟩) c c, .slice (some ⟨f, 0, none⟩) a a, .slice none 0 0, .int .i64 0, .slice (some ⟨g, 0, none⟩) b b]

def NewMach (w w' : World) (m a b c : Nat) : Prop :=
  ∃ e f g, Blk w' m (machCells e f g c a b) 57 ∧ Blk w' e (envCells c c) 59 ∧ Blk w' f (frameCells a) 103 ∧ Blk w' g (emptyCells b) 68 ∧ m ≠ e ∧ m ≠ f ∧ m ≠ g ∧ e ≠ f ∧ e ≠ g ∧ f ≠ g ∧ w.heap.size ≤ m ∧ w.heap.size ≤ e ∧ w.heap.size ≤ f ∧ w.heap.size ≤ g

set_option maxHeartbeats 8000000 in
set_option maxRecDepth 100000 in
theorem new_yes (a b c : Nat) (w : World) (h : mayB a b c = true) (ha : a ≤ 16) (hb8 : b ≤ 8) (hc : c ≤ 4) (hc1 : 1 ≤ c) :
    Calls Tryz.prog 13 #[.agg #[.int .i64 a, .int .i64 b, .int .i64 c]] w fun e w' => ∃ m, e = .returned (.tuple #[.pointer (some ⟨m, 0, none⟩), .int .i64 0]) ∧ Below w.heap.size w w' ∧ NewMach w w' m a b c := by
  have hmk := run_make_n (P := Tryz.prog) Tryz.underlying47 Tryz.infoEnv c (by omega) (by omega) _ (made_env c)
  have hmk2 := run_make_n (P := Tryz.prog) Tryz.underlying48 Tryz.infoFrame a (by omega) (by omega) _ (made_frame a)
  go_enter Tryz.func13, Tryz.ntmps13
  go_wp2_with (go_at_call 20; refine (mayBe_any _ _ _ _).mono ?_; rintro e w' ⟨rfl, hb⟩; rw [h])
  have hbk := (Blk.new w [.int .i64 a, .int .i64 b, .int .i64 c] 35).below hb (by simp)
  have k0 := hbk.cell 0
  have k1 := hbk.cell 1
  have k2 := hbk.cell 2
  simp at k0 k1 k2
  have hsz : w.heap.size < w'.heap.size := by have := hb.size; simp at this; omega
  have hbw : Below w.heap.size w w' := ((Below.refl _ _).alloc (Nat.le_refl _) _).trans (hb.mono (by simp))
  go_cut [4] (fun p wc => ∃ m e f g, p = .pointer (some ⟨m, 0, none⟩) ∧ Below w.heap.size w wc ∧ Blk wc m (machCells e f g c a b) 57 ∧ Blk wc e (envCells 0 c) 59 ∧ Blk wc f (frameCells a) 103 ∧ Blk wc g (emptyCells b) 68 ∧ m ≠ e ∧ m ≠ f ∧ m ≠ g ∧ e ≠ f ∧ e ≠ g ∧ f ≠ g ∧ w.heap.size ≤ m ∧ w.heap.size ≤ e ∧ w.heap.size ≤ f ∧ w.heap.size ≤ g)
  case first =>
    have n0 : w.heap.size ≠ w'.heap.size := by omega
    have n1 : w'.heap.size ≠ w.heap.size := by omega
    clear hbk hb h
    go_region_held3 (fun x => x.cell? ⟨w.heap.size, 0, none⟩ = some (.int .i64 a) ∧ x.cell? ⟨w.heap.size, 1, none⟩ = some (.int .i64 b) ∧ x.cell? ⟨w.heap.size, 2, none⟩ = some (.int .i64 c)) (go_keep)
      ((first
        | (go_at_call 21; refine (tempty_any b hb8 _).mono ?_; rintro e w1 ⟨g, rfl, hg, hb1, hblk⟩
           have hl1 : w.heap.size < w1.heap.size := by have := hb1.size; simp at this; omega
           have n2 : w.heap.size ≠ w1.heap.size := by omega
           have n3 : w1.heap.size ≠ w.heap.size := by omega
           have q0 : w1.cell? ⟨w.heap.size, 0, none⟩ = some (.int .i64 a) := (hb1.cell (p := ⟨w.heap.size, 0, none⟩) (by simp; omega)).trans (by first | exact k0 | (simp [go_sem, *]; done))
           have q1 : w1.cell? ⟨w.heap.size, 1, none⟩ = some (.int .i64 b) := (hb1.cell (p := ⟨w.heap.size, 1, none⟩) (by simp; omega)).trans (by first | exact k1 | (simp [go_sem, *]; done))
           have q2 : w1.cell? ⟨w.heap.size, 2, none⟩ = some (.int .i64 c) := (hb1.cell (p := ⟨w.heap.size, 2, none⟩) (by simp; omega)).trans (by first | exact k2 | (simp [go_sem, *]; done)))))
    · go_wp2
      go_meet
      case rel =>
        have hX := hb1.size
        have hgl := hblk.lt
        simp at hX hg
        refine ⟨_, w'.heap.size, w'.heap.size + 1, g, rfl, (((((hbw.alloc (by omega) _).alloc (by simp; omega) _).drew).trans (hb1.mono (by simp; omega))).alloc (by omega) _), Blk.at _ (machCells _ _ _ c a b) _ _ (by simp), (((((Blk.at _ _ _ _ rfl).alloc _).drew).below hb1 (by simp <;> omega)).alloc _), ((((Blk.at _ _ _ _ (by simp)).drew).below hb1 (by simp <;> omega)).alloc _), (hblk.alloc _), ?_, ?_, ?_, ?_, ?_, ?_, ?_, ?_, ?_, ?_⟩
        all_goals omega
    · go_wp2
      go_meet
      case rel =>
        have hX := hb1.size
        have hgl := hblk.lt
        simp at hX hg
        refine ⟨_, w'.heap.size, w1.heap.size, g, rfl, (((((hbw.alloc (by omega) _).drew).trans (hb1.mono (by simp; omega))).alloc (by omega) _).alloc (by simp; omega) _), Blk.at _ (machCells _ _ _ c a b) _ _ (by simp), (((((Blk.at _ _ _ _ rfl).drew).below hb1 (by simp <;> omega)).alloc _).alloc _), ((Blk.at _ _ _ _ rfl).alloc _), ((hblk.alloc _).alloc _), ?_, ?_, ?_, ?_, ?_, ?_, ?_, ?_, ?_, ?_⟩
        all_goals omega
    · go_wp2
      go_meet
      case rel =>
        have hX := hb1.size
        have hgl := hblk.lt
        simp at hX hg
        refine ⟨_, w'.heap.size + 1, w'.heap.size, g, rfl, (((((hbw.alloc (by omega) _).alloc (by simp; omega) _).drew).trans (hb1.mono (by simp; omega))).alloc (by omega) _), Blk.at _ (machCells _ _ _ c a b) _ _ (by simp), ((((Blk.at _ _ _ _ (by simp)).drew).below hb1 (by simp <;> omega)).alloc _), (((((Blk.at _ _ _ _ rfl).alloc _).drew).below hb1 (by simp <;> omega)).alloc _), (hblk.alloc _), ?_, ?_, ?_, ?_, ?_, ?_, ?_, ?_, ?_, ?_⟩
        all_goals omega
    · go_wp2
      go_meet
      case rel =>
        have hX := hb1.size
        have hgl := hblk.lt
        simp at hX hg
        refine ⟨_, w1.heap.size, w'.heap.size, g, rfl, (((((hbw.alloc (by omega) _).drew).trans (hb1.mono (by simp; omega))).alloc (by omega) _).alloc (by simp; omega) _), Blk.at _ (machCells _ _ _ c a b) _ _ (by simp), ((Blk.at _ _ _ _ rfl).alloc _), (((((Blk.at _ _ _ _ rfl).drew).below hb1 (by simp <;> omega)).alloc _).alloc _), ((hblk.alloc _).alloc _), ?_, ?_, ?_, ?_, ?_, ?_, ?_, ?_, ?_, ?_⟩
        all_goals omega
    · go_wp2
      go_meet
      case rel =>
        have hX := hb1.size
        have hgl := hblk.lt
        simp at hX hg
        refine ⟨_, w1.heap.size, w1.heap.size + 1, g, rfl, ((((hbw.drew.trans (hb1.mono (by simp; omega))).alloc (by omega) _).alloc (by simp; omega) _).alloc (by simp; omega) _), Blk.at _ (machCells _ _ _ c a b) _ _ (by simp), (((Blk.at _ _ _ _ rfl).alloc _).alloc _), ((Blk.at _ _ _ _ (by simp)).alloc _), (((hblk.alloc _).alloc _).alloc _), ?_, ?_, ?_, ?_, ?_, ?_, ?_, ?_, ?_, ?_⟩
        all_goals omega
    · go_wp2
      go_meet
      case rel =>
        have hX := hb1.size
        have hgl := hblk.lt
        simp at hX hg
        refine ⟨_, w1.heap.size + 1, w1.heap.size, g, rfl, ((((hbw.drew.trans (hb1.mono (by simp; omega))).alloc (by omega) _).alloc (by simp; omega) _).alloc (by simp; omega) _), Blk.at _ (machCells _ _ _ c a b) _ _ (by simp), ((Blk.at _ _ _ _ (by simp)).alloc _), (((Blk.at _ _ _ _ rfl).alloc _).alloc _), (((hblk.alloc _).alloc _).alloc _), ?_, ?_, ?_, ?_, ?_, ?_, ?_, ?_, ?_, ?_⟩
        all_goals omega
  case rest =>
    obtain ⟨m, e, f, g, hp, hbl, hm, he, hf, hgk, n1, n2, n3, n4, n5, n6, g1, g2, g3, g4⟩ := hcut
    rw [hp]
    have j0 := hm.cell 0
    simp [machCells] at j0
    go_wp2
    go_loopg [25, 5] c (fun k i _ wr => ∃ r : Nat, r + k = c ∧ i = .int .i64 r ∧ Below w.heap.size w wr ∧ Blk wr m (machCells e f g c a b) 57 ∧ Blk wr e (envCells r c) 59 ∧ Blk wr f (frameCells a) 103 ∧ Blk wr g (emptyCells b) 68)
    case atStart => exact ⟨0, by omega, rfl, hbl, hm, he, hf, hgk⟩
    case round =>
      obtain ⟨r, hr, rfl, hbl', hm', he', hf', hg'⟩ := hrel
      have i0 := hm'.cell 0
      simp [machCells] at i0
      have fe := he'.frozen (r * 2)
      by_cases hlt : r < c
      · obtain ⟨v, hv⟩ : ∃ v, (envCells r c)[r * 2]? = some (.bool v) := ⟨decide ((r * 2) % 2 = 0 ∧ r * 2 < 2 * r), by rw [envCells, List.getElem?_map, List.getElem?_range (by omega)]; rfl⟩
        have ie := (he'.cell (r * 2)).trans hv
        clear hv
        go_wp2
        go_roundg (gk - 1)
        case measure => omega
        case rel => exact ⟨r + 1, by omega, by go_num, hbl'.setCell (by simpa using g2) _, hm'.other _ (by simpa using n1), by rw [← envCells_set r c hlt]; exact he'.set _ _, hf'.other _ (by simpa using Ne.symm n4), hg'.other _ (by simpa using Ne.symm n5)⟩
      · go_wp2
        go_ret2
        obtain rfl : r = c := by omega
        exact ⟨m, rfl, hbl', e, f, g, hm', he', hf', hg', n1, n2, n3, n4, n5, n6, g1, g2, g3, g4⟩
end Go.Proofs.YtnolplmpanbmhaaGreat

/-
  The program's machine keeps the contracts of Api.
-/
namespace Go.Proofs.YtnolplmpanbmhaaGreat
open Go.RowKit
set_option linter.unusedVariables false

def MRep : MT := fun own id w p s => ∃ vE vF vL vT, PRep own id w p (toP s) vE vF vL vT

theorem live_le (rs : List RR) : (live rs).length ≤ rs.length := by
  rw [live_len]
  unfold cnt cntTo
  have := List.length_filter_le (fun i : Nat => lv rs i) (List.range rs.length)
  simpa using this

section
variable {own own' : Nat → Nat × Nat} {id : Nat} {w w' : World} {p : Nat} {s s' : RSt} {ps : PSt} {vE vF vL vT : Value}

theorem SOk.pwf (h : SOk s) (hf : Few s) : PWf (toP s) := by
  have h1 := live_le s.rights
  unfold Few at hf
  have hb := h.fix.by_
  have hn := h.fix.nf
  have hal := h.fix.al
  have hne := h.fix.ne
  refine ⟨?_, ?_, h.fix.sl, h.uni, ?_, h.bys, ?_, ?_, ?_⟩
  · show s.alive.length ≤ 4; omega
  · show s.bytes.length ≤ 16; omega
  · intro i e he hu
    have := h.sfr i e he hu
    show 0 ≤ e.fr ∧ e.fr < s.bytes.length
    rw [hb]; exact this
  · show (0 : Int) ≤ s.rights.length; omega
  · show (s.rights.length : Int) ≤ _; omega
  · show ((live s.rights).length + 1) * 48 ≤ _; omega

theorem PRep.retag (h : PRep own id w p ps vE vF vL vT) (ho : ∀ b, b < w.heap.size → (own b).1 = id → own' b = own b) : PRep own' id w p ps vE vF vL vT := by
  have ht : ∀ {v : Value} {e k n : Nat} {xs : List Value} {j : Nat}, Row w v e k n xs → Tg own v (id, j) → Tg own' v (id, j) := fun hr ht b hb => (ho b (hr.lt b hb) (by rw [ht b hb])).trans (ht b hb)
  have hp := ho p h.st.blk.lt (by rw [h.tm])
  exact ⟨⟨h.st.blk, h.st.c0, h.st.c1, h.st.row, ht h.st.row h.st.tag, by rw [hp]; exact h.st.ne⟩, ⟨h.tb.blk, h.tb.c0, h.tb.row, ht h.tb.row h.tb.tag, by rw [hp]; exact h.tb.ne⟩, h.rE, h.rF, hp.trans h.tm, ht h.rE h.tE, ht h.rF h.tF⟩

theorem PNext.m (h : PNext own id w p w' ps) (hs : Sim s' ps) : MNext MRep own id w p w' s' := by
  obtain ⟨own', a, b, c, d, h1, h2, h3⟩ := h
  rw [hs.eq] at h1
  exact ⟨own', ⟨a, b, c, d, h1⟩, h2, h3⟩

theorem m_of (h : MRep own id w p s) (ho : ∀ b, b < w.heap.size → own' b = own b) (hb : ∀ b, b < w.heap.size → (own b).1 = id → w'.heap[b]? = w.heap[b]?) : MRep own' id w' p s := by
  obtain ⟨a, b, c, d, h⟩ := h
  exact ⟨a, b, c, d, h.of ho hb⟩
theorem m_retag (h : MRep own id w p s) (ho : ∀ b, b < w.heap.size → (own b).1 = id → own' b = own b) : MRep own' id w p s := by
  obtain ⟨a, b, c, d, h⟩ := h
  exact ⟨a, b, c, d, h.retag ho⟩

theorem m_alloc (h : MRep own id w p s) (hk : SOk s) (hf : Few s) (env : Int) (_ : I64 env) :
    Calls Tryz.prog 22 #[.pointer (some ⟨p, 0, none⟩), .int .i64 env] w fun e w' => e = .returned (.tuple #[.int .i64 (allocR s env).1.1, .int .i64 (allocR s env).1.2]) ∧ MNext MRep own id w p w' (allocR s env).2 := by
  obtain ⟨a, b, c, d, h⟩ := h
  obtain ⟨h1, h2⟩ := hk.sim.alloc env
  refine (palloc_any h (hk.pwf hf) env).mono ?_
  rintro e w' ⟨rfl, hn⟩
  exact ⟨by rw [h1], hn.m h2⟩
theorem m_derive (h : MRep own id w p s) (hk : SOk s) (hf : Few s) (env hd te : Int) (wt : Bool) (_ : I64 env) (_ : I64 hd) (_ : I64 te) :
    Calls Tryz.prog 24 #[.pointer (some ⟨p, 0, none⟩), .int .i64 env, .int .i64 hd, .int .i64 te, .bool wt] w fun e w' => e = .returned (.tuple #[.int .i64 (deriveR s env hd te wt).1.1, .int .i64 (deriveR s env hd te wt).1.2]) ∧ MNext MRep own id w p w' (deriveR s env hd te wt).2 := by
  obtain ⟨a, b, c, d, h⟩ := h
  obtain ⟨h1, h2⟩ := hk.sim.derive env hd te wt
  refine (pderive_any h (hk.pwf hf) env hd te wt).mono ?_
  rintro e w' ⟨rfl, hn⟩
  exact ⟨by rw [h1], hn.m h2⟩
theorem m_revoke (h : MRep own id w p s) (hk : SOk s) (hf : Few s) (env hd : Int) (_ : I64 env) (_ : I64 hd) :
    Calls Tryz.prog 26 #[.pointer (some ⟨p, 0, none⟩), .int .i64 env, .int .i64 hd] w fun e w' => e = .returned (.int .i64 (revokeR s env hd).1) ∧ MNext MRep own id w p w' (revokeR s env hd).2 := by
  obtain ⟨a, b, c, d, h⟩ := h
  obtain ⟨h1, h2⟩ := hk.sim.revoke env hd
  refine (prevoke_any h (hk.pwf hf) env hd).mono ?_
  rintro e w' ⟨rfl, hn⟩
  exact ⟨by rw [h1], hn.m h2⟩
theorem m_drop (h : MRep own id w p s) (hk : SOk s) (hf : Few s) (env hd : Int) (_ : I64 env) (_ : I64 hd) :
    Calls Tryz.prog 28 #[.pointer (some ⟨p, 0, none⟩), .int .i64 env, .int .i64 hd] w fun e w' => e = .returned (.int .i64 (dropR s env hd).1) ∧ MNext MRep own id w p w' (dropR s env hd).2 := by
  obtain ⟨a, b, c, d, h⟩ := h
  obtain ⟨h1, h2⟩ := hk.sim.drop env hd
  refine (pdrop_any h (hk.pwf hf) env hd).mono ?_
  rintro e w' ⟨rfl, hn⟩
  exact ⟨by rw [h1], hn.m h2⟩
theorem m_kill (h : MRep own id w p s) (hk : SOk s) (hf : Few s) (env : Int) (_ : I64 env) :
    Calls Tryz.prog 30 #[.pointer (some ⟨p, 0, none⟩), .int .i64 env] w fun e w' => e = .returned (.int .i64 (killR s env).1) ∧ MNext MRep own id w p w' (killR s env).2 := by
  obtain ⟨a, b, c, d, h⟩ := h
  obtain ⟨h1, h2⟩ := hk.sim.kill env
  refine (pkill_any h (hk.pwf hf) env).mono ?_
  rintro e w' ⟨rfl, hn⟩
  exact ⟨by rw [h1], hn.m h2⟩
theorem m_spawn (h : MRep own id w p s) (hk : SOk s) (hf : Few s) (env : Int) (_ : I64 env) :
    Calls Tryz.prog 32 #[.pointer (some ⟨p, 0, none⟩), .int .i64 env] w fun e w' => e = .returned (.int .i64 (spawnR s env).1) ∧ MNext MRep own id w p w' (spawnR s env).2 := by
  obtain ⟨a, b, c, d, h⟩ := h
  obtain ⟨h1, h2⟩ := hk.sim.spawn env
  refine (pspawn_any h (hk.pwf hf) env).mono ?_
  rintro e w' ⟨rfl, hn⟩
  exact ⟨by rw [h1], hn.m h2⟩
theorem rc_map (l : List RR) : (l.map toPH).flatMap PH.rc = l.flatMap rcells := by
  induction l with
  | nil => rfl
  | cons x l ih => simp only [List.map_cons, List.flatMap_cons, ih]; rfl
theorem m_rights (h : MRep own id w p s) (hk : SOk s) (hf : Few s) (env : Int) (_ : I64 env) :
    Calls Tryz.prog 34 #[.pointer (some ⟨p, 0, none⟩), .int .i64 env] w fun e w' => ∃ v, e = .returned (.tuple #[v, .int .i64 (rawE s env)]) ∧ Below w.heap.size w w' ∧ (∀ x, v.ownBlock = some x → w.heap.size ≤ x) ∧
      Row w' v 107 4 (toldR s env).length ((toldR s env).flatMap rcells) := by
  obtain ⟨a, b, c, d, h⟩ := h
  have hal := hk.sim.alive env
  have hl := hk.sim.list env
  refine (prights_any h (hk.pwf hf) env).mono ?_
  rintro e w' ⟨v, hb, hn, h1 | h1⟩
  · obtain ⟨h2, rfl, rfl⟩ := h1
    rw [h2] at hal
    refine ⟨_, by simp [rawE, hal], hb, hn, ?_⟩
    simp only [toldR, hal, Bool.false_eq_true, if_false]
    exact Row.nil _ _ _
  · obtain ⟨h2, h3, rfl⟩ := h1
    rw [h2] at hal
    refine ⟨v, by simp [rawE, hal], hb, hn, ?_⟩
    simp only [toldR, hal, if_true]
    rw [hl, List.length_map, rc_map] at h3
    exact h3
theorem m_map (h : MRep own id w p s) (hk : SOk s) (hf : Few s) (env page hd : Int) (wt : Bool) (slot : Int) (_ : I64 env) (_ : I64 page) (_ : I64 hd) (_ : I64 slot) :
    Calls Tryz.prog 38 #[.pointer (some ⟨p, 0, none⟩), .int .i64 env, .int .i64 page, .int .i64 hd, .bool wt, .int .i64 slot] w fun e w' => e = .returned (.int .i64 (mapR s env page hd wt slot).1) ∧ MNext MRep own id w p w' (mapR s env page hd wt slot).2 := by
  obtain ⟨a, b, c, d, h⟩ := h
  obtain ⟨h1, h2⟩ := hk.sim.map hk env page hd wt slot
  refine (pmap_any h (hk.pwf hf) env page hd wt slot).mono ?_
  rintro e w' ⟨rfl, hn⟩
  exact ⟨by rw [h1], hn.m h2⟩
theorem m_unmap (h : MRep own id w p s) (hk : SOk s) (hf : Few s) (env page : Int) (_ : I64 env) (_ : I64 page) :
    Calls Tryz.prog 40 #[.pointer (some ⟨p, 0, none⟩), .int .i64 env, .int .i64 page] w fun e w' => e = .returned (.int .i64 (unmapR s env page).1) ∧ MNext MRep own id w p w' (unmapR s env page).2 := by
  obtain ⟨a, b, c, d, h⟩ := h
  obtain ⟨h1, h2⟩ := hk.sim.unmap hk env page
  refine (punmap_any h (hk.pwf hf) env page).mono ?_
  rintro e w' ⟨rfl, hn⟩
  exact ⟨by rw [h1], hn.m h2⟩
theorem m_load (h : MRep own id w p s) (hk : SOk s) (hf : Few s) (env page at_ : Int) (_ : I64 env) (_ : I64 page) (_ : I64 at_) :
    Calls Tryz.prog 42 #[.pointer (some ⟨p, 0, none⟩), .int .i64 env, .int .i64 page, .int .i64 at_] w fun e w' => e = .returned (.tuple #[.int .i64 (loadR s env page at_).1, .int .i64 (loadR s env page at_).2]) ∧ MNext MRep own id w p w' s := by
  obtain ⟨a, b, c, d, h⟩ := h
  have h1 := hk.sim.load env page at_
  refine (pload_any h (hk.pwf hf) env page at_).mono ?_
  rintro e w' ⟨rfl, hb⟩
  exact ⟨by rw [h1], (PNext.of_below h hb).m hk.sim⟩
theorem m_store (h : MRep own id w p s) (hk : SOk s) (hf : Few s) (env page at_ v : Int) (_ : I64 env) (_ : I64 page) (_ : I64 at_) (_ : I64 v) :
    Calls Tryz.prog 44 #[.pointer (some ⟨p, 0, none⟩), .int .i64 env, .int .i64 page, .int .i64 at_, .int .i64 v] w fun e w' => e = .returned (.int .i64 (storeR s env page at_ v).1) ∧ MNext MRep own id w p w' (storeR s env page at_ v).2 := by
  obtain ⟨a, b, c, d, h⟩ := h
  obtain ⟨h1, h2⟩ := hk.sim.store env page at_ v
  refine (pstore_any h (hk.pwf hf) env page at_ v).mono ?_
  rintro e w' ⟨rfl, hn⟩
  exact ⟨by rw [h1], hn.m h2⟩
theorem m_table (h : MRep own id w p s) (hk : SOk s) (hf : Few s) :
    Calls Tryz.prog 46 #[.pointer (some ⟨p, 0, none⟩)] w fun e w' => ∃ v, e = .returned v ∧ Below w.heap.size w w' ∧ (∀ x, v.ownBlock = some x → w.heap.size ≤ x) ∧ Row w' v 68 5 s.slots.length (s.slots.flatMap Ent.cells) := by
  obtain ⟨a, b, c, d, h⟩ := h
  exact ptable_any h (hk.pwf hf)
end

theorem row_at {w : World} {g e k n : Nat} {xs : List Value} (hb : Blk w g xs e) (hl : xs.length = n * k) (hn : n ≤ maxLen) : Row w (.slice (some ⟨g, 0, none⟩) n n) e k n xs :=
  ⟨hl, .inr ⟨g, n, xs.toArray, rfl, Nat.zero_le _, hb, Nat.le_refl _, hn, by simpa using hl, by simp [← hl]⟩⟩
theorem env_flat (c : Nat) : envCells c c = (List.replicate c true).flatMap ecells := by
  apply List.ext_getElem?
  intro i
  rw [flat_at ecells 2 (by omega) (fun _ => rfl), envCells, List.getElem?_map]
  by_cases hi : i < c * 2
  · rw [List.getElem?_range hi, List.getElem?_replicate, if_pos (by omega)]
    have : i % 2 = 0 ∨ i % 2 = 1 := by omega
    rcases this with h | h
    · simp [h, ecells]; omega
    · simp [h, ecells]
  · rw [List.getElem?_replicate, if_neg (by omega), List.getElem?_eq_none (by simp; omega)]
    rfl
theorem frame_flat (a : Nat) : frameCells a = (List.replicate a [0, 0, 0, 0]).flatMap fcells := by
  apply List.ext_getElem?
  intro i
  rw [flat_at fcells 4 (by omega) (fun _ => rfl), frameCells, List.getElem?_replicate, List.getElem?_replicate]
  by_cases hi : i < a * 4
  · rw [if_pos hi, if_pos (by omega)]
    have : i % 4 = 0 ∨ i % 4 = 1 ∨ i % 4 = 2 ∨ i % 4 = 3 := by omega
    rcases this with h | h | h | h <;> simp [h, fcells]
  · rw [if_neg hi, if_neg (by omega)]
    rfl
theorem fresh_m {own : Nat → Nat × Nat} {id : Nat} {w' : World} {m e f g a b c : Nat} (ha : a ≤ 16) (hb : b ≤ 8) (hc : c ≤ 4) (h0 : Blk w' m (machCells e f g c a b) 57) (h1 : Blk w' e (envCells c c) 59) (h2 : Blk w' f (frameCells a) 103)
    (h3 : Blk w' g (emptyCells b) 68) (t0 : own m = (id, 0)) (t1 : own e = (id, 1)) (t2 : own f = (id, 2)) (t4 : own g = (id, 4)) : MRep own id w' m (RSt.fresh a b c) := by
  rw [env_flat] at h1
  rw [frame_flat] at h2
  have hmx : ∀ n : Nat, n ≤ 16 → n ≤ maxLen := fun n hn => by unfold maxLen; omega
  refine ⟨.slice (some ⟨e, 0, none⟩) c c, .slice (some ⟨f, 0, none⟩) a a, .slice none 0 0, .slice (some ⟨g, 0, none⟩) b b, ?_⟩
  refine ⟨⟨h0, rfl, rfl, Row.nil _ _ _, Tg.nil _ _, by rw [t0]; simp⟩, ⟨h0, rfl, ?_, Tg.mk t4, by rw [t0]; simp⟩, ?_, ?_, t0, Tg.mk t1, Tg.mk t2⟩
  · have := row_at (k := 5) (n := b) h3 (by rw [emptyCells, flat_length Ent.cells 5 (fun _ => rfl), List.length_replicate]) (hmx b (by omega))
    simpa [toP, RSt.fresh, emptyCells] using this
  · have := row_at (k := 2) (n := c) h1 (by rw [flat_length ecells 2 (fun _ => rfl), List.length_replicate]) (hmx c (by omega))
    simpa [toP, RSt.fresh] using this
  · have := row_at (k := 4) (n := a) h2 (by rw [flat_length fcells 4 (fun _ => rfl), List.length_replicate]) (hmx a (by omega))
    simpa [toP, RSt.fresh] using this

theorem m_new (a b c : Nat) (w : World) (h : mayB a b c = true) :
    Calls Tryz.prog 13 #[.agg #[.int .i64 a, .int .i64 b, .int .i64 c]] w fun e w' => ∃ (p : Nat) (f : Nat → Option Nat), e = .returned (.tuple #[.pointer (some ⟨p, 0, none⟩), .int .i64 0]) ∧ Below w.heap.size w w' ∧
      (∀ b j, f b = some j → w.heap.size ≤ b ∧ b < w'.heap.size) ∧ ∀ (own : Nat → Nat × Nat) (id : Nat), (∀ b j, f b = some j → own b = (id, j)) → MRep own id w' p (RSt.fresh a b c) := by
  have hm := h
  simp [mayB] at hm
  refine (new_yes a b c w h (by omega) (by omega) (by omega) (by omega)).mono ?_
  rintro e w' ⟨m, rfl, hb, ee, f, g, h0, h1, h2, h3, n1, n2, n3, n4, n5, n6, g1, g2, g3, g4⟩
  refine ⟨m, fun x => if x = m then some 0 else if x = ee then some 1 else if x = f then some 2 else if x = g then some 4 else none, rfl, hb, ?_, ?_⟩
  · intro x j hx
    simp only at hx
    split at hx
    · rename_i e; subst e; exact ⟨g1, h0.lt⟩
    · split at hx
      · rename_i e; subst e; exact ⟨g2, h1.lt⟩
      · split at hx
        · rename_i e; subst e; exact ⟨g3, h2.lt⟩
        · split at hx
          · rename_i e; subst e; exact ⟨g4, h3.lt⟩
          · simp at hx
  · intro own id ho
    refine fresh_m (by omega) (by omega) (by omega) h0 h1 h2 h3 (ho m 0 (if_pos rfl)) (ho ee 1 ?_) (ho f 2 ?_) (ho g 4 ?_)
    · simp only; rw [if_neg (Ne.symm n1), if_pos trivial]
    · simp only; rw [if_neg (Ne.symm n2), if_neg (Ne.symm n4), if_pos trivial]
    · simp only; rw [if_neg (Ne.symm n3), if_neg (Ne.symm n5), if_neg (Ne.symm n6), if_pos trivial]

theorem api : Api MRep where
  of := m_of
  retag := m_retag
  new_no := new_no
  new_yes := m_new
  alloc := m_alloc
  derive := m_derive
  revoke := m_revoke
  drop := m_drop
  kill := m_kill
  spawn := m_spawn
  rights := m_rights
  map := m_map
  unmap := m_unmap
  load := m_load
  store := m_store
  table := m_table
end Go.Proofs.YtnolplmpanbmhaaGreat
