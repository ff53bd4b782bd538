import Derived.BigRegion
import Derived.Deep.RegionLaw
import Derived.Test.YtnolplmpanbmhabM06
/-
  What the statement's own list of rights needs: of the rights that are alive, whose frame is whose.
-/
namespace Go.Proofs.Ytnolplmpanbmhab
set_option linter.unusedVariables false

structure HInv (s : RSt) : Prop where
  one : ∀ (i j : Nat) (ri rj : RR), s.rights[i]? = some ri → s.rights[j]? = some rj → lv s.rights i = true → lv s.rights j = true → ri.frm < 0 → rj.frm < 0 → ri.fr = rj.fr → i = j
  same : ∀ (i : Nat) (r : RR), s.rights[i]? = some r → 0 ≤ r.frm → ∃ r', s.rights[r.frm.toNat]? = some r' ∧ r'.fr = r.fr
  alv : ∀ (i : Nat) (r : RR), s.rights[i]? = some r → lv s.rights i = true → aliveB s r.env = true

theorem hinv_fresh (a b c : Nat) : HInv (RSt.fresh a b c) := ⟨fun i j ri rj h => by simp [RSt.fresh] at h, fun i r h => by simp [RSt.fresh] at h, fun i r h => by simp [RSt.fresh] at h⟩

theorem getApp {α : Type} {l : List α} {x r : α} {i : Nat} (h : (l ++ [x])[i]? = some r) : l[i]? = some r ∨ (i = l.length ∧ r = x) := by
  rcases Nat.lt_or_ge i l.length with hl | hl
  · rw [List.getElem?_append_left hl] at h; exact .inl h
  · rw [List.getElem?_append_right hl] at h
    have hz : i - l.length = 0 := by have := (List.getElem?_eq_some_iff.1 h).1; simp at this; omega
    rw [hz] at h
    simp at h
    exact .inr ⟨by omega, h.symm⟩

/-- Which rights are alive comes of the rights alone; who is alive of the environments. -/
theorem HInv.add {s s' : RSt} (h : HInv s) (hI : RInv s) {x : RR} (hr : s'.rights = s.rights ++ [x]) (ha : s'.alive = s.alive) (hn : s'.ne = s.ne) (hx : aliveB s x.env = true) (h1 : -1 ≤ x.frm) (h2 : x.frm < s.rights.length)
    (hf : x.frm < 0 → ∀ (i : Nat) (r : RR), s.rights[i]? = some r → lv s.rights i = true → r.fr ≠ x.fr) (hp : 0 ≤ x.frm → ∃ r', s.rights[x.frm.toNat]? = some r' ∧ r'.fr = x.fr) : HInv s' := by
  have hal : ∀ e, aliveB s' e = aliveB s e := fun e => by unfold aliveB; rw [ha, hn]
  have hlv : ∀ (i : Nat) (r : RR), s.rights[i]? = some r → lv s'.rights i = lv s.rights i := fun i r hr' => by
    have := (List.getElem?_eq_some_iff.1 hr').1
    rw [hr]; exact lv_append hI.ord x (by omega)
  refine ⟨fun i j ri rj hi hj li lj fi fj e => ?_, fun i r hi h0 => ?_, fun i r hi li => ?_⟩
  · rw [hr] at hi hj
    rcases getApp hi with ai | ⟨ei, ri'⟩ <;> rcases getApp hj with aj | ⟨ej, rj'⟩
    · rw [hlv i ri ai] at li; rw [hlv j rj aj] at lj; exact h.one i j ri rj ai aj li lj fi fj e
    · rw [hlv i ri ai] at li; rw [rj'] at fj e; exact absurd e (hf fj i ri ai li)
    · rw [hlv j rj aj] at lj; rw [ri'] at fi e; exact absurd e.symm (hf fi j rj aj lj)
    · omega
  · rw [hr] at hi ⊢
    have aux : ∀ {k : Nat} {q : RR}, s.rights[k]? = some q → (s.rights ++ [x])[k]? = some q := fun {k q} hk => by
      rw [List.getElem?_append_left (List.getElem?_eq_some_iff.1 hk).1]; exact hk
    rcases getApp hi with hi | ⟨ei, rfl⟩
    · obtain ⟨r', h1, h2⟩ := h.same i r hi h0; exact ⟨r', aux h1, h2⟩
    · obtain ⟨r', h1, h2⟩ := hp h0; exact ⟨r', aux h1, h2⟩
  · rw [hal]
    rw [hr] at hi
    rcases getApp hi with hi | ⟨ei, rfl⟩
    · rw [hlv i r hi] at li; exact h.alv i r hi li
    · exact hx

theorem HInv.mark {s s' : RSt} (h : HInv s) (hI : RInv s) (P : Nat → Bool) (hr : s'.rights = markAt P s.rights) (ha : ∀ (i : Nat) (r : RR), s.rights[i]? = some r → lv (markAt P s.rights) i = true → aliveB s r.env = true → aliveB s' r.env = true) : HInv s' := by
  have hget : ∀ (i : Nat) (r : RR), s'.rights[i]? = some r → ∃ x, s.rights[i]? = some x ∧ r.frm = x.frm ∧ r.env = x.env ∧ r.fr = x.fr := by
    intro i r hi
    rw [hr, markAt_get] at hi
    cases hx : s.rights[i]? with
    | none => rw [hx] at hi; simp at hi
    | some x =>
      rw [hx] at hi
      simp at hi
      refine ⟨x, rfl, ?_⟩
      subst hi
      split <;> exact ⟨rfl, rfl, rfl⟩
  have hle : ∀ (i : Nat) (r : RR), s.rights[i]? = some r → lv s'.rights i = true → lv s.rights i = true := fun i r hi hl => by
    have := (List.getElem?_eq_some_iff.1 hi).1
    rw [hr] at hl
    exact lv_mark_le hI.ord P (i + 1) i (by omega) (by omega) hl
  refine ⟨fun i j ri rj hi hj li lj fi fj e => ?_, fun i r hi h0 => ?_, fun i r hi li => ?_⟩
  · obtain ⟨x, a1, a2, a3, a4⟩ := hget i ri hi
    obtain ⟨y, b1, b2, b3, b4⟩ := hget j rj hj
    exact h.one i j x y a1 b1 (hle i x a1 li) (hle j y b1 lj) (by omega) (by omega) (by omega)
  · obtain ⟨x, a1, a2, a3, a4⟩ := hget i r hi
    obtain ⟨r', b1, b2⟩ := h.same i x a1 (by omega)
    rw [a2, hr, markAt_get, b1]
    refine ⟨_, rfl, ?_⟩
    rw [a4, ← b2]
    split <;> rfl
  · obtain ⟨x, a1, a2, a3, a4⟩ := hget i r hi
    rw [a3]
    have hl := li
    rw [hr] at li
    exact ha i x a1 li (h.alv i x a1 (hle i x a1 hl))

section
variable {rs : RSt}

theorem freeB_no {s : RSt} (hI : RInv s) {f : Nat} (h : freeB s f = true) : ∀ (i : Nat) (r : RR), s.rights[i]? = some r → lv s.rights i = true → r.fr ≠ f := fun i r hr hl e => by
  have he := hI.env i r hr
  simp [freeB] at h
  have := h r.env.toNat (by omega)
  rw [Int.toNat_of_nonneg he.1] at this
  have h2 := owned_iff.2 ⟨i, r, hr, hl, rfl, e⟩
  rw [h2] at this
  simp at this

theorem HInv.alloc (h : HInv rs) (hI : RInv rs) (env : Int) : HInv (allocR rs env).2 := by
  unfold allocR
  rcases rawE_cases rs env with ⟨h2, ha⟩ | ⟨h0, ha⟩
  · rw [h2]; simpa using h
  · rw [h0]
    simp only [ne_eq, not_true_eq_false, if_false]
    unfold firstS
    cases hl : leastFree rs with
    | none => exact h
    | some f =>
      simp only
      by_cases hc : cnt rs.rights < 32
      · rw [if_pos hc]
        have hfree : freeB rs f = true := List.find?_some hl
        exact h.add hI (x := ⟨rs.rights.length + 1, env, f, true, -1, false⟩) rfl rfl rfl ha (by simp) (by simp; omega) (fun _ => freeB_no hI hfree) (fun h => by simp at h)
      · rw [if_neg hc]; exact h

theorem HInv.derive (h : HInv rs) (hI : RInv rs) (env hd te : Int) (wt : Bool) : HInv (deriveR rs env hd te wt).2 := by
  rcases rightE_cases rs env hd with ⟨x, h1, h3⟩ | ⟨j, r, h1, hrr, hd1, he, hl, hal⟩
  · have : x ≠ 0 := by omega
    unfold deriveR
    rw [h1]
    simpa [this] using h
  · have hj := (List.getElem?_eq_some_iff.1 hrr).1
    unfold deriveR
    rw [h1]
    simp only [ne_eq, not_true_eq_false, if_false, Int.toNat_natCast, hrr]
    rcases rawE_cases rs te with ⟨ht, _⟩ | ⟨ht, hat⟩
    · rw [ht]; simpa using h
    · rw [ht]
      simp only [not_true_eq_false, if_false]
      cases (wt && !r.wr) with
      | true => exact h
      | false =>
        simp only [Bool.false_eq_true, if_false]
        by_cases hc : 32 ≤ cnt rs.rights
        · rw [if_pos hc]; exact h
        · rw [if_neg hc]
          exact h.add hI (x := ⟨rs.rights.length + 1, te, r.fr, wt, j, false⟩) rfl rfl rfl hat (by show (-1 : Int) ≤ (j : Int); omega) (by show (j : Int) < _; omega) (fun h => absurd h (by show ¬ (j : Int) < 0; omega)) (fun _ => ⟨r, by simpa using hrr, rfl⟩)

theorem HInv.revoke (h : HInv rs) (hI : RInv rs) (env hd : Int) : HInv (revokeR rs env hd).2 := by
  unfold revokeR
  split
  · exact h
  · exact h.mark hI _ (by simp only [sweepS, endIf]; exact mark_map _ _) (fun _ _ _ _ h => h)
theorem HInv.drop (h : HInv rs) (hI : RInv rs) (env hd : Int) : HInv (dropR rs env hd).2 := by
  unfold dropR
  split
  · exact h
  · split
    · exact h
    · rename_i r hr
      exact h.mark hI _ (by simp only [sweepS]; exact mark_set _ _ _ hr) (fun _ _ _ _ h => h)
theorem HInv.kill (h : HInv rs) (hI : RInv rs) (env : Int) : HInv (killR rs env).2 := by
  unfold killR
  split
  · rename_i hal
    have hrg := aliveB_range hal
    refine h.mark hI _ (by simp only [sweepS, endIf]; exact mark_map _ _) (fun i r hr hl ha => ?_)
    have hne : r.env ≠ env := fun e => by
      rw [lv_mark hI.ord _ hr] at hl
      simp [hr, e] at hl
    have hg := hI.env i r hr
    simp only [aliveB, sweepS, endIf] at ha ⊢
    rw [List.getElem?_set_ne (by omega)]
    exact ha
  · exact h
theorem HInv.spawn (h : HInv rs) (env : Int) : HInv (spawnR rs env).2 := by
  unfold spawnR
  split
  · exact h
  · split
    · exact h
    · rename_i h1 h2
      refine ⟨h.one, h.same, fun i r hi hl => ?_⟩
      have ha := h.alv i r hi hl
      have hne : r.env.toNat ≠ env.toNat := fun e => by
        have := aliveB_range ha
        have e' : r.env = env := by omega
        rw [e'] at ha; exact h2 ha
      simp only [aliveB] at ha ⊢
      rw [List.getElem?_set_ne (fun e => hne e.symm)]
      exact ha

/-! ### How many first rights are alive -/
def firstB (rs : List RR) (i : Nat) : Bool := lv rs i && (rs[i]?.map fun r => decide (r.frm < 0)).getD false
def fstL (rs : List RR) (q : Nat) : List Nat := (List.range q).filter (firstB rs)
def fstTo (rs : List RR) (q : Nat) : Nat := (fstL rs q).length
theorem fstTo_succ {rs : List RR} {q : Nat} {r : RR} (hr : rs[q]? = some r) : fstTo rs (q + 1) = fstTo rs q + if lv rs q && decide (r.frm < 0) then 1 else 0 := by
  unfold fstTo fstL
  rw [List.range_succ, List.filter_append, List.length_append]
  congr 1
  simp only [List.filter_cons, List.filter_nil, firstB, hr, Option.map_some, Option.getD_some]
  split <;> rfl

theorem pigeon : ∀ (l m : List Nat), l.Nodup → (∀ x, x ∈ l → x ∈ m) → l.length ≤ m.length := by
  intro l
  induction l with
  | nil => intro m _ _; simp
  | cons x xs ih =>
    intro m hn hs
    have hx : x ∈ m := hs x (by simp)
    rw [List.nodup_cons] at hn
    have := ih (m.erase x) hn.2 (fun y hy => by
      have hne : y ≠ x := fun e => hn.1 (e ▸ hy)
      exact (List.mem_erase_of_ne hne).2 (hs y (by simp [hy])))
    rw [List.length_erase_of_mem hx] at this
    have hpos := List.length_pos_of_mem hx
    simp
    omega

theorem root {s : RSt} (h : HInv s) (hI : RInv s) : ∀ (n i : Nat) (r : RR), i < n → s.rights[i]? = some r → lv s.rights i = true → ∃ (j : Nat) (q : RR), s.rights[j]? = some q ∧ lv s.rights j = true ∧ q.frm < 0 ∧ q.fr = r.fr := by
  intro n
  induction n with
  | zero => intro i r hi; omega
  | succ n ih =>
    intro i r hi hr hl
    by_cases h0 : r.frm < 0
    · exact ⟨i, r, hr, hl, h0, rfl⟩
    · obtain ⟨q, hq, hf⟩ := h.same i r hr (by omega)
      have ho := hI.ord i r hr
      rw [lv_step hI.ord hr] at hl
      simp at hl
      obtain ⟨j, x, a1, a2, a3, a4⟩ := ih r.frm.toNat q (by omega) hq (by rw [Int.toNat_of_nonneg (by omega)]; exact hl.2)
      exact ⟨j, x, a1, a2, a3, by rw [a4, hf]⟩

theorem mem_fst {s : RSt} {i : Nat} : i ∈ fstL s.rights s.rights.length ↔ ∃ r, s.rights[i]? = some r ∧ lv s.rights i = true ∧ r.frm < 0 := by
  unfold fstL firstB
  rw [List.mem_filter, List.mem_range]
  constructor
  · rintro ⟨h1, h2⟩
    refine ⟨s.rights[i], by simp, ?_⟩
    simpa [h1] using h2
  · rintro ⟨r, hr, hl, hf⟩
    exact ⟨(List.getElem?_eq_some_iff.1 hr).1, by simp [hr, hl, hf]⟩

/-- There is a frame that is free just if fewer first rights are alive than there are frames. -/
theorem least_none {s : RSt} (h : HInv s) (hI : RInv s) : leastFree s = none ↔ s.nf ≤ fstTo s.rights s.rights.length := by
  classical
  obtain ⟨fr, hfr⟩ : ∃ fr : Nat → Nat, ∀ (i : Nat) (r : RR), s.rights[i]? = some r → fr i = r.fr.toNat := ⟨fun i => (s.rights[i]?.map fun r => r.fr.toNat).getD 0, fun i r hr => by simp [hr]⟩
  have hmem : ∀ f, (∃ i, i ∈ fstL s.rights s.rights.length ∧ fr i = f) → f < s.nf ∧ freeB s f = false := by
    rintro f ⟨i, hi, rfl⟩
    obtain ⟨r, hr, hl, hf⟩ := mem_fst.1 hi
    have hb := hI.fr i r hr
    rw [hfr i r hr]
    refine ⟨by omega, ?_⟩
    cases hx : freeB s r.fr.toNat with
    | false => rfl
    | true => exact absurd (by omega) (freeB_no hI hx i r hr hl)
  have hnd : ((fstL s.rights s.rights.length).map fr).Nodup := by
    rw [List.nodup_iff_pairwise_ne, List.pairwise_map]
    have hp : (fstL s.rights s.rights.length).Nodup := (List.nodup_range).filter _
    refine List.Pairwise.imp_of_mem ?_ hp
    intro a b ha hb hne e
    obtain ⟨r, hr, hl, hf⟩ := mem_fst.1 ha
    obtain ⟨q, hq, ql, qf⟩ := mem_fst.1 hb
    rw [hfr a r hr, hfr b q hq] at e
    have h1 := hI.fr a r hr
    have h2 := hI.fr b q hq
    exact hne (h.one a b r q hr hq hl ql hf qf (by omega))
  constructor
  · intro hn
    have hall : ∀ f, f < s.nf → freeB s f = false := fun f hf => by
      have := List.find?_eq_none.1 hn f (List.mem_range.2 hf)
      simpa using this
    have := pigeon (List.range s.nf) ((fstL s.rights s.rights.length).map fr) List.nodup_range (fun f hf => by
      have hff := hall f (List.mem_range.1 hf)
      simp only [freeB, Bool.not_eq_false'] at hff
      rw [List.any_eq_true] at hff
      obtain ⟨e, _, ho⟩ := hff
      obtain ⟨i, r, hr, hl, _, hrf⟩ := owned_iff.1 ho
      obtain ⟨j, q, a1, a2, a3, a4⟩ := root h hI (i + 1) i r (by omega) hr hl
      exact List.mem_map.2 ⟨j, mem_fst.2 ⟨q, a1, a2, a3⟩, by rw [hfr j q a1, a4, hrf]; simp⟩)
    simpa [fstTo] using this
  · intro hle
    cases hl : leastFree s with
    | none => rfl
    | some f =>
      exfalso
      have hfree : freeB s f = true := List.find?_some hl
      have hflt := leastFree_lt hl
      have := pigeon (f :: (fstL s.rights s.rights.length).map fr) (List.range s.nf) (by
        rw [List.nodup_cons]
        refine ⟨fun hm => ?_, hnd⟩
        obtain ⟨i, hi, e⟩ := List.mem_map.1 hm
        have := (hmem f ⟨i, hi, e⟩).2
        rw [hfree] at this; simp at this) (fun x hx => by
        rcases List.mem_cons.1 hx with rfl | hx
        · exact List.mem_range.2 hflt
        · obtain ⟨i, hi, e⟩ := List.mem_map.1 hx
          exact List.mem_range.2 (hmem x ⟨i, hi, e⟩).1)
      simp [fstTo] at this hle
      omega
end
end Go.Proofs.Ytnolplmpanbmhab

namespace Go.Proofs.Ytnolplmpanbmhab
open Go.RowKit
set_option linter.unusedVariables false
attribute [local go_sem ↓] Go.wp_at_zero Go.wp_at_succ

/-- A call of a Go function as a step of a region that draws its order. -/
theorem step_call {P : Program} {ops : Array Oper} {o : Oper} {a : Act} {w : World} {K : Act → World → Prop} {Q : Exit → Act → World → Prop} {E : Prop} (hgd : o.guard = none) (f : FuncId) (x : Operand) (t : TypeId)
    (ho : o.op = .call { callee := .value (.func f), args := #[x], argTypes := #[t] }) {fn : Func} (hf : P.funcs[f]? = some fn) (hname : (fn.name == "runtime.NumGoroutine") = false) (hb : fn.body.isSome = true)
    (v : Value) (hx : a.eval x = v)
    (h : Calls P f #[v] w fun e w' => match e, w' with
      | .returned v, w'' => K (a.put o.dst v) w''
      | .panicked chain, w'' => Q (.panic chain) a w''
      | .outgrown, _ => LetsOut Q) :
    if Region.wanted o (yielded ops a.tmps) = true then Oper.wp P o a w K Q else E := by
  have hw : Region.wanted o (yielded ops a.tmps) = true := by simp [Region.wanted, hgd]
  have ef : a.eval (.func f) = .func (.func f) #[] #[] := rfl
  have e1 : execOp a.eval o = callFunc f #[v] := by
    unfold execOp
    simp [ho, resolve, Deferred.ofValue, invoke, ef, hx]
  have h1 : fn.name ≠ "runtime.NumGoroutine" := by simpa using hname
  obtain ⟨c, hb⟩ := Option.isSome_iff_exists.1 hb
  have e2 : (callFunc f #[v]).run P w = .ok (.enter f #[v]) w := by simp [callFunc, hf, h1, hb]
  rw [if_pos hw]
  unfold Oper.wp
  rw [e1, e2]
  exact h

def ptr (b : Nat) : Value := .pointer (some ⟨b, 0, none⟩)
def pairCells (x : Nat × Nat) : List Value := [ptr x.1, ptr x.2]

def opAgg (K M A B C D : Int) (F : Bool) : Value := .agg #[.int .i64 K, .int .i64 M, .int .i64 A, .int .i64 B, .int .i64 C, .int .i64 D, .bool F]

theorem oneCell_pair (x : Nat × Nat) : ∀ u ∈ pairCells x, u.oneCell' = true := by
  intro u hu; simp [pairCells] at hu; rcases hu with rfl | rfl <;> rfl

end Go.Proofs.Ytnolplmpanbmhab

namespace Go.Proofs.Ytnolplmpanbmhab
open Go.RowKit
set_option linter.unusedVariables false

/-- A call of a script. -/
structure LOp where
  K : Int
  M : Int
  A : Int
  B : Int
  C : Int
  D : Int
  F : Bool

def LOp.cells (o : LOp) : List Value := [.int .i64 o.K, .int .i64 o.M, .int .i64 o.A, .int .i64 o.B, .int .i64 o.C, .int .i64 o.D, .bool o.F]
def LOp.val (o : LOp) : Value := .agg #[.int .i64 o.K, .int .i64 o.M, .int .i64 o.A, .int .i64 o.B, .int .i64 o.C, .int .i64 o.D, .bool o.F]

end Go.Proofs.Ytnolplmpanbmhab

namespace Go.Proofs.Ytnolplmpanbmhab
open Go.RowKit
set_option linter.unusedVariables false
attribute [local go_sem ↓] Go.wp_at_zero Go.wp_at_succ

/-- Which machine a call is for. -/
def mach (M : Int) (n : Nat) : Nat := (((M.tmod n) + n).tmod n).toNat

theorem mach_lt (M : Int) (n : Nat) (h : 0 < n) : mach M n < n := by
  unfold mach
  have h1 := Int.tmod_lt_of_pos (M.tmod n + n) (show (0 : Int) < n by omega)
  have h2 := Int.lt_tmod_of_pos M (show (0 : Int) < n by omega)
  have h3 := Int.tmod_nonneg (n : Int) (show 0 ≤ M.tmod n + n by omega)
  omega

theorem mach_val (M : Int) (n : Nat) (h : 0 < n) : (((M.tmod n) + n).tmod n) = (mach M n : Int) := by
  unfold mach
  have h2 := Int.lt_tmod_of_pos M (show (0 : Int) < n by omega)
  have h3 := Int.tmod_nonneg (n : Int) (show 0 ≤ M.tmod n + n by omega)
  omega

end Go.Proofs.Ytnolplmpanbmhab

namespace Go.Proofs.Ytnolplmpanbmhab
open Go.RowKit
set_option linter.unusedVariables false
attribute [local go_sem ↓] Go.wp_at_zero Go.wp_at_succ

/-- A new machine: f says which blocks are its own. -/
def NewF (M : MT) (w w' : World) (p : Nat) (f : Nat → Option Nat) (s : RSt) : Prop :=
  (∀ b j, f b = some j → w.heap.size ≤ b ∧ b < w'.heap.size) ∧ ∀ (own : Nat → Nat × Nat) (id : Nat), (∀ b j, f b = some j → own b = (id, j)) → M own id w' p s
theorem NewF.of {M : MT} (P : Api M) {w w2 W : World} {p : Nat} {f : Nat → Option Nat} {s : RSt} (h : NewF M w w2 p f s) (hk : ∀ k, w.heap.size ≤ k → k < w2.heap.size → W.heap[k]? = w2.heap[k]?) (hs : w2.heap.size ≤ W.heap.size) : NewF M w W p f s := by
  refine ⟨fun b j hb => ⟨(h.1 b j hb).1, Nat.lt_of_lt_of_le (h.1 b j hb).2 hs⟩, fun own id ho => ?_⟩
  obtain ⟨own0, h0⟩ : ∃ own0 : Nat → Nat × Nat, own0 = fun b => match f b with | some j => (id, j) | none => (id + 1, 0) := ⟨_, rfl⟩
  have h1 : ∀ b j, f b = some j → own0 b = (id, j) := fun b j hb => by rw [h0]; simp only [hb]
  have h2 : ∀ b, (own0 b).1 = id → ∃ j, f b = some j := fun b hb => by
    rw [h0] at hb
    cases hf : f b with
    | none => simp only [hf] at hb; omega
    | some j => exact ⟨j, rfl⟩
  have m1 := h.2 own0 id h1
  have m2 := P.of (own' := own0) (w' := W) m1 (fun _ _ => rfl) (fun b hb ht => by
    obtain ⟨j, hj⟩ := h2 b ht
    exact hk b (h.1 b j hj).1 hb)
  exact P.retag m2 (fun b _ ht => by
    obtain ⟨j, hj⟩ := h2 b ht
    rw [ho b j hj, h1 b j hj])
theorem NewF.low {M : MT} {w0 w W : World} {p : Nat} {f : Nat → Option Nat} {s : RSt} (h : NewF M w W p f s) (hl : w0.heap.size ≤ w.heap.size) : NewF M w0 W p f s :=
  ⟨fun b j hb => ⟨Nat.le_trans hl (h.1 b j hb).1, (h.1 b j hb).2⟩, h.2⟩

end Go.Proofs.Ytnolplmpanbmhab

/-
  A machine of the program, alone, beside what a law keeps in memory: its calls.
-/
namespace Go.Proofs.Ytnolplmpanbmhab
open Go.RowKit
set_option linter.unusedVariables false

section
variable {s : RSt}
theorem HInv.same_rights {t : RSt} (h : HInv s) (h1 : t.rights = s.rights) (h2 : t.alive = s.alive) (h3 : t.ne = s.ne) : HInv t := by
  have ha : ∀ e, aliveB t e = aliveB s e := fun e => by unfold aliveB; rw [h2, h3]
  refine ⟨?_, ?_, ?_⟩
  · rw [h1]; exact h.one
  · rw [h1]; exact h.same
  · rw [h1]; intro i r hr hl; rw [ha]; exact h.alv i r hr hl
theorem HInv.map (h : HInv s) (env page hd : Int) (wt : Bool) (slot : Int) : HInv (mapR s env page hd wt slot).2 := by
  unfold mapR
  repeat' split
  all_goals first | exact h | exact h.same_rights rfl rfl rfl
theorem HInv.unmap (h : HInv s) (env page : Int) : HInv (unmapR s env page).2 := by
  unfold unmapR
  repeat' split
  all_goals first | exact h | exact h.same_rights rfl rfl rfl
theorem HInv.store (h : HInv s) (env page a v : Int) : HInv (storeR s env page a v).2 := by
  unfold storeR
  repeat' split
  all_goals first | exact h | exact h.same_rights rfl rfl rfl
end

/-- The machine at m stands for s; its blocks bear 2; what came in bears nothing, nor what is still to be made. -/
structure St (M : MT) (w0 : World) (m i : Nat) (own : Nat → Nat × Nat) (s : RSt) (w : World) : Prop where
  rep : M own 2 w m s
  hok : SOk s
  hinv : HInv s
  len : s.rights.length ≤ i
  bot : ∀ x, x < w0.heap.size → (own x).1 = 0
  top : ∀ x, w.heap.size ≤ x → (own x).1 = 0
  bel : Below w0.heap.size w0 w
def StN (M : MT) (w0 : World) (m i : Nat) (own : Nat → Nat × Nat) (s : RSt) (w w' : World) : Prop :=
  ∃ own' : Nat → Nat × Nat, St M w0 m i own' s w' ∧ (∀ b, b < w.heap.size → own' b = own b) ∧ (∀ b, b < w.heap.size → (own b).1 ≠ 2 → w'.heap[b]? = w.heap[b]?) ∧ w.heap.size ≤ w'.heap.size

section
variable {M : MT} {w0 w w' : World} {m i : Nat} {own : Nat → Nat × Nat} {s s' : RSt}
theorem St.mono (h : St M w0 m i own s w) : St M w0 m (i + 1) own s w := ⟨h.rep, h.hok, h.hinv, by have := h.len; omega, h.bot, h.top, h.bel⟩
theorem St.below (P : Api M) (h : St M w0 m i own s w) (hb : Below w.heap.size w w') : St M w0 m i own s w' :=
  ⟨P.below h.rep hb, h.hok, h.hinv, h.len, h.bot, fun x hx => h.top x (Nat.le_trans hb.size hx), h.bel.trans (hb.mono h.bel.size)⟩
theorem St.next (P : Api M) (h : St M w0 m i own s w) {j : Nat} (hn : MNext M own 2 w m w' s') (hs : SOk s') (hH : HInv s') (hl : s'.rights.length ≤ j) : StN M w0 m j own s' w w' := by
  obtain ⟨own1, h1, h2, h3⟩ := hn
  have hsz := h3.size
  obtain ⟨own', e1, e2, e3⟩ : ∃ own' : Nat → Nat × Nat, (∀ b, b < w.heap.size → own' b = own b) ∧ (∀ b, w'.heap.size ≤ b → (own' b).1 = 0) ∧ ∀ b, b < w'.heap.size → (own1 b).1 = 2 → own' b = own1 b := by
    refine ⟨fun b => if b < w.heap.size then own b else if b < w'.heap.size then own1 b else (0, 0), fun b hb => if_pos hb, fun b hb => ?_, fun b hb ht => ?_⟩
    · simp only [if_neg (show ¬ b < w.heap.size by omega), if_neg (show ¬ b < w'.heap.size by omega)]
    · by_cases hl : b < w.heap.size
      · simp only [if_pos hl]; exact (h2 b hl).symm
      · simp only [if_neg hl, if_pos hb]
  have hb0 := h.bel.size
  refine ⟨own', ⟨P.retag h1 e3, hs, hH, hl, fun x hx => ?_, e2, h.bel.trans ?_⟩, e1, fun b hb hne => h3.block b hb hne, hsz⟩
  · rw [e1 x (by omega)]; exact h.bot x hx
  · exact (h3.mono (B' := w0.heap.size) (S' := fun _ => False) hb0 (fun k hk e => by have := h.bot k hk; omega)).below (by simp)
theorem StN.after {w1 : World} (hb : Below w.heap.size w w1) (h : StN M w0 m i own s w1 w') : StN M w0 m i own s w w' := by
  obtain ⟨own', h1, h2, h3, h4⟩ := h
  have := hb.size
  exact ⟨own', h1, fun b hl => h2 b (by omega), fun b hl ht => (h3 b (by omega) ht).trans (hb.block b hl), by omega⟩
theorem StN.of_below (P : Api M) (h : St M w0 m i own s w) (hb : Below w.heap.size w w') : StN M w0 m i own s w w' := ⟨own, h.below P hb, fun _ _ => rfl, fun b hl _ => hb.block b hl, hb.size⟩
theorem St.few (h : St M w0 m i own s w) (hi : (i + 2) * 48 ≤ 140737488355328) : Few s := by have := h.len; unfold Few; omega
/-- What bears no 2 is as it was. -/
theorem StN.blk {b : Nat} {cs : List Value} {t : TypeId} (h : StN M w0 m i own s w w') (hk : Blk w b cs t) (hne : (own b).1 ≠ 2) : Blk w' b cs t := by
  obtain ⟨_, _, _, h3, _⟩ := h
  exact hk.of (h3 b hk.lt hne)

theorem St.load (P : Api M) (h : St M w0 m i own s w) (hi : (i + 2) * 48 ≤ 140737488355328) (env page a : Int) (i1 : I64 env) (i2 : I64 page) (i3 : I64 a) :
    Calls Try.prog 14 #[.pointer (some ⟨m, 0, none⟩), .int .i64 env, .int .i64 page, .int .i64 a] w fun e w' => e = .returned (.tuple #[.int .i64 (loadR s env page a).1, .int .i64 (loadR s env page a).2]) ∧ StN M w0 m i own s w w' := by
  refine (P.load h.rep h.hok (h.few hi) env page a i1 i2 i3).mono ?_
  rintro e w' ⟨rfl, hn⟩
  exact ⟨rfl, h.next P hn h.hok h.hinv h.len⟩
theorem St.alloc (P : Api M) (h : St M w0 m i own s w) (hi : (i + 2) * 48 ≤ 140737488355328) (env : Int) (i1 : I64 env) :
    Calls Try.prog 10 #[.pointer (some ⟨m, 0, none⟩), .int .i64 env] w fun e w' => e = .returned (.tuple #[.int .i64 (allocR s env).1.1, .int .i64 (allocR s env).1.2]) ∧ StN M w0 m (i + 1) own (allocR s env).2 w w' := by
  refine (P.alloc h.rep h.hok (h.few hi) env i1).mono ?_
  rintro e w' ⟨rfl, hn⟩
  exact ⟨rfl, h.next P hn (h.hok.alloc env) (h.hinv.alloc h.hok.inv env) (by have := (allocR_grows (s := s) env).2.2.2.2.2; have := h.len; omega)⟩
theorem St.derive (P : Api M) (h : St M w0 m i own s w) (hi : (i + 2) * 48 ≤ 140737488355328) (env : Int) (hd : Int) (te : Int) (wt : Bool) (i1 : I64 env) (i2 : I64 hd) (i3 : I64 te) :
    Calls Try.prog 16 #[.pointer (some ⟨m, 0, none⟩), .int .i64 env, .int .i64 hd, .int .i64 te, .bool wt] w fun e w' => e = .returned (.tuple #[.int .i64 (deriveR s env hd te wt).1.1, .int .i64 (deriveR s env hd te wt).1.2]) ∧ StN M w0 m (i + 1) own (deriveR s env hd te wt).2 w w' := by
  refine (P.derive h.rep h.hok (h.few hi) env hd te wt i1 i2 i3).mono ?_
  rintro e w' ⟨rfl, hn⟩
  exact ⟨rfl, h.next P hn (h.hok.derive env hd te wt) (h.hinv.derive h.hok.inv env hd te wt) (by have := (deriveR_grows (s := s) env hd te wt).2.2.2.2.2; have := h.len; omega)⟩
theorem St.revoke (P : Api M) (h : St M w0 m i own s w) (hi : (i + 2) * 48 ≤ 140737488355328) (env : Int) (hd : Int) (i1 : I64 env) (i2 : I64 hd) :
    Calls Try.prog 17 #[.pointer (some ⟨m, 0, none⟩), .int .i64 env, .int .i64 hd] w fun e w' => e = .returned (.int .i64 (revokeR s env hd).1) ∧ StN M w0 m (i + 1) own (revokeR s env hd).2 w w' := by
  refine (P.revoke h.rep h.hok (h.few hi) env hd i1 i2).mono ?_
  rintro e w' ⟨rfl, hn⟩
  exact ⟨rfl, h.next P hn (h.hok.revoke env hd) (h.hinv.revoke h.hok.inv env hd) (by have := (revokeR_grows (s := s) env hd).2.2.2.2.2; have := h.len; omega)⟩
theorem St.drop (P : Api M) (h : St M w0 m i own s w) (hi : (i + 2) * 48 ≤ 140737488355328) (env : Int) (hd : Int) (i1 : I64 env) (i2 : I64 hd) :
    Calls Try.prog 43 #[.pointer (some ⟨m, 0, none⟩), .int .i64 env, .int .i64 hd] w fun e w' => e = .returned (.int .i64 (dropR s env hd).1) ∧ StN M w0 m (i + 1) own (dropR s env hd).2 w w' := by
  refine (P.drop h.rep h.hok (h.few hi) env hd i1 i2).mono ?_
  rintro e w' ⟨rfl, hn⟩
  exact ⟨rfl, h.next P hn (h.hok.drop env hd) (h.hinv.drop h.hok.inv env hd) (by have := (dropR_grows (s := s) env hd).2.2.2.2.2; have := h.len; omega)⟩
theorem St.kill (P : Api M) (h : St M w0 m i own s w) (hi : (i + 2) * 48 ≤ 140737488355328) (env : Int) (i1 : I64 env) :
    Calls Try.prog 45 #[.pointer (some ⟨m, 0, none⟩), .int .i64 env] w fun e w' => e = .returned (.int .i64 (killR s env).1) ∧ StN M w0 m (i + 1) own (killR s env).2 w w' := by
  refine (P.kill h.rep h.hok (h.few hi) env i1).mono ?_
  rintro e w' ⟨rfl, hn⟩
  exact ⟨rfl, h.next P hn (h.hok.kill env) (h.hinv.kill h.hok.inv env) (by have := (killR_grows (s := s) env).2.2.2.2.2; have := h.len; omega)⟩
theorem St.spawn (P : Api M) (h : St M w0 m i own s w) (hi : (i + 2) * 48 ≤ 140737488355328) (env : Int) (i1 : I64 env) :
    Calls Try.prog 46 #[.pointer (some ⟨m, 0, none⟩), .int .i64 env] w fun e w' => e = .returned (.int .i64 (spawnR s env).1) ∧ StN M w0 m (i + 1) own (spawnR s env).2 w w' := by
  refine (P.spawn h.rep h.hok (h.few hi) env i1).mono ?_
  rintro e w' ⟨rfl, hn⟩
  exact ⟨rfl, h.next P hn (h.hok.spawn env) (h.hinv.spawn env) (by have := (spawnR_grows (s := s) env).2.2.2.2.2; have := h.len; omega)⟩
theorem St.map (P : Api M) (h : St M w0 m i own s w) (hi : (i + 2) * 48 ≤ 140737488355328) (env : Int) (page : Int) (hd : Int) (wt : Bool) (slot : Int) (i1 : I64 env) (i2 : I64 page) (i3 : I64 hd) (i4 : I64 slot) :
    Calls Try.prog 13 #[.pointer (some ⟨m, 0, none⟩), .int .i64 env, .int .i64 page, .int .i64 hd, .bool wt, .int .i64 slot] w fun e w' => e = .returned (.int .i64 (mapR s env page hd wt slot).1) ∧ StN M w0 m (i + 1) own (mapR s env page hd wt slot).2 w w' := by
  refine (P.map h.rep h.hok (h.few hi) env page hd wt slot i1 i2 i3 i4).mono ?_
  rintro e w' ⟨rfl, hn⟩
  exact ⟨rfl, h.next P hn (h.hok.map env page hd wt slot) (h.hinv.map env page hd wt slot) (by have := (mapR_grows (s := s) env page hd wt slot).2.2.2.2.2; have := h.len; omega)⟩
theorem St.unmap (P : Api M) (h : St M w0 m i own s w) (hi : (i + 2) * 48 ≤ 140737488355328) (env : Int) (page : Int) (i1 : I64 env) (i2 : I64 page) :
    Calls Try.prog 21 #[.pointer (some ⟨m, 0, none⟩), .int .i64 env, .int .i64 page] w fun e w' => e = .returned (.int .i64 (unmapR s env page).1) ∧ StN M w0 m (i + 1) own (unmapR s env page).2 w w' := by
  refine (P.unmap h.rep h.hok (h.few hi) env page i1 i2).mono ?_
  rintro e w' ⟨rfl, hn⟩
  exact ⟨rfl, h.next P hn (h.hok.unmap env page) (h.hinv.unmap env page) (by have := (unmapR_grows (s := s) env page).2.2.2.2.2; have := h.len; omega)⟩
theorem St.store (P : Api M) (h : St M w0 m i own s w) (hi : (i + 2) * 48 ≤ 140737488355328) (env : Int) (page : Int) (a : Int) (v : Int) (i1 : I64 env) (i2 : I64 page) (i3 : I64 a) (i4 : I64 v) :
    Calls Try.prog 15 #[.pointer (some ⟨m, 0, none⟩), .int .i64 env, .int .i64 page, .int .i64 a, .int .i64 v] w fun e w' => e = .returned (.int .i64 (storeR s env page a v).1) ∧ StN M w0 m (i + 1) own (storeR s env page a v).2 w w' := by
  refine (P.store h.rep h.hok (h.few hi) env page a v i1 i2 i3 i4).mono ?_
  rintro e w' ⟨rfl, hn⟩
  exact ⟨rfl, h.next P hn (h.hok.store env page a v) (h.hinv.store env page a v) (by have := (storeR_grows (s := s) env page a v).2.2.2.2.2; have := h.len; omega)⟩
end
end Go.Proofs.Ytnolplmpanbmhab

/-
  'pick' and 'config': what the raw numbers of an input speak of.
-/
namespace Go.Proofs.Ytnolplmpanbmhab
open Go.RowKit
set_option linter.unusedVariables false
attribute [local go_sem ↓] Go.wp_at_zero Go.wp_at_succ

def pk (c : Int) (n : Nat) : Nat := ((if c < 0 then -(c + 1) else c) % n).toNat
theorem pk_lt (c : Int) {n : Nat} (h : 0 < n) : pk c n < n := by
  unfold pk
  have h1 := Int.emod_lt_of_pos (if c < 0 then -(c + 1) else c) (show (0 : Int) < n by omega)
  have h2 := Int.emod_nonneg (if c < 0 then -(c + 1) else c) (show (n : Int) ≠ 0 by omega)
  omega
theorem pk_neg {c : Int} {n : Nat} (h : 0 < n) (hc : c < 0) : (-(c + 1)).tmod n = pk c n := by
  unfold pk
  rw [if_pos hc, Int.tmod_eq_emod_of_nonneg (by omega), Int.toNat_of_nonneg (Int.emod_nonneg _ (by omega))]
theorem pk_pos {c : Int} {n : Nat} (h : 0 < n) (hc : ¬ c < 0) : c.tmod n = pk c n := by
  unfold pk
  rw [if_neg hc, Int.tmod_eq_emod_of_nonneg (by omega), Int.toNat_of_nonneg (Int.emod_nonneg _ (by omega))]

set_option maxHeartbeats 1000000 in
theorem pick_any (c : Int) (hc0 : -9223372036854775808 ≤ c) (hc1 : c ≤ 9223372036854775807) (n : Nat) (hn : 0 < n) (hn1 : n ≤ 4611686018427387904) (w : World) :
    Calls Try.prog 12 #[.int .i64 c, .int .i64 n] w fun e w' => e = .returned (.int .i64 (pk c n)) ∧ w' = w := by
  have hnz : (n : Int) ≠ 0 := by omega
  have hlt := pk_lt c hn
  by_cases hc : c < 0
  · have h1 : IntKind.i64.wrap (c + 1) = c + 1 := by rw [IntKind.wrap_i64]; omega
    have h2 : IntKind.i64.wrap (-(c + 1)) = -(c + 1) := by rw [IntKind.wrap_i64]; omega
    go_enter Try.func12, Try.ntmps12
    go_wp2_with fail
    go_ret
    refine ⟨?_, rfl⟩
    show Ending.returned (.int .i64 (-((c + 1).tmod n))) = _
    rw [← Int.neg_tmod, pk_neg hn hc]
  · go_enter Try.func12, Try.ntmps12
    go_wp2_with fail
    go_ret
    refine ⟨?_, rfl⟩
    show Ending.returned (.int .i64 (c % n)) = _
    rw [← Int.tmod_eq_emod_of_nonneg hc, pk_pos hn (by omega)]

theorem pick_int (c n : Int) (hc0 : -9223372036854775808 ≤ c) (hc1 : c ≤ 9223372036854775807) (hn : 0 < n) (hn1 : n ≤ 4611686018427387904) (w : World) :
    Calls Try.prog 12 #[.int .i64 c, .int .i64 n] w fun e w' => e = .returned (.int .i64 (pk c n.toNat)) ∧ w' = w := by
  have := pick_any c hc0 hc1 n.toNat (by omega) (by omega) w
  rwa [Int.toNat_of_nonneg (by omega)] at this

def cfA (a : Int) : Nat := 1 + pk a 16
def cfB (a : Int) : Nat := 1 + pk a 8
def cfC (a : Int) : Nat := 2 + pk a 3

set_option maxHeartbeats 1000000 in
set_option maxRecDepth 100000 in
theorem config_any (x y z : Int) (hx0 : -9223372036854775808 ≤ x) (hx1 : x ≤ 9223372036854775807) (hy0 : -9223372036854775808 ≤ y) (hy1 : y ≤ 9223372036854775807) (hz0 : -9223372036854775808 ≤ z) (hz1 : z ≤ 9223372036854775807) (w : World) :
    Calls Try.prog 7 #[.agg #[.int .i64 x, .int .i64 y, .int .i64 z]] w fun e w' => e = .returned (.agg #[.int .i64 (cfA x), .int .i64 (cfB y), .int .i64 (cfC z)]) ∧ Below w.heap.size w w' := by
  have h1 := pk_lt x (show 0 < 16 by omega)
  have h2 := pk_lt y (show 0 < 8 by omega)
  have h3 := pk_lt z (show 0 < 3 by omega)
  have v1 : IntKind.i64.wrap (1 + (pk x 16 : Int)) = 1 + (pk x 16 : Int) := by rw [IntKind.wrap_i64]; omega
  have v2 : IntKind.i64.wrap (1 + (pk y 8 : Int)) = 1 + (pk y 8 : Int) := by rw [IntKind.wrap_i64]; omega
  have v3 : IntKind.i64.wrap (2 + (pk z 3 : Int)) = 2 + (pk z 3 : Int) := by rw [IntKind.wrap_i64]; omega
  go_enter Try.func7, Try.ntmps7
  go_wp2_with fail
  go_region_held3 (fun w' => w'.cell? ⟨w.heap.size, 0, none⟩ = some (.int .i64 x) ∧ w'.cell? ⟨w.heap.size, 1, none⟩ = some (.int .i64 y) ∧ w'.cell? ⟨w.heap.size, 2, none⟩ = some (.int .i64 z)) (go_keep)
    ((first
      | (go_at_call 12; refine (pick_int _ _ (by assumption) (by assumption) (by decide) (by decide) _).mono ?_; rintro e w5 ⟨rfl, hw5⟩; subst hw5)))
  go_wp2_with fail
  refine bodyPost_ret (v := .agg #[.int .i64 (1 + (pk x 16 : Int)), .int .i64 (1 + (pk y 8 : Int)), .int .i64 (2 + (pk z 3 : Int))]) ?_ rfl ?_
  · simp [results, Try.results7, go_sem]
  · exact ⟨by rw [cfA, cfB, cfC]; simp, (((Below.refl _ _).alloc (Nat.le_refl _) _).alloc (by simp) _).drew⟩

structure LStep where
  K : Int
  V : Int
  A : Int
  B : Int
  C : Int
  F : Bool
def LStep.cells (o : LStep) : List Value := [.int .i64 o.K, .int .i64 o.V, .int .i64 o.A, .int .i64 o.B, .int .i64 o.C, .bool o.F]

theorem pick_ex (c n : Int) (hc0 : -9223372036854775808 ≤ c) (hc1 : c ≤ 9223372036854775807) (hn : 0 < n) (hn1 : n ≤ 4611686018427387904) (w : World) :
    Calls Try.prog 12 #[.int .i64 c, .int .i64 n] w fun e w' => ∃ k : Nat, (k : Int) < n ∧ e = .returned (.int .i64 k) ∧ w' = w := by
  refine (pick_int c n hc0 hc1 hn hn1 w).mono ?_
  rintro e w' ⟨rfl, rfl⟩
  have := pk_lt c (show 0 < n.toNat by omega)
  exact ⟨_, by omega, rfl, rfl⟩

def Inr64 (n : Int) : Prop := -9223372036854775808 ≤ n ∧ n ≤ 9223372036854775807
end Go.Proofs.Ytnolplmpanbmhab

/-
  'built': the machine that a statement begins with.
-/
namespace Go.Proofs.Ytnolplmpanbmhab
open Go.RowKit
set_option linter.unusedVariables false
attribute [local go_sem ↓] Go.wp_at_zero Go.wp_at_succ

theorem cf_may (x y z : Int) : mayB (cfA x) (cfB y) (cfC z) = true := by
  have h1 := pk_lt x (show 0 < 16 by omega)
  have h2 := pk_lt y (show 0 < 8 by omega)
  have h3 := pk_lt z (show 0 < 3 by omega)
  unfold mayB cfA cfB cfC
  simp
  omega
theorem cfA_le (x : Int) : cfA x ≤ 16 := by have := pk_lt x (show 0 < 16 by omega); unfold cfA; omega
theorem cfB_le (x : Int) : cfB x ≤ 8 := by have := pk_lt x (show 0 < 8 by omega); unfold cfB; omega
theorem cfC_le (x : Int) : cfC x ≤ 4 := by have := pk_lt x (show 0 < 3 by omega); unfold cfC; omega
theorem cfC_ge (x : Int) : 1 ≤ cfC x := by unfold cfC; omega

set_option maxHeartbeats 1000000 in
set_option maxRecDepth 100000 in
theorem built_any {M : MT} (P : Api M) (x y z : Int) (hx0 : -9223372036854775808 ≤ x) (hx1 : x ≤ 9223372036854775807) (hy0 : -9223372036854775808 ≤ y) (hy1 : y ≤ 9223372036854775807) (hz0 : -9223372036854775808 ≤ z) (hz1 : z ≤ 9223372036854775807) (w : World) :
    Calls Try.prog 6 #[.agg #[.int .i64 x, .int .i64 y, .int .i64 z]] w fun e w' => ∃ (m : Nat) (f : Nat → Option Nat), e = .returned (.pointer (some ⟨m, 0, none⟩)) ∧ Below w.heap.size w w' ∧ NewF M w w' m f (RSt.fresh (cfA x) (cfB y) (cfC z)) := by
  go_enter Try.func6, Try.ntmps6
  go_wp2_with fail
  refine (config_any x y z hx0 hx1 hy0 hy1 hz0 hz1 _).mono ?_
  rintro e w1 ⟨rfl, hb1⟩
  go_wp2_with fail
  refine (P.new_yes (cfA x) (cfB y) (cfC z) _ (cf_may x y z)).mono ?_
  rintro e w2 ⟨m, f, rfl, hb2, hm⟩
  go_wp2_with fail
  refine (P.new_no 1 1 0 _ (by decide)).mono ?_
  rintro e w3 ⟨rfl, hb3⟩
  go_wp2_with fail
  go_ret
  have s1 := hb1.size
  have s2 := hb2.size
  simp at s1
  refine ⟨m, f, rfl, ?_, NewF.low (NewF.of P hm (fun k _ h2 => hb3.block k h2) hb3.size) (by omega)⟩
  exact (((Below.refl _ _).alloc (Nat.le_refl _) _).trans (hb1.mono (by simp))).trans ((hb2.mono (by omega)).trans (hb3.mono (by omega)))

end Go.Proofs.Ytnolplmpanbmhab

/-
  What environments do: one call, its answer not looked at.
-/
namespace Go.Proofs.Ytnolplmpanbmhab
open Go.RowKit
set_option linter.unusedVariables false
attribute [local go_sem ↓] Go.wp_at_zero Go.wp_at_succ

/-- One call of an environment from lo to hi - 1. -/
inductive Ns (lo hi : Nat) (s : RSt) : RSt → Prop where
  | same : Ns lo hi s s
  | alloc (env : Nat) (h1 : lo ≤ env) (h2 : env < hi) : Ns lo hi s (allocR s env).2
  | derive (env : Nat) (h1 : lo ≤ env) (h2 : env < hi) (hd te : Int) (wt : Bool) : Ns lo hi s (deriveR s env hd te wt).2
  | revoke (env : Nat) (h1 : lo ≤ env) (h2 : env < hi) (hd : Int) : Ns lo hi s (revokeR s env hd).2
  | drop (env : Nat) (h1 : lo ≤ env) (h2 : env < hi) (hd : Int) : Ns lo hi s (dropR s env hd).2
  | kill (env : Nat) (h1 : lo ≤ env) (h2 : env < hi) : Ns lo hi s (killR s env).2
  | spawn (env : Nat) (h1 : lo ≤ env) (h2 : env < hi) : Ns lo hi s (spawnR s env).2
  | map (env : Nat) (h1 : lo ≤ env) (h2 : env < hi) (page hd : Int) (wt : Bool) (slot : Int) : Ns lo hi s (mapR s env page hd wt slot).2
  | unmap (env : Nat) (h1 : lo ≤ env) (h2 : env < hi) (page : Int) : Ns lo hi s (unmapR s env page).2
  | store (env : Nat) (h1 : lo ≤ env) (h2 : env < hi) (page a v : Int) : Ns lo hi s (storeR s env page a v).2

theorem Ns.low {lo lo' hi : Nat} {s t : RSt} (h : Ns lo hi s t) (hl : lo' ≤ lo) : Ns lo' hi s t := by
  cases h with
  | same => exact .same
  | alloc env h1 h2 => exact .alloc env (by omega) h2
  | derive env h1 h2 hd te wt => exact .derive env (by omega) h2 hd te wt
  | revoke env h1 h2 hd => exact .revoke env (by omega) h2 hd
  | drop env h1 h2 hd => exact .drop env (by omega) h2 hd
  | kill env h1 h2 => exact .kill env (by omega) h2
  | spawn env h1 h2 => exact .spawn env (by omega) h2
  | map env h1 h2 page hd wt slot => exact .map env (by omega) h2 page hd wt slot
  | unmap env h1 h2 page => exact .unmap env (by omega) h2 page
  | store env h1 h2 page a v => exact .store env (by omega) h2 page a v
theorem Ns.grows {lo hi : Nat} {s t : RSt} (h : Ns lo hi s t) : Grows s t := by
  cases h with
  | same => exact Grows.refl s
  | alloc env h1 h2 => exact allocR_grows _
  | derive env h1 h2 hd te wt => exact deriveR_grows _ _ _ _
  | revoke env h1 h2 hd => exact revokeR_grows _ _
  | drop env h1 h2 hd => exact dropR_grows _ _
  | kill env h1 h2 => exact killR_grows _
  | spawn env h1 h2 => exact spawnR_grows _
  | map env h1 h2 page hd wt slot => exact mapR_grows _ _ _ _ _
  | unmap env h1 h2 page => exact unmapR_grows _ _
  | store env h1 h2 page a v => exact storeR_grows _ _ _ _

def LStep.agg (o : LStep) : Value := .agg #[.int .i64 o.K, .int .i64 o.V, .int .i64 o.A, .int .i64 o.B, .int .i64 o.C, .bool o.F]
def LStep.i64 (o : LStep) : Prop := I64 o.V ∧ I64 o.A ∧ I64 o.B ∧ I64 o.C

set_option maxHeartbeats 1000000 in
theorem handle_any (c : Int) (hc0 : -9223372036854775808 ≤ c) (hc1 : c ≤ 9223372036854775807) (w : World) :
    Calls Try.prog 19 #[.int .i64 c] w fun e w' => ∃ k : Nat, (k : Int) < 64 ∧ e = .returned (.int .i64 k) ∧ w' = w := by
  go_enter Try.func19, Try.ntmps19
  go_wp2_with fail
  refine (pick_ex _ _ hc0 hc1 (by decide) (by decide) _).mono ?_
  rintro e w1 ⟨k, hk, rfl, rfl⟩
  go_wp2_with fail
  go_ret
  exact ⟨k, hk, rfl, rfl⟩

set_option maxHeartbeats 1000000 in
theorem page_any (c : Int) (hc0 : -9223372036854775808 ≤ c) (hc1 : c ≤ 9223372036854775807) (w : World) :
    Calls Try.prog 20 #[.int .i64 c] w fun e w' => ∃ k : Int, -1 ≤ k ∧ k ≤ 16 ∧ e = .returned (.int .i64 k) ∧ w' = w := by
  go_enter Try.func20, Try.ntmps20
  go_wp2_with fail
  refine (pick_ex _ _ hc0 hc1 (by decide) (by decide) _).mono ?_
  rintro e w1 ⟨k, hk, rfl, hw1⟩
  subst w1
  go_wp2_with fail
  refine (pick_ex _ _ hc0 hc1 (by decide) (by decide) _).mono ?_
  rintro e w2 ⟨j, hj, rfl, hw2⟩
  subst w2
  have hw : IntKind.i64.wrap ((k : Int) - (j : Int)) = (k : Int) - (j : Int) := by rw [IntKind.wrap_i64]; omega
  go_wp2_with fail
  go_ret
  exact ⟨_, by omega, by omega, rfl, rfl⟩

end Go.Proofs.Ytnolplmpanbmhab

/-
  'ends' and 'noise'.
-/
namespace Go.Proofs.Ytnolplmpanbmhab
open Go.RowKit
set_option linter.unusedVariables false
attribute [local go_sem ↓] Go.wp_at_zero Go.wp_at_succ

section
variable {M : MT} {w0 w w' : World} {m i : Nat} {own : Nat → Nat × Nat} {s s' : RSt}

set_option maxHeartbeats 4000000 in
set_option maxRecDepth 100000 in
theorem ends_any (P : Api M) (h : St M w0 m i own s w) (hi : (i + 2) * 48 ≤ 140737488355328) (o : LStep) (ho : o.i64) (hK10 : o.K ≠ 10) {lo hi' : Nat} (env : Nat) (h1 : lo ≤ env) (h2 : env < hi') (h4 : env < 4) :
    Calls Try.prog 22 #[.pointer (some ⟨m, 0, none⟩), .agg #[.int .i64 o.K, .int .i64 o.V, .int .i64 o.A, .int .i64 o.B, .int .i64 o.C, .bool o.F], .int .i64 env] w fun e w' => e = .returned (.tuple #[]) ∧ ∃ s', Ns lo hi' s s' ∧ StN M w0 m (i + 1) own s' w w' := by
  obtain ⟨a0, a1⟩ := ho.2.1
  have hW0 : Below w.heap.size w (w.alloc (.cells #[.int .i64 o.K, .int .i64 o.V, .int .i64 o.A, .int .i64 o.B, .int .i64 o.C, .bool o.F] 31)) := (Below.refl _ _).alloc (Nat.le_refl _) _
  have hW := hW0.drew
  have hs0 := h.below P hW0
  have hs := h.below P hW
  have ht := h.top w.heap.size (Nat.le_refl _)
  have hbx := (Blk.new w [.int .i64 o.K, .int .i64 o.V, .int .i64 o.A, .int .i64 o.B, .int .i64 o.C, .bool o.F] 31).drew
  have ie : I64 (env : Int) := ⟨by omega, by omega⟩
  have y10 : (o.K == 10) = false := beq_eq_false_iff_ne.2 hK10
  clear hK10
  go_enter Try.func22, Try.ntmps22
  by_cases hK2 : o.K = 2
  · have y2 : (o.K == 2) = true := by simp [hK2]
    clear hK2
    go_wp2_with fail
    refine (handle_any _ a0 a1 _).mono ?_
    rintro e w5 ⟨hd, hhd, rfl, hw5⟩
    subst hw5
    go_wp2_with fail
    refine (hs0.revoke P hi env hd ie ⟨by omega, by omega⟩).mono ?_
    rintro e w6 ⟨rfl, hn⟩
    go_wp2_with fail
    go_end0
    exact ⟨rfl, _, .revoke env h1 h2 hd, hn.after hW0⟩
  have y2 : (o.K == 2) = false := beq_eq_false_iff_ne.2 hK2
  by_cases hK3 : o.K = 3
  · have y3 : (o.K == 3) = true := by simp [hK3]
    clear hK2 hK3
    go_wp2_with fail
    refine (handle_any _ a0 a1 _).mono ?_
    rintro e w5 ⟨hd, hhd, rfl, hw5⟩
    subst hw5
    go_wp2_with fail
    refine (hs0.drop P hi env hd ie ⟨by omega, by omega⟩).mono ?_
    rintro e w6 ⟨rfl, hn⟩
    go_wp2_with fail
    go_end0
    exact ⟨rfl, _, .drop env h1 h2 hd, hn.after hW0⟩
  have y3 : (o.K == 3) = false := beq_eq_false_iff_ne.2 hK3
  by_cases hK4 : o.K = 11
  · have y4 : (o.K == 11) = true := by simp [hK4]
    clear hK2 hK3 hK4
    go_wp2_with fail
    refine (hs0.kill P hi env ie).mono ?_
    rintro e w1 ⟨rfl, hn⟩
    go_wp2_with fail
    go_end0
    exact ⟨rfl, _, .kill env h1 h2, hn.after hW0⟩
  have y4 : (o.K == 11) = false := beq_eq_false_iff_ne.2 hK4
  by_cases hK5 : o.K = 12
  · have y5 : (o.K == 12) = true := by simp [hK5]
    clear hK2 hK3 hK4 hK5
    go_wp2_with fail
    refine (hs0.spawn P hi env ie).mono ?_
    rintro e w1 ⟨rfl, hn⟩
    go_wp2_with fail
    go_end0
    exact ⟨rfl, _, .spawn env h1 h2, hn.after hW0⟩
  · have y5 : (o.K == 12) = false := beq_eq_false_iff_ne.2 hK5
    clear hK2 hK3 hK4 hK5
    go_wp2_with fail
    go_end0
    exact ⟨rfl, _, .same, StN.of_below P h.mono hW0⟩
end
end Go.Proofs.Ytnolplmpanbmhab

/-
  'noise'.
-/
namespace Go.Proofs.Ytnolplmpanbmhab
open Go.RowKit
set_option linter.unusedVariables false
attribute [local go_sem ↓] Go.wp_at_zero Go.wp_at_succ

def box2 (w : World) (o : LStep) (a b c : Int) : World := (w.alloc (.cells #[.int .i64 o.K, .int .i64 o.V, .int .i64 o.A, .int .i64 o.B, .int .i64 o.C, .bool o.F] 31)).alloc (.cells #[.int .i64 a, .int .i64 b, .int .i64 c] 27)

section
variable {M : MT} {w0 w w' : World} {m i : Nat} {own : Nat → Nat × Nat} {s s' : RSt}

set_option maxHeartbeats 4000000 in
set_option maxRecDepth 100000 in
theorem noise_any (P : Api M) (h : St M w0 m i own s w) (hi : (i + 2) * 48 ≤ 140737488355328) (o : LStep) (ho : o.i64) (hK : o.K < 7 ∨ 10 < o.K) (a b c : Nat) (hb : b ≤ 8) (hc : c ≤ 4) (hc2 : 2 ≤ c) :
    Calls Try.prog 11 #[.pointer (some ⟨m, 0, none⟩), .agg #[.int .i64 o.K, .int .i64 o.V, .int .i64 o.A, .int .i64 o.B, .int .i64 o.C, .bool o.F], .agg #[.int .i64 a, .int .i64 b, .int .i64 c]] w fun e w' => e = .returned (.tuple #[]) ∧ ∃ s', Ns 1 c s s' ∧ StN M w0 m (i + 1) own s' w w' := by
  obtain ⟨⟨v0, v1⟩, ⟨a0, a1⟩, ⟨b0, b1⟩, ⟨c0, c1⟩⟩ := ho
  have hW0 : Below w.heap.size w (box2 w o a b c) := ((Below.refl _ _).alloc (Nat.le_refl _) _).alloc (by simp) _
  have ht := h.top w.heap.size (Nat.le_refl _)
  have ht2 := h.top (w.heap.size + 1) (by omega)
  have hc1' : IntKind.i64.wrap ((c : Int) - 1) = (c : Int) - 1 := by rw [IntKind.wrap_i64]; omega
  go_enter Try.func11, Try.ntmps11
  have ie4 : (c : Int) ≤ 4611686018427387904 := by omega
  have hs0 := h.below P hW0
  have y7 : (o.K == 7) = false := beq_eq_false_iff_ne.2 (by omega)
  have y8 : (o.K == 8) = false := beq_eq_false_iff_ne.2 (by omega)
  have y9 : (o.K == 9) = false := beq_eq_false_iff_ne.2 (by omega)
  have hK10 : o.K ≠ 10 := by omega
  clear hK
  go_wp2_with fail
  refine (pick_ex _ _ v0 v1 (by omega) (by omega) _).mono ?_
  rintro e w5 ⟨k, hk, rfl, hw5⟩
  subst w5
  obtain ⟨env, henv⟩ : ∃ env : Nat, (env : Int) = 1 + (k : Int) := ⟨1 + k, by omega⟩
  have hv1 : IntKind.i64.wrap (1 + (k : Int)) = (env : Int) := by rw [IntKind.wrap_i64]; omega
  have h1 : 1 ≤ env := by omega
  have h2 : env < c := by omega
  have ie : I64 (env : Int) := ⟨by omega, by omega⟩
  have hW := hW0.drew
  have hs := h.below P hW
  have hbx := ((Blk.new w [.int .i64 o.K, .int .i64 o.V, .int .i64 o.A, .int .i64 o.B, .int .i64 o.C, .bool o.F] 31).alloc (.cells #[.int .i64 a, .int .i64 b, .int .i64 c] 27)).drew
  have hcx := (Blk.at (w.alloc (.cells #[.int .i64 o.K, .int .i64 o.V, .int .i64 o.A, .int .i64 o.B, .int .i64 o.C, .bool o.F] 31)) [.int .i64 a, .int .i64 b, .int .i64 c] 27 (w.heap.size + 1) (by simp)).drew
  have hb1' : IntKind.i64.wrap ((b : Int) + 1) = (b : Int) + 1 := by rw [IntKind.wrap_i64]; omega
  clear henv hk
  by_cases hK0 : o.K = 0
  · have y0 : (o.K == 0) = true := by simp [hK0]
    clear hK0
    go_wp2_with fail
    refine (hs0.alloc P hi env ie).mono ?_
    rintro e w6 ⟨rfl, hn⟩
    go_wp2_with fail
    go_end0
    exact ⟨rfl, _, .alloc env h1 h2, hn.after hW0⟩
  have y0 : (o.K == 0) = false := beq_eq_false_iff_ne.2 hK0
  by_cases hK1 : o.K = 1
  · have y1 : (o.K == 1) = true := by simp [hK1]
    clear hK0 hK1
    go_wp2_with fail
    go_region_held3 (fun w' => w'.cell? ⟨w.heap.size, 2, none⟩ = some (.int .i64 o.A) ∧ w'.cell? ⟨w.heap.size, 3, none⟩ = some (.int .i64 o.B) ∧ w'.cell? ⟨w.heap.size, 5, none⟩ = some (.bool o.F) ∧ w'.cell? ⟨w.heap.size + 1, 2, none⟩ = some (.int .i64 c)) (go_keep)
      ((first
        | (go_at_call 19; refine (handle_any _ (by first | exact a0 | exact b0) (by first | exact a1 | exact b1) _).mono ?_; rintro e w5 ⟨hd, hhd, rfl, hw5⟩; subst hw5)
        | (go_at_call 12; refine (pick_ex _ _ (by first | exact b0 | exact c0) (by first | exact b1 | exact c1) (by first | decide | omega) (by first | decide | omega) _).mono ?_; rintro e w5 ⟨te, hte, rfl, hw5⟩; subst hw5)
        | (go_at_call 16; refine (hs.derive P hi env _ _ o.F ie ⟨by omega, by omega⟩ ⟨by omega, by omega⟩).mono ?_; rintro e w6 ⟨rfl, hn⟩
           have e2 := (hn.blk hbx (by rw [ht]; omega)).cell 2
           have e3 := (hn.blk hbx (by rw [ht]; omega)).cell 3
           have e5 := (hn.blk hbx (by rw [ht]; omega)).cell 5
           have f2 := (hn.blk hcx (by rw [ht2]; omega)).cell 2
           simp at e2 e3 e5 f2)))
    go_wp2_with fail
    go_end0
    exact ⟨rfl, _, .derive env h1 h2 _ _ _, hn.after hW⟩
  have y1 : (o.K == 1) = false := beq_eq_false_iff_ne.2 hK1
  by_cases hK4 : o.K = 4
  · have y4 : (o.K == 4) = true := by simp [hK4]
    clear hK0 hK1 hK4
    go_wp2_with fail
    go_region_held3 (fun w' => w'.cell? ⟨w.heap.size, 2, none⟩ = some (.int .i64 o.A) ∧ w'.cell? ⟨w.heap.size, 3, none⟩ = some (.int .i64 o.B) ∧ w'.cell? ⟨w.heap.size, 4, none⟩ = some (.int .i64 o.C) ∧ w'.cell? ⟨w.heap.size, 5, none⟩ = some (.bool o.F) ∧ w'.cell? ⟨w.heap.size + 1, 1, none⟩ = some (.int .i64 b)) (go_keep)
      ((first
        | (go_at_call 19; refine (handle_any _ (by first | exact a0 | exact b0) (by first | exact a1 | exact b1) _).mono ?_; rintro e w5 ⟨hd, hhd, rfl, hw5⟩; subst hw5)
        | (go_at_call 20; refine (page_any _ a0 a1 _).mono ?_; rintro e w5 ⟨pg, hpg0, hpg1, rfl, hw5⟩; subst hw5)
        | (go_at_call 12; refine (pick_ex _ _ (by first | exact b0 | exact c0) (by first | exact b1 | exact c1) (by first | decide | omega) (by first | decide | omega) _).mono ?_; rintro e w5 ⟨te, hte, rfl, hw5⟩; subst hw5)
        | (go_at_call 13; refine (hs.map P hi env _ _ o.F _ ie ⟨by omega, by omega⟩ ⟨by omega, by omega⟩ ⟨by omega, by omega⟩).mono ?_; rintro e w6 ⟨rfl, hn⟩
           have e2 := (hn.blk hbx (by rw [ht]; omega)).cell 2
           have e3 := (hn.blk hbx (by rw [ht]; omega)).cell 3
           have e4 := (hn.blk hbx (by rw [ht]; omega)).cell 4
           have e5 := (hn.blk hbx (by rw [ht]; omega)).cell 5
           have f1 := (hn.blk hcx (by rw [ht2]; omega)).cell 1
           simp at e2 e3 e4 e5 f1)))
    go_wp2_with fail
    go_end0
    exact ⟨rfl, _, .map env h1 h2 _ _ _ _, hn.after hW⟩
  have y4 : (o.K == 4) = false := beq_eq_false_iff_ne.2 hK4
  by_cases hK5 : o.K = 5
  · have y5 : (o.K == 5) = true := by simp [hK5]
    clear hK0 hK1 hK4 hK5
    go_wp2_with fail
    refine (page_any _ a0 a1 _).mono ?_
    rintro e w5 ⟨pg, hpg0, hpg1, rfl, hw5⟩
    subst w5
    go_wp2_with fail
    refine (hs0.unmap P hi env pg ie ⟨by omega, by omega⟩).mono ?_
    rintro e w6 ⟨rfl, hn⟩
    go_wp2_with fail
    go_end0
    exact ⟨rfl, _, .unmap env h1 h2 _, hn.after hW0⟩
  have y5 : (o.K == 5) = false := beq_eq_false_iff_ne.2 hK5
  by_cases hK6 : o.K = 6
  · have y6 : (o.K == 6) = true := by simp [hK6]
    clear hK0 hK1 hK4 hK5 hK6
    go_wp2_with fail
    go_region_held3 (fun w' => w'.cell? ⟨w.heap.size, 2, none⟩ = some (.int .i64 o.A) ∧ w'.cell? ⟨w.heap.size, 3, none⟩ = some (.int .i64 o.B) ∧ w'.cell? ⟨w.heap.size, 4, none⟩ = some (.int .i64 o.C)) (go_keep)
      ((first
        | (go_at_call 20; refine (page_any _ a0 a1 _).mono ?_; rintro e w5 ⟨pg, hpg0, hpg1, rfl, hw5⟩; subst hw5)
        | (go_at_call 12; refine (pick_ex _ _ (by first | exact b0 | exact c0) (by first | exact b1 | exact c1) (by first | decide | omega) (by first | decide | omega) _).mono ?_; rintro e w5 ⟨te, hte, rfl, hw5⟩; subst hw5)
        | (go_at_call 15; refine (hs.store P hi env _ _ _ ie ⟨by omega, by omega⟩ ⟨by omega, by omega⟩ ⟨by omega, by omega⟩).mono ?_; rintro e w6 ⟨rfl, hn⟩
           have e2 := (hn.blk hbx (by rw [ht]; omega)).cell 2
           have e3 := (hn.blk hbx (by rw [ht]; omega)).cell 3
           have e4 := (hn.blk hbx (by rw [ht]; omega)).cell 4
           simp at e2 e3 e4)))
    go_wp2_with fail
    go_end0
    exact ⟨rfl, _, .store env h1 h2 _ _ _, hn.after hW⟩
  · have y6 : (o.K == 6) = false := beq_eq_false_iff_ne.2 hK6
    clear hK0 hK1 hK4 hK5 hK6
    go_wp2_with fail
    refine (ends_any P hs0 hi o ⟨⟨v0, v1⟩, ⟨a0, a1⟩, ⟨b0, b1⟩, ⟨c0, c1⟩⟩ hK10 env h1 h2 (by omega)).mono ?_
    rintro e w6 ⟨rfl, s2, hns, hn⟩
    go_wp2_with fail
    go_end0
    exact ⟨rfl, s2, hns, hn.after hW0⟩
end
end Go.Proofs.Ytnolplmpanbmhab
