import Derived.Test.YtinlkcmdbjcofaaGreatM03
/-
  What the document's machine keeps to: its rights, and what never changes of it.
-/
namespace Go.Proofs.YtinlkcmdbjcofaaGreat
open Go.RowKit
set_option linter.unusedVariables false

structure RInv (s : RSt) : Prop where
  ord : Ordered s.rights
  hnd : ∀ (i : Nat) (r : RR), s.rights[i]? = some r → r.h = i + 1
  env : ∀ (i : Nat) (r : RR), s.rights[i]? = some r → 0 ≤ r.env ∧ r.env < s.ne
  fr : ∀ (i : Nat) (r : RR), s.rights[i]? = some r → 0 ≤ r.fr ∧ r.fr < s.nf

theorem owned_iff {s : RSt} {env fr : Int} : owned s.rights env fr false = true ↔ ∃ (i : Nat) (r : RR), s.rights[i]? = some r ∧ lv s.rights i = true ∧ r.env = env ∧ r.fr = fr := by
  unfold owned
  rw [List.any_eq_true]
  constructor
  · rintro ⟨i, _, h⟩
    unfold ownsB at h
    cases hr : s.rights[i]? with
    | none => rw [hr] at h; simp at h
    | some r =>
      rw [hr] at h
      simp at h
      exact ⟨i, r, hr, h.1, h.2.1, h.2.2⟩
  · rintro ⟨i, r, hr, hl, he, hf⟩
    exact ⟨i, List.mem_range.2 (List.getElem?_eq_some_iff.1 hr).1, by unfold ownsB; rw [hr]; simp [hl, he, hf]⟩

theorem lvF_append {rs : List RR} (x : RR) : ∀ (n : Nat) (i : Int), i < rs.length → Ordered rs → lvF (rs ++ [x]) n i = lvF rs n i := by
  intro n
  induction n with
  | zero => intro i _ _; rfl
  | succ n ih =>
    intro i hi ho
    unfold lvF
    by_cases h0 : i < 0
    · simp [h0]
    · rw [if_neg h0, if_neg h0, List.getElem?_append_left (by omega)]
      cases hr : rs[i.toNat]? with
      | none => rfl
      | some r =>
        have := ho _ _ hr
        simp only
        rw [ih r.frm (by omega) ho]
theorem lv_append {rs : List RR} (ho : Ordered rs) (x : RR) {i : Int} (hi : i < rs.length) : lv (rs ++ [x]) i = lv rs i := lvF_append x _ i hi ho

theorem Ordered.append {rs : List RR} (ho : Ordered rs) {x : RR} (h1 : -1 ≤ x.frm) (h2 : x.frm < rs.length) : Ordered (rs ++ [x]) := by
  intro i r hr
  rcases Nat.lt_or_ge i rs.length with h | h
  · rw [List.getElem?_append_left h] at hr; exact ho i r hr
  · rw [List.getElem?_append_right h] at hr
    have : i - rs.length = 0 := by
      have := (List.getElem?_eq_some_iff.1 hr).1
      simp at this; omega
    rw [this] at hr
    simp at hr
    subst hr
    omega

def markAt (P : Nat → Bool) (rs : List RR) : List RR := rs.mapIdx fun i r => if P i then r.end else r
theorem markAt_get (P : Nat → Bool) (rs : List RR) (i : Nat) : (markAt P rs)[i]? = rs[i]?.map fun r => if P i then r.end else r := by simp [markAt]
theorem markAt_len (P : Nat → Bool) (rs : List RR) : (markAt P rs).length = rs.length := by simp [markAt]
theorem Ordered.mark {rs : List RR} (ho : Ordered rs) (P : Nat → Bool) : Ordered (markAt P rs) := by
  intro i r hr
  rw [markAt_get] at hr
  cases hx : rs[i]? with
  | none => rw [hx] at hr; simp at hr
  | some x =>
    rw [hx] at hr
    simp at hr
    have := ho i x hx
    subst hr
    split <;> exact this
theorem lv_mark {rs : List RR} (ho : Ordered rs) (P : Nat → Bool) {i : Nat} {r : RR} (hr : rs[i]? = some r) : lv (markAt P rs) i = (!(r.ended || P i) && lv (markAt P rs) r.frm) := by
  have hx : (markAt P rs)[i]? = some (if P i then r.end else r) := by rw [markAt_get, hr]; rfl
  rw [lv_step (ho.mark P) hx]
  cases P i <;> simp [RR.end]
/-- What is alive then was alive before. -/
theorem lv_mark_le {rs : List RR} (ho : Ordered rs) (P : Nat → Bool) : ∀ (n : Nat) (i : Int), (i + 1).toNat ≤ n → i < rs.length → lv (markAt P rs) i = true → lv rs i = true := by
  intro n
  induction n with
  | zero => intro i h _ _; exact lv_neg (by omega)
  | succ n ih =>
    intro i h hi hl
    by_cases h0 : i < 0
    · exact lv_neg h0
    · obtain ⟨j, rfl⟩ := Int.eq_ofNat_of_zero_le (show 0 ≤ i by omega)
      obtain ⟨r, hr⟩ : ∃ r, rs[j]? = some r := ⟨rs[j]'(by omega), by simp⟩
      have := ho j r hr
      rw [lv_mark ho P hr] at hl
      rw [lv_step ho hr]
      simp at hl
      rw [ih r.frm (by omega) (by omega) hl.2, hl.1.1]; rfl

section
variable {rs : RSt}
theorem RInv.add {s : RSt} (hI : RInv s) {env fr frm : Int} {wt : Bool} (he : 0 ≤ env ∧ env < s.ne) (hf : 0 ≤ fr ∧ fr < s.nf) (h1 : -1 ≤ frm) (h2 : frm < s.rights.length) : RInv (addR s env fr wt frm) := by
  have hget : ∀ (i : Nat) (r : RR), (addR s env fr wt frm).rights[i]? = some r → s.rights[i]? = some r ∨ (i = s.rights.length ∧ r = ⟨s.rights.length + 1, env, fr, wt, frm, false⟩) := by
    intro i r hr
    unfold addR at hr
    rcases Nat.lt_or_ge i s.rights.length with h | h
    · simp only at hr
      rw [List.getElem?_append_left h] at hr; exact .inl hr
    · simp only at hr
      rw [List.getElem?_append_right h] at hr
      have hz : i - s.rights.length = 0 := by
        have := (List.getElem?_eq_some_iff.1 hr).1
        simp at this; omega
      rw [hz] at hr
      simp at hr
      exact .inr ⟨by omega, hr.symm⟩
  refine ⟨hI.ord.append h1 h2, fun i r hr => ?_, fun i r hr => ?_, fun i r hr => ?_⟩
  · rcases hget i r hr with h | ⟨rfl, rfl⟩
    · exact hI.hnd i r h
    · rfl
  · rcases hget i r hr with h | ⟨rfl, rfl⟩
    · exact hI.env i r h
    · exact he
  · rcases hget i r hr with h | ⟨rfl, rfl⟩
    · exact hI.fr i r h
    · exact hf

theorem aliveB_range {env : Int} (h : aliveB rs env = true) : 0 ≤ env ∧ env < rs.ne := by
  simp [aliveB] at h
  omega

theorem RInv.mark {s : RSt} (hI : RInv s) (P : Nat → Bool) : RInv { s with rights := markAt P s.rights } := by
  have hget : ∀ (i : Nat) (r : RR), (markAt P s.rights)[i]? = some r → ∃ x, s.rights[i]? = some x ∧ r.h = x.h ∧ r.env = x.env ∧ r.fr = x.fr := by
    intro i r hr
    rw [markAt_get] at hr
    cases hx : s.rights[i]? with
    | none => rw [hx] at hr; simp at hr
    | some x =>
      rw [hx] at hr
      simp at hr
      subst hr
      exact ⟨x, rfl, by split <;> rfl, by split <;> rfl, by split <;> rfl⟩
  refine ⟨hI.ord.mark P, fun i r hr => ?_, fun i r hr => ?_, fun i r hr => ?_⟩
  · obtain ⟨x, hx, h1, _, _⟩ := hget i r hr
    rw [h1]; exact hI.hnd i x hx
  · obtain ⟨x, hx, _, h1, _⟩ := hget i r hr
    rw [h1]; exact hI.env i x hx
  · obtain ⟨x, hx, _, _, h1⟩ := hget i r hr
    rw [h1]; exact hI.fr i x hx

theorem mark_map (p : RR → Bool) (rs : List RR) : rs.map (markIf p) = markAt (fun i => (rs[i]?.map p).getD false) rs := by
  apply List.ext_getElem?
  intro i
  rw [List.getElem?_map, markAt_get]
  cases rs[i]? with
  | none => rfl
  | some r => simp [markIf]
theorem mark_set (rs : List RR) (j : Nat) (r : RR) (hr : rs[j]? = some r) : rs.set j r.end = markAt (fun i => i == j) rs := by
  apply List.ext_getElem?
  intro i
  rw [markAt_get]
  by_cases h : j = i
  · subst h
    rw [List.getElem?_set_self (List.getElem?_eq_some_iff.1 hr).1, hr]; simp
  · rw [List.getElem?_set_ne h]
    cases rs[i]? with
    | none => rfl
    | some x => simp [show ¬ i = j from fun e => h e.symm]

end

/-- What never changes of a document's machine. -/
structure RFix (s : RSt) (nk : Nat) : Prop where
  al : s.alive.length = s.ne
  ne : s.ne ≤ 4
  nf : s.nf ≤ 16
  by_ : s.bytes.length = s.nf
  sl : s.slots.length ≤ 8
  nk : nk = s.ne

section
variable {s s' : RSt} {nk : Nat}

theorem RFix.of (h : RFix s nk) (e1 : s'.nf = s.nf) (e2 : s'.ne = s.ne) (e3 : s'.alive.length = s.alive.length) (e4 : s'.bytes.length = s.bytes.length) (e5 : s'.slots.length = s.slots.length) : RFix s' nk :=
  ⟨by rw [e3, e2]; exact h.al, by rw [e2]; exact h.ne, by rw [e1]; exact h.nf, by rw [e4, e1]; exact h.by_, by rw [e5]; exact h.sl, by rw [e2]; exact h.nk⟩

/-- A step of the document's machine: at most one right more. -/
def Grows (s s' : RSt) : Prop := s'.nf = s.nf ∧ s'.ne = s.ne ∧ s'.alive.length = s.alive.length ∧ s'.bytes.length = s.bytes.length ∧ s'.slots.length = s.slots.length ∧ s'.rights.length ≤ s.rights.length + 1

theorem Grows.refl (s : RSt) : Grows s s := ⟨rfl, rfl, rfl, rfl, rfl, by omega⟩

theorem allocR_grows (env : Int) : Grows s (allocR s env).2 := by
  unfold allocR
  split
  · exact Grows.refl s
  · unfold firstS
    split
    · rename_i h
      split at h
      · split at h
        · injection h with h
          subst h
          exact ⟨rfl, rfl, rfl, by simp [addR], rfl, by simp [addR]⟩
        · exact absurd h (by simp)
      · exact absurd h (by simp)
    · exact Grows.refl s
theorem deriveR_grows (env hd te : Int) (wt : Bool) : Grows s (deriveR s env hd te wt).2 := by
  unfold deriveR
  split
  · exact Grows.refl s
  · split
    · exact Grows.refl s
    · split
      · exact Grows.refl s
      · split
        · exact Grows.refl s
        · split
          · exact Grows.refl s
          · exact ⟨rfl, rfl, rfl, rfl, rfl, by simp [addR]⟩
theorem revokeR_grows (env hd : Int) : Grows s (revokeR s env hd).2 := by
  unfold revokeR
  split
  · exact Grows.refl s
  · exact ⟨rfl, rfl, rfl, rfl, by simp [sweepS, endIf], by simp [sweepS, endIf]⟩
theorem dropR_grows (env hd : Int) : Grows s (dropR s env hd).2 := by
  unfold dropR
  split
  · exact Grows.refl s
  · split
    · exact Grows.refl s
    · exact ⟨rfl, rfl, rfl, rfl, by simp [sweepS], by simp [sweepS]⟩
theorem killR_grows (env : Int) : Grows s (killR s env).2 := by
  unfold killR
  split
  · exact ⟨rfl, rfl, by simp [sweepS, endIf], rfl, by simp [sweepS, endIf], by simp [sweepS, endIf]⟩
  · exact Grows.refl s
theorem spawnR_grows (env : Int) : Grows s (spawnR s env).2 := by
  unfold spawnR
  split
  · exact Grows.refl s
  · split
    · exact Grows.refl s
    · exact ⟨rfl, rfl, by simp, rfl, rfl, by simp⟩
end

theorem RefRep.retag {own own' : Nat → Nat × Nat} {id : Nat} {w : World} {m : Nat} {s : RSt} {nk : Nat} {vR vB vS vA vK : Value} {bs : List Nat} (h : RefRep own id w m s nk vR vB vS vA vK bs) (ho : ∀ b, b < w.heap.size → (own b).1 = id → own' b = own b) :
    RefRep own' id w m s nk vR vB vS vA vK bs := by
  have ht : ∀ {v : Value} {e k n : Nat} {xs : List Value} {j : Nat}, Row w v e k n xs → Tg own v (id, j) → Tg own' v (id, j) := fun hr ht b hb => (ho b (hr.lt b hb) (by rw [ht b hb])).trans (ht b hb)
  refine ⟨h.blk, h.rR, h.rB, fun i l hl => ?_, h.rS, h.rA, h.rK.of h.tK ho (fun _ _ _ => rfl) (fun _ _ _ _ => rfl), (ho m h.blk.lt (by rw [h.tm])).trans h.tm, ht h.rR h.tR, ht h.rB h.tB, ht h.rS h.tS, ht h.rA h.tA, fun b hb => (ho b (h.rK.lt b hb) (by rw [h.tK b hb])).trans (h.tK b hb)⟩
  obtain ⟨b, h1, h2, h3, h4⟩ := h.rI i l hl
  exact ⟨b, h1, h2, h3, (ho b h3.lt (by rw [h4])).trans h4⟩
/-- What Rights tells, and its error. -/
def toldR (rs : RSt) (env : Int) : List RR := if aliveB rs env then listR rs env else []

theorem toldR_le (rs : RSt) (env : Int) : (toldR rs env).length ≤ rs.rights.length := by
  unfold toldR
  split
  · exact listTo_le rs env _
  · simp

section
variable {own : Nat → Nat × Nat} {ir r : Nat} {w : World} {rs : RSt} {nk : Nat} {vR vB vS vA vK : Value} {bs : List Nat}
theorem rlist_uni (h : RefRep own ir w r rs nk vR vB vS vA vK bs) (hw : RWf rs nk) (env : Int) :
    Calls Tryz.prog 39 #[.pointer (some ⟨r, 0, none⟩), .int .i64 env] w fun e w' => ∃ v, e = .returned (.tuple #[v, .int .i64 (liveE rs env)]) ∧ Below w.heap.size w w' ∧ (∀ x, v.ownBlock = some x → w.heap.size ≤ x) ∧
      Row w' v 111 4 (toldR rs env).length ((toldR rs env).flatMap rcells) := by
  refine (rlist_any h hw env).mono ?_
  rintro e w' ⟨v, hb, hn, hc⟩
  refine ⟨v, ?_, hb, hn, ?_⟩
  · rcases hc with ⟨ha, _, rfl⟩ | ⟨ha, _, rfl⟩ <;> simp [liveE, ha]
  · rcases hc with ⟨ha, rfl, _⟩ | ⟨ha, hrow, _⟩
    · simp only [toldR, ha]
      exact Row.nil _ _ _
    · simp only [toldR, ha, if_true]
      exact hrow

end
end Go.Proofs.YtinlkcmdbjcofaaGreat

/-
  The document's table: which slot holds the entry of an environment and a page; that entry gone.
-/
namespace Go.Proofs.YtinlkcmdbjcofaaGreat
open Go.RowKit
set_option linter.unusedVariables false
attribute [local go_sem ↓] Go.wp_at_zero Go.wp_at_succ

def entP (env page : Int) (e : Ent) : Bool := e.used && (e.env == env && e.page == page)
/-- The slot of env and page; -1: none. -/
def entI (s : RSt) (env page : Int) : Int := match s.slots.findIdx? (entP env page) with
  | none => -1
  | some i => i
theorem entI_found {s : RSt} {env page : Int} {q : Nat} {e : Ent} (he : s.slots[q]? = some e) (hp : entP env page e = true) (hno : ∀ (j : Nat) (x : Ent), j < q → s.slots[j]? = some x → entP env page x = false) : entI s env page = q := by
  obtain ⟨hq, hx⟩ := List.getElem?_eq_some_iff.1 he
  have : s.slots.findIdx? (entP env page) = some q := by
    rw [List.findIdx?_eq_some_iff_getElem]
    refine ⟨hq, by rw [hx]; exact hp, fun j hj => ?_⟩
    have := hno j s.slots[j] hj (by simp)
    simp [this]
  unfold entI
  rw [this]
theorem entI_none {s : RSt} {env page : Int} (hno : ∀ (j : Nat) (x : Ent), j < s.slots.length → s.slots[j]? = some x → entP env page x = false) : entI s env page = -1 := by
  have : s.slots.findIdx? (entP env page) = none := by
    rw [List.findIdx?_eq_none_iff]
    intro x hx
    obtain ⟨j, hj, rfl⟩ := List.mem_iff_getElem.1 hx
    exact hno j _ hj (by simp)
  unfold entI
  rw [this]
theorem entI_cases (s : RSt) (env page : Int) : entI s env page = -1 ∨ ∃ (q : Nat) (e : Ent), entI s env page = q ∧ s.slots[q]? = some e ∧ entP env page e = true := by
  unfold entI
  cases h : s.slots.findIdx? (entP env page) with
  | none => exact .inl rfl
  | some i =>
    right
    obtain ⟨hi, hp, _⟩ := List.findIdx?_eq_some_iff_getElem.1 h
    exact ⟨i, s.slots[i], rfl, by simp, hp⟩

/-- That entry gone (an empty slot stays empty). -/
def goneE (env page : Int) (e : Ent) : Ent := if e.env == env && e.page == page then Ent.empty else e
def goneS (s : RSt) (env page : Int) : RSt := { s with slots := s.slots.map (goneE env page) }

section
variable {own : Nat → Nat × Nat} {id : Nat} {w : World} {m : Nat} {s : RSt} {nk : Nat} {vR vB vS vA vK : Value} {bs : List Nat}

set_option maxHeartbeats 2000000 in
set_option maxRecDepth 100000 in
theorem entry_any (h : RefRep own id w m s nk vR vB vS vA vK bs) (hs : s.slots.length ≤ 8) (env page : Int) :
    Calls Tryz.prog 100 #[.pointer (some ⟨m, 0, none⟩), .int .i64 env, .int .i64 page] w fun e w' => e = .returned (.int .i64 (entI s env page)) ∧ Below w.heap.size w w' := by
  obtain ⟨ao, cap, g0, hv, -⟩ := h.rS.view
  have HV : Hid (vS = .slice ao s.slots.length cap) := hv
  clear hv
  go_enter Tryz.func100, Tryz.ntmps100
  go_wp2_with fail
  go_loopg [7] s.slots.length (fun k x wr => ∃ q : Nat, x = .int .i64 q ∧ q + k = s.slots.length ∧ (∀ (j : Nat) (x : Ent), j < q → s.slots[j]? = some x → entP env page x = false) ∧ Below w.heap.size w wr)
  case atStart => exact ⟨0, rfl, by omega, fun j x hj => by omega, Below.refl _ _⟩
  case round =>
    obtain ⟨q, rfl, hk, hno, hbl⟩ := hrel
    have HK : Hid (q + gk = s.slots.length) := hk
    have HN : Hid (∀ (j : Nat) (x : Ent), j < q → s.slots[j]? = some x → entP env page x = false) := hno
    have hq : q ≤ s.slots.length := by omega
    clear hk hno
    have h' := h.below hbl
    have k5 := h'.blk.cell 5
    simp at k5
    rw [HV.out] at k5
    by_cases hlt : q < s.slots.length
    · obtain ⟨e, he⟩ : ∃ e, s.slots[q]? = some e := ⟨s.slots[q], by simp⟩
      obtain ⟨g, cap', hv, -, c0, c1, c2, c3, c4, -⟩ := h'.slot he
      rw [HV.out] at hv
      simp at hv
      obtain ⟨rfl, rfl⟩ := hv
      have HE : Hid (s.slots[q]? = some e) := he
      have step : entP env page e = false → ∀ (j : Nat) (x : Ent), j < q + 1 → s.slots[j]? = some x → entP env page x = false := fun hp j x hj hx => by
        by_cases hjq : j = q
        · subst hjq; rw [he] at hx; simp at hx; rw [← hx]; exact hp
        · exact HN.out j x (by omega) hx
      have HS : Hid (entP env page e = false → ∀ (j : Nat) (x : Ent), j < q + 1 → s.slots[j]? = some x → entP env page x = false) := step
      have hq0 : (0 : Int) ≤ (q : Int) := by omega
      have hq1 : (q : Int) < (s.slots.length : Int) := by omega
      clear he step
      cases hu : e.used
      · have hn := HS.out (by simp [entP, hu])
        have HM : Hid (∀ (j : Nat) (x : Ent), j < q + 1 → s.slots[j]? = some x → entP env page x = false) := hn
        rw [hu] at c0
        clear hn HS hu
        go_wp2_with fail
        go_roundg (gk - 1)
        case measure => have := HK.out; omega
        case rel => exact ⟨q + 1, by go_num, by have := HK.out; omega, HM.out, hbl⟩
      · rw [hu] at c0
        cases h1 : (e.env == env)
        · have hn := HS.out (by simp [entP, hu, h1])
          have HM : Hid (∀ (j : Nat) (x : Ent), j < q + 1 → s.slots[j]? = some x → entP env page x = false) := hn
          clear hn HS hu
          go_wp2_with fail
          go_roundg (gk - 1)
          case measure => have := HK.out; omega
          case rel => exact ⟨q + 1, by go_num, by have := HK.out; omega, HM.out, hbl⟩
        · cases h2 : (e.page == page)
          · have hn := HS.out (by simp [entP, hu, h1, h2])
            have HM : Hid (∀ (j : Nat) (x : Ent), j < q + 1 → s.slots[j]? = some x → entP env page x = false) := hn
            clear hn HS hu
            go_wp2_with fail
            go_roundg (gk - 1)
            case measure => have := HK.out; omega
            case rel => exact ⟨q + 1, by go_num, by have := HK.out; omega, HM.out, hbl⟩
          · have HR : Hid (entI s env page = q) := entI_found HE.out (by simp [entP, hu, h1, h2]) HN.out
            clear HS hu
            go_wp2_with fail
            go_ret
            exact ⟨ret_int' HR.out.symm, hbl⟩
    · obtain rfl : q = s.slots.length := by omega
      go_wp2_with fail
      go_ret
      exact ⟨ret_int' (entI_none HN.out).symm, hbl⟩
end
end Go.Proofs.YtinlkcmdbjcofaaGreat

/-
  The document's Unmap and Map.
-/
namespace Go.Proofs.YtinlkcmdbjcofaaGreat
open Go.RowKit
set_option linter.unusedVariables false
attribute [local go_sem ↓] Go.wp_at_zero Go.wp_at_succ

def unmapR (s : RSt) (env page : Int) : Int × RSt :=
  if rawE s env ≠ 0 then (rawE s env, s) else if page < 0 ∨ 15 < page then (7, s) else (0, goneS s env page)
def mapR (s : RSt) (env page hd : Int) (wt : Bool) (slot : Int) : Int × RSt :=
  if rawE s env ≠ 0 then (rawE s env, s) else if page < 0 ∨ 15 < page then (7, s)
  else if (rightE s env hd).2 ≠ 0 then ((rightE s env hd).2, s) else match s.rights[(rightE s env hd).1.toNat]? with
    | none => (0, s)
    | some r => if wt && !r.wr then (10, s) else if slot < 0 ∨ (s.ns : Int) ≤ slot then (11, s)
      else (0, { goneS s env page with slots := (goneS s env page).slots.set slot.toNat ⟨true, env, page, r.fr, wt⟩ })

section
variable {own : Nat → Nat × Nat} {id : Nat} {w : World} {m : Nat} {s : RSt} {nk : Nat} {vR vB vS vA vK : Value} {bs : List Nat}

set_option maxHeartbeats 2000000 in
set_option maxRecDepth 100000 in
theorem gone_at (h : RefRep own id w m s nk vR vB vS vA vK bs) (hs : s.slots.length ≤ 8) (env page : Int) :
    Calls Tryz.prog 96 #[.pointer (some ⟨m, 0, none⟩), .int .i64 env, .int .i64 page] w fun e w' => e = .returned (.tuple #[]) ∧ RefRep own id w' m (goneS s env page) nk vR vB vS vA vK bs ∧ Touch w.heap.size (fun b => own b = (id, 3)) w w' := by
  obtain ⟨ao, cap, g0, hv, -⟩ := h.rS.view
  have HV : Hid (vS = .slice ao s.slots.length cap) := hv
  clear hv
  go_enter Tryz.func96, Tryz.ntmps96
  go_wp2_with fail
  go_loopg [6] s.slots.length (fun k x wr => ∃ q : Nat, x = .int .i64 q ∧ q + k = s.slots.length ∧ RefRep own id wr m { s with slots := mapTo (goneE env page) s.slots q } nk vR vB vS vA vK bs ∧ Touch w.heap.size (fun b => own b = (id, 3)) w wr)
  case atStart => exact ⟨0, rfl, by omega, by rw [mapTo_zero]; exact h, Touch.refl _ _ _⟩
  case round =>
    obtain ⟨q, rfl, hk, h', ht⟩ := hrel
    have HK : Hid (q + gk = s.slots.length) := hk
    have hq : q ≤ s.slots.length := by omega
    clear hk
    have hsl := mapTo_len (goneE env page) s.slots q
    have k5 := h'.blk.cell 5
    simp at k5
    rw [HV.out] at k5
    by_cases hlt : q < s.slots.length
    · obtain ⟨e, he⟩ : ∃ e, s.slots[q]? = some e := ⟨s.slots[q], by simp⟩
      have he' : (mapTo (goneE env page) s.slots q)[q]? = some e := (mapTo_at _ _ _).trans he
      obtain ⟨g, cap', hv, hgt, c0, c1, c2, c3, c4, hfz⟩ := h'.slot he'
      have hst := h'.setS (g := g) (cap := cap') hv q (by simp only [hsl]; exact hlt) Ent.empty
      rw [HV.out] at hv
      simp [hsl] at hv
      obtain ⟨rfl, rfl⟩ := hv
      have HS : Hid (mapTo (goneE env page) s.slots (q + 1) = (mapTo (goneE env page) s.slots q).set q (goneE env page e)) := mapTo_succ _ _ _ _ he
      have HQ : Hid (goneE env page e = e → mapTo (goneE env page) s.slots (q + 1) = mapTo (goneE env page) s.slots q) := mapTo_same _ _ _ _ he
      have z0 := hfz (q * 5)
      have z1 := hfz (q * 5 + 1)
      have z2 := hfz (q * 5 + 2)
      have z3 := hfz (q * 5 + 3)
      have z4 := hfz (q * 5 + 4)
      have hq0 : (0 : Int) ≤ (q : Int) := by omega
      have hq1 : (q : Int) < (s.slots.length : Int) := by omega
      have hin : own g = (id, 3) := hgt
      clear he he' hsl hfz
      cases h1 : (e.env == env)
      · have HW : Hid (mapTo (goneE env page) s.slots (q + 1) = mapTo (goneE env page) s.slots q) := HQ.out (by simp [goneE, h1])
        clear HS HQ
        go_wp2_with fail
        go_roundg (gk - 1)
        case measure => have := HK.out; omega
        case rel => exact ⟨q + 1, by go_num, by have := HK.out; omega, by rw [HW.out]; exact h', ht⟩
      · cases h2 : (e.page == page)
        · have HW : Hid (mapTo (goneE env page) s.slots (q + 1) = mapTo (goneE env page) s.slots q) := HQ.out (by simp [goneE, h2])
          clear HS HQ
          go_wp2_with fail
          go_roundg (gk - 1)
          case measure => have := HK.out; omega
          case rel => exact ⟨q + 1, by go_num, by have := HK.out; omega, by rw [HW.out]; exact h', ht⟩
        · have HW : Hid (mapTo (goneE env page) s.slots (q + 1) = (mapTo (goneE env page) s.slots q).set q Ent.empty) := by
            have := HS.out
            rw [show goneE env page e = Ent.empty by simp [goneE, h1, h2]] at this
            exact this
          clear HS HQ
          go_wp2_with fail
          go_roundg (gk - 1)
          case measure => have := HK.out; omega
          case rel => exact ⟨q + 1, by go_num, by have := HK.out; omega, by rw [HW.out]; exact hst, ((((ht.setCell (.inl hin) _).setCell (.inl hin) _).setCell (.inl hin) _).setCell (.inl hin) _).setCell (.inl hin) _⟩
    · obtain rfl : q = s.slots.length := by omega
      clear hsl
      go_wp2_with fail
      go_end0
      rw [mapTo_all] at h'
      exact ⟨rfl, h', ht⟩

theorem gone_any (h : RefRep own id w m s nk vR vB vS vA vK bs) (hs : s.slots.length ≤ 8) (env page : Int) :
    Calls Tryz.prog 96 #[.pointer (some ⟨m, 0, none⟩), .int .i64 env, .int .i64 page] w fun e w' => e = .returned (.tuple #[]) ∧ RefNext own id w m nk w' (goneS s env page) := by
  refine (gone_at h hs env page).mono ?_
  rintro e w' ⟨rfl, h1, h2⟩
  exact ⟨rfl, own, _, _, _, _, _, _, h1, fun _ _ => rfl, h2.mono (Nat.le_refl _) (fun b _ e => by rw [e])⟩

set_option maxHeartbeats 2000000 in
set_option maxRecDepth 100000 in
theorem runmap_any (h : RefRep own id w m s nk vR vB vS vA vK bs) (hw : RWf s nk) (env page : Int) :
    Calls Tryz.prog 45 #[.pointer (some ⟨m, 0, none⟩), .int .i64 env, .int .i64 page] w fun e w' => e = .returned (.int .i64 (unmapR s env page).1) ∧ RefNext own id w m nk w' (unmapR s env page).2 := by
  rcases rawE_cases s env with ⟨y, hr, hy⟩ | ⟨hr, -⟩
  · have hy0 : (y != 0) = true := by rcases hy with rfl | rfl <;> rfl
    have HA : Hid (unmapR s env page = (y, s)) := by rcases hy with rfl | rfl <;> simp [Hid, unmapR, hr]
    clear hy
    go_enter Tryz.func45, Tryz.ntmps45
    go_wp2_with fail
    refine (raw_any h hw.al hw.ne hw.nk env).mono ?_
    rintro e w2 ⟨rfl, rfl⟩
    rw [hr]
    clear hr
    go_wp2_with fail
    go_ret
    exact ⟨ret_int' (by rw [HA.out]), by rw [HA.out]; exact RefNext.refl h⟩
  · have HA : Hid (unmapR s env page = if page < 0 ∨ 15 < page then (7, s) else (0, goneS s env page)) := by simp [Hid, unmapR, hr]
    go_enter Tryz.func45, Tryz.ntmps45
    go_wp2_with fail
    refine (raw_any h hw.al hw.ne hw.nk env).mono ?_
    rintro e w2 ⟨rfl, rfl⟩
    rw [hr]
    clear hr
    by_cases h0 : page < 0
    · rw [if_pos (.inl h0)] at HA
      go_wp2_with fail
      go_ret
      exact ⟨ret_int' (by rw [HA.out]), by rw [HA.out]; exact RefNext.refl h⟩
    · by_cases h1 : 15 < page
      · rw [if_pos (.inr h1)] at HA
        go_wp2_with fail
        go_ret
        exact ⟨ret_int' (by rw [HA.out]), by rw [HA.out]; exact RefNext.refl h⟩
      · rw [if_neg (by omega)] at HA
        go_wp2_with fail
        refine (gone_any h hw.sl env page).mono ?_
        rintro e w3 ⟨rfl, hn⟩
        go_wp2_with fail
        go_ret
        exact ⟨ret_int' (by rw [HA.out]), by rw [HA.out]; exact hn⟩
end
end Go.Proofs.YtinlkcmdbjcofaaGreat

/-
  The document's Map.
-/
namespace Go.Proofs.YtinlkcmdbjcofaaGreat
open Go.RowKit
set_option linter.unusedVariables false
attribute [local go_sem ↓] Go.wp_at_zero Go.wp_at_succ

section
variable {own : Nat → Nat × Nat} {id : Nat} {w : World} {m : Nat} {s : RSt} {nk : Nat} {vR vB vS vA vK : Value} {bs : List Nat}

set_option maxHeartbeats 2000000 in
set_option maxRecDepth 100000 in
theorem rmap_any (h : RefRep own id w m s nk vR vB vS vA vK bs) (hw : RWf s nk) (hns : s.slots.length = s.ns) (env page hd : Int) (wt : Bool) (slot : Int) (hd0 : -9223372036854775808 ≤ hd) :
    Calls Tryz.prog 43 #[.pointer (some ⟨m, 0, none⟩), .int .i64 env, .int .i64 page, .int .i64 hd, .bool wt, .int .i64 slot] w fun e w' => e = .returned (.int .i64 (mapR s env page hd wt slot).1) ∧ RefNext own id w m nk w' (mapR s env page hd wt slot).2 := by
  have hm : s.rights.length ≤ 4611686018427387904 := by have := hw.size; omega
  rcases rawE_cases s env with ⟨y, hr, hy⟩ | ⟨hr, -⟩
  · have hy0 : (y != 0) = true := by rcases hy with rfl | rfl <;> rfl
    have HA : Hid (mapR s env page hd wt slot = (y, s)) := by rcases hy with rfl | rfl <;> simp [Hid, mapR, hr]
    clear hy
    go_enter Tryz.func43, Tryz.ntmps43
    go_wp2_with fail
    refine (raw_any h hw.al hw.ne hw.nk env).mono ?_
    rintro e w2 ⟨rfl, rfl⟩
    rw [hr]
    clear hr
    go_wp2_with fail
    go_ret
    exact ⟨ret_int' (by rw [HA.out]), by rw [HA.out]; exact RefNext.refl h⟩
  by_cases hp : page < 0 ∨ 15 < page
  · have HA : Hid (mapR s env page hd wt slot = (7, s)) := by simp [Hid, mapR, hr, hp]
    go_enter Tryz.func43, Tryz.ntmps43
    go_wp2_with fail
    refine (raw_any h hw.al hw.ne hw.nk env).mono ?_
    rintro e w2 ⟨rfl, rfl⟩
    rw [hr]
    clear hr
    rcases hp with hp | hp
    · go_wp2_with fail
      go_ret
      exact ⟨ret_int' (by rw [HA.out]), by rw [HA.out]; exact RefNext.refl h⟩
    · have hp' : ¬ page < 0 := by omega
      go_wp2_with fail
      go_ret
      exact ⟨ret_int' (by rw [HA.out]), by rw [HA.out]; exact RefNext.refl h⟩
  have hp0 : ¬ page < 0 := by omega
  have hp1 : ¬ 15 < page := by omega
  rcases rightE_cases s env hd with ⟨x, hx, hx2⟩ | ⟨j, r, hx, hrr, -, -, -, -⟩
  · have hx0 : (x != 0) = true := by rcases hx2 with rfl | rfl | rfl <;> rfl
    have HA : Hid (mapR s env page hd wt slot = (x, s)) := by rcases hx2 with rfl | rfl | rfl <;> simp [Hid, mapR, hr, hp, hx]
    clear hx2
    go_enter Tryz.func43, Tryz.ntmps43
    go_wp2_with fail
    refine (raw_any h hw.al hw.ne hw.nk env).mono ?_
    rintro e w2 ⟨rfl, rfl⟩
    rw [hr]
    clear hr hp
    go_wp2_with fail
    refine (right_any h hw.al hw.ne hw.nk hw.ord hm env hd hd0).mono ?_
    rintro e w3 ⟨rfl, rfl⟩
    rw [hx]
    clear hx
    go_wp2_with fail
    go_ret
    exact ⟨ret_int' (by rw [HA.out]), by rw [HA.out]; exact RefNext.refl h⟩
  have hj := (List.getElem?_eq_some_iff.1 hrr).1
  have HA : Hid (mapR s env page hd wt slot = if wt && !r.wr then (10, s) else if slot < 0 ∨ (s.ns : Int) ≤ slot then (11, s)
      else (0, { goneS s env page with slots := (goneS s env page).slots.set slot.toNat ⟨true, env, page, r.fr, wt⟩ })) := by simp [Hid, mapR, hr, hp, hx, hrr]
  obtain ⟨g, cap, hv, _, c0, c1, c2, c3, _, _, _⟩ := h.right hrr
  have k3 := h.blk.cell 3
  have k1 := h.blk.cell 1
  simp at k3 k1
  rw [hv] at k3
  have hi2 : (j : Int) < (s.rights.length : Int) := by omega
  clear hv hrr hp
  obtain ⟨own2, hown⟩ : ∃ own2 : Nat → Nat × Nat, own2 = fun x => if x < w.heap.size then own x else (id + 1, 0) := ⟨_, rfl⟩
  have o1 : ∀ x, x < w.heap.size → own2 x = own x := fun x hx => by rw [hown]; exact if_pos hx
  have o2 : (own2 w.heap.size).1 ≠ id := by rw [hown]; simp
  clear hown
  have hba : Below w.heap.size w (w.alloc (.cells [.int .i64 r.h, .int .i64 r.env, .int .i64 r.fr, .bool r.wr].toArray 111)) := (Below.refl _ _).alloc (Nat.le_refl _) _
  have h2 := h.of (own' := own2) o1 (fun b hb _ => hba.block b hb)
  have hbk := Blk.new w [.int .i64 r.h, .int .i64 r.env, .int .i64 r.fr, .bool r.wr] 111
  have hml := h.blk.lt
  go_enter Tryz.func43, Tryz.ntmps43
  go_wp2_with fail
  refine (raw_any h hw.al hw.ne hw.nk env).mono ?_
  rintro e w2 ⟨rfl, hw2⟩
  subst w2
  rw [hr]
  clear hr
  go_wp2_with fail
  refine (right_any h hw.al hw.ne hw.nk hw.ord hm env hd hd0).mono ?_
  rintro e w3 ⟨rfl, hw3⟩
  subst w3
  rw [hx]
  clear hx
  cases hq : (wt && !r.wr)
  · rw [hq] at HA
    simp only [Bool.false_eq_true, if_false] at HA
    have hcase : wt = false ∨ (wt = true ∧ r.wr = true) := by
      cases hwt : wt <;> cases hrw : r.wr <;> simp_all
    clear hq
    by_cases hs0 : slot < 0
    · rw [if_pos (.inl hs0)] at HA
      rcases hcase with rfl | ⟨rfl, hrw⟩
      · go_wp2_with fail
        go_ret
        exact ⟨ret_int' (by rw [HA.out]), by rw [HA.out]; exact RefNext.of_below h hba⟩
      · rw [hrw] at c3 hba
        go_wp2_with fail
        go_ret
        exact ⟨ret_int' (by rw [HA.out]), by rw [HA.out]; exact RefNext.of_below h hba⟩
    · by_cases hs1 : (s.ns : Int) ≤ slot
      · rw [if_pos (.inr hs1)] at HA
        rcases hcase with rfl | ⟨rfl, hrw⟩
        · go_wp2_with fail
          go_ret
          exact ⟨ret_int' (by rw [HA.out]), by rw [HA.out]; exact RefNext.of_below h hba⟩
        · rw [hrw] at c3 hba
          go_wp2_with fail
          go_ret
          exact ⟨ret_int' (by rw [HA.out]), by rw [HA.out]; exact RefNext.of_below h hba⟩
      · rw [if_neg (by omega)] at HA
        obtain ⟨q, rfl⟩ : ∃ q : Nat, slot = q := ⟨slot.toNat, by omega⟩
        simp only [Int.toNat_natCast] at HA
        have hql : q < s.slots.length := by omega
        rcases hcase with rfl | ⟨rfl, hrw⟩
        · go_wp2_with fail
          refine (gone_any h2 hw.sl env page).mono ?_
          rintro e w4 ⟨rfl, own4, vR4, vB4, vS4, vA4, vK4, bs4, h4, ho4, ht4⟩
          have d2 := (hbk.of (ht4.block _ (by simp) o2)).cell 2
          simp at d2
          obtain ⟨e0, he0⟩ : ∃ e0, (goneS s env page).slots[q]? = some e0 := ⟨(goneS s env page).slots[q]'(by simp [goneS]; omega), by simp⟩
          obtain ⟨g4, cap4, hv4, hgt4, x0, x1, x2, x3, x4, hfz⟩ := h4.slot he0
          have hst := h4.setS hv4 q (by simp [goneS]; omega) ⟨true, env, page, r.fr, false⟩
          have k5 := h4.blk.cell 5
          simp at k5
          rw [hv4] at k5
          simp [goneS] at k5
          have hl4 : w.heap.size < (w.alloc (.cells [.int .i64 r.h, .int .i64 r.env, .int .i64 r.fr, .bool r.wr].toArray 111)).heap.size := by simp
          have hne : g4 ≠ w.heap.size := fun e => by
            have := ho4 w.heap.size hl4
            rw [← e, hgt4] at this
            rw [← e, ← this] at o2
            exact o2 rfl
          have hne' : w.heap.size ≠ g4 := fun e => hne e.symm
          have hgm : g4 ≠ m := fun e => by have := h4.tm; rw [← e, hgt4] at this; simp at this
          have hgm' : m ≠ g4 := fun e => hgm e.symm
          have hin : (own g4).1 = id ∨ w.heap.size ≤ g4 := by
            by_cases hl : g4 < w.heap.size
            · left
              rw [← o1 g4 hl, ← ho4 g4 (by omega), hgt4]
            · exact .inr (by omega)
          have z0 := hfz (q * 5)
          have z1 := hfz (q * 5 + 1)
          have z2 := hfz (q * 5 + 2)
          have z3 := hfz (q * 5 + 3)
          have z4 := hfz (q * 5 + 4)
          have hq0 : (0 : Int) ≤ (q : Int) := by omega
          have hq1 : (q : Int) < (s.slots.length : Int) := by omega
          have ht5 : Touch w.heap.size (fun b => (own b).1 = id) w w4 := (Touch.of_below hba _).trans (ht4.mono (by simp) (fun k hk h => by rw [← o1 k hk]; exact h))
          have ho5 : ∀ x, x < w.heap.size → own4 x = own x := fun x hx => (ho4 x (by omega)).trans (o1 x hx)
          clear hfz he0 ht4 ho4 hv4 h4
          go_wp2_with fail
          go_region_held3 (fun w' => w'.cell? ⟨m, 5, none⟩ = some (.slice (some ⟨g4, 0, none⟩) s.slots.length cap4) ∧ w'.cell? ⟨w.heap.size, 2, none⟩ = some (.int .i64 r.fr)) (go_keep) (fail)
          go_wp2_with fail
          go_ret
          exact ⟨ret_int' (by rw [HA.out]), by rw [HA.out]; exact ⟨own4, _, _, _, _, _, _, hst.below (Below.refl _ _).drew, ho5, (((((ht5.setCell hin _).setCell hin _).setCell hin _).setCell hin _).setCell hin _).drew⟩⟩
        · rw [hrw] at c3 hba h2 hbk
          go_wp2_with fail
          refine (gone_any h2 hw.sl env page).mono ?_
          rintro e w4 ⟨rfl, own4, vR4, vB4, vS4, vA4, vK4, bs4, h4, ho4, ht4⟩
          have d2 := (hbk.of (ht4.block _ (by simp) o2)).cell 2
          simp at d2
          obtain ⟨e0, he0⟩ : ∃ e0, (goneS s env page).slots[q]? = some e0 := ⟨(goneS s env page).slots[q]'(by simp [goneS]; omega), by simp⟩
          obtain ⟨g4, cap4, hv4, hgt4, x0, x1, x2, x3, x4, hfz⟩ := h4.slot he0
          have hst := h4.setS hv4 q (by simp [goneS]; omega) ⟨true, env, page, r.fr, true⟩
          have k5 := h4.blk.cell 5
          simp at k5
          rw [hv4] at k5
          simp [goneS] at k5
          have hl4 : w.heap.size < (w.alloc (.cells [.int .i64 r.h, .int .i64 r.env, .int .i64 r.fr, .bool true].toArray 111)).heap.size := by simp
          have hne : g4 ≠ w.heap.size := fun e => by
            have := ho4 w.heap.size hl4
            rw [← e, hgt4] at this
            rw [← e, ← this] at o2
            exact o2 rfl
          have hne' : w.heap.size ≠ g4 := fun e => hne e.symm
          have hgm : g4 ≠ m := fun e => by have := h4.tm; rw [← e, hgt4] at this; simp at this
          have hgm' : m ≠ g4 := fun e => hgm e.symm
          have hin : (own g4).1 = id ∨ w.heap.size ≤ g4 := by
            by_cases hl : g4 < w.heap.size
            · left
              rw [← o1 g4 hl, ← ho4 g4 (by omega), hgt4]
            · exact .inr (by omega)
          have z0 := hfz (q * 5)
          have z1 := hfz (q * 5 + 1)
          have z2 := hfz (q * 5 + 2)
          have z3 := hfz (q * 5 + 3)
          have z4 := hfz (q * 5 + 4)
          have hq0 : (0 : Int) ≤ (q : Int) := by omega
          have hq1 : (q : Int) < (s.slots.length : Int) := by omega
          have ht5 : Touch w.heap.size (fun b => (own b).1 = id) w w4 := (Touch.of_below hba _).trans (ht4.mono (by simp) (fun k hk h => by rw [← o1 k hk]; exact h))
          have ho5 : ∀ x, x < w.heap.size → own4 x = own x := fun x hx => (ho4 x (by omega)).trans (o1 x hx)
          clear hfz he0 ht4 ho4 hv4 h4
          go_wp2_with fail
          go_region_held3 (fun w' => w'.cell? ⟨m, 5, none⟩ = some (.slice (some ⟨g4, 0, none⟩) s.slots.length cap4) ∧ w'.cell? ⟨w.heap.size, 2, none⟩ = some (.int .i64 r.fr)) (go_keep) (fail)
          go_wp2_with fail
          go_ret
          exact ⟨ret_int' (by rw [HA.out]), by rw [HA.out]; exact ⟨own4, _, _, _, _, _, _, hst.below (Below.refl _ _).drew, ho5, (((((ht5.setCell hin _).setCell hin _).setCell hin _).setCell hin _).setCell hin _).drew⟩⟩
  · rw [hq] at HA
    simp only [if_true] at HA
    simp at hq
    obtain ⟨rfl, hrw⟩ := hq
    rw [hrw] at c3 hba
    go_wp2_with fail
    go_ret
    exact ⟨ret_int' (by rw [HA.out]), by rw [HA.out]; exact RefNext.of_below h hba⟩
end
end Go.Proofs.YtinlkcmdbjcofaaGreat

/-
  The document's Load and Store.
-/
namespace Go.Proofs.YtinlkcmdbjcofaaGreat
open Go.RowKit
set_option linter.unusedVariables false
attribute [local go_sem ↓] Go.wp_at_zero Go.wp_at_succ

def byteAt (s : RSt) (f a : Int) : Int := ((s.bytes[f.toNat]?.getD [])[a.toNat]?).getD 0
def putByte (s : RSt) (f a v : Int) : RSt := { s with bytes := s.bytes.set f.toNat ((s.bytes[f.toNat]?.getD []).set a.toNat v) }
def loadR (s : RSt) (env page a : Int) : Int × Int :=
  if rawE s env ≠ 0 then (0, rawE s env) else if page < 0 ∨ 15 < page then (0, 7) else if a < 0 ∨ 3 < a then (0, 8)
  else if entI s env page < 0 then (0, 13) else match s.slots[(entI s env page).toNat]? with
    | none => (0, 13)
    | some e => (byteAt s e.fr a, 0)
def storeR (s : RSt) (env page a v : Int) : Int × RSt :=
  if rawE s env ≠ 0 then (rawE s env, s) else if page < 0 ∨ 15 < page then (7, s) else if a < 0 ∨ 3 < a then (8, s) else if v < 0 ∨ 255 < v then (6, s)
  else if entI s env page < 0 then (13, s) else match s.slots[(entI s env page).toNat]? with
    | none => (13, s)
    | some e => if !e.wr then (14, s) else (0, putByte s e.fr a v)

section
variable {own : Nat → Nat × Nat} {id : Nat} {w : World} {m : Nat} {s : RSt} {nk : Nat} {vR vB vS vA vK : Value} {bs : List Nat}

/-- Each entry's frame is one of the machine's. -/
def SlotFr (s : RSt) : Prop := ∀ (i : Nat) (e : Ent), s.slots[i]? = some e → e.used = true → 0 ≤ e.fr ∧ e.fr < s.nf

/-- The cells of frame f. -/
theorem RefRep.frame (h : RefRep own id w m s nk vR vB vS vA vK bs) {f : Nat} {l : List Int} (hl : s.bytes[f]? = some l) :
    ∃ g cap b, vB = .slice (some ⟨g, 0, none⟩) s.bytes.length cap ∧ own g = (id, 2) ∧ w.cell? ⟨g, f, none⟩ = some (.slice (some ⟨b, 0, none⟩) 4 4) ∧ bs[f]? = some b ∧ l.length = 4 ∧ Blk w b (l.map (.int .i64)) 3 ∧ own b = (id, 6 + 2 * f) := by
  have hf := (List.getElem?_eq_some_iff.1 hl).1
  obtain ⟨g, cap, hv, hc, _⟩ := h.rB.form (by omega)
  obtain ⟨b, h1, h2, h3, h4⟩ := h.rI f l hl
  refine ⟨g, cap, b, hv, h.tB g (by rw [hv]; rfl), ?_, h1, h2, h3, h4⟩
  rw [hc f (by omega), List.getElem?_map, h1]
  rfl

theorem RefRep.setByte (h : RefRep own id w m s nk vR vB vS vA vK bs) {f b a : Nat} {l : List Int} (hl : s.bytes[f]? = some l) (hb : bs[f]? = some b) (hk : Blk w b (l.map (.int .i64)) 3) (ht : own b = (id, 6 + 2 * f)) (v : Int) :
    RefRep own id (w.setCell ⟨b, a, none⟩ (.int .i64 v)) m { s with bytes := s.bytes.set f (l.set a v) } nk vR vB vS vA vK bs := by
  have hf := (List.getElem?_eq_some_iff.1 hl).1
  have hne : ∀ {u : Value} {j : Nat}, j < 6 → Tg own u (id, j) → u.ownBlock ≠ some b := fun hj hu e => by
    have := hu b e
    rw [ht] at this
    simp at this
    omega
  refine ⟨h.blk.other _ (fun e => by have := h.tm; simp at e; rw [e, ht] at this; simp at this), h.rR.other _ (hne (by omega) h.tR), ?_, ?_, h.rS.other _ (hne (by omega) h.tS), h.rA.other _ (hne (by omega) h.tA), h.rK.of h.tK (fun _ _ _ => rfl) (fun x hx e => Below.heap_setCell _ _ _ _ (fun e2 => by simp at e2; rw [e2, ht] at e; simp at e; omega)) (fun x hx j e => Below.heap_setCell _ _ _ _ (fun e2 => by simp at e2; rw [e2, ht] at e; simp at e; omega)), h.tm, h.tR, h.tB, h.tS, h.tA, h.tK⟩
  · have := h.rB.other (a := ⟨b, a, none⟩) (.int .i64 v) (hne (by omega) h.tB)
    simpa using this
  · intro i l' hl'
    by_cases hi : i = f
    · subst hi
      rw [List.getElem?_set_self hf] at hl'
      simp at hl'
      subst hl'
      obtain ⟨b', h1, h2, h3, h4⟩ := h.rI i l hl
      rw [hb] at h1
      simp at h1
      subst h1
      refine ⟨b, hb, by simpa using h2, ?_, h4⟩
      rw [List.map_set]
      exact h3.set _ _
    · simp only at hl'
      rw [List.getElem?_set_ne (fun e => hi e.symm)] at hl'
      obtain ⟨b', h1, h2, h3, h4⟩ := h.rI i l' hl'
      refine ⟨b', h1, h2, h3.other _ (fun e => ?_), h4⟩
      simp at e
      rw [e, ht] at h4
      simp at h4
      omega

set_option maxHeartbeats 2000000 in
set_option maxRecDepth 100000 in
theorem rload_any (h : RefRep own id w m s nk vR vB vS vA vK bs) (hw : RWf s nk) (hfr : SlotFr s) (env page a : Int) :
    Calls Tryz.prog 47 #[.pointer (some ⟨m, 0, none⟩), .int .i64 env, .int .i64 page, .int .i64 a] w fun e w' => e = .returned (.tuple #[.int .i64 (loadR s env page a).1, .int .i64 (loadR s env page a).2]) ∧ Below w.heap.size w w' := by
  rcases rawE_cases s env with ⟨y, hr, hy⟩ | ⟨hr, -⟩
  · have hy0 : (y != 0) = true := by rcases hy with rfl | rfl <;> rfl
    have HA : Hid (loadR s env page a = (0, y)) := by rcases hy with rfl | rfl <;> simp [Hid, loadR, hr]
    clear hy
    go_enter Tryz.func47, Tryz.ntmps47
    go_wp2_with fail
    refine (raw_any h hw.al hw.ne hw.nk env).mono ?_
    rintro e w2 ⟨rfl, rfl⟩
    rw [hr]
    clear hr
    go_wp2_with fail
    go_ret2
    exact ⟨ret_int2 (by rw [HA.out]) (by rw [HA.out]), Below.refl _ _⟩
  have HA : Hid (loadR s env page a = if page < 0 ∨ 15 < page then ((0 : Int), (7 : Int)) else if a < 0 ∨ 3 < a then (0, 8)
    else if entI s env page < 0 then (0, 13) else match s.slots[(entI s env page).toNat]? with | none => (0, 13) | some e => (byteAt s e.fr a, 0)) := by simp [Hid, loadR, hr]
  go_enter Tryz.func47, Tryz.ntmps47
  go_wp2_with fail
  refine (raw_any h hw.al hw.ne hw.nk env).mono ?_
  rintro e w2 ⟨rfl, hw2⟩
  subst w2
  rw [hr]
  clear hr
  go_wp2_with fail
  refine (entry_any h hw.sl env page).mono ?_
  rintro e w3 ⟨rfl, hb3⟩
  by_cases h0 : page < 0
  · rw [if_pos (.inl h0)] at HA
    go_wp2_with fail
    go_ret2
    exact ⟨ret_int2 (by rw [HA.out]) (by rw [HA.out]), hb3⟩
  by_cases h1 : 15 < page
  · rw [if_pos (.inr h1)] at HA
    go_wp2_with fail
    go_ret2
    exact ⟨ret_int2 (by rw [HA.out]) (by rw [HA.out]), hb3⟩
  rw [if_neg (by omega)] at HA
  by_cases h2 : a < 0
  · rw [if_pos (.inl h2)] at HA
    go_wp2_with fail
    go_ret2
    exact ⟨ret_int2 (by rw [HA.out]) (by rw [HA.out]), hb3⟩
  by_cases h3 : 3 < a
  · rw [if_pos (.inr h3)] at HA
    go_wp2_with fail
    go_ret2
    exact ⟨ret_int2 (by rw [HA.out]) (by rw [HA.out]), hb3⟩
  rw [if_neg (by omega)] at HA
  rcases entI_cases s env page with hi | ⟨q, e, hi, he, hpe⟩
  · rw [hi] at HA ⊢
    rw [if_pos (by omega)] at HA
    clear hi
    go_wp2_with fail
    go_ret2
    exact ⟨ret_int2 (by rw [HA.out]) (by rw [HA.out]), hb3⟩
  · rw [hi] at HA ⊢
    rw [if_neg (by omega)] at HA
    simp only [Int.toNat_natCast, he] at HA
    have hu : e.used = true := by simp [entP] at hpe; exact hpe.1
    obtain ⟨f0, f1⟩ := hfr q e he hu
    obtain ⟨f, hf⟩ : ∃ f : Nat, e.fr = f := ⟨e.fr.toNat, by omega⟩
    obtain ⟨j, rfl⟩ : ∃ j : Nat, a = j := ⟨a.toNat, by omega⟩
    have hfl : f < s.bytes.length := by rw [hw.by_]; omega
    obtain ⟨l, hl⟩ : ∃ l, s.bytes[f]? = some l := ⟨s.bytes[f], by simp⟩
    have h3' := h.below hb3
    obtain ⟨g, cap, hv, hgt, c0, c1, c2, c3, c4, -⟩ := h3'.slot he
    obtain ⟨gB, capB, b, hvB, -, cB, -, hl4, hbk, -⟩ := h3'.frame hl
    obtain ⟨x, hx⟩ : ∃ x, l[j]? = some x := ⟨l[j]'(by omega), by simp⟩
    have cb : w3.cell? ⟨b, j, none⟩ = some (.int .i64 x) := by rw [hbk.cell, List.getElem?_map, hx]; rfl
    have hby : byteAt s e.fr (j : Int) = x := by simp [byteAt, hf, hl, hx]
    rw [hby] at HA
    rw [hf] at c3
    have k5 := h3'.blk.cell 5
    have k4 := h3'.blk.cell 4
    simp at k4 k5
    rw [hv] at k5
    rw [hvB] at k4
    have hq0 : (0 : Int) ≤ (q : Int) := by omega
    have hql := (List.getElem?_eq_some_iff.1 he).1
    have hq1 : (q : Int) < (s.slots.length : Int) := by omega
    have hq2 : ¬ ((q : Int) < 0) := by omega
    have hf0 : (0 : Int) ≤ (f : Int) := by omega
    have hf1 : (f : Int) < (s.bytes.length : Int) := by omega
    have hj0 : (0 : Int) ≤ (j : Int) := by omega
    have hj1 : (j : Int) < 4 := by omega
    clear hi he hpe hf hl hv hvB hbk hx hby hl4
    go_wp2_with fail
    go_quiet (fail)
    go_wp2_with fail
    go_ret2
    exact ⟨ret_int2 (by rw [HA.out]) (by rw [HA.out]), below_drewN hb3 _⟩
end
end Go.Proofs.YtinlkcmdbjcofaaGreat

/-
  The document's Store.
-/
namespace Go.Proofs.YtinlkcmdbjcofaaGreat
open Go.RowKit
set_option linter.unusedVariables false
attribute [local go_sem ↓] Go.wp_at_zero Go.wp_at_succ

section
variable {own : Nat → Nat × Nat} {id : Nat} {w : World} {m : Nat} {s : RSt} {nk : Nat} {vR vB vS vA vK : Value} {bs : List Nat}

set_option maxHeartbeats 2000000 in
set_option maxRecDepth 100000 in
theorem rstore_any (h : RefRep own id w m s nk vR vB vS vA vK bs) (hw : RWf s nk) (hfr : SlotFr s) (env page a v : Int) :
    Calls Tryz.prog 49 #[.pointer (some ⟨m, 0, none⟩), .int .i64 env, .int .i64 page, .int .i64 a, .int .i64 v] w fun e w' => e = .returned (.int .i64 (storeR s env page a v).1) ∧ RefNext own id w m nk w' (storeR s env page a v).2 := by
  rcases rawE_cases s env with ⟨y, hr, hy⟩ | ⟨hr, -⟩
  · have hy0 : (y != 0) = true := by rcases hy with rfl | rfl <;> rfl
    have HA : Hid (storeR s env page a v = (y, s)) := by rcases hy with rfl | rfl <;> simp [Hid, storeR, hr]
    clear hy
    go_enter Tryz.func49, Tryz.ntmps49
    go_wp2_with fail
    refine (raw_any h hw.al hw.ne hw.nk env).mono ?_
    rintro e w2 ⟨rfl, rfl⟩
    rw [hr]
    clear hr
    go_wp2_with fail
    go_ret
    exact ⟨ret_int' (by rw [HA.out]), by rw [HA.out]; exact RefNext.refl h⟩
  have HA : Hid (storeR s env page a v = if page < 0 ∨ 15 < page then ((7 : Int), s) else if a < 0 ∨ 3 < a then (8, s) else if v < 0 ∨ 255 < v then (6, s)
    else if entI s env page < 0 then (13, s) else match s.slots[(entI s env page).toNat]? with | none => (13, s) | some e => if !e.wr then (14, s) else (0, putByte s e.fr a v)) := by unfold Hid storeR; rw [if_neg (by rw [hr]; simp)]; first | done | rfl
  go_enter Tryz.func49, Tryz.ntmps49
  go_wp2_with fail
  refine (raw_any h hw.al hw.ne hw.nk env).mono ?_
  rintro e w2 ⟨rfl, hw2⟩
  subst w2
  rw [hr]
  clear hr
  go_wp2_with fail
  refine (entry_any h hw.sl env page).mono ?_
  rintro e w3 ⟨rfl, hb3⟩
  have hn3 : RefNext own id w m nk w3 s := RefNext.of_below h hb3
  by_cases h0 : page < 0
  · rw [if_pos (.inl h0)] at HA
    go_wp2_with fail
    go_ret
    exact ⟨ret_int' (by rw [HA.out]), by rw [HA.out]; exact hn3⟩
  by_cases h1 : 15 < page
  · rw [if_pos (.inr h1)] at HA
    go_wp2_with fail
    go_ret
    exact ⟨ret_int' (by rw [HA.out]), by rw [HA.out]; exact hn3⟩
  rw [if_neg (by omega)] at HA
  by_cases h2 : a < 0
  · rw [if_pos (.inl h2)] at HA
    go_wp2_with fail
    go_ret
    exact ⟨ret_int' (by rw [HA.out]), by rw [HA.out]; exact hn3⟩
  by_cases h3 : 3 < a
  · rw [if_pos (.inr h3)] at HA
    go_wp2_with fail
    go_ret
    exact ⟨ret_int' (by rw [HA.out]), by rw [HA.out]; exact hn3⟩
  rw [if_neg (by omega)] at HA
  by_cases h4 : v < 0
  · rw [if_pos (.inl h4)] at HA
    go_wp2_with fail
    go_ret
    exact ⟨ret_int' (by rw [HA.out]), by rw [HA.out]; exact hn3⟩
  by_cases h5 : 255 < v
  · rw [if_pos (.inr h5)] at HA
    go_wp2_with fail
    go_ret
    exact ⟨ret_int' (by rw [HA.out]), by rw [HA.out]; exact hn3⟩
  rw [if_neg (by omega)] at HA
  rcases entI_cases s env page with hi | ⟨q, e, hi, he, hpe⟩
  · rw [hi] at HA ⊢
    rw [if_pos (by omega)] at HA
    clear hi
    go_wp2_with fail
    go_ret
    exact ⟨ret_int' (by rw [HA.out]), by rw [HA.out]; exact hn3⟩
  · rw [hi] at HA ⊢
    rw [if_neg (by omega)] at HA
    simp only [Int.toNat_natCast, he] at HA
    have hu : e.used = true := by simp [entP] at hpe; exact hpe.1
    obtain ⟨f0, f1⟩ := hfr q e he hu
    obtain ⟨f, hf⟩ : ∃ f : Nat, e.fr = f := ⟨e.fr.toNat, by omega⟩
    obtain ⟨j, rfl⟩ : ∃ j : Nat, a = j := ⟨a.toNat, by omega⟩
    have hfl : f < s.bytes.length := by rw [hw.by_]; omega
    obtain ⟨l, hl⟩ : ∃ l, s.bytes[f]? = some l := ⟨s.bytes[f], by simp⟩
    have h3' := h.below hb3
    obtain ⟨g, cap, hv, hgt, c0, c1, c2, c3, c4, -⟩ := h3'.slot he
    obtain ⟨gB, capB, b, hvB, hgB, cB, hbs, hl4, hbk, hbt⟩ := h3'.frame hl
    have hst := h3'.setByte (a := j) hl hbs hbk hbt v
    have hpb : putByte s e.fr j v = { s with bytes := s.bytes.set f (l.set j v) } := by simp [putByte, hf, hl]
    obtain ⟨x, hx⟩ : ∃ x, l[j]? = some x := ⟨l[j]'(by omega), by simp⟩
    have cb : w3.cell? ⟨b, j, none⟩ = some (.int .i64 x) := by rw [hbk.cell, List.getElem?_map, hx]; rfl
    have fb := hbk.frozen j
    rw [hf] at c3
    have k5 := h3'.blk.cell 5
    have k4 := h3'.blk.cell 4
    simp at k4 k5
    rw [hv] at k5
    rw [hvB] at k4
    have hq0 : (0 : Int) ≤ (q : Int) := by omega
    have hql := (List.getElem?_eq_some_iff.1 he).1
    have hq1 : (q : Int) < (s.slots.length : Int) := by omega
    have hq2 : ¬ ((q : Int) < 0) := by omega
    have hf0 : (0 : Int) ≤ (f : Int) := by omega
    have hf1 : (f : Int) < (s.bytes.length : Int) := by omega
    have hj0 : (0 : Int) ≤ (j : Int) := by omega
    have hj1 : (j : Int) < 4 := by omega
    have n1 : b ≠ g := fun e => by rw [e, hgt] at hbt; simp at hbt; omega
    have n1' : g ≠ b := fun e => n1 e.symm
    have n2 : b ≠ gB := fun e => by rw [e, hgB] at hbt; simp at hbt; omega
    have n2' : gB ≠ b := fun e => n2 e.symm
    have n3 : b ≠ m := fun e => by have := h.tm; rw [← e, hbt] at this; simp at this
    have n3' : m ≠ b := fun e => n3 e.symm
    have hin : (own b).1 = id := by rw [hbt]
    have HG : Hid (vS = .slice (some ⟨g, 0, none⟩) s.slots.length cap) := hv
    clear hi he hpe hf hl hv hvB hbk hx hl4 hbs hbt
    cases hwr : e.wr
    · rw [hwr] at HA c4
      simp only [Bool.not_false, if_true] at HA
      clear hpb hwr
      go_wp2_with fail
      go_ret
      exact ⟨ret_int' (by rw [HA.out]), by rw [HA.out]; exact hn3⟩
    · rw [hwr] at HA c4
      simp only [Bool.not_true, Bool.false_eq_true, if_false] at HA
      rw [hpb] at HA
      clear hpb hwr
      go_wp2_with fail
      go_region_held3 (fun w' => w'.cell? ⟨m, 4, none⟩ = some (.slice (some ⟨gB, 0, none⟩) s.bytes.length capB) ∧ w'.cell? ⟨m, 5, none⟩ = some (.slice (some ⟨g, 0, none⟩) s.slots.length cap) ∧ w'.cell? ⟨g, q * 5 + 3, none⟩ = some (.int .i64 f) ∧ w'.cell? ⟨gB, f, none⟩ = some (.slice (some ⟨b, 0, none⟩) 4 4)) (go_keep) (fail)
      go_wp2_with fail
      go_ret
      exact ⟨ret_int' (by rw [HA.out]), by rw [HA.out]; exact ⟨own, _, _, _, _, _, _, hst.below (Below.refl _ _).drew, fun _ _ => rfl, ((Touch.of_below hb3 _).setCell (.inl hin) _).drew⟩⟩
end
end Go.Proofs.YtinlkcmdbjcofaaGreat
