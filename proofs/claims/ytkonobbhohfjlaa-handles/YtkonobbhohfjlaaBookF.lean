import Derived.Test.YtkonobbhohfjlaaBookE
namespace Go.Proofs.Ytkonobbhohfjlaa
open Go.RowKit
set_option linter.unusedVariables false
attribute [local go_sem ↓] Go.wp_at_zero Go.wp_at_succ

section
variable {rs : RSt} {env : Int}
theorem listTo_pre (rs : RSt) (env : Int) (q : Nat) : ∀ d, ∃ t, listTo rs env (q + d) = listTo rs env q ++ t := by
  intro d
  induction d with
  | zero => exact ⟨[], by simp⟩
  | succ d ih =>
    obtain ⟨t, ht⟩ := ih
    cases hr : rs.rights[q + d]? with
    | none =>
      refine ⟨t, ?_⟩
      rw [← ht]
      unfold listTo
      rw [show q + (d + 1) = (q + d) + 1 by omega, List.range_succ, List.filterMap_append]
      simp [hr]
    | some r =>
      rw [show q + (d + 1) = (q + d) + 1 by omega, listTo_succ rs env _ r hr, ht, List.append_assoc]
      exact ⟨_, rfl⟩

/-- Where a right that is alive stands in the list of its environment. -/
theorem listR_at {i : Nat} {r : RR} (hr : rs.rights[i]? = some r) (hl : lv rs.rights i = true) (he : r.env = env) : (listR rs env)[(listTo rs env i).length]? = some r := by
  have hi := (List.getElem?_eq_some_iff.1 hr).1
  obtain ⟨t, ht⟩ := listTo_pre rs env (i + 1) (rs.rights.length - (i + 1))
  rw [show i + 1 + (rs.rights.length - (i + 1)) = rs.rights.length by omega] at ht
  unfold listR
  rw [ht, listTo_succ rs env i r hr, hl]
  simp [he]
theorem listTo_lt {i : Nat} {r : RR} (hr : rs.rights[i]? = some r) (hl : lv rs.rights i = true) (he : r.env = env) : (listTo rs env i).length < (listR rs env).length := (List.getElem?_eq_some_iff.1 (listR_at hr hl he)).1

/-- Which right stands at place k of the list. -/
theorem listTo_find (rs : RSt) (env : Int) : ∀ (n k : Nat) (r : RR), (listTo rs env n)[k]? = some r → ∃ i, i < n ∧ rs.rights[i]? = some r ∧ lv rs.rights i = true ∧ r.env = env ∧ (listTo rs env i).length = k := by
  intro n
  induction n with
  | zero => intro k r h; simp [listTo] at h
  | succ n ih =>
    intro k r h
    cases hr : rs.rights[n]? with
    | none =>
      have : listTo rs env (n + 1) = listTo rs env n := by
        unfold listTo
        rw [List.range_succ, List.filterMap_append]
        simp [hr]
      rw [this] at h
      obtain ⟨i, h1, h2⟩ := ih k r h
      exact ⟨i, by omega, h2⟩
    | some x =>
      rw [listTo_succ rs env n x hr] at h
      cases hc : (lv rs.rights n && x.env == env) with
      | false =>
        rw [hc] at h
        simp at h
        obtain ⟨i, h1, h2⟩ := ih k r h
        exact ⟨i, by omega, h2⟩
      | true =>
        rw [hc] at h
        simp only [if_true] at h
        rcases getApp h with h | ⟨h1, h2⟩
        · obtain ⟨i, h1, h2⟩ := ih k r h
          exact ⟨i, by omega, h2⟩
        · subst h2
          simp at hc
          exact ⟨n, by omega, hr, hc.1, hc.2, h1.symm⟩

theorem listTo_mono {i j : Nat} {r : RR} (hij : i < j) (hr : rs.rights[i]? = some r) (hl : lv rs.rights i = true) (he : r.env = env) : (listTo rs env i).length < (listTo rs env j).length := by
  obtain ⟨t, ht⟩ := listTo_pre rs env (i + 1) (j - (i + 1))
  rw [show i + 1 + (j - (i + 1)) = j by omega] at ht
  rw [ht, listTo_succ rs env i r hr, hl]
  simp [he]
end

section
variable {own own1 : Nat → Nat × Nat} {w w1 w2 : World} {b m s : Nat} {rs rs' : RSt} {ps ps' : PSt} {nk N : Nat} {vE vF vL vM : Value}

set_option maxHeartbeats 4000000 in
set_option maxRecDepth 100000 in
theorem btold_any (hp : PRep own 2 w m ps vE vF vL) (hb : BRep own 1 w b m s rs vM) (hs : Sim rs ps) (hf : RFix rs nk) (hN : rs.rights.length ≤ N) (hm : (N + 1) * 48 ≤ 140737488355328) (env : Nat) (he : env < rs.ne) :
    Calls Try.prog 11 #[.pointer (some ⟨b, 0, none⟩), .int .i64 env] w fun e w' => e = .returned (.bool true) ∧ Below w.heap.size w w' := by
  have hwp := hf.pwf hs hN hm
  have h4 := hf.ne
  have hnf := hf.nf
  have c0 := hb.c0
  have hi0 : (0 : Int) ≤ (env : Int) := by omega
  have hi1 : (env : Int) < 4 := by omega
  have hal : aliveB rs env = alAt rs env := by unfold aliveB alAt; simp [he]
  go_enter Try.func11, Try.ntmps11
  go_wp2_with fail
  refine (prights_uni hp hwp hs env).mono ?_
  rintro e w1 ⟨v, rfl, hb1, -, hrow⟩
  have hB := hb.below hb1
  have ka := hB.cal env (by omega)
  have hle := toldR_le rs env
  obtain ⟨ao, cap, hv, hcase⟩ := hrow.shape'
  subst hv
  cases ha : alAt rs env
  · have hL : toldR rs env = [] := by unfold toldR; rw [hal, ha]; rfl
    have hE : rawE rs env = 2 := by unfold rawE; rw [hal, ha]; rfl
    rw [hL] at *
    rw [hE]
    rw [ha] at ka
    clear hE hL
    go_wp2_with fail
    go_ret
    exact ⟨rfl, hb1⟩
  · have hL : toldR rs env = listR rs env := by unfold toldR; rw [hal, ha]; rfl
    have hE : rawE rs env = 0 := by unfold rawE; rw [hal, ha]; rfl
    rw [hL] at hrow hle hcase ⊢
    rw [hE]
    rw [ha] at ka
    obtain ⟨n, hn⟩ : ∃ n, (listR rs env).length = n := ⟨_, rfl⟩
    have HN : Hid ((listR rs env).length = n) := hn
    rw [hn] at hle hcase hrow ⊢
    clear hE hL hn
    have k1 := hB.c1
    have k4 := hB.c4
    obtain ⟨aoM, capM, hvM, hcM⟩ := hB.row.shape'
    rw [hvM] at k4
    have Hv : Hid (vM = .slice aoM rs.rights.length capM) := hvM
    clear hvM
    go_wp2_with fail
    go_loopg [7, 8] rs.rights.length (fun k kv x wr => ∃ q : Nat, x = .int .i64 q ∧ q + k = rs.rights.length ∧ kv = .int .i64 ((listTo rs env q).length : Nat) ∧ Below w1.heap.size w1 wr)
    case atStart => exact ⟨0, rfl, by omega, rfl, Below.refl _ _⟩
    case round =>
      obtain ⟨q, rfl, hk, rfl, hbl⟩ := hrel
      have HK : Hid (q + gk = rs.rights.length) := hk
      have hq : q ≤ rs.rights.length := by omega
      clear hk
      have hlq := listTo_le rs env q
      have hB2 := hB.below hbl
      have j1 := hB2.c1
      have j4 := hB2.c4
      rw [Hv.out] at j4
      have hrow2 := hrow.below hbl
      by_cases hlt : q < rs.rights.length
      · obtain ⟨r, hr⟩ : ∃ r, rs.rights[q]? = some r := ⟨rs.rights[q], by simp⟩
        obtain ⟨g, capr, hvr, _, d0, d1, d2, d3, _⟩ := hB2.right hr
        rw [Hv.out] at hvr
        simp at hvr
        obtain ⟨rfl, rfl⟩ := hvr
        have HS : Hid (listTo rs env (q + 1) = listTo rs env q ++ (if lv rs.rights q && r.env == (env : Int) then [r] else [])) := listTo_succ rs env q r hr
        have hq0 : (0 : Int) ≤ (q : Int) := by omega
        have hq1 : (q : Int) < (rs.rights.length : Int) := by omega
        go_wp2_with fail
        refine (bliving_any hB2 hs.inv.ord (by omega) q (by omega) (by omega)).mono ?_
        rintro e w3 ⟨rfl, hw3⟩
        subst hw3
        cases hl : lv rs.rights q
        · have HW : Hid (listTo rs env (q + 1) = listTo rs env q) := by have := HS.out; rw [hl] at this; simpa [Hid] using this
          clear hr HS
          go_wp2_with fail
          go_roundg (gk - 1)
          case measure => have := HK.out; omega
          case rel => exact ⟨q + 1, by go_num, by have := HK.out; omega, by rw [HW.out], hbl⟩
        · cases hee : (r.env == (env : Int))
          · have HW : Hid (listTo rs env (q + 1) = listTo rs env q) := by have := HS.out; rw [hl, hee] at this; simpa [Hid] using this
            have hne : (r.env != (env : Int)) = true := by simpa using hee
            clear hr HS
            go_wp2_with fail
            go_roundg (gk - 1)
            case measure => have := HK.out; omega
            case rel => exact ⟨q + 1, by go_num, by have := HK.out; omega, by rw [HW.out], hbl⟩
          · have HW : Hid (listTo rs env (q + 1) = listTo rs env q ++ [r]) := by have := HS.out; rw [hl, hee] at this; simpa [Hid] using this
            have hee' : r.env = env := by simpa using hee
            have hne : (r.env != (env : Int)) = false := by simpa using hee'
            have hat := listR_at hr hl hee'
            have hlt2 := listTo_lt hr hl hee'
            rw [HN.out] at hlt2
            obtain ⟨c, hcc⟩ : ∃ c, (listTo rs env q).length = c := ⟨_, rfl⟩
            have HC : Hid ((listTo rs env q).length = c) := hcc
            rw [hcc] at hat hlt2 hlq ⊢
            have hfr := hs.inv.fr q r hr
            have hhd := hs.inv.hnd q r hr
            rcases hcase with h0 | ⟨g2, rfl⟩
            · omega
            have cc : ∀ j, j < 4 → w3.cell? ⟨g2, c * 4 + j, none⟩ = (rcells r)[j]? := fun j hj => by rw [hrow2.cellAt' _ (by omega), flat_get rcells 4 (fun _ => rfl) (listR rs env) c j r hat hj]
            have u0 := (cc 0 (by omega)).trans (show _ = some (.int .i64 r.h) from rfl)
            have u1 := (cc 1 (by omega)).trans (show _ = some (.int .i64 r.env) from rfl)
            have u2 := (cc 2 (by omega)).trans (show _ = some (.int .i64 r.fr) from rfl)
            have u3 := (cc 3 (by omega)).trans (show _ = some (.bool r.wr) from rfl)
            rw [hhd] at u0
            simp only [Nat.add_zero] at u0
            have z0 : (((q : Int) + 1) != ((q : Int) + 1)) = false := by simp
            have z1 : (r.wr != r.wr) = false := by simp
            have z2 := hfr.1
            have z3 := hfr.2
            have hc0 : (0 : Int) ≤ (c : Int) := by omega
            have hc1 : (c : Int) < (n : Int) := by omega
            have y1 : decide ((n : Int) ≤ (c : Int)) = false := decide_eq_false (by omega)
            have y2 : decide (n ≤ c) = false := decide_eq_false (by omega)
            have y3 : decide (r.fr < 0) = false := decide_eq_false (by omega)
            have y4 : decide ((rs.nf : Int) ≤ r.fr) = false := decide_eq_false (by omega)
            clear hr HS hat cc hhd hfr hcc hcM hee hee' hrow hrow2
            go_wp2_with fail
            go_quiet (fail)
            go_wp2_with fail
            go_roundg (gk - 1)
            case measure => have := HK.out; omega
            case rel => exact ⟨q + 1, by go_num, by have := HK.out; omega, by rw [HW.out, List.length_append, HC.out]; go_num, below_drewN hbl _⟩
      · obtain rfl : q = rs.rights.length := by omega
        have hnn : (listTo rs env rs.rights.length).length = n := HN.out
        have hbe : ((n : Int) == (n : Int)) = true := by simp
        rw [hnn]
        clear hnn
        go_wp2_with fail
        go_ret
        exact ⟨rfl, hb1.trans (hbl.mono hb1.size)⟩
end
end Go.Proofs.Ytkonobbhohfjlaa
