import Derived.Test.YtkonobbhohfjlaaBookD
namespace Go.Proofs.Ytkonobbhohfjlaa
open Go.RowKit
set_option linter.unusedVariables false
attribute [local go_sem ↓] Go.wp_at_zero Go.wp_at_succ

section
variable {own own1 : Nat → Nat × Nat} {w w1 w2 : World} {b m s : Nat} {rs rs' : RSt} {ps ps' : PSt} {nk N : Nat} {vE vF vL vM : Value}

theorem alAt_set (rs : RSt) (env : Nat) (v : Bool) (he : env < rs.alive.length) (j : Nat) : alAt { rs with alive := rs.alive.set env v } j = if env = j then v else alAt rs j := by
  unfold alAt
  simp only [List.getElem?_set]
  by_cases h : env = j
  · subst h; simp [he]
  · simp [h]

/-- An environment begins or ends in the book. -/
theorem BRep.setAl (h : BRep own1 1 w b m s rs vM) (env : Nat) (v : Bool) (he : env < rs.alive.length) (h4 : env < 4) :
    BRep own1 1 (w.setCell ⟨b, 5 + env, none⟩ (.bool v)) b m s { rs with alive := rs.alive.set env v } vM := by
  refine ⟨?_, h.row.other _ (fun e => by have := h.tM _ e; rw [h.tb] at this; simp at this), h.tb, h.tM⟩
  have hb := h.blk.set (5 + env) (.bool v)
  have : bcells m s { rs with alive := rs.alive.set env v } vM = (bcells m s rs vM).set (5 + env) (.bool v) := by
    unfold bcells
    rw [alAt_set _ _ _ he, alAt_set _ _ _ he, alAt_set _ _ _ he, alAt_set _ _ _ he]
    have : env = 0 ∨ env = 1 ∨ env = 2 ∨ env = 3 := by omega
    rcases this with rfl | rfl | rfl | rfl <;> rfl
  rw [this]; exact hb
theorem PRep.setB (h : PRep own1 2 w m ps vE vF vL) (hg : own1 b = (1, 0)) {j : Nat} {u : Value} : PRep own1 2 (w.setCell ⟨b, j, none⟩ u) m ps vE vF vL :=
  h.of (fun _ _ => rfl) (fun x hx ht => Below.heap_setCell _ _ _ _ (fun e => by simp at e; rw [e, hg] at ht; simp at ht))

theorem touchB (hb : BRep own 1 w b m s rs vM) (ho : ∀ x, x < w.heap.size → own1 x = own x) (hb1 : BRep own1 1 w1 b m s rs vM) : ((own b).1 = 1 ∨ (own b).1 = 2) ∨ w.heap.size ≤ b := .inl (.inl (by rw [hb.tb]))

theorem live_cases (hl : rs.alive.length = rs.ne) (env : Nat) (he : env < rs.ne) :
    (alAt rs env = true ∧ spawnR rs env = (3, rs) ∧ rs.alive.set env true = rs.alive ∧ ∃ s', killR rs env = (0, s') ∧ s'.rights = markAt (fun i => (rs.rights[i]?.map fun r => r.env == (env : Int)).getD false) rs.rights ∧ s'.alive = rs.alive.set env false ∧ s'.ne = rs.ne ∧ s'.nf = rs.nf) ∨
    (alAt rs env = false ∧ spawnR rs env = (0, { rs with alive := rs.alive.set env true }) ∧ killR rs env = (2, rs)) := by
  have hal : aliveB rs env = alAt rs env := by unfold aliveB alAt; simp [he]
  unfold spawnR killR
  rw [hal]
  have hn : ¬ ((env : Int) < 0 ∨ (rs.ne : Int) ≤ env) := by omega
  rw [if_neg hn]
  cases ha : alAt rs env
  · right; simp
  · left
    refine ⟨rfl, by simp, ?_, sweepS { endIf (fun r => r.env == (env : Int)) rs with alive := rs.alive.set env false }, by simp, mark_map _ _, rfl, rfl, rfl⟩
    apply List.ext_getElem?
    intro i
    rw [List.getElem?_set]
    by_cases e : env = i
    · subst e
      rw [if_pos rfl, if_pos (by omega)]
      unfold alAt at ha
      cases hx : rs.alive[env]? with
      | none => rw [hx] at ha; simp at ha
      | some x => rw [hx] at ha; simp at ha; rw [ha]
    · rw [if_neg e]

set_option maxHeartbeats 2000000 in
set_option maxRecDepth 100000 in
theorem bspawn_any (hp : PRep own 2 w m ps vE vF vL) (hb : BRep own 1 w b m s rs vM) (hs : Sim rs ps) (hf : RFix rs nk) (hN : rs.rights.length ≤ N) (hm : (N + 1) * 48 ≤ 140737488355328) (env : Nat) (he : env < rs.ne) :
    Calls Try.prog 21 #[.pointer (some ⟨b, 0, none⟩), .int .i64 env, .bool false] w fun e w' => e = .returned (.bool true) ∧ BRes own w w' b m s (spawnR rs env).2 (spawnP ps env).2 := by
  have hwp := hf.pwf hs hN hm
  have h4 := hf.ne
  have c0 := hb.c0
  have hi0 : (0 : Int) ≤ (env : Int) := by omega
  have hi1 : (env : Int) < 4 := by omega
  have HQ : Hid ((spawnP ps env).1 = (spawnR rs env).1) := (hs.spawn env).1.symm
  go_enter Try.func21, Try.ntmps21
  go_wp2_with fail
  refine (pspawn_any hp hwp env).mono ?_
  rintro e w1 ⟨rfl, hn⟩
  rw [HQ.out]
  obtain ⟨own1, vE1, vF1, vL1, hp1, hb1, ho1, ht1⟩ := book_mid hb hn
  have ka := hb1.cal env (by omega)
  have kf := hb1.blk.frozen (5 + env)
  have hp2 := hp1.setB (j := 5 + env) (u := .bool true) hb1.tb
  have hb2 := hb1.setAl env true (by rw [hf.al]; exact he) (by omega)
  have ht2 := ht1.setCell (p := ⟨b, 5 + env, none⟩) (touchB hb ho1 hb1) (.bool true)
  rcases live_cases hf.al env he with ⟨ha, hx, hset, -⟩ | ⟨ha, hx, -⟩
  · have HX : Hid (spawnR rs env = (3, rs)) := hx
    rw [HX.out]
    rw [ha] at ka
    clear hx ha
    go_wp2_with fail
    go_ret
    exact ⟨rfl, own1, vE1, vF1, vL1, vM, hp2, by rw [HX.out]; exact hb2.congr rfl hset.symm rfl rfl, ho1, ht2⟩
  · have HX : Hid (spawnR rs env = (0, { rs with alive := rs.alive.set env true })) := hx
    rw [HX.out]
    rw [ha] at ka
    clear hx ha
    go_wp2_with fail
    go_ret
    exact ⟨rfl, own1, vE1, vF1, vL1, vM, hp2, by rw [HX.out]; exact hb2, ho1, ht2⟩

set_option maxHeartbeats 4000000 in
set_option maxRecDepth 100000 in
theorem bkill_any (hp : PRep own 2 w m ps vE vF vL) (hb : BRep own 1 w b m s rs vM) (hs : Sim rs ps) (hf : RFix rs nk) (hN : rs.rights.length ≤ N) (hm : (N + 1) * 48 ≤ 140737488355328) (env : Nat) (he : env < rs.ne) :
    Calls Try.prog 21 #[.pointer (some ⟨b, 0, none⟩), .int .i64 env, .bool true] w fun e w' => e = .returned (.bool true) ∧ BRes own w w' b m s (killR rs env).2 (killP ps env).2 := by
  have hwp := hf.pwf hs hN hm
  have h4 := hf.ne
  have c0 := hb.c0
  have hi0 : (0 : Int) ≤ (env : Int) := by omega
  have hi1 : (env : Int) < 4 := by omega
  have HQ : Hid ((killP ps env).1 = (killR rs env).1) := (hs.kill env).1.symm
  go_enter Try.func21, Try.ntmps21
  go_wp2_with fail
  refine (pkill_any hp hwp env).mono ?_
  rintro e w1 ⟨rfl, hn⟩
  rw [HQ.out]
  obtain ⟨own1, vE1, vF1, vL1, hp1, hb1, ho1, ht1⟩ := book_mid hb hn
  have ka := hb1.cal env (by omega)
  rcases live_cases hf.al env he with ⟨ha, -, -, s', hx, q1, q2, q3, q4⟩ | ⟨ha, -, hx⟩
  rotate_left
  · have HX : Hid (killR rs env = (2, rs)) := hx
    rw [HX.out]
    rw [ha] at ka
    clear hx ha
    go_wp2_with fail
    go_ret
    exact ⟨rfl, own1, vE1, vF1, vL1, vM, hp1, by rw [HX.out]; exact hb1, ho1, ht1⟩
  · have HX : Hid (killR rs env = (0, s')) := hx
    rw [HX.out]
    rw [ha] at ka
    have hbl := hb.blk.lt
    have hbt := hb.tb
    obtain ⟨ao, cap, hv, hcase⟩ := hb1.row.shape'
    have Hv : Hid (vM = .slice ao rs.rights.length cap) := hv
    clear hx ha hv c0
    go_wp2_with fail
    go_loopg [10] rs.rights.length (fun k x wr => ∃ q : Nat, x = .int .i64 q ∧ q + k = rs.rights.length ∧ PRep own1 2 wr m (killP ps env).2 vE1 vF1 vL1 ∧ BRep own1 1 wr b m s (endTo (fun i => (rs.rights[i]?.map fun r => r.env == (env : Int)).getD false) rs q) vM ∧ Touch w.heap.size (fun x => (own x).1 = 1 ∨ (own x).1 = 2) w wr)
    case atStart => exact ⟨0, rfl, by omega, hp1, by rw [endTo_zero]; exact hb1, ht1⟩
    case round =>
      clear hp1 hb1 ht1 ka
      obtain ⟨q, rfl, hk, hp1, hb1, ht1⟩ := hrel
      have HK : Hid (q + gk = rs.rights.length) := hk
      have hq : q ≤ rs.rights.length := by omega
      clear hk
      have k4 := hb1.c4
      rw [Hv.out] at k4
      by_cases hlt : q < rs.rights.length
      · obtain ⟨r2, hr2⟩ : ∃ r, rs.rights[q]? = some r := ⟨rs.rights[q], by simp⟩
        have hr3 : (endTo (fun i => (rs.rights[i]?.map fun r => r.env == (env : Int)).getD false) rs q).rights[q]? = some r2 := by rw [endTo_at]; exact hr2
        obtain ⟨g, capr, hvr, hg, d0, _, _, d3, hfz⟩ := hb1.right hr3
        rw [Hv.out, endTo_len] at hvr
        simp at hvr
        obtain ⟨rfl, rfl⟩ := hvr
        have hi2 : (0 : Int) ≤ (q : Int) := by omega
        have hi3 : (q : Int) < (rs.rights.length : Int) := by omega
        have hfq := hfz (q * 4 + 3)
        have hne : g ≠ b := fun e => by have := hb1.tb; rw [← e, hg] at this; simp at this
        have hne' : b ≠ g := fun e => hne e.symm
        have hS : (own g).1 = 1 ∨ (own g).1 = 2 ∨ w.heap.size ≤ g := by
          by_cases hh : g < w.heap.size
          · left; rw [← ho1 g hh, hg]
          · right; right; omega
        cases hqj : (r2.env == (env : Int))
        · have HW : Hid (endTo (fun i => (rs.rights[i]?.map fun r => r.env == (env : Int)).getD false) rs (q + 1) = endTo (fun i => (rs.rights[i]?.map fun r => r.env == (env : Int)).getD false) rs q) := endTo_no (by simp [hr2, hqj])
          clear hr2 hr3 hcase hfz
          go_wp2_with fail
          go_roundg (gk - 1)
          case measure => have := HK.out; omega
          case rel => exact ⟨q + 1, by go_num, by have := HK.out; omega, hp1, by rw [HW.out]; exact hb1, ht1⟩
        · have HW : Hid (endTo (fun i => (rs.rights[i]?.map fun r => r.env == (env : Int)).getD false) rs (q + 1) = { endTo (fun i => (rs.rights[i]?.map fun r => r.env == (env : Int)).getD false) rs q with rights := (endTo (fun i => (rs.rights[i]?.map fun r => r.env == (env : Int)).getD false) rs q).rights.set q r2.end }) := endTo_yes hr2 (by simp [hr2, hqj])
          have hp2 := hp1.setG (j := q * 4 + 3) (u := .bool true) hg
          have hb2 := hb1.setEnd (cap := cap) (by rw [Hv.out, endTo_len]) hr3
          clear hr2 hr3 hcase hfz
          go_wp2_with fail
          go_roundg (gk - 1)
          case measure => have := HK.out; omega
          case rel => exact ⟨q + 1, by go_num, by have := HK.out; omega, hp2, by rw [HW.out]; exact hb2, ht1.setCell (p := ⟨g, q * 4 + 3, none⟩) (by rcases hS with h | h | h; exact .inl (.inl h); exact .inl (.inr h); exact .inr h) _⟩
      · obtain rfl : q = rs.rights.length := by omega
        have ka := hb1.cal env (by omega)
        have kf := hb1.blk.frozen (5 + env)
        have hp2 := hp1.setB (j := 5 + env) (u := .bool false) hb1.tb
        have hb2 := hb1.setAl env false (by show env < rs.alive.length; rw [hf.al]; exact he) (by omega)
        have ht2 := ht1.setCell (p := ⟨b, 5 + env, none⟩) (.inl (.inl (by show (own b).1 = 1; rw [hbt]))) (.bool false)
        go_wp2_with fail
        go_ret
        exact ⟨rfl, own1, vE1, vF1, vL1, vM, hp2, by rw [HX.out]; exact hb2.congr (q1.trans (endTo_all _ _).symm) q2 q3 q4, ho1, ht2⟩
end
end Go.Proofs.Ytkonobbhohfjlaa
