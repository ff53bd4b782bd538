/-
  'frames': the frame of each right that is alive, as Rights tells it.
-/
import Derived.Test.YtkonobbhohfjlaaBookF
namespace Go.Proofs.Ytkonobbhohfjlaa
open Go.RowKit
set_option linter.unusedVariables false
attribute [local go_sem ↓] Go.wp_at_zero Go.wp_at_succ

def icells (f : Nat → Int) (n : Nat) : List Value := (List.range n).map fun i => .int .i64 (f i)
theorem icells_get (f : Nat → Int) {n k : Nat} (h : k < n) : (icells f n)[k]? = some (.int .i64 (f k)) := by
  unfold icells
  rw [List.getElem?_map, List.getElem?_range h]
  rfl
theorem icells_len (f : Nat → Int) (n : Nat) : (icells f n).length = n := by simp [icells]
theorem icells_congr {f g : Nat → Int} {n : Nat} (h : ∀ i, i < n → f i = g i) : icells f n = icells g n := by
  unfold icells
  exact List.map_congr_left fun i hi => by rw [h i (List.mem_range.1 hi)]
theorem icells_set {f g : Nat → Int} {n k : Nat} {v : Int} (h : ∀ i, i < n → g i = if i = k then v else f i) : (icells f n).set k (.int .i64 v) = icells g n := by
  apply List.ext_getElem
  · simp [icells]
  · intro i h1 h2
    have hi : i < n := by simpa [icells] using h2
    rw [List.getElem_set]
    simp only [icells, List.getElem_map, List.getElem_range]
    rw [h i hi]
    by_cases e : k = i
    · simp [e]
    · rw [if_neg e, if_neg (fun h => e h.symm)]

theorem made_int (n : Nat) : madeCells (Value.int .i64 0).cells (n * 1) = (icells (fun _ => 0) n).toArray := by
  apply Array.ext'
  simp [madeCells, icells, Value.cells]
  intro a _
  rw [Nat.mod_one]
  rfl

theorem run_make_big {P : Program} {t e : TypeId} {z : Value} {size bytes : Nat} (ht : P.underlying t = some (.slice e))
    (hinfo : (P.info? e).map (fun i => (i.zero, i.size, i.bytes)) = some (some z, size, bytes)) (n : Nat) (hb : bytes * n ≤ 281474976710656) (hn : n ≤ 9223372036854775807) (C : List Value) (hC : madeCells z.cells (n * size) = C.toArray) (w : World) :
    (Instr.makeSlice t (.int .i64 (n : Int)) (.int .i64 (n : Int))).run P w = .ok (.slice (some ⟨w.heap.size, 0, none⟩) n n) (w.alloc (.cells C.toArray e)) := by
  obtain ⟨i, hi, hz, hs, hby⟩ := info_parts hinfo
  subst hs; subst hby
  have hb' : (i.bytes : Int) * (n : Int) ≤ 281474976710656 := by
    have : ((i.bytes * n : Nat) : Int) ≤ 281474976710656 := by omega
    rwa [Int.natCast_mul] at this
  have hr := run_make (P := P) w t e i z ht hi hz .i64 .i64 n n (by omega) (Int.le_refl _) hb' (by omega)
  simp only [Int.toNat_natCast] at hr
  rw [hC] at hr
  exact hr

section
variable {rs : RSt}
/-- What stands for right i once the environments below e, and k rights of e, have been told. -/
def foAt (rs : RSt) (e k i : Nat) : Int := match rs.rights[i]? with
  | none => -1
  | some r => if lv rs.rights i && (decide (r.env < e) || (decide (r.env = e) && decide ((listTo rs e i).length < k))) then r.fr else -1
def frA (rs : RSt) (i : Nat) : Int := match rs.rights[i]? with
  | none => -1
  | some r => if lv rs.rights i then r.fr else -1

theorem fo_zero (hI : RInv rs) (i : Nat) : foAt rs 0 0 i = -1 := by
  unfold foAt
  cases hr : rs.rights[i]? with
  | none => rfl
  | some r =>
    have := hI.env i r hr
    simp only
    rw [if_neg]
    simp
    omega
theorem fo_all (hI : RInv rs) (i : Nat) : foAt rs rs.ne 0 i = frA rs i := by
  unfold foAt frA
  cases hr : rs.rights[i]? with
  | none => rfl
  | some r =>
    have := hI.env i r hr
    simp [this.2]
theorem fo_end (hH : HInv rs) (e i : Nat) : foAt rs e (toldR rs e).length i = foAt rs (e + 1) 0 i := by
  unfold foAt
  cases hr : rs.rights[i]? with
  | none => rfl
  | some r =>
    simp only
    cases hl : lv rs.rights i with
    | false => simp
    | true =>
      have ha := hH.alv i r hr hl
      by_cases h1 : r.env < e
      · have h2 : r.env < (e : Int) + 1 := by omega
        simp [h1, h2]
      · by_cases h3 : r.env = e
        · have h4 : (toldR rs e).length = (listR rs e).length := by unfold toldR; rw [← h3, ha]; rfl
          have := listTo_lt hr hl h3
          rw [h4]
          simp [h3, this]
          omega
        · have h4 : ¬ (r.env < ((e + 1 : Nat) : Int)) := by omega
          simp [h1, h3]
          omega
theorem fo_step (hI : RInv rs) {e k : Nat} {r : RR} (hr : (toldR rs e)[k]? = some r) : ∃ j : Nat, r.h = (j : Int) + 1 ∧ j < rs.rights.length ∧ ∀ i, foAt rs e (k + 1) i = if i = j then r.fr else foAt rs e k i := by
  have hr' : (listTo rs e rs.rights.length)[k]? = some r := by
    unfold toldR at hr
    split at hr
    · exact hr
    · simp at hr
  obtain ⟨j, hj, hq, hl, he, hk⟩ := listTo_find rs e _ k r hr'
  refine ⟨j, hI.hnd j r hq, hj, fun i => ?_⟩
  by_cases hij : i = j
  · subst hij
    rw [if_pos rfl]
    unfold foAt
    rw [hq]
    simp [hl, he, hk]
  · rw [if_neg hij]
    unfold foAt
    cases hx : rs.rights[i]? with
    | none => rfl
    | some x =>
      simp only
      cases hli : lv rs.rights i with
      | false => simp
      | true =>
        by_cases h1 : x.env < e
        · simp [h1]
        · by_cases h3 : x.env = e
          · have : (listTo rs e i).length ≠ k := by
              rcases Nat.lt_or_gt_of_ne hij with h | h
              · have := listTo_mono h hx hli h3; omega
              · have := listTo_mono h hq hl he; omega
            have h5 : (decide ((listTo rs e i).length < k + 1)) = decide ((listTo rs e i).length < k) := by
              rw [decide_eq_decide]; omega
            rw [h5]
          · simp [h1, h3]
end

section
variable {own own1 : Nat → Nat × Nat} {w w1 w2 : World} {b m s : Nat} {rs rs' : RSt} {ps ps' : PSt} {nk N : Nat} {vE vF vL vM : Value}

set_option maxHeartbeats 4000000 in
set_option maxRecDepth 100000 in
theorem bframes_any (hp : PRep own 2 w m ps vE vF vL) (hb : BRep own 1 w b m s rs vM) (hs : Sim rs ps) (hH : HInv rs) (hf : RFix rs nk) (hN : rs.rights.length ≤ N) (hm : (N + 1) * 48 ≤ 140737488355328) :
    Calls Try.prog 24 #[.pointer (some ⟨b, 0, none⟩)] w fun e w' => ∃ g, e = .returned (.slice (some ⟨g, 0, none⟩) rs.rights.length rs.rights.length) ∧ Below w.heap.size w w' ∧ w.heap.size ≤ g ∧ Blk w' g (icells (frA rs) rs.rights.length) 3 := by
  have hwp := hf.pwf hs hN hm
  have h4 := hf.ne
  have c4 := hb.c4
  obtain ⟨n, hn⟩ : ∃ n, rs.rights.length = n := ⟨_, rfl⟩
  have HN : Hid (rs.rights.length = n) := hn
  obtain ⟨aoM, capM, hvM, hcM⟩ := hb.row.shape'
  rw [hvM] at c4
  rw [hn] at c4 hN hcM ⊢
  have Hv : Hid (vM = .slice aoM rs.rights.length capM) := hvM
  clear hvM hn
  have hmk := run_make_big (P := Try.prog) Try.underlying65 Try.infoInt n (by omega) (by omega) _ (made_int n) w
  go_enter Try.func24, Try.ntmps24
  go_wp2_with fail
  go_loopg [4] n (fun k x wr => ∃ q : Nat, x = .int .i64 q ∧ q + k = n ∧ Below w.heap.size w wr ∧ Blk wr w.heap.size (icells (fun i => if i < q then -1 else 0) n) 3)
  case atStart => exact ⟨0, rfl, by omega, (Below.refl _ _).alloc (Nat.le_refl _) _, Blk.new _ _ _⟩
  case round =>
    obtain ⟨q, rfl, hk, hbl, hbk⟩ := hrel
    have HK : Hid (q + gk = n) := hk
    have hq : q ≤ n := by omega
    clear hk
    by_cases hlt : q < n
    · have i0 := (hbk.cell q).trans (icells_get _ hlt)
      have fe := hbk.frozen q
      have hq0 : (0 : Int) ≤ (q : Int) := by omega
      have hq1 : (q : Int) < (n : Int) := by omega
      go_wp2_with fail
      go_roundg (gk - 1)
      case measure => have := HK.out; omega
      case rel => exact ⟨q + 1, by go_num, by have := HK.out; omega, hbl.setCell (by simp) _, by rw [← icells_set (f := fun i => if i < q then -1 else 0) (k := q) (v := -1) (fun i hi => by by_cases h1 : i = q; (simp [h1]); by_cases h2 : i < q; (simp [h1, h2]; omega); simp [h1, h2]; omega)]; exact hbk.set _ _⟩
    · obtain rfl : q = n := by omega
      have hbk0 : Blk wr w.heap.size (icells (foAt rs 0 0) q) 3 := by
        rw [icells_congr (g := fun i => if i < q then -1 else 0)]
        · exact hbk
        · intro i hi; rw [fo_zero hs.inv]; simp [hi]
      clear hbk HK
      go_wp2_with fail
      obtain ⟨wo0, rfl⟩ : ∃ wo : World, wo = wr := ⟨_, rfl⟩
      obtain ⟨go0, rfl⟩ : ∃ go : Nat, go = gk := ⟨_, rfl⟩
      go_loopg [5] rs.ne (fun k x wx => ∃ e : Nat, x = .int .i64 e ∧ e + k = rs.ne ∧ Below w.heap.size w wx ∧ Blk wx w.heap.size (icells (foAt rs e 0) q) 3)
      case atStart => exact ⟨0, rfl, by omega, hbl, hbk0⟩
      case round =>
        clear hbl hbk0
        obtain ⟨e, rfl, hk, hbl, hbk⟩ := hrel
        have HK : Hid (e + gk = rs.ne) := hk
        have he : e ≤ rs.ne := by omega
        clear hk
        have hB := hb.below hbl
        have hP := hp.below hbl
        have k0 := hB.c0
        have k3 := hB.c3
        by_cases hlt : e < rs.ne
        · go_wp2_with fail
          refine (prights_uni hP hwp hs e).mono ?_
          rintro en w1 ⟨v, rfl, hb1, hfr, hrow⟩
          have hle := toldR_le rs e
          obtain ⟨ao, cap, hv, hcase⟩ := hrow.shape'
          subst hv
          have hbl1 := hbl.trans (hb1.mono hbl.size)
          have hbk1 := hbk.of (hb1.block _ hbk.lt)
          obtain ⟨t, ht⟩ : ∃ t, (toldR rs e).length = t := ⟨_, rfl⟩
          have HT : Hid ((toldR rs e).length = t) := ht
          rw [ht] at hle hcase hrow ⊢
          rw [ht] at hfr
          rw [HN.out] at hle
          clear ht
          have hfr' : ∀ x, (Value.slice ao t cap).ownBlock = some x → x ≠ w.heap.size := fun x hx e => by have := hfr x hx; have := hbk.lt; omega
          clear hbl hbk hB hP k0 k3 hfr
          go_wp2_with fail
          obtain ⟨wo, rfl⟩ : ∃ wo : World, wo = wr := ⟨_, rfl⟩
          obtain ⟨go, rfl⟩ : ∃ go : Nat, go = gk := ⟨_, rfl⟩
          go_loopg [8] t (fun k x wz => ∃ c : Nat, x = .int .i64 c ∧ c + k = t ∧ Below w.heap.size w wz ∧ Blk wz w.heap.size (icells (foAt rs e c) q) 3 ∧ Row wz (.slice ao t cap) 64 4 t ((toldR rs e).flatMap rcells))
          case atStart => exact ⟨0, rfl, by omega, hbl1, hbk1, hrow⟩
          case round =>
            clear hbl1 hbk1 hrow
            obtain ⟨c, rfl, hk, hbl, hbk, hrow⟩ := hrel
            have HC : Hid (c + gk = t) := hk
            have hc : c ≤ t := by omega
            clear hk
            by_cases hct : c < t
            · obtain ⟨r, hr⟩ : ∃ r, (toldR rs e)[c]? = some r := ⟨(toldR rs e)[c]'(by rw [HT.out]; exact hct), by simp⟩
              obtain ⟨j, hh, hj, hst⟩ := fo_step hs.inv hr
              rw [HN.out] at hj
              rcases hcase with h0 | ⟨g2, rfl⟩
              · omega
              have hgne := hfr' g2 rfl
              have hgne' : w.heap.size ≠ g2 := fun e => hgne e.symm
              have cc : ∀ j, j < 4 → wr.cell? ⟨g2, c * 4 + j, none⟩ = (rcells r)[j]? := fun j hj => by rw [hrow.cellAt' _ (by omega), flat_get rcells 4 (fun _ => rfl) (toldR rs e) c j r hr hj]
              have u0 := (cc 0 (by omega)).trans (show _ = some (.int .i64 r.h) from rfl)
              have u2 := (cc 2 (by omega)).trans (show _ = some (.int .i64 r.fr) from rfl)
              simp only [Nat.add_zero] at u0
              have hw1 : IntKind.i64.wrap (r.h - 1) = (j : Int) := by rw [IntKind.wrap_i64]; omega
              have hg1 : (1 : Int) ≤ r.h := by omega
              have hg2 : r.h ≤ (q : Int) := by omega
              have i0 := (hbk.cell j).trans (icells_get _ hj)
              have fe := hbk.frozen j
              have HS : Hid (∀ i, foAt rs e (c + 1) i = if i = j then r.fr else foAt rs e c i) := hst
              have hc0 : (0 : Int) ≤ (c : Int) := by omega
              have hc1 : (c : Int) < (t : Int) := by omega
              have hj0 : (0 : Int) ≤ (j : Int) := by omega
              have hj1 : (j : Int) < (q : Int) := by omega
              clear hr hst cc hh
              go_wp2_with fail
              go_region_held3 (fun w' => w'.cell? ⟨g2, c * 4, none⟩ = some (.int .i64 r.h) ∧ w'.cell? ⟨g2, c * 4 + 2, none⟩ = some (.int .i64 r.fr)) (go_keep) (fail)
              go_wp2_with fail
              go_roundg (gk - 1)
              case measure => have := HC.out; omega
              case rel => exact ⟨c + 1, by go_num, by have := HC.out; omega, (hbl.setCell (by simp) _).drew, Blk.drew (by rw [← icells_set (f := foAt rs e c) (fun i _ => HS.out i)]; exact hbk.set _ _), (hrow.other _ (by simp [Value.ownBlock]; exact hgne)).drew⟩
            · obtain rfl : c = t := by omega
              go_wp2_with fail
              go_roundg (go - 1)
              case measure => have := HK.out; omega
              case rel => exact ⟨e + 1, by go_num, by have := HK.out; omega, hbl, by rw [icells_congr (g := foAt rs e c)]; exact hbk; intro i hi; rw [← HT.out]; exact (fo_end hH e i).symm⟩
        · obtain rfl : e = rs.ne := by omega
          go_wp2_with fail
          go_ret
          refine ⟨_, rfl, hbl, Nat.le_refl _, ?_⟩
          rw [icells_congr (g := foAt rs rs.ne 0)]
          · exact hbk
          · intro i hi; exact (fo_all hs.inv i).symm
end
end Go.Proofs.Ytkonobbhohfjlaa
