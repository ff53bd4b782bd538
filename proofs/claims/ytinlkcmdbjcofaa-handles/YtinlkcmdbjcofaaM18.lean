import Derived.Test.YtinlkcmdbjcofaaM17
/-
  'frames': the frame of each right that is alive, as Rights tells it.
-/
namespace Go.Proofs.Ytinlkcmdbjcofaa
open Go.RowKit
set_option linter.unusedVariables false
attribute [local go_sem ↓] Go.wp_at_zero Go.wp_at_succ

def icells (f : Nat → Int) (n : Nat) : List Value := (List.range n).map fun i => .int .i64 (f i)
theorem icells_get (f : Nat → Int) {n k : Nat} (h : k < n) : (icells f n)[k]? = some (.int .i64 (f k)) := by
  unfold icells
  rw [List.getElem?_map, List.getElem?_range h]
  rfl
theorem icells_len (f : Nat → Int) (n : Nat) : (icells f n).length = n := by simp [icells]
theorem icells_congr {f g : Nat → Int} {n : Nat} (h : ∀ i, i < n → f i = g i) : icells f n = icells g n := by
  unfold icells
  exact List.map_congr_left fun i hi => by rw [h i (List.mem_range.1 hi)]
theorem icells_set {f g : Nat → Int} {n k : Nat} {v : Int} (h : ∀ i, i < n → g i = if i = k then v else f i) : (icells f n).set k (.int .i64 v) = icells g n := by
  apply List.ext_getElem
  · simp [icells]
  · intro i h1 h2
    have hi : i < n := by simpa [icells] using h2
    rw [List.getElem_set]
    simp only [icells, List.getElem_map, List.getElem_range]
    rw [h i hi]
    by_cases e : k = i
    · simp [e]
    · rw [if_neg e, if_neg (fun h => e h.symm)]

theorem made_int (n : Nat) : madeCells (Value.int .i64 0).cells (n * 1) = (icells (fun _ => 0) n).toArray := by
  apply Array.ext'
  simp [madeCells, icells, Value.cells]
  intro a _
  rw [Nat.mod_one]
  rfl

theorem run_make_big {P : Program} {t e : TypeId} {z : Value} {size bytes : Nat} (ht : P.underlying t = some (.slice e))
    (hinfo : (P.info? e).map (fun i => (i.zero, i.size, i.bytes)) = some (some z, size, bytes)) (n : Nat) (hb : bytes * n ≤ 281474976710656) (hn : n ≤ 9223372036854775807) (C : List Value) (hC : madeCells z.cells (n * size) = C.toArray) (w : World) :
    (Instr.makeSlice t (.int .i64 (n : Int)) (.int .i64 (n : Int))).run P w = .ok (.slice (some ⟨w.heap.size, 0, none⟩) n n) (w.alloc (.cells C.toArray e)) := by
  obtain ⟨i, hi, hz, hs, hby⟩ := info_parts hinfo
  subst hs; subst hby
  have hb' : (i.bytes : Int) * (n : Int) ≤ 281474976710656 := by
    have : ((i.bytes * n : Nat) : Int) ≤ 281474976710656 := by omega
    rwa [Int.natCast_mul] at this
  have hr := run_make (P := P) w t e i z ht hi hz .i64 .i64 n n (by omega) (Int.le_refl _) hb' (by omega)
  simp only [Int.toNat_natCast] at hr
  rw [hC] at hr
  exact hr

section
variable {rs : RSt}
/-- What stands for right i once the environments below e, and k rights of e, have been told. -/
def foAt (rs : RSt) (e k i : Nat) : Int := match rs.rights[i]? with
  | none => -1
  | some r => if lv rs.rights i && (decide (r.env < e) || (decide (r.env = e) && decide ((listTo rs e i).length < k))) then r.fr else -1
def frA (rs : RSt) (i : Nat) : Int := match rs.rights[i]? with
  | none => -1
  | some r => if lv rs.rights i then r.fr else -1

theorem fo_zero (hI : RInv rs) (i : Nat) : foAt rs 0 0 i = -1 := by
  unfold foAt
  cases hr : rs.rights[i]? with
  | none => rfl
  | some r =>
    have := hI.env i r hr
    simp only
    rw [if_neg]
    simp
    omega
theorem fo_all (hI : RInv rs) (i : Nat) : foAt rs rs.ne 0 i = frA rs i := by
  unfold foAt frA
  cases hr : rs.rights[i]? with
  | none => rfl
  | some r =>
    have := hI.env i r hr
    simp [this.2]
theorem fo_end (hH : HInv rs) (e i : Nat) : foAt rs e (toldR rs e).length i = foAt rs (e + 1) 0 i := by
  unfold foAt
  cases hr : rs.rights[i]? with
  | none => rfl
  | some r =>
    simp only
    cases hl : lv rs.rights i with
    | false => simp
    | true =>
      have ha := hH.alv i r hr hl
      by_cases h1 : r.env < e
      · have h2 : r.env < (e : Int) + 1 := by omega
        simp [h1, h2]
      · by_cases h3 : r.env = e
        · have h4 : (toldR rs e).length = (listR rs e).length := by unfold toldR; rw [← h3, ha]; rfl
          have := listTo_lt hr hl h3
          rw [h4]
          simp [h3, this]
          omega
        · have h4 : ¬ (r.env < ((e + 1 : Nat) : Int)) := by omega
          simp [h1, h3]
          omega
theorem fo_step (hI : RInv rs) {e k : Nat} {r : RR} (hr : (toldR rs e)[k]? = some r) : ∃ j : Nat, r.h = (j : Int) + 1 ∧ j < rs.rights.length ∧ ∀ i, foAt rs e (k + 1) i = if i = j then r.fr else foAt rs e k i := by
  have hr' : (listTo rs e rs.rights.length)[k]? = some r := by
    unfold toldR at hr
    split at hr
    · exact hr
    · simp at hr
  obtain ⟨j, hj, hq, hl, he, hk⟩ := listTo_find rs e _ k r hr'
  refine ⟨j, hI.hnd j r hq, hj, fun i => ?_⟩
  by_cases hij : i = j
  · subst hij
    rw [if_pos rfl]
    unfold foAt
    rw [hq]
    simp [hl, he, hk]
  · rw [if_neg hij]
    unfold foAt
    cases hx : rs.rights[i]? with
    | none => rfl
    | some x =>
      simp only
      cases hli : lv rs.rights i with
      | false => simp
      | true =>
        by_cases h1 : x.env < e
        · simp [h1]
        · by_cases h3 : x.env = e
          · have : (listTo rs e i).length ≠ k := by
              rcases Nat.lt_or_gt_of_ne hij with h | h
              · have := listTo_mono h hx hli h3; omega
              · have := listTo_mono h hq hl he; omega
            have h5 : (decide ((listTo rs e i).length < k + 1)) = decide ((listTo rs e i).length < k) := by
              rw [decide_eq_decide]; omega
            rw [h5]
          · simp [h1, h3]
end

section
variable {own own1 : Nat → Nat × Nat} {w w1 w2 : World} {b m s : Nat} {rs rs' : RSt} {t t' : RSt} {nk N : Nat} {vM : Value} {M : MT}

set_option maxHeartbeats 4000000 in
set_option maxRecDepth 100000 in
theorem bframes_any (P : Api M) (hp : M own 2 w m rs) (hb : BRep own 1 w b m s rs vM) (hs : SOk rs) (hH : HInv rs) (hf : RFix rs nk) (hN : rs.rights.length ≤ N) (hm : (N + 2) * 48 ≤ 140737488355328) :
    Calls Try.prog 23 #[.pointer (some ⟨b, 0, none⟩)] w fun e w' => ∃ g, e = .returned (.slice (some ⟨g, 0, none⟩) rs.rights.length rs.rights.length) ∧ Below w.heap.size w w' ∧ w.heap.size ≤ g ∧ Blk w' g (icells (frA rs) rs.rights.length) 3 := by
  have hF : Few rs := by unfold Few; omega
  have h4 := hf.ne
  have c4 := hb.c4
  obtain ⟨n, hn⟩ : ∃ n, rs.rights.length = n := ⟨_, rfl⟩
  have HN : Hid (rs.rights.length = n) := hn
  obtain ⟨aoM, capM, hvM, hcM⟩ := hb.row.shape'
  rw [hvM] at c4
  rw [hn] at c4 hN hcM ⊢
  have Hv : Hid (vM = .slice aoM rs.rights.length capM) := hvM
  clear hvM hn
  have hmk := run_make_big (P := Try.prog) Try.underlying63 Try.infoI n (by omega) (by omega) _ (made_int n) w
  go_enter Try.func23, Try.ntmps23
  go_wp2_with fail
  go_loopg [4] n (fun k x wr => ∃ q : Nat, x = .int .i64 q ∧ q + k = n ∧ Below w.heap.size w wr ∧ Blk wr w.heap.size (icells (fun i => if i < q then -1 else 0) n) 3)
  case atStart => exact ⟨0, rfl, by omega, (Below.refl _ _).alloc (Nat.le_refl _) _, Blk.new _ _ _⟩
  case round =>
    obtain ⟨q, rfl, hk, hbl, hbk⟩ := hrel
    have HK : Hid (q + gk = n) := hk
    have hq : q ≤ n := by omega
    clear hk
    by_cases hlt : q < n
    · have i0 := (hbk.cell q).trans (icells_get _ hlt)
      have fe := hbk.frozen q
      have hq0 : (0 : Int) ≤ (q : Int) := by omega
      have hq1 : (q : Int) < (n : Int) := by omega
      go_wp2_with fail
      go_roundg (gk - 1)
      case measure => have := HK.out; omega
      case rel => exact ⟨q + 1, by go_num, by have := HK.out; omega, hbl.setCell (by simp) _, by rw [← icells_set (f := fun i => if i < q then -1 else 0) (k := q) (v := -1) (fun i hi => by by_cases h1 : i = q; (simp [h1]); by_cases h2 : i < q; (simp [h1, h2]; omega); simp [h1, h2]; omega)]; exact hbk.set _ _⟩
    · obtain rfl : q = n := by omega
      have hbk0 : Blk wr w.heap.size (icells (foAt rs 0 0) q) 3 := by
        rw [icells_congr (g := fun i => if i < q then -1 else 0)]
        · exact hbk
        · intro i hi; rw [fo_zero hs.inv]; simp [hi]
      clear hbk HK
      go_wp2_with fail
      obtain ⟨wo0, rfl⟩ : ∃ wo : World, wo = wr := ⟨_, rfl⟩
      obtain ⟨go0, rfl⟩ : ∃ go : Nat, go = gk := ⟨_, rfl⟩
      go_loopg [5] rs.ne (fun k x wx => ∃ e : Nat, x = .int .i64 e ∧ e + k = rs.ne ∧ Below w.heap.size w wx ∧ Blk wx w.heap.size (icells (foAt rs e 0) q) 3)
      case atStart => exact ⟨0, rfl, by omega, hbl, hbk0⟩
      case round =>
        clear hbl hbk0
        obtain ⟨e, rfl, hk, hbl, hbk⟩ := hrel
        have HK : Hid (e + gk = rs.ne) := hk
        have he : e ≤ rs.ne := by omega
        clear hk
        have hB := hb.below hbl
        have hP := P.below hp hbl
        have k0 := hB.c0
        have k3 := hB.c3
        by_cases hlt : e < rs.ne
        · go_wp2_with fail
          refine (P.rights hP hs hF e ⟨by omega, by omega⟩).mono ?_
          rintro en w1 ⟨v, rfl, hb1, hfr, hrow⟩
          have hle := toldR_le rs e
          obtain ⟨ao, cap, hv, hcase⟩ := hrow.shape'
          subst hv
          have hbl1 := hbl.trans (hb1.mono hbl.size)
          have hbk1 := hbk.of (hb1.block _ hbk.lt)
          obtain ⟨t, ht⟩ : ∃ t, (toldR rs e).length = t := ⟨_, rfl⟩
          have HT : Hid ((toldR rs e).length = t) := ht
          rw [ht] at hle hcase hrow ⊢
          rw [ht] at hfr
          rw [HN.out] at hle
          clear ht
          have hfr' : ∀ x, (Value.slice ao t cap).ownBlock = some x → x ≠ w.heap.size := fun x hx e => by have := hfr x hx; have := hbk.lt; omega
          clear hbl hbk hB hP k0 k3 hfr
          go_wp2_with fail
          obtain ⟨wo, rfl⟩ : ∃ wo : World, wo = wr := ⟨_, rfl⟩
          obtain ⟨go, rfl⟩ : ∃ go : Nat, go = gk := ⟨_, rfl⟩
          go_loopg [8] t (fun k x wz => ∃ c : Nat, x = .int .i64 c ∧ c + k = t ∧ Below w.heap.size w wz ∧ Blk wz w.heap.size (icells (foAt rs e c) q) 3 ∧ Row wz (.slice ao t cap) 62 4 t ((toldR rs e).flatMap rcells))
          case atStart => exact ⟨0, rfl, by omega, hbl1, hbk1, hrow⟩
          case round =>
            clear hbl1 hbk1 hrow
            obtain ⟨c, rfl, hk, hbl, hbk, hrow⟩ := hrel
            have HC : Hid (c + gk = t) := hk
            have hc : c ≤ t := by omega
            clear hk
            by_cases hct : c < t
            · obtain ⟨r, hr⟩ : ∃ r, (toldR rs e)[c]? = some r := ⟨(toldR rs e)[c]'(by rw [HT.out]; exact hct), by simp⟩
              obtain ⟨j, hh, hj, hst⟩ := fo_step hs.inv hr
              rw [HN.out] at hj
              rcases hcase with h0 | ⟨g2, rfl⟩
              · omega
              have hgne := hfr' g2 rfl
              have hgne' : w.heap.size ≠ g2 := fun e => hgne e.symm
              have cc : ∀ j, j < 4 → wr.cell? ⟨g2, c * 4 + j, none⟩ = (rcells r)[j]? := fun j hj => by rw [hrow.cellAt' _ (by omega), flat_get rcells 4 (fun _ => rfl) (toldR rs e) c j r hr hj]
              have u0 := (cc 0 (by omega)).trans (show _ = some (.int .i64 r.h) from rfl)
              have u2 := (cc 2 (by omega)).trans (show _ = some (.int .i64 r.fr) from rfl)
              simp only [Nat.add_zero] at u0
              have hw1 : IntKind.i64.wrap (r.h - 1) = (j : Int) := by rw [IntKind.wrap_i64]; omega
              have hg1 : (1 : Int) ≤ r.h := by omega
              have hg2 : r.h ≤ (q : Int) := by omega
              have i0 := (hbk.cell j).trans (icells_get _ hj)
              have fe := hbk.frozen j
              have HS : Hid (∀ i, foAt rs e (c + 1) i = if i = j then r.fr else foAt rs e c i) := hst
              have hc0 : (0 : Int) ≤ (c : Int) := by omega
              have hc1 : (c : Int) < (t : Int) := by omega
              have hj0 : (0 : Int) ≤ (j : Int) := by omega
              have hj1 : (j : Int) < (q : Int) := by omega
              clear hr hst cc hh
              go_wp2_with fail
              go_region_held3 (fun w' => w'.cell? ⟨g2, c * 4, none⟩ = some (.int .i64 r.h) ∧ w'.cell? ⟨g2, c * 4 + 2, none⟩ = some (.int .i64 r.fr)) (go_keep) (fail)
              go_wp2_with fail
              go_roundg (gk - 1)
              case measure => have := HC.out; omega
              case rel => exact ⟨c + 1, by go_num, by have := HC.out; omega, (hbl.setCell (by simp) _).drew, Blk.drew (by rw [← icells_set (f := foAt rs e c) (fun i _ => HS.out i)]; exact hbk.set _ _), (hrow.other _ (by simp [Value.ownBlock]; exact hgne)).drew⟩
            · obtain rfl : c = t := by omega
              go_wp2_with fail
              go_roundg (go - 1)
              case measure => have := HK.out; omega
              case rel => exact ⟨e + 1, by go_num, by have := HK.out; omega, hbl, by rw [icells_congr (g := foAt rs e c)]; exact hbk; intro i hi; rw [← HT.out]; exact (fo_end hH e i).symm⟩
        · obtain rfl : e = rs.ne := by omega
          go_wp2_with fail
          go_ret
          refine ⟨_, rfl, hbl, Nat.le_refl _, ?_⟩
          rw [icells_congr (g := foAt rs rs.ne 0)]
          · exact hbk
          · intro i hi; exact (fo_all hs.inv i).symm
end
end Go.Proofs.Ytinlkcmdbjcofaa

/-
  'framed': each first right that is alive has a frame of its own, each other one the frame of the one that it comes of.
-/
namespace Go.Proofs.Ytinlkcmdbjcofaa
open Go.RowKit
set_option linter.unusedVariables false
attribute [local go_sem ↓] Go.wp_at_zero Go.wp_at_succ

section
variable {own own1 : Nat → Nat × Nat} {w w1 w2 : World} {b m s : Nat} {rs rs' : RSt} {t t' : RSt} {nk N : Nat} {vM : Value} {M : MT}

theorem frA_live {i : Nat} {r : RR} (hr : rs.rights[i]? = some r) (hl : lv rs.rights i = true) : frA rs i = r.fr := by
  unfold frA; rw [hr]; simp [hl]

set_option maxHeartbeats 4000000 in
set_option maxRecDepth 100000 in
theorem bframed_any (P : Api M) (hp : M own 2 w m rs) (hb : BRep own 1 w b m s rs vM) (hs : SOk rs) (hH : HInv rs) (hf : RFix rs nk) (hN : rs.rights.length ≤ N) (hm : (N + 2) * 48 ≤ 140737488355328) :
    Calls Try.prog 9 #[.pointer (some ⟨b, 0, none⟩)] w fun e w' => e = .returned (.bool true) ∧ Below w.heap.size w w' := by
  go_enter Try.func9, Try.ntmps9
  go_wp2_with fail
  refine (bframes_any P hp hb hs hH hf hN hm).mono ?_
  rintro e w1 ⟨g, rfl, hb1, hgl, hbk1⟩
  have hB1 := hb.below hb1
  obtain ⟨n, hn⟩ : ∃ n, rs.rights.length = n := ⟨_, rfl⟩
  have HN : Hid (rs.rights.length = n) := hn
  obtain ⟨aoM, capM, hvM, hcM⟩ := hB1.row.shape'
  rw [hn] at hN hcM hbk1 ⊢
  have Hv : Hid (vM = .slice aoM rs.rights.length capM) := hvM
  clear hvM hn
  go_wp2_with fail
  go_loopg [4] n (fun k x wr => ∃ q : Nat, x = .int .i64 q ∧ q + k = n ∧ Below w1.heap.size w1 wr)
  case atStart => exact ⟨0, rfl, by omega, Below.refl _ _⟩
  case round =>
    obtain ⟨q, rfl, hk, hbl⟩ := hrel
    have HK : Hid (q + gk = n) := hk
    have hq : q ≤ n := by omega
    clear hk
    by_cases hlt : q < n
    · obtain ⟨r, hr⟩ : ∃ r, rs.rights[q]? = some r := ⟨rs.rights[q]'(by rw [HN.out]; exact hlt), by simp⟩
      have hB := hB1.below hbl
      have hbk := hbk1.below hbl hbk1.lt
      have j4 := hB.c4
      obtain ⟨gM, capr, hvr, _, d0, d1, d2, d3, _⟩ := hB.right hr
      have hvr' := hvr
      rw [Hv.out] at hvr
      simp at hvr
      obtain ⟨rfl, rfl⟩ := hvr
      rw [hvr', HN.out] at j4
      have hq0 : (0 : Int) ≤ (q : Int) := by omega
      have hq1 : (q : Int) < (n : Int) := by omega
      have hord := hs.inv.ord q r hr
      go_wp2_with fail
      refine (bliving_any hB hs.inv.ord (by rw [HN.out]; omega) q (by rw [HN.out]; omega) (by omega)).mono ?_
      rintro e w3 ⟨rfl, hw3⟩
      subst hw3
      cases hl : lv rs.rights q
      · clear hr hvr'
        go_wp2_with fail
        go_roundg (gk - 1)
        case measure => have := HK.out; omega
        case rel => exact ⟨q + 1, by go_num, by have := HK.out; omega, hbl⟩
      · have hfq := frA_live hr hl
        have hfr := hs.inv.fr q r hr
        have i0 := (hbk.cell q).trans (icells_get _ hlt)
        rw [hfq] at i0
        have y1 : decide (r.fr < 0) = false := decide_eq_false (by omega)
        by_cases h0 : 0 ≤ r.frm
        · obtain ⟨r', hr', hff⟩ := hH.same q r hr h0
          have hlp : lv rs.rights r.frm.toNat = true := by
            have := lv_step hs.inv.ord hr
            rw [hl] at this
            simp at this
            rw [Int.toNat_of_nonneg h0]
            exact this.2
          have hfp := frA_live hr' hlp
          obtain ⟨p, hpp⟩ : ∃ p : Nat, r.frm = p := ⟨r.frm.toNat, by omega⟩
          rw [hpp] at hfp hr' d1
          simp only [Int.toNat_natCast] at hfp hr'
          have hpl : p < n := by omega
          have ip := (hbk.cell p).trans (icells_get _ hpl)
          rw [hfp, hff] at ip
          have hp0 : (0 : Int) ≤ (p : Int) := by omega
          have hp1 : (p : Int) < (n : Int) := by omega
          have y3 : (r.fr != r.fr) = false := by simp
          have y4 : decide ((p : Int) < 0) = false := decide_eq_false (by omega)
          clear hr hvr' hr' hff hfp hfq hpp hlp hord
          go_wp2_with fail
          go_quiet (fail)
          go_wp2_with fail
          obtain ⟨wo, hwo⟩ : ∃ wo : World, wo = w3.drewN nq := ⟨_, rfl⟩
          have hbl' : Below w1.heap.size w1 wo := by rw [hwo]; exact below_drewN hbl _
          rw [← hwo]
          clear hwo hbl
          obtain ⟨go, rfl⟩ : ∃ go : Nat, go = gk := ⟨_, rfl⟩
          go_loopg [7] 0 (fun k x wr => x = .int .i64 0 ∧ wr = wo)
          case atStart => exact ⟨rfl, rfl⟩
          case round =>
            obtain ⟨rfl, rfl⟩ := hrel
            rcases Nat.eq_zero_or_pos q with rfl | hqp
            · go_wp2_with fail
              go_roundg (go - 1)
              case measure => have := HK.out; omega
              case rel => exact ⟨1, by go_num, by have := HK.out; omega, hbl'⟩
            · have hqp' : (0 : Int) < (q : Int) := by omega
              go_wp2_with fail
              go_roundg (go - 1)
              case measure => have := HK.out; omega
              case rel => exact ⟨q + 1, by go_num, by have := HK.out; omega, hbl'⟩
        · have hfm : r.frm = -1 := by omega
          rw [hfm] at d1
          have HR : Hid (rs.rights[q]? = some r ∧ lv rs.rights q = true ∧ r.frm < 0) := ⟨hr, hl, by omega⟩
          clear hvr' hfq hord hr hfm h0
          go_wp2_with fail
          go_quiet (fail)
          go_wp2_with fail
          obtain ⟨wo, hwo⟩ : ∃ wo : World, wo = w3.drewN nq := ⟨_, rfl⟩
          have hbl' : Below w1.heap.size w1 wo := by rw [hwo]; exact below_drewN hbl _
          rw [← hwo]
          clear hwo hbl hB hbk j4 d0 d1 d2 d3 i0
          obtain ⟨go, rfl⟩ : ∃ go : Nat, go = gk := ⟨_, rfl⟩
          go_loopg [7] q (fun k x wr => ∃ c : Nat, x = .int .i64 c ∧ c + k = q ∧ Below w1.heap.size w1 wr)
          case atStart => exact ⟨0, rfl, by omega, hbl'⟩
          case round =>
            clear hbl'
            obtain ⟨c, rfl, hk, hbl⟩ := hrel
            have HC : Hid (c + gk = q) := hk
            have hc : c ≤ q := by omega
            clear hk
            by_cases hct : c < q
            · obtain ⟨x, hx⟩ : ∃ x, rs.rights[c]? = some x := ⟨rs.rights[c]'(by rw [HN.out]; omega), by simp⟩
              have hB := hB1.below hbl
              have hbk := hbk1.below hbl hbk1.lt
              have j4 := hB.c4
              obtain ⟨gM', capr', hvr2, _, _, d1, _, _, _⟩ := hB.right hx
              have hvr3 := hvr2
              rw [Hv.out] at hvr2
              simp at hvr2
              obtain ⟨rfl, rfl⟩ := hvr2
              rw [hvr3, HN.out] at j4
              have hc0 : (0 : Int) ≤ (c : Int) := by omega
              have hc1 : (c : Int) < (n : Int) := by omega
              have hcq : (c : Int) < (q : Int) := by omega
              by_cases hxf : x.frm < 0
              · clear hvr3
                go_wp2_with fail
                refine (bliving_any hB hs.inv.ord (by rw [HN.out]; omega) c (by rw [HN.out]; omega) (by omega)).mono ?_
                rintro e w4 ⟨rfl, hw4⟩
                subst hw4
                cases hl2 : lv rs.rights c
                · clear hx
                  go_wp2_with fail
                  go_quiet (fail)
                  go_wp2_with fail
                  go_roundg (gk - 1)
                  case measure => have := HC.out; omega
                  case rel => exact ⟨c + 1, by go_num, by have := HC.out; omega, below_drewN hbl _⟩
                · have hne : x.fr ≠ r.fr := fun e => by
                    obtain ⟨z1, z2, z3⟩ := HR.out
                    have := hH.one c q x r hx z1 hl2 z2 hxf z3 e
                    omega
                  have i1 := (hbk.cell c).trans (icells_get _ (by omega))
                  rw [frA_live hx hl2] at i1
                  have i0 := (hbk.cell q).trans (icells_get _ hlt)
                  rw [frA_live HR.out.1 HR.out.2.1] at i0
                  have y6 : (x.fr == r.fr) = false := by simpa using hne
                  clear hx
                  go_wp2_with fail
                  go_quiet (fail)
                  go_wp2_with fail
                  go_roundg (gk - 1)
                  case measure => have := HC.out; omega
                  case rel => exact ⟨c + 1, by go_num, by have := HC.out; omega, below_drewN hbl _⟩
              · have y5 : decide (x.frm < 0) = false := decide_eq_false hxf
                clear hvr3 hx
                go_wp2_with fail
                go_quiet (fail)
                go_wp2_with fail
                go_roundg (gk - 1)
                case measure => have := HC.out; omega
                case rel => exact ⟨c + 1, by go_num, by have := HC.out; omega, below_drewN hbl _⟩
            · obtain rfl : c = q := by omega
              go_wp2_with fail
              go_roundg (go - 1)
              case measure => have := HK.out; omega
              case rel => exact ⟨c + 1, by go_num, by have := HK.out; omega, hbl⟩
    · obtain rfl : q = n := by omega
      go_wp2_with fail
      go_ret
      exact ⟨rfl, hb1.trans (hbl.mono hb1.size)⟩
end
end Go.Proofs.Ytinlkcmdbjcofaa

/-
  'play': one step of a script.
-/
namespace Go.Proofs.Ytinlkcmdbjcofaa
open Go.RowKit
set_option linter.unusedVariables false
attribute [local go_sem ↓] Go.wp_at_zero Go.wp_at_succ

/-- The machine and the book in step: behind i steps. -/
def HB (M : MT) (w0 : World) (b m s E i : Nat) (w : World) : Prop := ∃ (own : Nat → Nat × Nat) (rs : RSt) (nk : Nat) (vM : Value), M own 2 w m rs ∧ BRep own 1 w b m s rs vM ∧ SOk rs ∧ HInv rs ∧ RFix rs nk ∧ rs.rights.length ≤ i ∧ rs.ne = E ∧ (∀ x, x < w0.heap.size → (own x).1 = 0) ∧ Below w0.heap.size w0 w

section
variable {w0 w w' : World} {b m s E i nk : Nat} {own : Nat → Nat × Nat} {rs rs' : RSt} {vM : Value} {M : MT}
theorem HB.below (P : Api M) (h : HB M w0 b m s E i w) (hb : Below w.heap.size w w') : HB M w0 b m s E i w' := by
  obtain ⟨own, rs, nk, vM, h1, h2, h3, h4, h5, h6, h7, h8, h9⟩ := h
  exact ⟨own, rs, nk, vM, P.below h1 hb, h2.below hb, h3, h4, h5, h6, h7, h8, h9.trans (hb.mono h9.size)⟩
theorem HB.mono (h : HB M w0 b m s E i w) : HB M w0 b m s E (i + 1) w := by
  obtain ⟨own, rs, nk, vM, h1, h2, h3, h4, h5, h6, h7, h8, h9⟩ := h
  exact ⟨own, rs, nk, vM, h1, h2, h3, h4, h5, by omega, h7, h8, h9⟩
theorem HB.of (hn : BRes M own w w' b m s rs') (hs : SOk rs') (hH : HInv rs') (hg : Grows rs rs') (hf : RFix rs nk) (hl : rs.rights.length ≤ i) (hE : rs.ne = E) (ho : ∀ x, x < w0.heap.size → (own x).1 = 0) (hb : Below w0.heap.size w0 w) : HB M w0 b m s E (i + 1) w' := by
  obtain ⟨own', vM, h1, h2, h3, h4⟩ := hn
  obtain ⟨a1, a2, a3, a4, a5, a6⟩ := hg
  have hsz := hb.size
  exact ⟨own', rs', nk, vM, h1, h2, hs, hH, hf.of a1 a2 a3 a4 a5, by omega, by omega, fun x hx => by rw [h3 x (by omega)]; exact ho x hx,
    hb.trans ((h4.mono (B' := w0.heap.size) (S' := fun _ => False) hsz (fun k hk h => by have := ho k hk; omega)).below (by simp))⟩
end

section
variable {w0 w w' : World} {b m s E i : Nat} {M : MT}

set_option maxHeartbeats 4000000 in
set_option maxRecDepth 100000 in
theorem play_any (P : Api M) (h : HB M w0 b m s E i w) (hi : (i + 2) * 48 ≤ 140737488355328) (hE : 1 ≤ E) (o : LStep) (v0 : -9223372036854775808 ≤ o.V) (v1 : o.V ≤ 9223372036854775807) (a0 : -9223372036854775808 ≤ o.A) (a1 : o.A ≤ 9223372036854775807) (b0 : -9223372036854775808 ≤ o.B) (b1 : o.B ≤ 9223372036854775807) :
    Calls Try.prog 7 #[.pointer (some ⟨b, 0, none⟩), .agg #[.int .i64 o.K, .int .i64 o.V, .int .i64 o.A, .int .i64 o.B, .int .i64 o.C, .bool o.F]] w fun e w' => e = .returned (.bool true) ∧ HB M w0 b m s E (i + 1) w' := by
  obtain ⟨own, rs, nk, vM, h1, h2, h3, h4, h5, h6, h7, h8, h9⟩ := h
  have hne := h5.ne
  rw [h7] at hne
  have k3 := h2.c3
  have k4 := h2.c4
  have hbl := h2.blk.lt
  rw [h7] at k3
  obtain ⟨ao, cap, hv, -⟩ := h2.row.shape'
  obtain ⟨n, hn⟩ : ∃ n, rs.rights.length = n := ⟨_, rfl⟩
  have HN : Hid (rs.rights.length = n) := hn
  rw [hv, hn] at k4
  have hnl : n ≤ i := by omega
  have hw3 : IntKind.i64.wrap ((n : Int) + 3) = (n : Int) + 3 := by rw [IntKind.wrap_i64]; omega
  have hE0 : (0 : Int) < (E : Int) := by omega
  have hE1 : (E : Int) ≤ 4611686018427387904 := by omega
  have hn0 : (0 : Int) < (n : Int) + 3 := by omega
  have hn1 : (n : Int) + 3 ≤ 4611686018427387904 := by omega
  have hbne : b ≠ w.heap.size := by omega
  have hbne' : w.heap.size ≠ b := by omega
  clear hn hv
  have fin : ∀ {rs' : RSt} {w1 w' : World}, Below w.heap.size w w1 → BRes M own w1 w' b m s rs' → SOk rs' → HInv rs' → Grows rs rs' → HB M w0 b m s E (i + 1) w' := fun hb hn hs hH hg => HB.of hn hs hH hg h5 h6 h7 h8 (h9.trans (hb.mono h9.size))
  go_enter Try.func7, Try.ntmps7
  go_wp2_with fail
  go_region_held3 (fun w' => w'.cell? ⟨w.heap.size, 1, none⟩ = some (.int .i64 o.V) ∧ w'.cell? ⟨b, 3, none⟩ = some (.int .i64 E)) (go_keep)
    ((first
      | (go_at_call 16; refine (pick_ex _ _ v0 v1 hE0 hE1 _).mono ?_; rintro e w5 ⟨env, henv, rfl, hw5⟩; subst hw5)))
  go_wp2_with fail
  go_region_held3 (fun w' => w'.cell? ⟨w.heap.size, 2, none⟩ = some (.int .i64 o.A) ∧ w'.cell? ⟨b, 4, none⟩ = some (.slice ao n cap)) (go_keep)
    ((first
      | (go_at_call 16; refine (pick_ex _ _ a0 a1 hn0 hn1 _).mono ?_; rintro e w5 ⟨hd, hhd, rfl, hw5⟩; subst hw5)))
  clear hw3 hE0 hE1 hn0 hn1 a0 a1 v0 v1
  have hW : Below w.heap.size w (w.alloc (.cells #[.int .i64 o.K, .int .i64 o.V, .int .i64 o.A, .int .i64 o.B, .int .i64 o.C, .bool o.F] 36)).drew.drew := (((Below.refl _ _).alloc (Nat.le_refl _) _).drew).drew
  have p1 := P.below h1 hW
  have p2 := h2.below hW
  have he : env < rs.ne := by omega
  have hd0 : (0 : Int) ≤ (hd : Int) := by omega
  have hd1 : (hd : Int) ≤ 9223372036854775807 := by omega
  clear k3 k4
  by_cases hK0 : o.K = 0
  · have y0 : (o.K == 0) = true := by simp [hK0]
    clear hK0
    go_wp2_with fail
    refine (balloc_any P p1 p2 h3 h4 h5 h6 hi env he).mono ?_
    rintro e w1 ⟨rfl, hn⟩
    go_wp2_with fail
    go_ret
    exact ⟨rfl, fin hW hn (h3.alloc env) (h4.alloc h3.inv env) (allocR_grows env)⟩
  have y0 : (o.K == 0) = false := beq_eq_false_iff_ne.2 hK0
  by_cases hK1 : o.K = 1
  · have y1 : (o.K == 1) = true := by simp [hK1]
    clear hK0 hK1
    obtain ⟨own2, hown⟩ : ∃ own2 : Nat → Nat × Nat, own2 = fun x => if x < w.heap.size then own x else (0, 0) := ⟨_, rfl⟩
    have o1 : ∀ x, x < w.heap.size → own2 x = own x := fun x hx => by rw [hown]; exact if_pos hx
    have o2 : (own2 w.heap.size).1 = 0 := by rw [hown]; simp
    clear hown
    have hWd := hW.drew
    have hblk := fun x (hx : x < w.heap.size) => hWd.block x hx
    have r1 := P.of h1 o1 (fun x hx _ => hblk x hx)
    have r2 := h2.of o1 (fun x hx _ => hblk x hx)
    have k3 := h2.c3
    rw [h7] at k3
    have hbx := Blk.new w [.int .i64 o.K, .int .i64 o.V, .int .i64 o.A, .int .i64 o.B, .int .i64 o.C, .bool o.F] 36
    have HG : Hid (∀ te : Nat, (deriveR rs env hd te o.F).2.ne = E) := fun te => by have := (deriveR_grows (s := rs) env hd te o.F).2.1; rw [this, h7]
    go_wp2_with fail
    go_region_held3 (fun w' => w'.cell? ⟨w.heap.size, 3, none⟩ = some (.int .i64 o.B) ∧ w'.cell? ⟨w.heap.size, 5, none⟩ = some (.bool o.F) ∧ w'.cell? ⟨b, 3, none⟩ = some (.int .i64 E)) (go_keep)
      ((first
        | (go_at_call 16; refine (pick_ex _ _ b0 b1 (by omega) (by omega) _).mono ?_; rintro e w5 ⟨te, hte, rfl, hw5⟩; subst hw5)
        | (go_at_call 18; refine (bderive_any P r1 r2 h3 h4 h5 h6 hi env te he (by omega) hd hd0 hd1 o.F).mono ?_; rintro e w5 ⟨rfl, hn⟩
           have hb5 : Blk w5 w.heap.size [.int .i64 o.K, .int .i64 o.V, .int .i64 o.A, .int .i64 o.B, .int .i64 o.C, .bool o.F] 36 := by
             obtain ⟨_, _, _, _, _, ht5⟩ := hn
             exact hbx.of (ht5.block _ (by show w.heap.size < (w.alloc _).heap.size; simp) (fun e => by omega))
           have hq3 : w5.cell? ⟨b, 3, none⟩ = some (.int .i64 E) := by
             obtain ⟨_, _, _, hb9, _, _⟩ := hn
             rw [hb9.c3, HG.out te]
           have e3 := hb5.cell 3
           have e5 := hb5.cell 5
           simp at e3 e5)))
    go_wp2_with fail
    go_ret
    refine ⟨rfl, HB.of (own := own2) hn (h3.derive env hd te o.F) (h4.derive h3.inv env hd te o.F) (deriveR_grows env hd te o.F) h5 h6 h7 (fun x hx => by rw [o1 x (Nat.lt_of_lt_of_le hx h9.size)]; exact h8 x hx) (h9.trans (hWd.mono h9.size))⟩
  have y1 : (o.K == 1) = false := beq_eq_false_iff_ne.2 hK1
  by_cases hK2 : o.K = 2
  · have y2 : (o.K == 2) = true := by simp [hK2]
    clear hK0 hK1 hK2
    go_wp2_with fail
    refine (brevoke_any P p1 p2 h3 h4 h5 h6 hi env he hd hd0 hd1).mono ?_
    rintro e w1 ⟨rfl, hn⟩
    go_wp2_with fail
    go_ret
    exact ⟨rfl, fin hW hn (h3.revoke env hd) (h4.revoke h3.inv env hd) (revokeR_grows env hd)⟩
  have y2 : (o.K == 2) = false := beq_eq_false_iff_ne.2 hK2
  by_cases hK3 : o.K = 3
  · have y3 : (o.K == 3) = true := by simp [hK3]
    clear hK0 hK1 hK2 hK3
    go_wp2_with fail
    refine (bdrop_any P p1 p2 h3 h4 h5 h6 hi env he hd hd0 hd1).mono ?_
    rintro e w1 ⟨rfl, hn⟩
    go_wp2_with fail
    go_ret
    exact ⟨rfl, fin hW hn (h3.drop env hd) (h4.drop h3.inv env hd) (dropR_grows env hd)⟩
  have y3 : (o.K == 3) = false := beq_eq_false_iff_ne.2 hK3
  by_cases hK4 : o.K = 11
  · have y4 : (o.K == 11) = true := by simp [hK4]
    clear hK0 hK1 hK2 hK3 hK4
    go_wp2_with fail
    refine (bkill_any P p1 p2 h3 h5 h6 hi env he).mono ?_
    rintro e w1 ⟨rfl, hn⟩
    go_wp2_with fail
    go_ret
    exact ⟨rfl, fin hW hn (h3.kill env) (h4.kill h3.inv env) (killR_grows env)⟩
  have y4 : (o.K == 11) = false := beq_eq_false_iff_ne.2 hK4
  by_cases hK5 : o.K = 12
  · have y5 : (o.K == 12) = true := by simp [hK5]
    clear hK0 hK1 hK2 hK3 hK4 hK5
    go_wp2_with fail
    refine (bspawn_any P p1 p2 h3 h5 h6 hi env he).mono ?_
    rintro e w1 ⟨rfl, hn⟩
    go_wp2_with fail
    go_ret
    exact ⟨rfl, fin hW hn (h3.spawn env) (h4.spawn env) (spawnR_grows env)⟩
  have y5 : (o.K == 12) = false := beq_eq_false_iff_ne.2 hK5
  have hkeep : ∀ {w' : World}, Below w.heap.size w w' → HB M w0 b m s E (i + 1) w' := fun hb => HB.mono (HB.below P ⟨own, rs, nk, vM, h1, h2, h3, h4, h5, h6, h7, h8, h9⟩ hb)
  by_cases hK6 : o.K = 13
  · have y6 : (o.K == 13) = true := by simp [hK6]
    clear hK0 hK1 hK2 hK3 hK4 hK5 hK6
    go_wp2_with fail
    refine (btold_any P p1 p2 h3 h5 h6 hi env he).mono ?_
    rintro e w1 ⟨rfl, hb1⟩
    go_wp2_with fail
    refine (bframed_any P (P.below p1 hb1) (p2.below hb1) h3 h4 h5 h6 hi).mono ?_
    rintro e w2 ⟨rfl, hb2⟩
    go_wp2_with fail
    go_ret
    exact ⟨rfl, hkeep (hW.trans ((hb1.mono hW.size).trans (hb2.mono (Nat.le_trans hW.size hb1.size))))⟩
  · have y6 : (o.K == 13) = false := beq_eq_false_iff_ne.2 hK6
    clear hK0 hK1 hK2 hK3 hK4 hK5 hK6
    go_wp2_with fail
    go_ret
    exact ⟨rfl, hkeep hW⟩
end
end Go.Proofs.Ytinlkcmdbjcofaa

/-
  'Handles' itself.
-/
namespace Go.Proofs.Ytinlkcmdbjcofaa
open Go.RowKit
set_option linter.unusedVariables false
attribute [local go_sem ↓] Go.wp_at_zero Go.wp_at_succ

def bk (m a s c q : Nat) : List Value := [.pointer (some ⟨m, 0, none⟩), .int .i64 a, .int .i64 s, .int .i64 c, .slice none 0 0, .bool (decide (0 < q)), .bool (decide (1 < q)), .bool (decide (2 < q)), .bool (decide (3 < q))]
theorem bk_set (m a s c : Nat) {q : Nat} (h : q < 4) : (bk m a s c q).set (5 + q) (.bool true) = bk m a s c (q + 1) := by
  have : q = 0 ∨ q = 1 ∨ q = 2 ∨ q = 3 := by omega
  rcases this with rfl | rfl | rfl | rfl <;> rfl
theorem bk_get (m a s c : Nat) {q : Nat} (h : q < 4) : ∃ v, (bk m a s c q)[5 + q]? = some (.bool v) := by
  have : q = 0 ∨ q = 1 ∨ q = 2 ∨ q = 3 := by omega
  rcases this with rfl | rfl | rfl | rfl <;> exact ⟨_, rfl⟩
theorem bk_full (m a s : Nat) {c : Nat} : bk m a s c c = bcells m s (RSt.fresh a s c) (.slice none 0 0) := by
  have h : ∀ j, alAt (RSt.fresh a s c) j = decide (j < c) := fun j => by
    unfold alAt RSt.fresh
    simp only [List.getElem?_replicate]
    by_cases hj : j < c <;> simp [hj]
  simp only [bk, bcells, h]
  rfl

theorem hb_fresh {M : MT} (P : Api M) {f : Nat → Option Nat} {w0 w w' : World} {b m a s c : Nat} (hb : Blk w' b (bk m a s c c) 33) (hm : NewF M w0 w m f (RSt.fresh a s c)) (hk : Below w.heap.size w w') (hwb : w.heap.size ≤ b) (hw : Below w0.heap.size w0 w') (h0 : w0.heap.size ≤ w.heap.size) (ha : a ≤ 16) (hs1 : 1 ≤ s) (hs : s ≤ 8) (hc : c ≤ 4) : HB M w0 b m s c 0 w' := by
  have hm' := NewF.of P hm (fun k _ h2 => hk.block k h2) hk.size
  obtain ⟨own, hown⟩ : ∃ own : Nat → Nat × Nat, own = fun x => if x = b then (1, 0) else match f x with | some j => (2, j) | none => (0, 0) := ⟨_, rfl⟩
  have gb : own b = (1, 0) := by rw [hown]; simp
  have gm : ∀ x j, f x = some j → own x = (2, j) := fun x j hx => by
    have := (hm.1 x j hx).2
    rw [hown]; simp only [if_neg (show ¬ x = b by omega), hx]
  have gz : ∀ x, x < w0.heap.size → (own x).1 = 0 := fun x hx => by
    rw [hown]
    simp only [if_neg (show ¬ x = b by omega)]
    cases hf : f x with
    | none => rfl
    | some j => have := (hm.1 x j hf).1; omega
  rw [bk_full] at hb
  exact ⟨own, RSt.fresh a s c, c, _, hm'.2 own 2 gm, ⟨hb, Row.nil _ _ _, gb, Tg.nil _ _⟩, sok_fresh ha hs1 hs hc, hinv_fresh a s c, (sok_fresh ha hs1 hs hc).fix, by simp [RSt.fresh], rfl, gz, hw⟩

theorem HB.cne {M : MT} {w0 w : World} {b m s E i : Nat} (h : HB M w0 b m s E i w) : w.cell? ⟨b, 3, none⟩ = some (.int .i64 E) := by
  obtain ⟨own, rs, nk, vM, h1, h2, h3, h4, h5, h6, h7, h8, h9⟩ := h
  rw [h2.c3, h7]
theorem HB.bel {M : MT} {w0 w : World} {b m s E i : Nat} (h : HB M w0 b m s E i w) : Below w0.heap.size w0 w := by
  obtain ⟨own, rs, nk, vM, h1, h2, h3, h4, h5, h6, h7, h8, h9⟩ := h
  exact h9
theorem HB.told {M : MT} (P : Api M) {w0 w : World} {b m s E i : Nat} (h : HB M w0 b m s E i w) (hi : (i + 2) * 48 ≤ 140737488355328) (env : Nat) (he : env < E) :
    Calls Try.prog 8 #[.pointer (some ⟨b, 0, none⟩), .int .i64 env] w fun e w' => e = .returned (.bool true) ∧ HB M w0 b m s E i w' := by
  have hx := h
  obtain ⟨own, rs, nk, vM, h1, h2, h3, h4, h5, h6, h7, h8, h9⟩ := hx
  refine (btold_any P h1 h2 h3 h5 h6 (by omega) env (by omega)).mono ?_
  rintro e w1 ⟨rfl, hb1⟩
  exact ⟨rfl, h.below P hb1⟩
theorem HB.framed {M : MT} (P : Api M) {w0 w : World} {b m s E i : Nat} (h : HB M w0 b m s E i w) (hi : (i + 2) * 48 ≤ 140737488355328) :
    Calls Try.prog 9 #[.pointer (some ⟨b, 0, none⟩)] w fun e w' => e = .returned (.bool true) ∧ Below w0.heap.size w0 w' := by
  have hx := h
  obtain ⟨own, rs, nk, vM, h1, h2, h3, h4, h5, h6, h7, h8, h9⟩ := hx
  refine (bframed_any P h1 h2 h3 h4 h5 h6 (by omega)).mono ?_
  rintro e w1 ⟨rfl, hb1⟩
  exact ⟨rfl, (h.below P hb1).bel⟩


set_option maxHeartbeats 4000000 in
set_option maxRecDepth 100000 in
theorem handles_any {M : MT} (P : Api M) (x y z : Int) (hx0 : -9223372036854775808 ≤ x) (hx1 : x ≤ 9223372036854775807) (hy0 : -9223372036854775808 ≤ y) (hy1 : y ≤ 9223372036854775807) (hz0 : -9223372036854775808 ≤ z) (hz1 : z ≤ 9223372036854775807)
    (ao : Option Addr) (len cap : Nat) (w : World) (ops : List LStep) (hl : ops.length = len) (hok : ∀ (i : Nat) (o : LStep), ops[i]? = some o → Inr64 o.V ∧ Inr64 o.A ∧ Inr64 o.B) (hsz : (len + 2) * 48 ≤ 140737488355328)
    (ho : (len = 0) ∨ ∃ b off, ao = some ⟨b, off, none⟩ ∧ b < w.heap.size ∧ ∀ (i : Nat) (o : LStep), ops[i]? = some o → ∀ (j : Nat) (v : Value), o.cells[j]? = some v → w.cell? ⟨b, off + i * 6 + j, none⟩ = some v) :
    Calls Try.prog 3 #[.agg #[.int .i64 x, .int .i64 y, .int .i64 z], .slice ao len cap] w fun e w' => e = .returned (.bool true) ∧ Below w.heap.size w w' := by
  have HX : Hid ((len = 0) ∨ ∃ b off, ao = some ⟨b, off, none⟩ ∧ b < w.heap.size ∧ ∀ (i : Nat) (o : LStep), ops[i]? = some o → ∀ (j : Nat) (v : Value), o.cells[j]? = some v → w.cell? ⟨b, off + i * 6 + j, none⟩ = some v) := ho
  have HL : Hid (ops.length = len) := hl
  have HO : Hid (∀ (i : Nat) (o : LStep), ops[i]? = some o → Inr64 o.V ∧ Inr64 o.A ∧ Inr64 o.B) := hok
  clear ho hl hok
  go_enter Try.func3, Try.ntmps3
  go_wp2_with fail
  refine (built_any P x y z hx0 hx1 hy0 hy1 hz0 hz1 _).mono ?_
  rintro e w1 ⟨m, f, rfl, hb1, hm1⟩
  have hbx := (Blk.new w [.int .i64 x, .int .i64 y, .int .i64 z] 23).below hb1 (by simp)
  have e0 := hbx.cell 0
  have e1 := hbx.cell 1
  have e2 := hbx.cell 2
  simp at e0 e1 e2
  have hs1 : w.heap.size < w1.heap.size := hbx.lt
  have hbw1 : Below w.heap.size w w1 := ((Below.refl _ _).alloc (Nat.le_refl _) _).trans (hb1.mono (by simp))
  have hmm : NewF M w w1 m f (RSt.fresh (cfA x) (cfB y) (cfC z)) := hm1.low (by simp)
  clear hb1 hm1
  go_wp2_with fail
  refine (config_any x y z hx0 hx1 hy0 hy1 hz0 hz1 _).mono ?_
  rintro e w2 ⟨rfl, hb2⟩
  have la := cfA_le x
  have lb := cfB_le y
  have lb1 : 1 ≤ cfB y := by unfold cfB; omega
  have lc := cfC_le z
  have lc1 := cfC_ge z
  obtain ⟨fa, hfa⟩ : ∃ v, cfA x = v := ⟨_, rfl⟩
  obtain ⟨fb, hfb⟩ : ∃ v, cfB y = v := ⟨_, rfl⟩
  obtain ⟨fc, hfc⟩ : ∃ v, cfC z = v := ⟨_, rfl⟩
  rw [hfa, hfb, hfc]
  rw [hfa] at la hmm
  rw [hfb] at lb lb1 hmm
  rw [hfc] at lc lc1 hmm
  clear hfa hfb hfc hbx e0 e1 e2
  have hs2 := hb2.size
  have hbw2 : Below w.heap.size w w2 := hbw1.trans (hb2.mono (by omega))
  have hmm2 : NewF M w w2 m f (RSt.fresh fa fb fc) := NewF.of P hmm (fun k _ h2 => hb2.block k h2) hs2
  clear hmm hb2 hbw1
  go_wp2_with fail
  go_loopg [7] fc (fun k i wr => ∃ q : Nat, i = .int .i64 q ∧ q + k = fc ∧ Below w2.heap.size w2 wr ∧ Blk wr w2.heap.size (bk m fa fb fc q) 33)
  case atStart => exact ⟨0, rfl, by omega, (Below.refl _ _).alloc (Nat.le_refl _) _, Blk.new _ (bk m fa fb fc 0) _⟩
  case round =>
    obtain ⟨q, rfl, hk, hbl, hbk⟩ := hrel
    have HK : Hid (q + gk = fc) := hk
    have hq : q ≤ fc := by omega
    clear hk
    have k3 : wr.cell? ⟨w2.heap.size, 3, none⟩ = some (.int .i64 fc) := (hbk.cell 3).trans rfl
    by_cases hlt : q < fc
    · obtain ⟨v, hv⟩ := bk_get m fa fb fc (show q < 4 by omega)
      have kq := (hbk.cell (5 + q)).trans hv
      have kf := hbk.frozen (5 + q)
      have hq0 : (0 : Int) ≤ (q : Int) := by omega
      have hq1 : (q : Int) < 4 := by omega
      clear hv
      go_wp2_with fail
      go_roundg (gk - 1)
      case measure => have := HK.out; omega
      case rel => exact ⟨q + 1, by go_num, by have := HK.out; omega, hbl.setCell (by simp) _, by rw [← bk_set m fa fb fc (show q < 4 by omega)]; exact hbk.set _ _⟩
    · obtain rfl : q = fc := by omega
      have hB0 : HB M w w2.heap.size m fb q 0 wr := hb_fresh P hbk hmm2 hbl (Nat.le_refl _) (hbw2.trans (hbl.mono (by omega))) (by omega) la lb1 lb lc
      clear hbl hbk HK
      go_wp2_with fail
      obtain ⟨wo0, rfl⟩ : ∃ wo : World, wo = wr := ⟨_, rfl⟩
      obtain ⟨go0, rfl⟩ : ∃ go : Nat, go = gk := ⟨_, rfl⟩
      go_loopg [8] len (fun k i wx => ∃ r : Nat, i = .int .i64 r ∧ r + k = len ∧ HB M w w2.heap.size m fb q r wx)
      case atStart => exact ⟨0, rfl, by omega, hB0⟩
      case round =>
        clear hB0 k3
        obtain ⟨r, rfl, hk, hB⟩ := hrel
        have HK : Hid (r + gk = len) := hk
        have hr : r ≤ len := by omega
        clear hk
        by_cases hlt : r < len
        · obtain ⟨o, ho⟩ : ∃ o, ops[r]? = some o := ⟨ops[r]'(by rw [HL.out]; exact hlt), by simp⟩
          obtain ⟨⟨v0, v1⟩, ⟨a0, a1⟩, ⟨b0, b1⟩⟩ := HO.out r o ho
          rcases HX.out with h0 | ⟨bS, off, rfl, hbS, hc⟩
          · omega
          have hbl := hB.bel
          have hy : ∀ (j : Nat) (v : Value), o.cells[j]? = some v → wr.cell? ⟨bS, off + r * 6 + j, none⟩ = some v := fun j v hv => (hbl.cell (p := ⟨bS, off + r * 6 + j, none⟩) hbS).trans (hc r o ho j v hv)
          have c0 := hy 0 _ rfl
          have c1 := hy 1 _ rfl
          have c2 := hy 2 _ rfl
          have c3 := hy 3 _ rfl
          have c4 := hy 4 _ rfl
          have c5 := hy 5 _ rfl
          simp only [Nat.add_zero] at c0
          clear hy hc ho
          have hr0 : (0 : Int) ≤ (r : Int) := by omega
          have hr1 : (r : Int) < (len : Int) := by omega
          go_wp2_with fail
          refine (play_any P hB (by omega) lc1 o v0 v1 a0 a1 b0 b1).mono ?_
          rintro e w3 ⟨rfl, hB3⟩
          go_wp2_with fail
          go_roundg (gk - 1)
          case measure => have := HK.out; omega
          case rel => exact ⟨r + 1, by go_num, by have := HK.out; omega, hB3⟩
        · obtain rfl : r = len := by omega
          clear HX HL HO HK
          go_wp2_with fail
          obtain ⟨wo1, rfl⟩ : ∃ wo : World, wo = wr := ⟨_, rfl⟩
          obtain ⟨go1, rfl⟩ : ∃ go : Nat, go = gk := ⟨_, rfl⟩
          go_loopg [10] q (fun k i wx => ∃ t : Nat, i = .int .i64 t ∧ t + k = q ∧ HB M w w2.heap.size m fb q r wx)
          case atStart => exact ⟨0, rfl, by omega, hB⟩
          case round =>
            clear hB
            obtain ⟨t, rfl, hk, hB⟩ := hrel
            have HK : Hid (t + gk = q) := hk
            have ht : t ≤ q := by omega
            clear hk
            have k3 := hB.cne
            by_cases hlt : t < q
            · go_wp2_with fail
              refine (hB.told P (by omega) t hlt).mono ?_
              rintro e w3 ⟨rfl, hB3⟩
              go_wp2_with fail
              go_roundg (gk - 1)
              case measure => have := HK.out; omega
              case rel => exact ⟨t + 1, by go_num, by have := HK.out; omega, hB3⟩
            · obtain rfl : t = q := by omega
              go_wp2_with fail
              refine (hB.framed P (by omega)).mono ?_
              rintro e w3 ⟨rfl, hb3⟩
              go_wp2_with fail
              go_ret
              exact ⟨rfl, hb3⟩

end Go.Proofs.Ytinlkcmdbjcofaa

namespace Go.Proofs.Ytinlkcmdbjcofaa.handles
open Go.ChangeShapes Go.WideShapes Go.ChangeAt Go.RowKit
set_option linter.unusedVariables false

set_option maxRecDepth 100000 in
theorem lifted (os : Os) (started : os.Started) (H : Type) (enc : TypeId × Value → H) :
    ReturnsInHanded {} Try.checked os 3 .any (Rows.handlesSpec.pre6 enc Try.prog Try.f3 Rows.handlesRow.domain false) (Rows.handlesSpec.post enc Try.prog Try.f3 false true false false) := by
  refine returnsInHanded_of_change_sized (C := Try.checked) Try.own started (by kernel_rfl) Try.func3
    (ChangeSpec.witness6 (enc := enc) (C := Try.checked) false ⟨#[], #[.agg #[.int .i64 0, .int .i64 0, .int .i64 0], .slice none 0 0], []⟩ 8 (by kernel_rfl) (by kernel_rfl) (by kernel_rfl) (by kernel_rfl)) ?_
  intro W base args ds gs before hval0 hW hcnd hsz _
  have hval : ∀ (j : Nat) t v, Try.f3.params[j]? = some t → args[j]? = some v → Value.okWide Try.prog W .any base t v := hval0
  have hW' := hW
  obtain ⟨p, q, hA0, hV, rfl, hfz, hnd⟩ := hW
  have hA : DataW.TrodAll enc Try.prog W 0 (fun _ => true) true Try.f3.params.toList args.toList ds p := hA0
  rw [Try.params3] at hA hval
  obtain ⟨v0, vs0, d0, ds0, p0, q0, hargs, rfl, rfl, h0, r0⟩ := trodAll_cons hA
  obtain ⟨v1, vs1, d1, ds1, p1, q1, hargs1, rfl, rfl, h1, r1⟩ := trodAll_cons r0
  obtain ⟨rfl, rfl, rfl⟩ := trodAll_nil r1
  obtain rfl : args = #[v0, v1] := by cases args; simp_all
  obtain ⟨rfl, rfl⟩ := trodVars_none hV
  obtain ⟨cs0, rfl, hcs⟩ := okWide_struct Try.underlying23 (hval 0 23 v0 rfl rfl)
  obtain ⟨a0, len0, cap0, rfl⟩ := okWide_slice Try.underlying24 (hval 1 24 v1 rfl rfl)
  have k0 := h0
  have k1 := h1
  have lt1 : ∀ x ∈ p1, x.block < W.heap.size := by obtain ⟨m, hm⟩ := k1; exact DataW.trod_lt m _ _ _ hm
  have lt0 : ∀ x ∈ p0, x.block < W.heap.size := by obtain ⟨m, hm⟩ := k0; exact DataW.trod_lt m _ _ _ hm
  obtain ⟨fuel0, hf0⟩ := h0
  obtain ⟨x, y, z, hxyz, ix, iy, iz⟩ := open_size hf0
  obtain rfl : cs0 = #[.int .i64 x, .int .i64 y, .int .i64 z] := by
    have : cs0.toList = [.int .i64 x, .int .i64 y, .int .i64 z] := hxyz
    rw [← Array.toArray_toList (xs := cs0), this]
  obtain ⟨fuel, hf⟩ := h1
  obtain ⟨ops, hl, hops, hdat, hok⟩ := open_steps (by simpa [Value.cells] using hf)
  have hb16 : (len0 + 2) * 48 ≤ 140737488355328 := by
    rcases hdat with h | ⟨elems, spare, hd, he⟩
    · subst h; omega
    · simp only at hd
      subst hd
      have : (elems.length + spare.length) * Try.prog.bytesOf 36 ≤ reachBytes := sized_slice hsz (j := 1) (t := 24) (e := 36) rfl rfl Try.underlying24
      rw [Try.bytesStep] at this
      simp only [reachBytes] at this
      omega
  clear hA0 hval0
  refine (handles_any api x y z ix.1 ix.2 iy.1 iy.2 iz.1 iz.2 a0 len0 cap0 W ops hl (fun i o h => ⟨(hok i o h).1, (hok i o h).2.1, (hok i o h).2.2.1⟩) hb16 hops).mono fun e W' ⟨he, bel⟩ => ?_
  subst he
  exact ⟨_, rfl, _, _, _, [], _, [], hW', trodAll_mk1 (shut_bool Try.underlying4 _), (trodAll_cons_mk (Below.trod Try.laidOut (by kernel_rfl) (of_decide_eq_true (by kernel_rfl)) k0 bel lt0) (trodAll_cons_mk (Below.trod Try.laidOut (by kernel_rfl) (of_decide_eq_true (by kernel_rfl)) k1 bel lt1) trodAll_mk0)), rfl, bel.frame _, fun h => by cases h⟩

theorem over : Rows.handlesRow.holds Try.pinned (OpenSpec.ofChange Rows.handlesSpec) :=
  OpenClaim.holds_of_wide 3 Try.f3 rfl rfl rfl rfl rfl rfl rfl ⟨rfl, rfl, rfl, rfl, rfl⟩ rfl rfl rfl rfl rfl (by kernel_rfl) Try.func3 (by kernel_rfl)
    (of_decide_eq_true (by kernel_rfl)) (by unfold Func.isWrapper; first | (rw [if_pos (by decide +kernel)]; kernel_rfl) | (rw [if_neg (by decide +kernel)]; exact ⟨rfl, rfl⟩))
    (fun os started H enc _ => lifted os started H enc)

end Go.Proofs.Ytinlkcmdbjcofaa.handles

namespace Go.Proofs.Ytinlkcmdbjcofaa
theorem handles_holds : Rows.HandlesSaid := handles.over
end Go.Proofs.Ytinlkcmdbjcofaa
