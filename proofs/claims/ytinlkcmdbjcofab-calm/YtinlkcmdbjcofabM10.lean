import Derived.Deep.RegionLaw
import Derived.Test.YtinlkcmdbjcofabM09
/-
  The program's state and the document's: the table's calls.
-/
namespace Go.Proofs.Ytinlkcmdbjcofab
set_option linter.unusedVariables false

section
variable {rs t : RSt} {ps qs : PSt}

theorem gone_eq (h : SOk rs) (env page : Int) : rs.slots.map (goneE env page) = rs.slots.map (remE env page) := by
  apply List.map_congr_left
  intro e he
  obtain ⟨i, hi, rfl⟩ := List.getElem_of_mem he
  unfold goneE remE entP
  cases hu : rs.slots[i].used with
  | true => simp
  | false =>
    have := h.emp i rs.slots[i] (by simp) hu
    simp only [Bool.false_and, Bool.false_eq_true, if_false]
    split
    · exact this.symm
    · rfl
theorem gone_get {env page : Int} {q : Nat} {x : Ent} (hx : (rs.slots.map (goneE env page))[q]? = some x) (hu : x.used = true) : rs.slots[q]? = some x ∧ ¬ (x.env = env ∧ x.page = page) := by
  rw [List.getElem?_map] at hx
  cases hy : rs.slots[q]? with
  | none => rw [hy] at hx; simp at hx
  | some y =>
    rw [hy] at hx
    simp only [Option.map_some, Option.some.injEq] at hx
    unfold goneE at hx
    split at hx
    · subst hx; simp [Ent.empty] at hu
    · rename_i hc
      subst hx
      refine ⟨rfl, fun e => hc ?_⟩
      simp [e.1, e.2]
/-- Only the slots have turned; what is there is there from before, or a raw environment's. -/
theorem Sim.slots (h : Sim rs ps) {es : List Ent} (he : ∀ (q : Nat) (x : Ent), es[q]? = some x → x.used = true → rs.slots[q]? = some x ∨ keptB rs x.env = false) : Sim { rs with slots := es } { ps with slots := es } :=
  ⟨h.ne, h.al, h.kp, fun i e k he hO => (h.km i e k he hO).congr (fun q hq => ⟨rfl, rfl⟩), h.bl, h.b4, h.by_, h.hs, h.last, rfl, h.tn, fun i k q x hO hx hu hi => by
    rcases he q x hx hu with h1 | h1
    · exact h.en i k q x hO h1 hu hi
    · have hO' : rs.kept[i]? = some (some k) := hO
      rw [hi, keptB_at hO'] at h1; simp at h1⟩
theorem Sim.page (h : Sim rs ps) (env page : Int) : pageP ps env page = if rawE rs env ≠ 0 then rawE rs env else if page < 0 ∨ 15 < page then 7 else 0 := by
  unfold pageP
  rw [h.raw]
theorem Sim.unmap (h : Sim rs ps) (hk : SOk rs) (env page : Int) : (unmapR rs env page).1 = (unmapP ps env page).1 ∧ Sim (unmapR rs env page).2 (unmapP ps env page).2 := by
  unfold unmapR unmapP
  rw [h.page]
  by_cases h1 : rawE rs env = 0
  · by_cases h2 : page < 0 ∨ 15 < page
    · simp only [h1, ne_eq, not_true_eq_false, if_false, if_pos h2]
      exact ⟨by simp, by simpa using h⟩
    · simp only [h1, ne_eq, not_true_eq_false, if_false, if_neg h2]
      refine ⟨trivial, ?_⟩
      rw [h.sl, ← gone_eq hk]
      exact h.slots (fun q x hx hu => .inl (gone_get hx hu).1)
  · simp only [ne_eq, h1, not_false_eq_true, if_true]
    exact ⟨trivial, h⟩
theorem Sim.map (h : Sim rs ps) (hk : SOk rs) (env page hd : Int) (wt : Bool) (slot : Int) : (mapR rs env page hd wt slot).1 = (mapP ps env page hd wt slot).1 ∧ Sim (mapR rs env page hd wt slot).2 (mapP ps env page hd wt slot).2 := by
  have hr := h.raw env
  unfold mapR mapP
  rw [h.page]
  by_cases h1 : rawE rs env = 0
  · by_cases h2 : page < 0 ∨ 15 < page
    · simp only [h1, ne_eq, not_true_eq_false, if_false, if_pos h2]
      exact ⟨by simp, by simpa using h⟩
    · simp only [h1, ne_eq, not_true_eq_false, if_false, if_neg h2]
      rcases h.right hk env hd with ⟨x, g1, g2, g3⟩ | ⟨j, r, g1, hrr, hd1, he, hl, hal, hkp, g2⟩
      · have hf : findP ps.hs env hd = none ∧ x = 9 := by
          unfold rightP at g2
          rw [← hr, h1] at g2
          simp only [ne_eq, not_true_eq_false, if_false] at g2
          cases hf : findP ps.hs env hd with
          | none => rw [hf] at g2; simp at g2; exact ⟨rfl, g2.symm⟩
          | some y => rw [hf] at g2; simp at g2
        rw [g1, hf.1, hf.2]
        exact ⟨rfl, h⟩
      · have hf : findP ps.hs env hd = some (toPH r) := by
          unfold rightP at g2
          rw [← hr, h1] at g2
          simp only [ne_eq, not_true_eq_false, if_false] at g2
          cases hf : findP ps.hs env hd with
          | none => rw [hf] at g2; simp at g2
          | some y => rw [hf] at g2; simp at g2; rw [g2]
        rw [g1, hf]
        simp only [not_true_eq_false, if_false, Int.toNat_natCast, hrr]
        have ew : (toPH r).wr = r.wr := rfl
        rw [ew, h.sl, hk.ns]
        cases (wt && !r.wr) with
        | true => exact ⟨rfl, h⟩
        | false =>
          simp only [Bool.false_eq_true, if_false]
          by_cases h3 : slot < 0 ∨ (rs.ns : Int) ≤ slot
          · rw [if_pos h3, if_pos h3]; exact ⟨rfl, h⟩
          · rw [if_neg h3, if_neg h3]
            refine ⟨rfl, ?_⟩
            show Sim _ { ps with slots := (remP rs.slots env page).set slot.toNat _ }
            rw [remP_map hk.uni, ← gone_eq hk]
            refine h.slots (fun q x hx hu => ?_)
            rw [List.getElem?_set] at hx
            split at hx
            · split at hx
              · simp only [Option.some.injEq] at hx
                subst hx
                exact .inr hkp
              · simp at hx
            · exact .inl (gone_get hx hu).1
  · simp only [ne_eq, h1, not_false_eq_true, if_true]
    exact ⟨trivial, h⟩
theorem find_ent (rs : RSt) (env page : Int) : (entI rs env page = -1 ∧ findT rs.slots env page = none) ∨ ∃ (q : Nat) (e : Ent), entI rs env page = q ∧ rs.slots[q]? = some e ∧ findT rs.slots env page = some e := by
  unfold entI
  cases hx : rs.slots.findIdx? (entP env page) with
  | none =>
    left
    refine ⟨rfl, ?_⟩
    rw [List.findIdx?_eq_none_iff] at hx
    unfold findT
    rw [List.find?_eq_none]
    intro x hm
    simp [hx x hm]
  | some q =>
    right
    rw [List.findIdx?_eq_some_iff_getElem] at hx
    obtain ⟨hq, h1, h2⟩ := hx
    refine ⟨q, rs.slots[q], rfl, by simp, findT_hit (q := q) (by simp) (fun i y hi hy => ?_) h1⟩
    have := h2 i hi
    obtain ⟨hi2, he⟩ := List.getElem?_eq_some_iff.1 hy
    rw [he] at this
    simpa using this
theorem Sim.place (h : Sim rs ps) (env page a : Int) : placeP ps env page a = if rawE rs env ≠ 0 then rawE rs env else if page < 0 ∨ 15 < page then 7 else if a < 0 ∨ 3 < a then 8 else 0 := by
  unfold placeP
  rw [h.page]
  by_cases h1 : rawE rs env = 0
  · by_cases h2 : page < 0 ∨ 15 < page
    · simp [h1, h2]
    · simp [h1, h2]
  · simp [h1]
/-- The frame of a raw environment's entry. -/
theorem Sim.raw_entry (h : Sim rs ps) (hk : SOk rs) {env : Int} (hr : rawE rs env = 0) {page : Int} {q : Nat} {e : Ent} (hq : rs.slots[q]? = some e) (hf : findT rs.slots env page = some e) : ∃ (n : Nat) (r : RR), rs.rights[n]? = some r ∧ lv rs.rights n = true ∧ keptB rs r.env = false ∧ r.fr = e.fr := by
  have hp := List.find?_some hf
  simp [entP] at hp
  obtain ⟨_, _, ho⟩ := hk.ent q e hq hp.1
  obtain ⟨n, r, h1, h2, h3, h4, _⟩ := owned_ex.1 ho
  exact ⟨n, r, h1, h2, by rw [h3, hp.2.1]; exact (raw_no hr).2, h4⟩
theorem Sim.load (h : Sim rs ps) (hk : SOk rs) (env page a : Int) : loadR rs env page a = loadP ps env page a := by
  unfold loadR loadP
  rw [h.place, h.sl]
  by_cases h1 : rawE rs env = 0
  · by_cases h2 : page < 0 ∨ 15 < page
    · simp [h1, h2]
    · by_cases h3 : a < 0 ∨ 3 < a
      · simp [h1, h2, h3]
      · simp only [h1, ne_eq, not_true_eq_false, if_false, if_neg h2, if_neg h3]
        rcases find_ent rs env page with ⟨g1, g2⟩ | ⟨q, e, g1, g2, g3⟩
        · rw [g1, g2]; rfl
        · rw [g1, g3, if_neg (by omega)]
          simp only [Int.toNat_natCast, g2]
          obtain ⟨n, r, r1, r2, r3, r4⟩ := h.raw_entry hk h1 g2 g3
          have := h.by_ n r r1 r2 r3
          rw [r4] at this
          unfold byteAt byteP
          rw [this]
  · simp [h1]
theorem poke4 {l : List Int} (h : l.length = 4 ∧ ∀ (j : Nat) (x : Int), l[j]? = some x → 0 ≤ x ∧ x ≤ 255) {a : Nat} {v : Int} (h0 : 0 ≤ v) (h1 : v ≤ 255) : (l.set a v).length = 4 ∧ ∀ (j : Nat) (x : Int), (l.set a v)[j]? = some x → 0 ≤ x ∧ x ≤ 255 := by
  refine ⟨by rw [List.length_set]; exact h.1, fun j x hx => ?_⟩
  rw [List.getElem?_set] at hx
  split at hx
  · split at hx
    · simp only [Option.some.injEq] at hx; omega
    · simp at hx
  · exact h.2 j x hx
theorem Sim.store (h : Sim rs ps) (hk : SOk rs) (env page a v : Int) : (storeR rs env page a v).1 = (storeP ps env page a v).1 ∧ Sim (storeR rs env page a v).2 (storeP ps env page a v).2 := by
  unfold storeR storeP
  rw [h.place, h.sl]
  by_cases h1 : rawE rs env = 0
  · by_cases h2 : page < 0 ∨ 15 < page
    · simp only [h1, ne_eq, not_true_eq_false, if_false, if_pos h2]
      exact ⟨by simp, by simpa using h⟩
    · by_cases h3 : a < 0 ∨ 3 < a
      · simp only [h1, ne_eq, not_true_eq_false, if_false, if_neg h2, if_pos h3]
        exact ⟨by simp, by simpa using h⟩
      · simp only [h1, ne_eq, not_true_eq_false, if_false, if_neg h2, if_neg h3]
        by_cases h4 : v < 0 ∨ 255 < v
        · rw [if_pos h4, if_pos h4]; exact ⟨rfl, h⟩
        · rw [if_neg h4, if_neg h4]
          rcases find_ent rs env page with ⟨g1, g2⟩ | ⟨q, e, g1, g2, g3⟩
          · rw [g1, g2]
            exact ⟨rfl, h⟩
          · rw [g1, g3, if_neg (by omega)]
            simp only [Int.toNat_natCast, g2]
            cases e.wr with
            | false => exact ⟨rfl, h⟩
            | true =>
              simp only [Bool.not_true, Bool.false_eq_true, if_false]
              refine ⟨trivial, ?_⟩
              obtain ⟨n, r, r1, r2, r3, r4⟩ := h.raw_entry hk h1 g2 g3
              have hby := h.by_ n r r1 r2 r3
              have hrf := hk.inv.fr n r r1
              have hfl : e.fr.toNat < ps.bytes.length := by rw [h.bl]; omega
              have hfl2 : e.fr.toNat < rs.bytes.length := by rw [hk.fix.by_]; omega
              rw [r4] at hby
              obtain ⟨l, hl⟩ : ∃ l, ps.bytes[e.fr.toNat]? = some l := ⟨_, List.getElem?_eq_getElem hfl⟩
              have hl2 : rs.bytes[e.fr.toNat]? = some l := by rw [← hby]; exact hl
              unfold putByte putP1
              rw [hl, hl2]
              simp only [Option.getD_some]
              refine ⟨h.ne, h.al, h.kp, fun i e' k he hO => h.kms hk (t := { rs with bytes := rs.bytes.set e.fr.toNat (l.set a.toNat v) }) (FrKeep.same rfl) he hO (fun p hp => List.getElem?_set_ne (fun e2 => kframe_raw hk hO hp r1 r2 r3 (by rw [r4]; exact e2.symm))), by show (ps.bytes.set _ _).length = _; rw [List.length_set]; exact h.bl, set_b4 h.b4 (poke4 (h.b4 _ l hl) (by omega) (by omega)), ?_, h.hs, h.last, h.sl, h.tn, fun i k q x hO hx hu hi => h.ens hk (t := { rs with bytes := rs.bytes.set e.fr.toNat (l.set a.toNat v) }) (FrKeep.same rfl) hO hx hu hi⟩
              intro i r' a1 a2 a3
              show (ps.bytes.set _ _)[_]? = (rs.bytes.set _ _)[_]?
              rw [List.getElem?_set, List.getElem?_set]
              split
              · rfl
              · exact h.by_ i r' a1 a2 a3
  · simp only [ne_eq, h1, not_false_eq_true, if_true]
    exact ⟨trivial, h⟩
end
end Go.Proofs.Ytinlkcmdbjcofab

/-
  The program's kept memory: package kept, what turns it.
-/
namespace Go.Proofs.Ytinlkcmdbjcofab
open Go.RowKit
set_option linter.unusedVariables false
attribute [local go_sem ↓] Go.wp_at_zero Go.wp_at_succ

def noTo (l : List Int) (n : Int) (q : Nat) : List Int := (l.take q).filter fun x => !(x == n)
theorem noTo_succ {l : List Int} {n : Int} {q : Nat} {x : Int} (hx : l[q]? = some x) : noTo l n (q + 1) = noTo l n q ++ if x == n then [] else [x] := by
  obtain ⟨hq, he⟩ := List.getElem?_eq_some_iff.1 hx
  unfold noTo
  rw [List.take_succ_eq_append_getElem hq, List.filter_append, he]
  cases hp : (x == n) <;> simp [hp]
theorem noTo_len (l : List Int) (n : Int) (q : Nat) : (noTo l n q).length ≤ q := by
  unfold noTo
  have := List.length_filter_le (fun x => !(x == n)) (l.take q)
  simp at this
  omega

set_option maxHeartbeats 4000000 in
set_option maxRecDepth 100000 in
theorem without_any {w : World} {v : Value} {l : List Int} (hr : Row w v 3 1 l.length (l.map (.int .i64))) (hm : l.length ≤ 32) (n : Int) :
    Calls Try.prog 101 #[v, .int .i64 n] w fun e w' => ∃ v', e = .returned v' ∧ Below w.heap.size w w' ∧ Row w' v' 3 1 (l.filter fun x => !(x == n)).length ((l.filter fun x => !(x == n)).map (.int .i64)) ∧ ∀ x, v'.ownBlock = some x → w.heap.size ≤ x := by
  obtain ⟨i1, gi, gz0, gz1, gz2⟩ := info_parts Try.infoInt
  obtain ⟨ao, cap, hv, hcase⟩ := hr.shape
  subst hv
  rcases hcase with h0 | ⟨g, rfl⟩
  all_goals
    go_enter Try.func101, Try.ntmps101
    go_wp2_with fail
    go_loopg [5, 10] l.length (fun k v x wr => ∃ q : Nat, x = .int .i64 q ∧ q + k = l.length ∧ Below w.heap.size w wr ∧ Row wr v 3 1 (noTo l n q).length ((noTo l n q).map (.int .i64)) ∧ ∀ x, v.ownBlock = some x → w.heap.size ≤ x)
    case atStart => exact ⟨0, rfl, by omega, Below.refl _ _, Row.nil _ _ _, by simp [Value.ownBlock]⟩
    case round =>
      obtain ⟨q, rfl, hk, hbl, hrow, hnew⟩ := hrel
      have HK : Hid (q + gk = l.length) := hk
      have hq : q ≤ l.length := by omega
      have hle := noTo_len l n q
      have hsz := hbl.size
      obtain ⟨ao5, cap5, hv5, _⟩ := hrow.shape
      subst hv5
      clear hk
      by_cases hlt : q < l.length
      · first
        | (exfalso; omega; done)
        | (obtain ⟨x, hx⟩ : ∃ x, l[q]? = some x := ⟨l[q], by simp⟩
           have cx : wr.cell? ⟨g, q, none⟩ = some (.int .i64 x) := by rw [(hr.below hbl).cellAt q (by omega), List.getElem?_map, hx]; rfl
           have HS : Hid (noTo l n (q + 1) = noTo l n q ++ if x == n then [] else [x]) := noTo_succ hx
           clear hx
           cases he : (x == n)
           · have he' : (x != n) = true := by simpa using he
             have HW : Hid (noTo l n (q + 1) = noTo l n q ++ [x]) := by have := HS.out; rw [he] at this; simpa [Hid] using this
             have hR' := hrow.alloc (.cells [.int .i64 x].toArray 3)
             have hN := Blk.at wr [Value.int .i64 x] 3 wr.heap.size rfl
             clear HS hrow he
             go_wp2_with (at_builtin; refine wpList_append_lies _ rfl (.tmp 17) (.tmp 19) 37 rfl 0 3 i1 _ 1 8 Try.underlying37 gi gz0 gz1 gz2 rfl (by decide) (.slice ao5 (noTo l n q).length cap5) (noTo l n q).length _ rfl hR' ⟨wr.heap.size, 0, none⟩ 1 1 [.int .i64 x] rfl rfl ?c1 ?c2 (by omega) ?b1 ?b2 (by omega) (wr.heap.size + 1) (by simp) ?nx)
             case c1 => exact World.news_of_block hN
             case c2 => exact oneCell_int _
             case b1 => unfold maxLen; omega
             case b2 => omega
             case nx =>
               intro g1 cap1 w4 hown hgrow hat hlt1
               go_wp2
               go_roundg (gk - 1)
               case measure => have := HK.out; omega
               case rel =>
                 refine ⟨q + 1, by go_num, by have := HK.out; omega, (hbl.alloc hsz (.cells [.int .i64 x].toArray 3)).grown hgrow (by simp; omega) hnew, ?_, ?_⟩
                 · rw [HW.out]
                   simp only [List.length_append, List.map_append, List.length_cons, List.length_nil, List.map_cons, List.map_nil]
                   exact hown
                 · intro y hb
                   simp [Value.ownBlock] at hb
                   subst hb
                   rcases hat with h | h
                   · exact hnew _ h
                   · omega
           · have he' : (x != n) = false := by simpa using he
             have HW : Hid (noTo l n (q + 1) = noTo l n q) := by have := HS.out; rw [he] at this; simpa [Hid] using this
             clear HS he
             go_wp2_with fail
             go_roundg (gk - 1)
             case measure => have := HK.out; omega
             case rel => exact ⟨q + 1, by go_num, by have := HK.out; omega, hbl, by rw [HW.out]; exact hrow, hnew⟩)
      · have hqe : q = l.length := by omega
        have HW : Hid (noTo l n q = l.filter fun x => !(x == n)) := by rw [hqe]; simp [Hid, noTo]
        clear hqe
        go_wp2_with fail
        go_ret
        exact ⟨_, rfl, hbl, by rw [← HW.out]; exact hrow, hnew⟩

section
variable {own : Nat → Nat × Nat} {t : Nat × Nat} {w : World} {b o : Nat} {T : TypeId} {c : List Value} {vI : Value} {k : PK}

set_option maxHeartbeats 1000000 in
set_option maxRecDepth 100000 in
theorem setQuota_any (h : MemAt own t w b o T c vI k) (hn : k.inl.length ≤ 16) (n : Int) (h0 : 0 ≤ n) (h1 : n ≤ 16) :
    Calls Try.prog 85 #[.pointer (some ⟨b, o, none⟩), .int .i64 n] w fun e w' => e = .returned (.int .i64 ((k.inl.length : Int) - n)) ∧ MemNext own t w b o T c vI w' { k with quota := n } := by
  have k0 := h.quota
  have k1 := h.inl
  have f0 := h.blk.frozen o
  obtain ⟨ao, cap, hv, _⟩ := h.row.shape
  have Hs : Hid (MemAt own t (w.setCell ⟨b, o, none⟩ (.int .i64 n)) b o T c vI { k with quota := n }) := h.set (j := 0) (by omega) (PK.set_quota k vI n) rfl
  rw [hv] at k1
  clear hv
  go_enter Try.func85, Try.ntmps85
  go_wp2_with fail
  go_ret
  exact ⟨rfl, MemNext.of h Hs.out ((Touch.refl _ _ _).setCell (.inl (.inl rfl)) _)⟩

set_option maxHeartbeats 1000000 in
set_option maxRecDepth 100000 in
theorem countRefill_any (h : MemAt own t w b o T c vI k) (h0 : 0 ≤ k.refills) (h1 : k.refills ≤ 4611686018427387904) :
    Calls Try.prog 98 #[.pointer (some ⟨b, o, none⟩)] w fun e w' => e = .returned (.tuple #[]) ∧ MemNext own t w b o T c vI w' { k with refills := k.refills + 1 } := by
  have k0 := h.refills
  have f0 := h.blk.frozen (o + 131)
  have Hs : Hid (MemAt own t (w.setCell ⟨b, o + 131, none⟩ (.int .i64 (k.refills + 1))) b o T c vI { k with refills := k.refills + 1 }) := h.set (j := 131) (by omega) (PK.set_refills k vI _) rfl
  go_enter Try.func98, Try.ntmps98
  go_wp2_with fail
  go_end0
  exact ⟨rfl, MemNext.of h Hs.out ((Touch.refl _ _ _).setCell (.inl (.inl rfl)) _)⟩
end
end Go.Proofs.Ytinlkcmdbjcofab

/-
  The program's kept memory: package kept, pages go out, come in, are accessed.
-/
namespace Go.Proofs.Ytinlkcmdbjcofab
open Go.RowKit
set_option linter.unusedVariables false
attribute [local go_sem ↓] Go.wp_at_zero Go.wp_at_succ
section
variable {own : Nat → Nat × Nat} {t : Nat × Nat} {w : World} {b o : Nat} {T : TypeId} {c : List Value} {vI : Value} {k : PK}

theorem set_id {α : Type} {l : List α} {i : Nat} {x : α} (h : l[i]? = some x) : l.set i x = l := by
  obtain ⟨hlt, hx⟩ := List.getElem?_eq_some_iff.1 h
  conv => lhs; rw [← hx]
  exact List.set_getElem_self hlt
theorem MemAt.setPage (h : MemAt own t w b o T c vI k) {p : Nat} {g g' : PG} (hp : p < 16) (hn : k.pages.length = 16) (hg : k.pages[p]? = some g) {j : Nat} (hj : j < 8) {u : Value} (hc : g'.cells = g.cells.set j u) :
    MemAt own t (w.setCell ⟨b, o + 2 + p * 8 + j, none⟩ u) b o T c vI { k with pages := k.pages.set p g' } := by
  rw [show o + 2 + p * 8 + j = o + (2 + p * 8 + j) by omega]
  exact h.set (by omega) (PK.set_page hp hn hg hj hc) rfl
theorem MemAt.setOut (h : MemAt own t w b o T c vI k) {p : Nat} {g : PG} (hp : p < 16) (hn : k.pages.length = 16) (hg : k.pages[p]? = some g) (x0 x1 x2 x3 : Int) :
    MemAt own t ((((w.setCell ⟨b, o + 2 + p * 8 + 4, none⟩ (.int .u8 x0)).setCell ⟨b, o + 2 + p * 8 + 5, none⟩ (.int .u8 x1)).setCell ⟨b, o + 2 + p * 8 + 6, none⟩ (.int .u8 x2)).setCell ⟨b, o + 2 + p * 8 + 7, none⟩ (.int .u8 x3)) b o T c vI { k with pages := k.pages.set p { g with out := [x0, x1, x2, x3] } } := by
  have hl : p < k.pages.length := by omega
  have h1 := h.setPage (j := 4) hp hn hg (by omega) (u := .int .u8 x0) (g' := { g with out := [x0, g.out[1]?.getD 0, g.out[2]?.getD 0, g.out[3]?.getD 0] }) rfl
  have h2 := h1.setPage (j := 5) hp (by simp [hn]) (List.getElem?_set_self hl) (by omega) (u := .int .u8 x1) (g' := { g with out := [x0, x1, g.out[2]?.getD 0, g.out[3]?.getD 0] }) rfl
  have h3 := h2.setPage (j := 6) hp (by simp [hn]) (List.getElem?_set_self (by simp; omega)) (by omega) (u := .int .u8 x2) (g' := { g with out := [x0, x1, x2, g.out[3]?.getD 0] }) rfl
  have h4 := h3.setPage (j := 7) hp (by simp [hn]) (List.getElem?_set_self (by simp; omega)) (by omega) (u := .int .u8 x3) (g' := { g with out := [x0, x1, x2, x3] }) rfl
  simp only [List.set_set] at h4
  exact h4
/-- The memory's own blocks have turned ahead. -/
theorem MemNext.touched {w1 w2 : World} {k2 : PK} (ht : Touch w.heap.size (fun x => x = b ∨ vI.ownBlock = some x) w w1) (h2 : MemNext own t w1 b o T c vI w2 k2) : MemNext own t w b o T c vI w2 k2 := by
  obtain ⟨own2, v2, a, d, e⟩ := h2
  exact ⟨own2, v2, a, fun x hx => d x (Nat.lt_of_lt_of_le hx ht.size), ht.trans (e.mono ht.size (fun _ _ h => h))⟩
/-- The list is a fresh one. -/
theorem MemAt.freshAt {w1 : World} {v' : Value} {l : List Int} (h : MemAt own t w b o T c vI k) (hb : Below w.heap.size w w1) (hr : Row w1 v' 3 1 l.length (l.map (.int .i64))) (hn : ∀ x, v'.ownBlock = some x → w.heap.size ≤ x) :
    MemAt (fun x => if v'.ownBlock = some x then t else own x) t (w1.setCell ⟨b, o + 130, none⟩ v') b o T c v' { k with inl := l } ∧ (∀ x, x < w.heap.size → (if v'.ownBlock = some x then t else own x) = own x) ∧ Touch w.heap.size (fun x => x = b ∨ vI.ownBlock = some x) w (w1.setCell ⟨b, o + 130, none⟩ v') := by
  have hblt := h.blk.lt
  have h1 := h.below hb
  have hag : ∀ x, x < w.heap.size → (if v'.ownBlock = some x then t else own x) = own x := fun x hx => if_neg (fun e => by have := hn x e; omega)
  refine ⟨⟨?_, h.hc, hr.other _ (fun e => by have := hn b e; omega), fun x hx => by simp [hx], by show (if v'.ownBlock = some b then t else own b) ≠ t; rw [hag b hblt]; exact h.ne⟩, hag, (Touch.of_below hb _).setCell (.inl (.inl rfl)) _⟩
  rw [PK.set_in k vI v' l, ← lay_set (by have := h.hc; omega) (by rw [PK.cells_len]; omega)]
  exact h1.blk.set _ _
theorem MemAt.fresh {w1 : World} {v' : Value} {l : List Int} (h : MemAt own t w b o T c vI k) (hb : Below w.heap.size w w1) (hr : Row w1 v' 3 1 l.length (l.map (.int .i64))) (hn : ∀ x, v'.ownBlock = some x → w.heap.size ≤ x) : MemNext own t w b o T c vI (w1.setCell ⟨b, o + 130, none⟩ v') { k with inl := l } := by
  obtain ⟨h1, h2, h3⟩ := h.freshAt hb hr hn
  exact ⟨_, _, h1, h2, h3⟩
theorem MemAt.aside (h : MemAt own t w b o T c vI k) {a : Addr} (u : Value) (h1 : b ≠ a.block) (h2 : vI.ownBlock ≠ some a.block) : MemAt own t (w.setCell a u) b o T c vI k := ⟨h.blk.other u h1, h.hc, h.row.other u h2, h.tag, h.ne⟩
/-- The list has grown. -/
theorem MemAt.grown {w4 : World} {g1 cap1 H : Nat} {x : Int} {W : World} (h : MemAt own t w b o T c vI k) (hb : Below w.heap.size w W) (hH : W.heap.size = H)
    (hown : w4.ownsRow 0 3 1 (.slice (some ⟨g1, 0, none⟩) (k.inl.length + 1) cap1) (k.inl.length + 1) (k.inl.map (.int .i64) ++ [.int .i64 x])) (hgrow : W.grownBy w4 vI.ownBlock) (hat : vI.ownBlock = some g1 ∨ g1 = H) :
    MemAt (set1 own H t) t (w4.setCell ⟨b, o + 130, none⟩ (.slice (some ⟨g1, 0, none⟩) (k.inl.length + 1) cap1)) b o T c (.slice (some ⟨g1, 0, none⟩) (k.inl.length + 1) cap1) { k with inl := k.inl ++ [x] } ∧ (∀ x, x < w.heap.size → set1 own H t x = own x) ∧
      Touch w.heap.size (fun x => x = b ∨ vI.ownBlock = some x) w (w4.setCell ⟨b, o + 130, none⟩ (.slice (some ⟨g1, 0, none⟩) (k.inl.length + 1) cap1)) := by
  subst hH
  have hblt := h.blk.lt
  have hsz := hb.size
  have hblk : Blk w4 b (lay c o (k.cells vI)) T := (h.below hb).blk.grown hgrow h.nin
  refine ⟨⟨?_, h.hc, ?_, ?_, ?_⟩, set1_old (by omega), ?_⟩
  · rw [PK.set_in k vI _ (k.inl ++ [x]), ← lay_set (by have := h.hc; omega) (by rw [PK.cells_len]; omega)]
    exact hblk.set _ _
  · refine Row.other ?_ _ (fun e => ?_)
    · show w4.ownsRow 0 _ _ _ _ _
      simpa using hown
    · simp [Value.ownBlock] at e
      rcases hat with h1 | h1
      · exact h.nin (by rw [h1, e])
      · omega
  · exact h.tag.app (fun x hx => by have := h.row.lt x hx; omega) hat
  · rw [set1_old (n := w.heap.size) (by omega) b hblt]; exact h.ne
  · exact ((Touch.of_below hb _).grown hgrow (by omega) (fun k hk => .inl (.inr hk))).setCell (.inl (.inl rfl)) _

set_option maxHeartbeats 2000000 in
set_option maxRecDepth 100000 in
theorem goOut_any (h : MemAt own t w b o T c vI k) (hn : k.inl.length ≤ 16) (hnp : k.pages.length = 16) {p : Nat} {g : PG} (hp : p < 16) (hg : k.pages[p]? = some g) (h0 : 0 ≤ k.outs) (h1 : k.outs ≤ 4611686018427387904) (x0 x1 x2 x3 : Int) :
    Calls Try.prog 103 #[.pointer (some ⟨b, o, none⟩), .int .i64 p, .agg #[.int .u8 x0, .int .u8 x1, .int .u8 x2, .int .u8 x3]] w fun e w' => e = .returned (.tuple #[]) ∧ MemNext own t w b o T c vI w' (k.goOut p [x0, x1, x2, x3]) := by
  have c1 := h.page hp hg (j := 1) (by omega)
  simp [PG.cells] at c1
  have k1 := h.inl
  have hblt := h.blk.lt
  have hp' : (p : Int) < 16 := by omega
  obtain ⟨ao, cap, hv, _⟩ := h.row.shape
  have Hv : Hid (vI = .slice ao k.inl.length cap) := hv
  rw [hv] at k1
  rcases Bool.eq_false_or_eq_true g.chg with hc | hc
  · have HK : Hid (k.goOut p [x0, x1, x2, x3] = { k with outs := k.outs + 1, pages := k.pages.set p { g with sto := true, out := [x0, x1, x2, x3] }, inl := k.inl.filter fun x => !(x == (p : Int)) }) := by
      simp [Hid, PK.goOut, hg, hc]
    rw [hc] at c1
    have k5 := h.outs
    have c3 := h.page hp hg (j := 3) (by omega)
    simp [PG.cells] at c3
    have f1 := h.blk.frozen (o + 133)
    have f3 := h.blk.frozen (o + 2 + p * 8 + 3)
    have h3 := h.set (j := 133) (by omega) (PK.set_outs k vI (k.outs + 1)) rfl
    have h3' := h3.setPage (j := 3) hp hnp hg (by omega) (u := .bool true) (g' := { g with sto := true }) rfl
    have h4 := h3'.below ((Below.refl _ _).alloc (Nat.le_refl _) (.cells #[.int .u8 x0, .int .u8 x1, .int .u8 x2, .int .u8 x3] 83))
    have n1 : b ≠ w.heap.size := by omega
    have n2 : w.heap.size ≠ b := by omega
    have hbx := Blk.at ((w.setCell ⟨b, o + 133, none⟩ (.int .i64 (k.outs + 1))).setCell ⟨b, o + 2 + p * 8 + 3, none⟩ (.bool true)) [.int .u8 x0, .int .u8 x1, .int .u8 x2, .int .u8 x3] 83 w.heap.size (by simp)
    have htw : Touch w.heap.size (fun x => x = b ∨ vI.ownBlock = some x) w (((w.setCell ⟨b, o + 133, none⟩ (.int .i64 (k.outs + 1))).setCell ⟨b, o + 2 + p * 8 + 3, none⟩ (.bool true)).alloc (.cells #[.int .u8 x0, .int .u8 x1, .int .u8 x2, .int .u8 x3] 83)) := (((Touch.refl _ _ _).setCell (.inl (.inl rfl)) _).setCell (.inl (.inl rfl)) _).alloc (by simp) _
    have hsw : (((w.setCell ⟨b, o + 133, none⟩ (.int .i64 (k.outs + 1))).setCell ⟨b, o + 2 + p * 8 + 3, none⟩ (.bool true)).alloc (.cells #[.int .u8 x0, .int .u8 x1, .int .u8 x2, .int .u8 x3] 83)).heap.size = w.heap.size + 1 := by simp
    have hpl : p < k.pages.length := by omega
    clear hv hg hc
    go_enter Try.func103, Try.ntmps103
    go_wp2_with fail
    obtain ⟨W, hW⟩ : ∃ W, ((w.setCell ⟨b, o + 133, none⟩ (.int .i64 (k.outs + 1))).setCell ⟨b, o + 2 + p * 8 + 3, none⟩ (.bool true)).alloc (.cells #[.int .u8 x0, .int .u8 x1, .int .u8 x2, .int .u8 x3] 83) = W := ⟨_, rfl⟩
    have hbx' : Blk (((w.setCell ⟨b, o + 133, none⟩ (.int .i64 (k.outs + 1))).setCell ⟨b, o + 2 + p * 8 + 3, none⟩ (.bool true)).alloc (.cells #[.int .u8 x0, .int .u8 x1, .int .u8 x2, .int .u8 x3] 83)) w.heap.size [.int .u8 x0, .int .u8 x1, .int .u8 x2, .int .u8 x3] 83 := hbx
    rw [hW] at h4 hbx' htw hsw ⊢
    clear hW hbx h3 h3' c1 c3 k5 f1 f3
    have hsz : w.heap.size ≤ W.heap.size := by omega
    clear hsw
    have hg4 : (k.pages.set p { g with sto := true })[p]? = some { g with sto := true } := List.getElem?_set_self hpl
    have c4 := h4.page hp hg4 (j := 4) (by omega)
    have c5 := h4.page hp hg4 (j := 5) (by omega)
    have c6 := h4.page hp hg4 (j := 6) (by omega)
    have c7 := h4.page hp hg4 (j := 7) (by omega)
    simp [PG.cells] at c4 c5 c6 c7
    have f4 := h4.blk.frozen (o + 2 + p * 8 + 4)
    have f5 := h4.blk.frozen (o + 2 + p * 8 + 5)
    have f6 := h4.blk.frozen (o + 2 + p * 8 + 6)
    have f7 := h4.blk.frozen (o + 2 + p * 8 + 7)
    have d0 := hbx'.cell 0
    have d1 := hbx'.cell 1
    have d2 := hbx'.cell 2
    have d3 := hbx'.cell 3
    simp at d0 d1 d2 d3
    have h5 := h4.setOut hp (by show (k.pages.set p _).length = 16; simp [hnp]) hg4 x0 x1 x2 x3
    clear hg4
    go_region_held3 (fun w' => w'.cell? ⟨w.heap.size, 0, none⟩ = some (.int .u8 x0) ∧ w'.cell? ⟨w.heap.size, 1, none⟩ = some (.int .u8 x1) ∧ w'.cell? ⟨w.heap.size, 2, none⟩ = some (.int .u8 x2) ∧ w'.cell? ⟨w.heap.size, 3, none⟩ = some (.int .u8 x3)) (go_keep) (fail)
    simp only [List.set_set] at h5
    have h6 := h5.below (Below.refl _ _).drew
    have hr6 := h6.row
    have k6 := h6.inl
    rw [Hv.out] at hr6 k6
    have ht6 : Touch w.heap.size (fun x => x = b ∨ vI.ownBlock = some x) w (((((W.setCell ⟨b, o + 2 + p * 8 + 4, none⟩ (.int .u8 x0)).setCell ⟨b, o + 2 + p * 8 + 5, none⟩ (.int .u8 x1)).setCell ⟨b, o + 2 + p * 8 + 6, none⟩ (.int .u8 x2)).setCell ⟨b, o + 2 + p * 8 + 7, none⟩ (.int .u8 x3)).drew) := ((((htw.setCell (.inl (.inl rfl)) _).setCell (.inl (.inl rfl)) _).setCell (.inl (.inl rfl)) _).setCell (.inl (.inl rfl)) _).drew
    obtain ⟨W6, hW6⟩ : ∃ W6, ((((W.setCell ⟨b, o + 2 + p * 8 + 4, none⟩ (.int .u8 x0)).setCell ⟨b, o + 2 + p * 8 + 5, none⟩ (.int .u8 x1)).setCell ⟨b, o + 2 + p * 8 + 6, none⟩ (.int .u8 x2)).setCell ⟨b, o + 2 + p * 8 + 7, none⟩ (.int .u8 x3)).drew = W6 := ⟨_, rfl⟩
    rw [hW6] at h6 hr6 k6 ht6 ⊢
    clear hW6 h5 h4 c4 c5 c6 c7 f4 f5 f6 f7
    go_wp2_with fail
    refine (without_any hr6 (by omega) p).mono ?_
    rintro e w7 ⟨v', rfl, hb7, hr7, hn7⟩
    have h7 := h6.below hb7
    have k7 := h7.inl
    rw [Hv.out] at k7
    have f7 := h7.blk.frozen (o + 130)
    obtain ⟨ao', cap', hv', _⟩ := hr7.shape
    subst hv'
    go_wp2_with fail
    go_end0
    exact ⟨rfl, by rw [HK.out]; exact MemNext.touched ht6 (h6.fresh hb7 hr7 hn7)⟩
  · have HK : Hid (k.goOut p [x0, x1, x2, x3] = { k with inl := k.inl.filter fun x => !(x == (p : Int)) }) := by
      simp [Hid, PK.goOut, hg, hc, set_id hg]
    rw [hc] at c1
    have hba : Below w.heap.size w (w.alloc (.cells #[.int .u8 x0, .int .u8 x1, .int .u8 x2, .int .u8 x3] 83)) := (Below.refl _ _).alloc (Nat.le_refl _) _
    have h2 := h.below hba
    have hr2 := h2.row
    rw [hv] at hr2
    clear hv hg hc
    go_enter Try.func103, Try.ntmps103
    go_wp2_with fail
    refine (without_any hr2 (by omega) p).mono ?_
    rintro e w3 ⟨v', rfl, hb3, hr3, hn3⟩
    have h3 := h2.below hb3
    have k3 := h3.inl
    rw [Hv.out] at k3
    have f3 := h3.blk.frozen (o + 130)
    obtain ⟨ao', cap', hv', _⟩ := hr3.shape
    subst hv'
    go_wp2_with fail
    go_end0
    exact ⟨rfl, by rw [HK.out]; exact MemNext.after hba (h2.fresh hb3 hr3 hn3)⟩
end
end Go.Proofs.Ytinlkcmdbjcofab

/-
  The program's kept memory: package kept, a page comes in, is accessed.
-/
namespace Go.Proofs.Ytinlkcmdbjcofab
open Go.RowKit
set_option linter.unusedVariables false
attribute [local go_sem ↓] Go.wp_at_zero Go.wp_at_succ
section
variable {own : Nat → Nat × Nat} {t : Nat × Nat} {w : World} {b o : Nat} {T : TypeId} {c : List Value} {vI : Value} {k : PK}

set_option maxHeartbeats 2000000 in
set_option maxRecDepth 100000 in
theorem comeIn_any (h : MemAt own t w b o T c vI k) (hn : k.inl.length ≤ 16) (hnp : k.pages.length = 16) {p : Nat} {g : PG} (hp : p < 16) (hg : k.pages[p]? = some g) (h0 : 0 ≤ k.ins) (h1 : k.ins ≤ 4611686018427387904) (f : Nat) :
    Calls Try.prog 97 #[.pointer (some ⟨b, o, none⟩), .int .i64 p, .int .i64 f] w fun e w' => e = .returned (.agg (fcells g.out).toArray) ∧ MemNext own t w b o T c vI w' (k.comeIn p f) := by
  obtain ⟨i1, gi, gz0, gz1, gz2⟩ := info_parts Try.infoInt
  have c3 := h.page hp hg (j := 3) (by omega)
  have c0 := h.page hp hg (j := 0) (by omega)
  have c1 := h.page hp hg (j := 1) (by omega)
  simp [PG.cells] at c3 c0 c1
  have k1 := h.inl
  have k2 := h.ins
  have f2 := h.blk.frozen (o + 132)
  have f0 := h.blk.frozen (o + 2 + p * 8)
  have f1 := h.blk.frozen (o + 2 + p * 8 + 1)
  have hblt := h.blk.lt
  have hp' : (p : Int) < 16 := by omega
  obtain ⟨ao, cap, hv, _⟩ := h.row.shape
  have Hv : Hid (vI = .slice ao k.inl.length cap) := hv
  rw [hv] at k1
  have hpl : p < k.pages.length := by omega
  rcases Bool.eq_false_or_eq_true g.sto with hc | hc
  · rw [hc] at c3
    have HK : Hid (k.comeIn p f = { k with ins := k.ins + 1, pages := k.pages.set p { g with frame := f, chg := false }, inl := k.inl ++ [(p : Int)] }) := by
      simp [Hid, PK.comeIn, hg, hc]
    have hA := h.set (j := 132) (by omega) (PK.set_ins k vI (k.ins + 1)) rfl
    have hB := hA.setPage (j := 0) hp hnp hg (by omega) (u := .int .i64 f) (g' := { g with frame := f }) rfl
    have hC := hB.setPage (j := 1) hp (by show (k.pages.set p _).length = 16; simp [hnp]) (List.getElem?_set_self hpl) (by omega) (u := .bool false) (g' := { g with frame := f, chg := false }) rfl
    simp only [List.set_set, Nat.add_zero] at hC
    have htC : Touch w.heap.size (fun x => x = b ∨ vI.ownBlock = some x) w (((w.setCell ⟨b, o + 132, none⟩ (.int .i64 (k.ins + 1))).setCell ⟨b, o + 2 + p * 8, none⟩ (.int .i64 f)).setCell ⟨b, o + 2 + p * 8 + 1, none⟩ (.bool false)) := (((Touch.refl _ _ _).setCell (.inl (.inl rfl)) _).setCell (.inl (.inl rfl)) _).setCell (.inl (.inl rfl)) _
    have hsC : (((w.setCell ⟨b, o + 132, none⟩ (.int .i64 (k.ins + 1))).setCell ⟨b, o + 2 + p * 8, none⟩ (.int .i64 f)).setCell ⟨b, o + 2 + p * 8 + 1, none⟩ (.bool false)).heap.size = w.heap.size := by simp
    have hblW : Below (((w.setCell ⟨b, o + 132, none⟩ (.int .i64 (k.ins + 1))).setCell ⟨b, o + 2 + p * 8, none⟩ (.int .i64 f)).setCell ⟨b, o + 2 + p * 8 + 1, none⟩ (.bool false)).heap.size (((w.setCell ⟨b, o + 132, none⟩ (.int .i64 (k.ins + 1))).setCell ⟨b, o + 2 + p * 8, none⟩ (.int .i64 f)).setCell ⟨b, o + 2 + p * 8 + 1, none⟩ (.bool false)) (((((w.setCell ⟨b, o + 132, none⟩ (.int .i64 (k.ins + 1))).setCell ⟨b, o + 2 + p * 8, none⟩ (.int .i64 f)).setCell ⟨b, o + 2 + p * 8 + 1, none⟩ (.bool false)).alloc (.cells #[.int .u8 0, .int .u8 0, .int .u8 0, .int .u8 0] 83)).alloc (.cells [.int .i64 (p : Int)].toArray 3)) := ((Below.refl _ _).alloc (Nat.le_refl _) _).alloc (by simp) _
    have hR := (hC.below hblW).row
    have hN := Blk.at ((((w.setCell ⟨b, o + 132, none⟩ (.int .i64 (k.ins + 1))).setCell ⟨b, o + 2 + p * 8, none⟩ (.int .i64 f)).setCell ⟨b, o + 2 + p * 8 + 1, none⟩ (.bool false)).alloc (.cells #[.int .u8 0, .int .u8 0, .int .u8 0, .int .u8 0] 83)) [.int .i64 (p : Int)] 3 (w.heap.size + 1) (by simp)
    have hZ := ((Blk.at (((w.setCell ⟨b, o + 132, none⟩ (.int .i64 (k.ins + 1))).setCell ⟨b, o + 2 + p * 8, none⟩ (.int .i64 f)).setCell ⟨b, o + 2 + p * 8 + 1, none⟩ (.bool false)) [.int .u8 0, .int .u8 0, .int .u8 0, .int .u8 0] 83 w.heap.size (by simp)).alloc (.cells [.int .i64 (p : Int)].toArray 3))
    have hg4 : (k.pages.set p { g with frame := (f : Int), chg := false })[p]? = some { g with frame := (f : Int), chg := false } := List.getElem?_set_self (by omega)
    have hsW : (((((w.setCell ⟨b, o + 132, none⟩ (.int .i64 (k.ins + 1))).setCell ⟨b, o + 2 + p * 8, none⟩ (.int .i64 f)).setCell ⟨b, o + 2 + p * 8 + 1, none⟩ (.bool false)).alloc (.cells #[.int .u8 0, .int .u8 0, .int .u8 0, .int .u8 0] 83)).alloc (.cells [.int .i64 (p : Int)].toArray 3)).heap.size = w.heap.size + 2 := by simp
    have hvlt : ∀ x, (Value.slice ao k.inl.length cap).ownBlock = some x → x < w.heap.size := by rw [← hv]; exact h.row.lt
    rw [hv] at hR
    have HH : Hid (MemAt own t (((w.setCell ⟨b, o + 132, none⟩ (.int .i64 (k.ins + 1))).setCell ⟨b, o + 2 + p * 8, none⟩ (.int .i64 f)).setCell ⟨b, o + 2 + p * 8 + 1, none⟩ (.bool false)) b o T c (.slice ao k.inl.length cap) { k with ins := k.ins + 1, pages := k.pages.set p { g with frame := (f : Int), chg := false } }) := by rw [← hv]; exact hC
    clear hv hc hA hB hC
    go_enter Try.func97, Try.ntmps97
    go_wp2_with (at_builtin; refine wpList_append_lies _ rfl (.tmp 38) (.tmp 40) 37 rfl 0 3 i1 _ 1 8 Try.underlying37 gi gz0 gz1 gz2 rfl (by decide) (.slice ao k.inl.length cap) k.inl.length _ rfl hR ⟨w.heap.size + 1, 0, none⟩ 1 1 [.int .i64 (p : Int)] rfl rfl ?c1a ?c2a (by omega) ?b1a ?b2a (by omega) (w.heap.size + 2) (by simp) ?nxa)
    case c2a => first | exact oneCell_int _ | rfl
    case b1a => unfold maxLen; omega
    case b2a => omega
    case nxa =>
      intro g1 cap1 w4 hown hgrow hat hlt1
      obtain ⟨hM, hoM, htM⟩ := HH.out.grown hblW hsW hown hgrow hat
      have hb4 := (HH.out.below hblW).blk.grown hgrow HH.out.nin
      have hZ4 := hZ.grown hgrow (fun e => by have := hvlt _ e; omega)
      have hpg : ∀ j, j < 8 → w4.cell? ⟨b, o + 2 + p * 8 + j, none⟩ = ({ g with frame := (f : Int), chg := false } : PG).cells[j]? := fun j hj => by
        rw [hb4.cell, show o + 2 + p * 8 + j = o + (2 + p * 8 + j) by omega, lay_in (by have := HH.out.hc; omega) (by rw [PK.cells_len]; omega)]
        exact PK.cell_page hp hg4 hj
      have e4 := hpg 4 (by omega)
      have e5 := hpg 5 (by omega)
      have e6 := hpg 6 (by omega)
      have e7 := hpg 7 (by omega)
      rw [show o + 2 + p * 8 + 5 = o + 2 + p * 8 + 4 + 1 by omega] at e5
      rw [show o + 2 + p * 8 + 6 = o + 2 + p * 8 + 4 + 2 by omega] at e6
      rw [show o + 2 + p * 8 + 7 = o + 2 + p * 8 + 4 + 3 by omega] at e7
      simp only [PG.cells, List.getElem?_cons_succ, List.getElem?_cons_zero] at e4 e5 e6 e7
      have u0 : w4.cell? ⟨b, o + 130, none⟩ = some (.slice ao k.inl.length cap) := by
        rw [hb4.cell, lay_in (by have := HH.out.hc; omega) (by rw [PK.cells_len]; omega)]
        exact PK.cell_in _ _
      have u1 := hb4.frozen (o + 130)
      have z0 := hZ4.cell 0
      have z1 := hZ4.cell 1
      have z2 := hZ4.cell 2
      have z3 := hZ4.cell 3
      simp at z0 z1 z2 z3
      have y0 := hZ4.frozen 0
      have y1 := hZ4.frozen 1
      have y2 := hZ4.frozen 2
      have y3 := hZ4.frozen 3
      have n1 : b ≠ w.heap.size := by omega
      have n2 : w.heap.size ≠ b := by omega
      have HM : Hid (MemAt (set1 own (w.heap.size + 2) t) t (w4.setCell ⟨b, o + 130, none⟩ (.slice (some ⟨g1, 0, none⟩) (k.inl.length + 1) cap1)) b o T c (.slice (some ⟨g1, 0, none⟩) (k.inl.length + 1) cap1) _) := hM
      have ng : g1 ≠ w.heap.size := by
        rcases hat with h1 | h1
        · have := hvlt _ h1; omega
        · omega
      have HT : Hid (Touch _ _ _ _) := htM
      have HG : Hid (g1 ≠ w.heap.size) := ng
      have HZ : Hid (w.heap.size < w4.heap.size) := hZ4.lt
      clear hM htM ng hat hgrow hown hpg hb4 hR hN hZ hZ4 c3 c0 c1 k1 k2 f2 f0 f1 hsW hsC
      go_wp2_with fail
      refine bodyPost_ret (v := .agg #[.int .u8 (g.out[0]?.getD 0), .int .u8 (g.out[1]?.getD 0), .int .u8 (g.out[2]?.getD 0), .int .u8 (g.out[3]?.getD 0)]) (by simp [results, Try.results97, go_sem, z0, z1, z2, z3]) rfl ⟨rfl, ?_⟩
      have hgs : ∀ n cap, (Value.slice (some ⟨g1, 0, none⟩) n cap).ownBlock ≠ some w.heap.size := fun n cap e => HG.out (by simpa [Value.ownBlock] using e)
      rw [HK.out]
      refine ⟨set1 own (w.heap.size + 2) t, _, (((HM.out.aside (a := ⟨w.heap.size, 0, none⟩) _ n1 (hgs _ _)).aside (a := ⟨w.heap.size, 1, none⟩) _ n1 (hgs _ _)).aside (a := ⟨w.heap.size, 2, none⟩) _ n1 (hgs _ _)).aside (a := ⟨w.heap.size, 3, none⟩) _ n1 (hgs _ _), fun x hx => hoM x (by simpa using hx), ?_⟩
      have ht := htC.trans (HT.out.mono (B' := w.heap.size) (S' := fun x => x = b ∨ vI.ownBlock = some x) (by simp) (fun k _ h => by rw [Hv.out]; exact h))
      exact (((ht.setCell (p := ⟨w.heap.size, 0, none⟩) (.inr (Nat.le_refl _)) _).setCell (p := ⟨w.heap.size, 1, none⟩) (.inr (Nat.le_refl _)) _).setCell (p := ⟨w.heap.size, 2, none⟩) (.inr (Nat.le_refl _)) _).setCell (p := ⟨w.heap.size, 3, none⟩) (.inr (Nat.le_refl _)) _
  · rw [hc] at c3
    have HK : Hid (k.comeIn p f = { k with pages := k.pages.set p { g with frame := f, chg := false }, inl := k.inl ++ [(p : Int)] }) := by
      simp [Hid, PK.comeIn, hg, hc]
    have hA := h
    have hB := hA.setPage (j := 0) hp hnp hg (by omega) (u := .int .i64 f) (g' := { g with frame := f }) rfl
    have hC := hB.setPage (j := 1) hp (by show (k.pages.set p _).length = 16; simp [hnp]) (List.getElem?_set_self hpl) (by omega) (u := .bool false) (g' := { g with frame := f, chg := false }) rfl
    simp only [List.set_set, Nat.add_zero] at hC
    have htC : Touch w.heap.size (fun x => x = b ∨ vI.ownBlock = some x) w ((w.setCell ⟨b, o + 2 + p * 8, none⟩ (.int .i64 f)).setCell ⟨b, o + 2 + p * 8 + 1, none⟩ (.bool false)) := ((Touch.refl _ _ _).setCell (.inl (.inl rfl)) _).setCell (.inl (.inl rfl)) _
    have hsC : ((w.setCell ⟨b, o + 2 + p * 8, none⟩ (.int .i64 f)).setCell ⟨b, o + 2 + p * 8 + 1, none⟩ (.bool false)).heap.size = w.heap.size := by simp
    have hblW : Below ((w.setCell ⟨b, o + 2 + p * 8, none⟩ (.int .i64 f)).setCell ⟨b, o + 2 + p * 8 + 1, none⟩ (.bool false)).heap.size ((w.setCell ⟨b, o + 2 + p * 8, none⟩ (.int .i64 f)).setCell ⟨b, o + 2 + p * 8 + 1, none⟩ (.bool false)) ((((w.setCell ⟨b, o + 2 + p * 8, none⟩ (.int .i64 f)).setCell ⟨b, o + 2 + p * 8 + 1, none⟩ (.bool false)).alloc (.cells #[.int .u8 0, .int .u8 0, .int .u8 0, .int .u8 0] 83)).alloc (.cells [.int .i64 (p : Int)].toArray 3)) := ((Below.refl _ _).alloc (Nat.le_refl _) _).alloc (by simp) _
    have hR := (hC.below hblW).row
    have hN := Blk.at (((w.setCell ⟨b, o + 2 + p * 8, none⟩ (.int .i64 f)).setCell ⟨b, o + 2 + p * 8 + 1, none⟩ (.bool false)).alloc (.cells #[.int .u8 0, .int .u8 0, .int .u8 0, .int .u8 0] 83)) [.int .i64 (p : Int)] 3 (w.heap.size + 1) (by simp)
    have hZ := ((Blk.at ((w.setCell ⟨b, o + 2 + p * 8, none⟩ (.int .i64 f)).setCell ⟨b, o + 2 + p * 8 + 1, none⟩ (.bool false)) [.int .u8 0, .int .u8 0, .int .u8 0, .int .u8 0] 83 w.heap.size (by simp)).alloc (.cells [.int .i64 (p : Int)].toArray 3))
    have hg4 : (k.pages.set p { g with frame := (f : Int), chg := false })[p]? = some { g with frame := (f : Int), chg := false } := List.getElem?_set_self (by omega)
    have hsW : ((((w.setCell ⟨b, o + 2 + p * 8, none⟩ (.int .i64 f)).setCell ⟨b, o + 2 + p * 8 + 1, none⟩ (.bool false)).alloc (.cells #[.int .u8 0, .int .u8 0, .int .u8 0, .int .u8 0] 83)).alloc (.cells [.int .i64 (p : Int)].toArray 3)).heap.size = w.heap.size + 2 := by simp
    have hvlt : ∀ x, (Value.slice ao k.inl.length cap).ownBlock = some x → x < w.heap.size := by rw [← hv]; exact h.row.lt
    rw [hv] at hR
    have HH : Hid (MemAt own t ((w.setCell ⟨b, o + 2 + p * 8, none⟩ (.int .i64 f)).setCell ⟨b, o + 2 + p * 8 + 1, none⟩ (.bool false)) b o T c (.slice ao k.inl.length cap) { k with pages := k.pages.set p { g with frame := (f : Int), chg := false } }) := by rw [← hv]; exact hC
    clear hv hc hA hB hC
    go_enter Try.func97, Try.ntmps97
    go_wp2_with (at_builtin; refine wpList_append_lies _ rfl (.tmp 38) (.tmp 40) 37 rfl 0 3 i1 _ 1 8 Try.underlying37 gi gz0 gz1 gz2 rfl (by decide) (.slice ao k.inl.length cap) k.inl.length _ rfl hR ⟨w.heap.size + 1, 0, none⟩ 1 1 [.int .i64 (p : Int)] rfl rfl ?c1b ?c2b (by omega) ?b1b ?b2b (by omega) (w.heap.size + 2) (by simp) ?nxb)
    case c2b => first | exact oneCell_int _ | rfl
    case b1b => unfold maxLen; omega
    case b2b => omega
    case nxb =>
      intro g1 cap1 w4 hown hgrow hat hlt1
      obtain ⟨hM, hoM, htM⟩ := HH.out.grown hblW hsW hown hgrow hat
      have hb4 := (HH.out.below hblW).blk.grown hgrow HH.out.nin
      have hZ4 := hZ.grown hgrow (fun e => by have := hvlt _ e; omega)
      have hpg : ∀ j, j < 8 → w4.cell? ⟨b, o + 2 + p * 8 + j, none⟩ = ({ g with frame := (f : Int), chg := false } : PG).cells[j]? := fun j hj => by
        rw [hb4.cell, show o + 2 + p * 8 + j = o + (2 + p * 8 + j) by omega, lay_in (by have := HH.out.hc; omega) (by rw [PK.cells_len]; omega)]
        exact PK.cell_page hp hg4 hj
      have e4 := hpg 4 (by omega)
      have e5 := hpg 5 (by omega)
      have e6 := hpg 6 (by omega)
      have e7 := hpg 7 (by omega)
      rw [show o + 2 + p * 8 + 5 = o + 2 + p * 8 + 4 + 1 by omega] at e5
      rw [show o + 2 + p * 8 + 6 = o + 2 + p * 8 + 4 + 2 by omega] at e6
      rw [show o + 2 + p * 8 + 7 = o + 2 + p * 8 + 4 + 3 by omega] at e7
      simp only [PG.cells, List.getElem?_cons_succ, List.getElem?_cons_zero] at e4 e5 e6 e7
      have u0 : w4.cell? ⟨b, o + 130, none⟩ = some (.slice ao k.inl.length cap) := by
        rw [hb4.cell, lay_in (by have := HH.out.hc; omega) (by rw [PK.cells_len]; omega)]
        exact PK.cell_in _ _
      have u1 := hb4.frozen (o + 130)
      have z0 := hZ4.cell 0
      have z1 := hZ4.cell 1
      have z2 := hZ4.cell 2
      have z3 := hZ4.cell 3
      simp at z0 z1 z2 z3
      have y0 := hZ4.frozen 0
      have y1 := hZ4.frozen 1
      have y2 := hZ4.frozen 2
      have y3 := hZ4.frozen 3
      have n1 : b ≠ w.heap.size := by omega
      have n2 : w.heap.size ≠ b := by omega
      have HM : Hid (MemAt (set1 own (w.heap.size + 2) t) t (w4.setCell ⟨b, o + 130, none⟩ (.slice (some ⟨g1, 0, none⟩) (k.inl.length + 1) cap1)) b o T c (.slice (some ⟨g1, 0, none⟩) (k.inl.length + 1) cap1) _) := hM
      have ng : g1 ≠ w.heap.size := by
        rcases hat with h1 | h1
        · have := hvlt _ h1; omega
        · omega
      have HT : Hid (Touch _ _ _ _) := htM
      have HG : Hid (g1 ≠ w.heap.size) := ng
      have HZ : Hid (w.heap.size < w4.heap.size) := hZ4.lt
      clear hM htM ng hat hgrow hown hpg hb4 hR hN hZ hZ4 c3 c0 c1 k1 k2 f2 f0 f1 hsW hsC
      go_wp2_with fail
      refine bodyPost_ret (v := .agg #[.int .u8 (g.out[0]?.getD 0), .int .u8 (g.out[1]?.getD 0), .int .u8 (g.out[2]?.getD 0), .int .u8 (g.out[3]?.getD 0)]) (by simp [results, Try.results97, go_sem, z0, z1, z2, z3]) rfl ⟨rfl, ?_⟩
      have hgs : ∀ n cap, (Value.slice (some ⟨g1, 0, none⟩) n cap).ownBlock ≠ some w.heap.size := fun n cap e => HG.out (by simpa [Value.ownBlock] using e)
      rw [HK.out]
      refine ⟨set1 own (w.heap.size + 2) t, _, (((HM.out.aside (a := ⟨w.heap.size, 0, none⟩) _ n1 (hgs _ _)).aside (a := ⟨w.heap.size, 1, none⟩) _ n1 (hgs _ _)).aside (a := ⟨w.heap.size, 2, none⟩) _ n1 (hgs _ _)).aside (a := ⟨w.heap.size, 3, none⟩) _ n1 (hgs _ _), fun x hx => hoM x (by simpa using hx), ?_⟩
      have ht := htC.trans (HT.out.mono (B' := w.heap.size) (S' := fun x => x = b ∨ vI.ownBlock = some x) (by simp) (fun k _ h => by rw [Hv.out]; exact h))
      exact (((ht.setCell (p := ⟨w.heap.size, 0, none⟩) (.inr (Nat.le_refl _)) _).setCell (p := ⟨w.heap.size, 1, none⟩) (.inr (Nat.le_refl _)) _).setCell (p := ⟨w.heap.size, 2, none⟩) (.inr (Nat.le_refl _)) _).setCell (p := ⟨w.heap.size, 3, none⟩) (.inr (Nat.le_refl _)) _
end
end Go.Proofs.Ytinlkcmdbjcofab

/-
  The program's kept memory: package kept, a page is accessed; Dirty, Clean, Counts, Empty.
-/
namespace Go.Proofs.Ytinlkcmdbjcofab
open Go.RowKit
set_option linter.unusedVariables false
attribute [local go_sem ↓] Go.wp_at_zero Go.wp_at_succ
section
variable {own : Nat → Nat × Nat} {t : Nat × Nat} {w : World} {b o : Nat} {T : TypeId} {c : List Value} {vI : Value} {k : PK}

/-- What Touch leaves but for the order. -/
def PK.mark (k : PK) (p : Nat) (g : PG) (wt : Bool) : PK := { k with pages := if wt then k.pages.set p { g with chg := true, dty := true } else k.pages }
theorem PK.touch_oldest {p : Nat} {g : PG} (hg : k.pages[p]? = some g) (wt : Bool) (h0 : (k.policy == 0) = true) : k.touch p wt = k.mark p g wt := by
  unfold PK.touch PK.mark
  simp only [hg, h0, if_true]
theorem PK.touch_else {p : Nat} {g : PG} (hg : k.pages[p]? = some g) (wt : Bool) (h0 : (k.policy == 0) = false) : k.touch p wt = { k.mark p g wt with inl := (k.inl.filter fun x => !(x == (p : Int))) ++ [(p : Int)] } := by
  unfold PK.touch PK.mark
  simp only [hg, h0, Bool.false_eq_true, if_false]

set_option maxHeartbeats 2000000 in
set_option maxRecDepth 100000 in
theorem mtouch_any (h : MemAt own t w b o T c vI k) (hn : k.inl.length ≤ 16) (hnp : k.pages.length = 16) {p : Nat} {g : PG} (hp : p < 16) (hg : k.pages[p]? = some g) (wt : Bool) :
    Calls Try.prog 92 #[.pointer (some ⟨b, o, none⟩), .int .i64 p, .bool wt] w fun e w' => e = .returned (.tuple #[]) ∧ MemNext own t w b o T c vI w' (k.touch p wt) := by
  obtain ⟨i1, gi, gz0, gz1, gz2⟩ := info_parts Try.infoInt
  have hpl : p < k.pages.length := by omega
  have hblt := h.blk.lt
  have hp' : (p : Int) < 16 := by omega
  obtain ⟨W, hM, hT, hW⟩ : ∃ W, MemAt own t W b o T c vI (k.mark p g wt) ∧ Touch w.heap.size (fun x => x = b ∨ vI.ownBlock = some x) w W ∧ W = (if wt then (w.setCell ⟨b, o + 2 + p * 8 + 1, none⟩ (.bool true)).setCell ⟨b, o + 2 + p * 8 + 2, none⟩ (.bool true) else w) := by
    cases wt with
    | false => exact ⟨w, h, Touch.refl _ _ _, rfl⟩
    | true =>
      refine ⟨_, ?_, ((Touch.refl _ _ _).setCell (p := ⟨b, o + 2 + p * 8 + 1, none⟩) (.inl (.inl rfl)) _).setCell (p := ⟨b, o + 2 + p * 8 + 2, none⟩) (.inl (.inl rfl)) _, rfl⟩
      have hB := h.setPage (j := 1) hp hnp hg (by omega) (u := .bool true) (g' := { g with chg := true }) rfl
      have hC := hB.setPage (j := 2) hp (by show (k.pages.set p _).length = 16; simp [hnp]) (List.getElem?_set_self hpl) (by omega) (u := .bool true) (g' := { g with chg := true, dty := true }) rfl
      simp only [List.set_set] at hC
      exact hC
  have c1 := h.page hp hg (j := 1) (by omega)
  have c2 := h.page hp hg (j := 2) (by omega)
  simp [PG.cells] at c1 c2
  have f1 := h.blk.frozen (o + 2 + p * 8 + 1)
  have f2 := h.blk.frozen (o + 2 + p * 8 + 2)
  have kp := hM.policy
  have kp0 : W.cell? ⟨b, o + 1, none⟩ = some (.int .i64 k.policy) := kp
  have ki := hM.inl
  obtain ⟨ao, cap, hv, _⟩ := h.row.shape
  have Hv : Hid (vI = .slice ao k.inl.length cap) := hv
  have hrM : Row W (.slice ao k.inl.length cap) 3 1 k.inl.length (k.inl.map (.int .i64)) := by rw [← hv]; exact hM.row
  rw [hv] at ki
  have kw0 := h.policy
  have kw1 := h.inl
  rw [hv] at kw1
  cases h0 : (k.policy == 0)
  · have HK : Hid (k.touch p wt = { k.mark p g wt with inl := (k.inl.filter fun x => !(x == (p : Int))) ++ [(p : Int)] }) := PK.touch_else hg wt h0
    have hfl : (k.inl.filter fun x => !(x == (p : Int))).length ≤ k.inl.length := List.length_filter_le _ _
    obtain ⟨L, HL⟩ : ∃ L : List Int, Hid ((k.inl.filter fun x => !(x == (p : Int))) = L) := ⟨_, rfl⟩
    rw [HL.out] at HK hfl
    clear kp hv hg
    rcases Bool.eq_false_or_eq_true wt with hwt | hwt
    · subst hwt
      simp only [if_true] at hW
      have HW : Hid (W = (w.setCell ⟨b, o + 2 + p * 8 + 1, none⟩ (.bool true)).setCell ⟨b, o + 2 + p * 8 + 2, none⟩ (.bool true)) := hW
      clear hW
      go_enter Try.func92, Try.ntmps92
      go_wp2_with fail
      rw [← HW.out]
      refine (without_any hrM (by omega) p).mono ?_
      rintro e w3 ⟨v', rfl, hb3, hr3, hn3⟩
      rw [HL.out] at hr3
      have h3 := hM.below hb3
      have k3 := h3.inl
      rw [Hv.out] at k3
      have f3 := h3.blk.frozen (o + 130)
      obtain ⟨ao', cap', hv', _⟩ := hr3.shape
      subst hv'
      obtain ⟨hF, hoF, htF⟩ := hM.freshAt hb3 hr3 hn3
      have HF : Hid (MemAt _ t (w3.setCell ⟨b, o + 130, none⟩ (.slice ao' L.length cap')) b o T c _ _) := hF
      have hblW : Below (w3.setCell ⟨b, o + 130, none⟩ (.slice ao' L.length cap')).heap.size (w3.setCell ⟨b, o + 130, none⟩ (.slice ao' L.length cap')) ((w3.setCell ⟨b, o + 130, none⟩ (.slice ao' L.length cap')).alloc (.cells [.int .i64 (p : Int)].toArray 3)) := (Below.refl _ _).alloc (Nat.le_refl _) _
      have hR := (hF.below hblW).row
      have hN := Blk.at (w3.setCell ⟨b, o + 130, none⟩ (.slice ao' L.length cap')) [.int .i64 (p : Int)] 3 w3.heap.size (by simp)
      have hsW : ((w3.setCell ⟨b, o + 130, none⟩ (.slice ao' L.length cap')).alloc (.cells [.int .i64 (p : Int)].toArray 3)).heap.size = w3.heap.size + 1 := by simp
      have hb3l := h3.blk.lt
      have HTF : Hid (Touch W.heap.size (fun x => x = b ∨ vI.ownBlock = some x) W (w3.setCell ⟨b, o + 130, none⟩ (.slice ao' L.length cap'))) := htF
      have HS3 : Hid (W.heap.size ≤ w3.heap.size) := hb3.size
      have HNW : Hid (∀ x, (Value.slice ao' L.length cap').ownBlock = some x → W.heap.size ≤ x) := hn3
      clear hF htF hrM hr3 hn3 h3
      go_wp2_with (at_builtin; refine wpList_append_lies _ rfl (.tmp 37) (.tmp 39) 37 rfl 0 3 i1 _ 1 8 Try.underlying37 gi gz0 gz1 gz2 rfl (by decide) (.slice ao' L.length cap') L.length _ rfl hR ⟨w3.heap.size, 0, none⟩ 1 1 [.int .i64 (p : Int)] rfl rfl ?c1 ?c2 (by omega) ?b1 ?b2 (by omega) (w3.heap.size + 1) (by simp) ?nx)
      all_goals try first | rfl | exact oneCell_int _ | exact World.news_of_block hN | (unfold maxLen; omega; done) | (omega; done)
      intro g1 cap1 w4 hown hgrow hat hlt1
      obtain ⟨hG, hoG, htG⟩ := HF.out.grown hblW hsW hown hgrow hat
      have hb4 := (HF.out.below hblW).blk.grown hgrow HF.out.nin
      have u0 : w4.cell? ⟨b, o + 130, none⟩ = some (.slice ao' L.length cap') := by
        rw [hb4.cell, lay_in (by have := HF.out.hc; omega) (by rw [PK.cells_len]; omega)]
        exact PK.cell_in _ _
      have u1 := hb4.frozen (o + 130)
      have HG : Hid (MemAt _ t (w4.setCell ⟨b, o + 130, none⟩ (.slice (some ⟨g1, 0, none⟩) (L.length + 1) cap1)) b o T c _ _) := hG
      have HTG : Hid (Touch _ _ _ _) := htG
      have HOG : Hid (∀ x, x < (w3.setCell ⟨b, o + 130, none⟩ (.slice ao' L.length cap')).heap.size → _ = _) := hoG
      have HOF : Hid (∀ x, x < W.heap.size → _ = _) := hoF
      clear hG htG hoG hoF hb4 hR hN hgrow hown hat
      go_wp2_with fail
      go_end0
      have hs1 := hT.size
      have hs2 := HS3.out
      refine ⟨rfl, ?_⟩
      rw [HK.out]
      refine ⟨_, _, HG.out, fun x hx => (HOG.out x (by simp; omega)).trans (HOF.out x (by omega)), (hT.trans (HTF.out.mono hT.size (fun _ _ h => h))).trans (HTG.out.mono (by simp; omega) (fun x hx h => ?_))⟩
      rcases h with h | h
      · exact .inl h
      · have := HNW.out x h
        omega
    · subst hwt
      simp only [Bool.false_eq_true, if_false] at hW
      subst hW
      go_enter Try.func92, Try.ntmps92
      go_wp2_with fail
      refine (without_any hrM (by omega) p).mono ?_
      rintro e w3 ⟨v', rfl, hb3, hr3, hn3⟩
      rw [HL.out] at hr3
      have h3 := hM.below hb3
      have k3 := h3.inl
      rw [Hv.out] at k3
      have f3 := h3.blk.frozen (o + 130)
      obtain ⟨ao', cap', hv', _⟩ := hr3.shape
      subst hv'
      obtain ⟨hF, hoF, htF⟩ := hM.freshAt hb3 hr3 hn3
      have HF : Hid (MemAt _ t (w3.setCell ⟨b, o + 130, none⟩ (.slice ao' L.length cap')) b o T c _ _) := hF
      have hblW : Below (w3.setCell ⟨b, o + 130, none⟩ (.slice ao' L.length cap')).heap.size (w3.setCell ⟨b, o + 130, none⟩ (.slice ao' L.length cap')) ((w3.setCell ⟨b, o + 130, none⟩ (.slice ao' L.length cap')).alloc (.cells [.int .i64 (p : Int)].toArray 3)) := (Below.refl _ _).alloc (Nat.le_refl _) _
      have hR := (hF.below hblW).row
      have hN := Blk.at (w3.setCell ⟨b, o + 130, none⟩ (.slice ao' L.length cap')) [.int .i64 (p : Int)] 3 w3.heap.size (by simp)
      have hsW : ((w3.setCell ⟨b, o + 130, none⟩ (.slice ao' L.length cap')).alloc (.cells [.int .i64 (p : Int)].toArray 3)).heap.size = w3.heap.size + 1 := by simp
      have hb3l := h3.blk.lt
      have HTF : Hid (Touch W.heap.size (fun x => x = b ∨ vI.ownBlock = some x) W (w3.setCell ⟨b, o + 130, none⟩ (.slice ao' L.length cap'))) := htF
      have HS3 : Hid (W.heap.size ≤ w3.heap.size) := hb3.size
      have HNW : Hid (∀ x, (Value.slice ao' L.length cap').ownBlock = some x → W.heap.size ≤ x) := hn3
      clear hF htF hrM hr3 hn3 h3
      go_wp2_with (at_builtin; refine wpList_append_lies _ rfl (.tmp 37) (.tmp 39) 37 rfl 0 3 i1 _ 1 8 Try.underlying37 gi gz0 gz1 gz2 rfl (by decide) (.slice ao' L.length cap') L.length _ rfl hR ⟨w3.heap.size, 0, none⟩ 1 1 [.int .i64 (p : Int)] rfl rfl ?c1b ?c2b (by omega) ?b1b ?b2b (by omega) (w3.heap.size + 1) (by simp) ?nxb)
      all_goals try first | rfl | exact oneCell_int _ | exact World.news_of_block hN | (unfold maxLen; omega; done) | (omega; done)
      intro g1 cap1 w4 hown hgrow hat hlt1
      obtain ⟨hG, hoG, htG⟩ := HF.out.grown hblW hsW hown hgrow hat
      have hb4 := (HF.out.below hblW).blk.grown hgrow HF.out.nin
      have u0 : w4.cell? ⟨b, o + 130, none⟩ = some (.slice ao' L.length cap') := by
        rw [hb4.cell, lay_in (by have := HF.out.hc; omega) (by rw [PK.cells_len]; omega)]
        exact PK.cell_in _ _
      have u1 := hb4.frozen (o + 130)
      have HG : Hid (MemAt _ t (w4.setCell ⟨b, o + 130, none⟩ (.slice (some ⟨g1, 0, none⟩) (L.length + 1) cap1)) b o T c _ _) := hG
      have HTG : Hid (Touch _ _ _ _) := htG
      have HOG : Hid (∀ x, x < (w3.setCell ⟨b, o + 130, none⟩ (.slice ao' L.length cap')).heap.size → _ = _) := hoG
      have HOF : Hid (∀ x, x < W.heap.size → _ = _) := hoF
      clear hG htG hoG hoF hb4 hR hN hgrow hown hat
      go_wp2_with fail
      go_end0
      have hs1 := hT.size
      have hs2 := HS3.out
      refine ⟨rfl, ?_⟩
      rw [HK.out]
      refine ⟨_, _, HG.out, fun x hx => (HOG.out x (by simp; omega)).trans (HOF.out x (by omega)), (hT.trans (HTF.out.mono hT.size (fun _ _ h => h))).trans (HTG.out.mono (by simp; omega) (fun x hx h => ?_))⟩
      rcases h with h | h
      · exact .inl h
      · have := HNW.out x h
        omega
  · have HK : Hid (k.touch p wt = k.mark p g wt) := PK.touch_oldest hg wt h0
    clear kp hv hg
    rcases Bool.eq_false_or_eq_true wt with hwt | hwt
    · subst hwt
      simp only [if_true] at hW
      have HW : Hid (W = (w.setCell ⟨b, o + 2 + p * 8 + 1, none⟩ (.bool true)).setCell ⟨b, o + 2 + p * 8 + 2, none⟩ (.bool true)) := hW
      clear hW
      go_enter Try.func92, Try.ntmps92
      go_wp2_with fail
      refine bodyPost_ret (v := .tuple #[]) (by simp [results, Try.results92, go_sem]) rfl ⟨rfl, ?_⟩
      rw [← HW.out, HK.out]
      exact MemNext.of h hM hT
    · subst hwt
      simp only [Bool.false_eq_true, if_false] at hW
      subst hW
      go_enter Try.func92, Try.ntmps92
      go_wp2_with fail
      refine bodyPost_ret (v := .tuple #[]) (by simp [results, Try.results92, go_sem]) rfl ⟨rfl, ?_⟩
      rw [HK.out]
      exact MemNext.of h hM hT
end
end Go.Proofs.Ytinlkcmdbjcofab
