import Derived.Test.YtnolplmpanbmhabM02
namespace Go.Proofs.Ytnolplmpanbmhab
open Go.RowKit
set_option linter.unusedVariables false

def eaStep (hd : List Int) (st : List PH × List Int) (x : PH) : List PH × List Int :=
  if hasI hd x.h || hasI st.2 x.par then (st.1, st.2 ++ [x.h]) else (st.1 ++ [x], st.2)
def eaTo (hs : List PH) (hd : List Int) (q : Nat) : List PH × List Int := (hs.take q).foldl (eaStep hd) ([], [])
/-- What is left when the rights with these handles end, and all that comes of them. -/
def endAllP (hs : List PH) (hd : List Int) : List PH := (eaTo hs hd hs.length).1
theorem eaTo_succ {hs : List PH} (hd : List Int) {q : Nat} {x : PH} (hx : hs[q]? = some x) : eaTo hs hd (q + 1) = eaStep hd (eaTo hs hd q) x := by
  obtain ⟨hq, he⟩ := List.getElem?_eq_some_iff.1 hx
  unfold eaTo
  rw [List.take_succ_eq_append_getElem hq, List.foldl_append, he]
  rfl
theorem eaTo_len (hs : List PH) (hd : List Int) (q : Nat) : (eaTo hs hd q).1.length ≤ q ∧ (eaTo hs hd q).2.length ≤ q := by
  induction q with
  | zero => simp [eaTo]
  | succ q ih =>
    cases hx : hs[q]? with
    | none =>
      have h1 := List.getElem?_eq_none_iff.1 hx
      have : eaTo hs hd (q + 1) = eaTo hs hd q := by unfold eaTo; rw [List.take_of_length_le (by omega), List.take_of_length_le h1]
      rw [this]; omega
    | some x =>
      rw [eaTo_succ hd hx]
      unfold eaStep
      split <;> simp <;> omega

section
variable {own : Nat → Nat × Nat} {t : Nat × Nat} {w : World} {b o : Nat} {T : TypeId} {cs : List Value} {vL : Value} {hs : List PH} {last : Int}

theorem set_same {l : List Value} {i : Nat} {v : Value} (h : l[i]? = some v) : l.set i v = l := by
  obtain ⟨hlt, hx⟩ := List.getElem?_eq_some_iff.1 h
  conv => lhs; rw [← hx]
  exact List.set_getElem_self hlt

theorem endAll_end {wr : World} {vl : Value} {L : List PH} (h : StoreAt own t w b o T cs vL hs last) (hbl : Below w.heap.size w wr) (hrl : Row wr vl 89 5 L.length (L.flatMap PH.cells)) (hnl : ∀ x, vl.ownBlock = some x → w.heap.size ≤ x) :
    StoreNext own t w b o T cs vL (wr.setCell ⟨b, o, none⟩ vl) L last := by
  have hblt := h.blk.lt
  have hf := h.below hbl
  obtain ⟨ho0, _⟩ := List.getElem?_eq_some_iff.1 h.c0
  have hc1 : (cs.set o vl)[o + 1]? = some (.int .i64 last) := by rw [List.getElem?_set_ne (by omega)]; exact h.c1
  have hag : ∀ x, x < w.heap.size → (if vl.ownBlock = some x then t else own x) = own x := fun x hx => if_neg (fun e => by have := hnl x e; omega)
  refine ⟨fun x => if vl.ownBlock = some x then t else own x, vl, ?_, hag, (Touch.of_below hbl _).setCell (.inl (.inl rfl)) _⟩
  rw [set_same hc1]
  exact ⟨hf.blk.set o vl, List.getElem?_set_self ho0, hc1, hrl.other _ (fun e => by have := hnl b e; omega), fun x hx => by simp [hx], by show (if vl.ownBlock = some b then t else own b) ≠ t; rw [hag b hblt]; exact h.ne⟩

set_option maxHeartbeats 8000000 in
set_option maxRecDepth 100000 in
theorem endAll_any (h : StoreAt own t w b o T cs vL hs last) (hm : (hs.length + 1) * 48 ≤ 140737488355328) (vH : Value) (hd : List Int) (hH : Row w vH 3 1 hd.length (hd.map (.int .i64))) (hm2 : hd.length ≤ 4611686018427387904) :
    Calls Try.prog 51 #[.pointer (some ⟨b, o, none⟩), vH] w fun e w' => e = .returned (.tuple #[]) ∧ StoreNext own t w b o T cs vL w' (endAllP hs hd) last := by
  obtain ⟨i0, hi, hz0, hz1, hz2⟩ := info_parts Try.infoHeld
  obtain ⟨i1, gi, gz0, gz1, gz2⟩ := info_parts Try.infoInt
  have k0 := (h.blk.cell o).trans h.c0
  have hblt := h.blk.lt
  obtain ⟨ao, cap, hv, hcase⟩ := h.shape
  obtain ⟨aoH, capH, hvH, _⟩ := hH.shape
  subst hvH
  rw [hv] at k0
  have Hv : Hid (vL = .slice ao hs.length cap) := hv
  clear hv
  rcases hcase with h0 | ⟨g, rfl⟩
  all_goals
    go_enter Try.func51, Try.ntmps51
    go_wp2_with fail
    go_loopg [4, 5, 15] hs.length (fun k vl ve x wr => ∃ q : Nat, x = .int .i64 q ∧ q + k = hs.length ∧ Below w.heap.size w wr ∧ Row wr vl 89 5 (eaTo hs hd q).1.length ((eaTo hs hd q).1.flatMap PH.cells) ∧ Row wr ve 3 1 (eaTo hs hd q).2.length ((eaTo hs hd q).2.map (.int .i64)) ∧
      (∀ x, vl.ownBlock = some x → w.heap.size ≤ x) ∧ (∀ x, ve.ownBlock = some x → w.heap.size ≤ x) ∧ (∀ x, vl.ownBlock = some x → ve.ownBlock ≠ some x))
    case atStart => exact ⟨0, rfl, by omega, Below.refl _ _, Row.nil _ _ _, Row.nil _ _ _, by simp [Value.ownBlock], by simp [Value.ownBlock], by simp [Value.ownBlock]⟩
    case round =>
      obtain ⟨q, rfl, hk, hbl, hrl, hre, hnl, hne, hdj⟩ := hrel
      have HK : Hid (q + gk = hs.length) := hk
      have hq : q ≤ hs.length := by omega
      obtain ⟨hl1, hl2⟩ := eaTo_len hs hd q
      have hsz := hbl.size
      obtain ⟨aol, capl, hvl, _⟩ := hrl.shape
      obtain ⟨aoe, cape, hve, _⟩ := hre.shape
      subst hvl
      subst hve
      clear hk
      by_cases hlt : q < hs.length
      · first
        | (exfalso; omega; done)
        | (obtain ⟨x, hx⟩ : ∃ x, hs[q]? = some x := ⟨hs[q], by simp⟩
           obtain ⟨c0, c1, c2, c3, c4⟩ := (h.below hbl).heldAt Hv.out hx
           have HS : Hid (eaTo hs hd (q + 1) = eaStep hd (eaTo hs hd q) x) := eaTo_succ hd hx
           have hH' := (hH.of fun x hx => hbl.block x (hH.lt x hx)).alloc (.cells #[.int .i64 x.h, .int .i64 x.env, .int .i64 x.fr, .bool x.wr, .int .i64 x.par] 89)
           have hre' := hre.alloc (.cells #[.int .i64 x.h, .int .i64 x.env, .int .i64 x.fr, .bool x.wr, .int .i64 x.par] 89)
           have hrl' := hrl.alloc (.cells #[.int .i64 x.h, .int .i64 x.env, .int .i64 x.fr, .bool x.wr, .int .i64 x.par] 89)
           clear hx
           go_wp2_with fail
           refine (has_any hH' hm2 x.h).mono ?_
           rintro e w3 ⟨rfl, hw3⟩
           subst hw3
           go_wp2_with fail
           refine (has_any hre' (by omega) x.par).mono ?_
           rintro e w4 ⟨rfl, hw4⟩
           subst hw4
           cases hin : (hasI hd x.h || hasI (eaTo hs hd q).2 x.par)
           · have HW : Hid (eaTo hs hd (q + 1) = ((eaTo hs hd q).1 ++ [x], (eaTo hs hd q).2)) := by have := HS.out; unfold eaStep at this; rw [hin] at this; simpa [Hid] using this
             obtain ⟨g1, g2⟩ : hasI hd x.h = false ∧ hasI (eaTo hs hd q).2 x.par = false := by simpa using hin
             rw [g1, g2]
             have hrl2 := hrl'.alloc (.cells x.cells.toArray 89)
             clear hin g1 g2 HS
             go_wp2_with (at_builtin; refine wpList_append_lies _ rfl (.tmp 38) (.tmp 40) 54 rfl 0 89 i0 _ 5 40 Try.underlying54 hi hz0 hz1 hz2 rfl (by decide) (.slice aol (eaTo hs hd q).1.length capl) (eaTo hs hd q).1.length _ rfl hrl2 ⟨wr.heap.size + 1, 0, none⟩ 1 1 x.cells rfl rfl ?c1 ?c2 (by omega) ?b1 ?b2 (by omega) (wr.heap.size + 2) (by simp) ?nx)
             case c1 => exact World.news_of_block (B := wr.heap.size + 1) (cs := x.cells.toArray) (t := 89) (fr := (0, 0)) (Blk.at _ _ _ _ (by simp))
             case c2 => exact oneCell_ph _
             case b1 => unfold maxLen; omega
             case b2 => omega
             case nx =>
               intro g1 cap1 w4 hown hgrow hat hlt1
               go_wp2
               go_roundg (gk - 1)
               case measure => have := HK.out; omega
               case rel =>
                 refine ⟨q + 1, by go_num, by have := HK.out; omega, ((hbl.alloc hsz _).alloc (by simp; omega) _).grown hgrow (by simp; omega) hnl, ?_, ?_, ?_, ?_, ?_⟩
                 · rw [HW.out]
                   simp only [List.length_append, List.flatMap_append, List.length_cons, List.length_nil, List.flatMap_cons, List.flatMap_nil, List.append_nil]
                   exact hown
                 · rw [HW.out]
                   exact (hre'.alloc _).of fun y hy => hgrow.block y (Nat.lt_of_lt_of_le (hre.lt y hy) (by simp; omega)) (fun e => hdj y e.symm hy)
                 · intro y hb
                   simp [Value.ownBlock] at hb
                   subst hb
                   rcases hat with h | h
                   · exact hnl _ h
                   · omega
                 · exact hne
                 · intro y hb
                   simp [Value.ownBlock] at hb
                   subst hb
                   intro hy
                   have hy2 := hre.lt _ hy
                   rcases hat with h | h
                   · exact hdj _ h hy
                   · omega
           · have HW : Hid (eaTo hs hd (q + 1) = ((eaTo hs hd q).1, (eaTo hs hd q).2 ++ [x.h])) := by have := HS.out; unfold eaStep at this; rw [hin] at this; simpa [Hid] using this
             have hre2 := hre'.alloc (.cells [.int .i64 x.h].toArray 3)
             have hN := Blk.at (wr.alloc (.cells #[.int .i64 x.h, .int .i64 x.env, .int .i64 x.fr, .bool x.wr, .int .i64 x.par] 89)) [Value.int .i64 x.h] 3 (wr.heap.size + 1) (by simp)
             have hcs : hasI hd x.h = true ∨ (hasI hd x.h = false ∧ hasI (eaTo hs hd q).2 x.par = true) := by
               cases hq1 : hasI hd x.h
               · rw [hq1] at hin; exact .inr ⟨rfl, by simpa using hin⟩
               · exact .inl rfl
             clear hin HS
             rcases hcs with g1 | ⟨g1, g2⟩
             all_goals
               rw [g1]
               try rw [g2]
               clear g1
               go_wp2_with (at_builtin; refine wpList_append_lies _ rfl (.tmp 32) (.tmp 36) 37 rfl 0 3 i1 _ 1 8 Try.underlying37 gi gz0 gz1 gz2 rfl (by decide) (.slice aoe (eaTo hs hd q).2.length cape) (eaTo hs hd q).2.length _ rfl hre2 ⟨wr.heap.size + 1, 0, none⟩ 1 1 [.int .i64 x.h] rfl rfl ?c1 ?c2 (by omega) ?b1 ?b2 (by omega) (wr.heap.size + 2) (by simp) ?nx)
               case c1 => exact World.news_of_block hN
               case c2 => exact oneCell_int _
               case b1 => unfold maxLen; omega
               case b2 => omega
               case nx =>
                 intro g1 cap1 w4 hown hgrow hat hlt1
                 go_wp2
                 go_roundg (gk - 1)
                 case measure => have := HK.out; omega
                 case rel =>
                   refine ⟨q + 1, by go_num, by have := HK.out; omega, ((hbl.alloc hsz (.cells #[.int .i64 x.h, .int .i64 x.env, .int .i64 x.fr, .bool x.wr, .int .i64 x.par] 89)).alloc (by simp; omega) (.cells [.int .i64 x.h].toArray 3)).grown hgrow (by simp; omega) hne, ?_, ?_, ?_, ?_, ?_⟩
                   · rw [HW.out]
                     exact (hrl'.alloc _).of fun y hy => hgrow.block y (Nat.lt_of_lt_of_le (hrl.lt y hy) (by simp; omega)) (fun e => hdj y hy e.symm)
                   · rw [HW.out]
                     simp only [List.length_append, List.map_append, List.length_cons, List.length_nil, List.map_cons, List.map_nil]
                     exact hown
                   · exact hnl
                   · intro y hb
                     simp [Value.ownBlock] at hb
                     subst hb
                     rcases hat with h | h
                     · exact hne _ h
                     · omega
                   · intro y hy hb
                     simp [Value.ownBlock] at hb
                     subst hb
                     have hy2 := hrl.lt _ hy
                     rcases hat with h | h
                     · exact hdj _ hy h
                     · omega)
      · have hqe : q = hs.length := by omega
        have HW : Hid ((eaTo hs hd q).1 = endAllP hs hd) := by rw [hqe]; rfl
        have hf := h.below hbl
        have j0 := (hf.blk.cell o).trans hf.c0
        rw [Hv.out] at j0
        have j1 := hf.blk.frozen o
        clear hqe
        go_wp2_with fail
        go_end0
        exact ⟨rfl, by rw [← HW.out]; exact endAll_end h hbl hrl hnl⟩
end
end Go.Proofs.Ytnolplmpanbmhab

namespace Go.Proofs.Ytnolplmpanbmhab
open Go.RowKit
set_option linter.unusedVariables false

section
variable {own : Nat → Nat × Nat} {t : Nat × Nat} {w : World} {b o : Nat} {T : TypeId} {cs : List Value} {vL : Value} {hs : List PH} {last : Int}

theorem StoreNext.after {w1 w2 : World} {hs' : List PH} {last' : Int} (hb : Below w.heap.size w w1) (h : StoreNext own t w1 b o T cs vL w2 hs' last') : StoreNext own t w b o T cs vL w2 hs' last' := by
  obtain ⟨own', vL', h1, h2, h3⟩ := h
  exact ⟨own', vL', h1, fun x hx => h2 x (Nat.lt_of_lt_of_le hx hb.size), (Touch.of_below hb _).trans (h3.mono hb.size (fun _ _ h => h))⟩

set_option maxHeartbeats 2000000 in
set_option maxRecDepth 100000 in
theorem pfirst_any (h : StoreAt own t w b o T cs vL hs last) (hm : (hs.length + 1) * 48 ≤ 140737488355328) (hl0 : 0 ≤ last) (hl1 : last ≤ 4611686018427387904) (env fr : Int) :
    Calls Try.prog 26 #[.pointer (some ⟨b, o, none⟩), .int .i64 env, .int .i64 fr] w fun e w' => e = .returned (.int .i64 (last + 1)) ∧ StoreNext own t w b o T cs vL w' (addP hs last env fr true 0) (last + 1) := by
  go_enter Try.func26, Try.ntmps26
  go_wp2_with fail
  refine (add_any h hm hl0 hl1 0 env fr true 0).mono ?_
  rintro e w2 ⟨rfl, hn⟩
  go_wp2_with fail
  go_ret
  exact ⟨rfl, hn⟩

set_option maxHeartbeats 2000000 in
set_option maxRecDepth 100000 in
theorem psderive_any (h : StoreAt own t w b o T cs vL hs last) (hm : (hs.length + 1) * 48 ≤ 140737488355328) (hl0 : 0 ≤ last) (hl1 : last ≤ 4611686018427387904) (ph penv pfr : Int) (pwr : Bool) (env : Int) (wt : Bool) :
    Calls Try.prog 37 #[.pointer (some ⟨b, o, none⟩), .agg #[.int .i64 ph, .int .i64 penv, .int .i64 pfr, .bool pwr], .int .i64 env, .bool wt] w fun e w' => e = .returned (.int .i64 (last + 1)) ∧ StoreNext own t w b o T cs vL w' (addP hs last env pfr wt ph) (last + 1) := by
  have h' := h.below ((Below.refl _ _).alloc (Nat.le_refl _) (.cells #[.int .i64 ph, .int .i64 penv, .int .i64 pfr, .bool pwr] 68))
  go_enter Try.func37, Try.ntmps37
  go_wp2_with fail
  refine (add_any h' hm hl0 hl1 0 env pfr wt ph).mono ?_
  rintro e w2 ⟨rfl, hn⟩
  go_wp2_with fail
  go_ret
  exact ⟨rfl, hn.after ((Below.refl _ _).alloc (Nat.le_refl _) _)⟩

set_option maxHeartbeats 2000000 in
set_option maxRecDepth 100000 in
theorem end_any (h : StoreAt own t w b o T cs vL hs last) (hm : (hs.length + 1) * 48 ≤ 140737488355328) (hd : Int) :
    Calls Try.prog 54 #[.pointer (some ⟨b, o, none⟩), .int .i64 hd] w fun e w' => e = .returned (.tuple #[]) ∧ StoreNext own t w b o T cs vL w' (endAllP hs [hd]) last := by
  have h' := h.below ((Below.refl _ _).alloc (Nat.le_refl _) (.cells #[.int .i64 hd] 3))
  have hrow : Row (w.alloc (.cells #[.int .i64 hd] 3)) (.slice (some ⟨w.heap.size, 0, none⟩) 1 1) 3 1 1 ([hd].map (.int .i64)) := World.ownsRow_lit w _ 1 (by omega) (by simp [maxLen]) rfl
  go_enter Try.func54, Try.ntmps54
  go_wp2_with fail
  refine (endAll_any h' hm (.slice (some ⟨w.heap.size, 0, none⟩) 1 1) [hd] hrow (by simp)).mono ?_
  rintro e w2 ⟨rfl, hn⟩
  go_wp2_with fail
  go_end0
  exact ⟨rfl, hn.after ((Below.refl _ _).alloc (Nat.le_refl _) _)⟩

/-- The handles of those among the first q of which p holds. -/
def hdTo (hs : List PH) (p : PH → Bool) (q : Nat) : List Int := ((hs.take q).filter p).map PH.h
theorem hdTo_succ {hs : List PH} (p : PH → Bool) {q : Nat} {x : PH} (hx : hs[q]? = some x) : hdTo hs p (q + 1) = hdTo hs p q ++ if p x then [x.h] else [] := by
  unfold hdTo
  rw [take_filter_succ hx, List.map_append]
  cases p x <;> rfl
theorem hdTo_len (hs : List PH) (p : PH → Bool) (q : Nat) : (hdTo hs p q).length ≤ q := by
  unfold hdTo
  have := List.length_filter_le p (hs.take q)
  simp at this ⊢
  omega

set_option maxHeartbeats 4000000 in
set_option maxRecDepth 100000 in
theorem endDerived_any (h : StoreAt own t w b o T cs vL hs last) (hm : (hs.length + 1) * 48 ≤ 140737488355328) (key : Int) :
    Calls Try.prog 38 #[.pointer (some ⟨b, o, none⟩), .int .i64 key] w fun e w' => e = .returned (.tuple #[]) ∧ StoreNext own t w b o T cs vL w' (endAllP hs (hdTo hs (fun x => x.par == key) hs.length)) last := by
  obtain ⟨i1, gi, gz0, gz1, gz2⟩ := info_parts Try.infoInt
  have k0 := (h.blk.cell o).trans h.c0
  obtain ⟨ao, cap, hv, hcase⟩ := h.shape
  rw [hv] at k0
  have Hv : Hid (vL = .slice ao hs.length cap) := hv
  clear hv
  rcases hcase with h0 | ⟨g, rfl⟩
  all_goals
    go_enter Try.func38, Try.ntmps38
    go_wp2_with fail
    go_loopg [4, 12] hs.length (fun k v x wr => ∃ q : Nat, x = .int .i64 q ∧ q + k = hs.length ∧ Below w.heap.size w wr ∧ Row wr v 3 1 (hdTo hs (fun x => x.par == key) q).length ((hdTo hs (fun x => x.par == key) q).map (.int .i64)) ∧ ∀ x, v.ownBlock = some x → w.heap.size ≤ x)
    case atStart => exact ⟨0, rfl, by omega, Below.refl _ _, Row.nil _ _ _, by simp [Value.ownBlock]⟩
    case round =>
      obtain ⟨q, rfl, hk, hbl, hrow, hnew⟩ := hrel
      have HK : Hid (q + gk = hs.length) := hk
      have hq : q ≤ hs.length := by omega
      have hle := hdTo_len hs (fun x => x.par == key) q
      have hsz := hbl.size
      obtain ⟨ao5, cap5, hv5, _⟩ := hrow.shape
      subst hv5
      clear hk
      by_cases hlt : q < hs.length
      · first
        | (exfalso; omega; done)
        | (obtain ⟨x, hx⟩ : ∃ x, hs[q]? = some x := ⟨hs[q], by simp⟩
           obtain ⟨c0, c1, c2, c3, c4⟩ := (h.below hbl).heldAt Hv.out hx
           have HS : Hid (hdTo hs (fun x => x.par == key) (q + 1) = hdTo hs (fun x => x.par == key) q ++ if x.par == key then [x.h] else []) := hdTo_succ _ hx
           clear hx
           cases he : (x.par == key)
           · have HW : Hid (hdTo hs (fun x => x.par == key) (q + 1) = hdTo hs (fun x => x.par == key) q) := by have := HS.out; rw [he] at this; simpa [Hid] using this
             clear HS
             go_wp2_with fail
             go_roundg (gk - 1)
             case measure => have := HK.out; omega
             case rel => exact ⟨q + 1, by go_num, by have := HK.out; omega, hbl.alloc hsz _, by rw [HW.out]; exact hrow.alloc _, hnew⟩
           · have HW : Hid (hdTo hs (fun x => x.par == key) (q + 1) = hdTo hs (fun x => x.par == key) q ++ [x.h]) := by have := HS.out; rw [he] at this; simpa [Hid] using this
             have hR' := (hrow.alloc (.cells #[.int .i64 x.h, .int .i64 x.env, .int .i64 x.fr, .bool x.wr, .int .i64 x.par] 89)).alloc (.cells [.int .i64 x.h].toArray 3)
             have hN := Blk.at (wr.alloc (.cells #[.int .i64 x.h, .int .i64 x.env, .int .i64 x.fr, .bool x.wr, .int .i64 x.par] 89)) [Value.int .i64 x.h] 3 (wr.heap.size + 1) (by simp)
             clear HS hrow
             go_wp2_with (at_builtin; refine wpList_append_lies _ rfl (.tmp 20) (.tmp 24) 37 rfl 0 3 i1 _ 1 8 Try.underlying37 gi gz0 gz1 gz2 rfl (by decide) (.slice ao5 (hdTo hs (fun x => x.par == key) q).length cap5) (hdTo hs (fun x => x.par == key) q).length _ rfl hR' ⟨wr.heap.size + 1, 0, none⟩ 1 1 [.int .i64 x.h] rfl rfl ?c1 ?c2 (by omega) ?b1 ?b2 (by omega) (wr.heap.size + 2) (by simp) ?nx)
             case c1 => exact World.news_of_block hN
             case c2 => exact oneCell_int _
             case b1 => unfold maxLen; omega
             case b2 => omega
             case nx =>
               intro g1 cap1 w4 hown hgrow hat hlt1
               go_wp2
               go_roundg (gk - 1)
               case measure => have := HK.out; omega
               case rel =>
                 refine ⟨q + 1, by go_num, by have := HK.out; omega, ((hbl.alloc hsz (.cells #[.int .i64 x.h, .int .i64 x.env, .int .i64 x.fr, .bool x.wr, .int .i64 x.par] 89)).alloc (by simp; omega) (.cells [.int .i64 x.h].toArray 3)).grown hgrow (by simp; omega) hnew, ?_, ?_⟩
                 · rw [HW.out]
                   simp only [List.length_append, List.map_append, List.length_cons, List.length_nil, List.map_cons, List.map_nil]
                   exact hown
                 · intro x hb
                   simp [Value.ownBlock] at hb
                   subst hb
                   rcases hat with h | h
                   · exact hnew _ h
                   · omega)
      · have hqe : q = hs.length := by omega
        have HQ : Hid (hdTo hs (fun x => x.par == key) q = hdTo hs (fun x => x.par == key) hs.length) := by rw [hqe]; exact rfl
        clear hqe
        have h' := h.below hbl
        go_wp2_with fail
        refine (endAll_any h' hm _ _ hrow (by omega)).mono ?_
        rintro e w2 ⟨rfl, hn⟩
        go_wp2_with fail
        go_end0
        rw [← HQ.out]
        exact ⟨rfl, hn.after hbl⟩

set_option maxHeartbeats 4000000 in
set_option maxRecDepth 100000 in
theorem endOf_any (h : StoreAt own t w b o T cs vL hs last) (hm : (hs.length + 1) * 48 ≤ 140737488355328) (key : Int) :
    Calls Try.prog 55 #[.pointer (some ⟨b, o, none⟩), .int .i64 key] w fun e w' => e = .returned (.tuple #[]) ∧ StoreNext own t w b o T cs vL w' (endAllP hs (hdTo hs (fun x => x.env == key) hs.length)) last := by
  obtain ⟨i1, gi, gz0, gz1, gz2⟩ := info_parts Try.infoInt
  have k0 := (h.blk.cell o).trans h.c0
  obtain ⟨ao, cap, hv, hcase⟩ := h.shape
  rw [hv] at k0
  have Hv : Hid (vL = .slice ao hs.length cap) := hv
  clear hv
  rcases hcase with h0 | ⟨g, rfl⟩
  all_goals
    go_enter Try.func55, Try.ntmps55
    go_wp2_with fail
    go_loopg [4, 12] hs.length (fun k v x wr => ∃ q : Nat, x = .int .i64 q ∧ q + k = hs.length ∧ Below w.heap.size w wr ∧ Row wr v 3 1 (hdTo hs (fun x => x.env == key) q).length ((hdTo hs (fun x => x.env == key) q).map (.int .i64)) ∧ ∀ x, v.ownBlock = some x → w.heap.size ≤ x)
    case atStart => exact ⟨0, rfl, by omega, Below.refl _ _, Row.nil _ _ _, by simp [Value.ownBlock]⟩
    case round =>
      obtain ⟨q, rfl, hk, hbl, hrow, hnew⟩ := hrel
      have HK : Hid (q + gk = hs.length) := hk
      have hq : q ≤ hs.length := by omega
      have hle := hdTo_len hs (fun x => x.env == key) q
      have hsz := hbl.size
      obtain ⟨ao5, cap5, hv5, _⟩ := hrow.shape
      subst hv5
      clear hk
      by_cases hlt : q < hs.length
      · first
        | (exfalso; omega; done)
        | (obtain ⟨x, hx⟩ : ∃ x, hs[q]? = some x := ⟨hs[q], by simp⟩
           obtain ⟨c0, c1, c2, c3, c4⟩ := (h.below hbl).heldAt Hv.out hx
           have HS : Hid (hdTo hs (fun x => x.env == key) (q + 1) = hdTo hs (fun x => x.env == key) q ++ if x.env == key then [x.h] else []) := hdTo_succ _ hx
           clear hx
           cases he : (x.env == key)
           · have HW : Hid (hdTo hs (fun x => x.env == key) (q + 1) = hdTo hs (fun x => x.env == key) q) := by have := HS.out; rw [he] at this; simpa [Hid] using this
             clear HS
             go_wp2_with fail
             go_roundg (gk - 1)
             case measure => have := HK.out; omega
             case rel => exact ⟨q + 1, by go_num, by have := HK.out; omega, hbl.alloc hsz _, by rw [HW.out]; exact hrow.alloc _, hnew⟩
           · have HW : Hid (hdTo hs (fun x => x.env == key) (q + 1) = hdTo hs (fun x => x.env == key) q ++ [x.h]) := by have := HS.out; rw [he] at this; simpa [Hid] using this
             have hR' := (hrow.alloc (.cells #[.int .i64 x.h, .int .i64 x.env, .int .i64 x.fr, .bool x.wr, .int .i64 x.par] 89)).alloc (.cells [.int .i64 x.h].toArray 3)
             have hN := Blk.at (wr.alloc (.cells #[.int .i64 x.h, .int .i64 x.env, .int .i64 x.fr, .bool x.wr, .int .i64 x.par] 89)) [Value.int .i64 x.h] 3 (wr.heap.size + 1) (by simp)
             clear HS hrow
             go_wp2_with (at_builtin; refine wpList_append_lies _ rfl (.tmp 21) (.tmp 25) 37 rfl 0 3 i1 _ 1 8 Try.underlying37 gi gz0 gz1 gz2 rfl (by decide) (.slice ao5 (hdTo hs (fun x => x.env == key) q).length cap5) (hdTo hs (fun x => x.env == key) q).length _ rfl hR' ⟨wr.heap.size + 1, 0, none⟩ 1 1 [.int .i64 x.h] rfl rfl ?c1 ?c2 (by omega) ?b1 ?b2 (by omega) (wr.heap.size + 2) (by simp) ?nx)
             case c1 => exact World.news_of_block hN
             case c2 => exact oneCell_int _
             case b1 => unfold maxLen; omega
             case b2 => omega
             case nx =>
               intro g1 cap1 w4 hown hgrow hat hlt1
               go_wp2
               go_roundg (gk - 1)
               case measure => have := HK.out; omega
               case rel =>
                 refine ⟨q + 1, by go_num, by have := HK.out; omega, ((hbl.alloc hsz (.cells #[.int .i64 x.h, .int .i64 x.env, .int .i64 x.fr, .bool x.wr, .int .i64 x.par] 89)).alloc (by simp; omega) (.cells [.int .i64 x.h].toArray 3)).grown hgrow (by simp; omega) hnew, ?_, ?_⟩
                 · rw [HW.out]
                   simp only [List.length_append, List.map_append, List.length_cons, List.length_nil, List.map_cons, List.map_nil]
                   exact hown
                 · intro x hb
                   simp [Value.ownBlock] at hb
                   subst hb
                   rcases hat with h | h
                   · exact hnew _ h
                   · omega)
      · have hqe : q = hs.length := by omega
        have HQ : Hid (hdTo hs (fun x => x.env == key) q = hdTo hs (fun x => x.env == key) hs.length) := by rw [hqe]; exact rfl
        clear hqe
        have h' := h.below hbl
        go_wp2_with fail
        refine (endAll_any h' hm _ _ hrow (by omega)).mono ?_
        rintro e w2 ⟨rfl, hn⟩
        go_wp2_with fail
        go_end0
        rw [← HQ.out]
        exact ⟨rfl, hn.after hbl⟩
end
end Go.Proofs.Ytnolplmpanbmhab

/-
  The program's table: package table.
-/
namespace Go.Proofs.Ytnolplmpanbmhab
open Go.RowKit
set_option linter.unusedVariables false
attribute [local go_sem ↓] Go.wp_at_zero Go.wp_at_succ

/-- The table at ⟨b, o⟩ of a block whose cells are cs. -/
structure TableAt (own : Nat → Nat × Nat) (t : Nat × Nat) (w : World) (b o : Nat) (T : TypeId) (cs : List Value) (vT : Value) (es : List Ent) : Prop where
  blk : Blk w b cs T
  c0 : cs[o]? = some vT
  row : Row w vT 74 5 es.length (es.flatMap Ent.cells)
  tag : Tg own vT t
  ne : own b ≠ t

def remE (env page : Int) (e : Ent) : Ent := if entP env page e then Ent.empty else e

theorem Try.infoEnt : (Try.prog.info? 74).map (fun i => (i.zero, i.size, i.bytes)) = some (some (.agg #[.bool false, .int .i64 0, .int .i64 0, .int .i64 0, .bool false]), 5, 40) := by kernel_rfl
theorem oneCell_ent (x : Ent) : ∀ u ∈ x.cells, u.oneCell' = true := by
  intro u hu; simp [Ent.cells] at hu; rcases hu with rfl | rfl | rfl | rfl | rfl <;> rfl

section
variable {own : Nat → Nat × Nat} {t : Nat × Nat} {w : World} {b o : Nat} {T : TypeId} {cs : List Value} {vT : Value} {es : List Ent}

theorem TableAt.of {own' : Nat → Nat × Nat} {w' : World} (h : TableAt own t w b o T cs vT es) (ho : ∀ x, x < w.heap.size → own' x = own x) (hb : w'.heap[b]? = w.heap[b]?) (hr : ∀ x, x < w.heap.size → own x = t → w'.heap[x]? = w.heap[x]?) : TableAt own' t w' b o T cs vT es :=
  ⟨h.blk.of hb, h.c0, h.row.kept h.tag hr, h.tag.congr h.row ho, by rw [ho b h.blk.lt]; exact h.ne⟩
theorem TableAt.below {w' : World} (h : TableAt own t w b o T cs vT es) (hb : Below w.heap.size w w') : TableAt own t w' b o T cs vT es :=
  h.of (fun _ _ => rfl) (hb.block b h.blk.lt) (fun x hx _ => hb.block x hx)
theorem TableAt.shape (h : TableAt own t w b o T cs vT es) : ∃ ao cap, vT = .slice ao es.length cap ∧ (es.length = 0 ∨ ∃ g, ao = some ⟨g, 0, none⟩) := h.row.shape
theorem Row.ent {g cap : Nat} (h : Row w (.slice (some ⟨g, 0, none⟩) es.length cap) 74 5 es.length (es.flatMap Ent.cells)) {i : Nat} {e : Ent} (hx : es[i]? = some e) :
    w.cell? ⟨g, i * 5, none⟩ = some (.bool e.used) ∧ w.cell? ⟨g, i * 5 + 1, none⟩ = some (.int .i64 e.env) ∧ w.cell? ⟨g, i * 5 + 2, none⟩ = some (.int .i64 e.page) ∧ w.cell? ⟨g, i * 5 + 3, none⟩ = some (.int .i64 e.fr) ∧ w.cell? ⟨g, i * 5 + 4, none⟩ = some (.bool e.wr) := by
  have hi := (List.getElem?_eq_some_iff.1 hx).1
  have hy : ∀ j, j < 5 → w.cell? ⟨g, i * 5 + j, none⟩ = e.cells[j]? := fun j hj => by
    rw [h.cellAt _ (by omega), flat_get Ent.cells 5 (fun _ => rfl) _ _ j _ hx hj]
  exact ⟨hy 0 (by omega), hy 1 (by omega), hy 2 (by omega), hy 3 (by omega), hy 4 (by omega)⟩
theorem TableAt.slotAt {g cap : Nat} (h : TableAt own t w b o T cs vT es) (hv : vT = .slice (some ⟨g, 0, none⟩) es.length cap) {i : Nat} {e : Ent} (hx : es[i]? = some e) :
    w.cell? ⟨g, i * 5, none⟩ = some (.bool e.used) ∧ w.cell? ⟨g, i * 5 + 1, none⟩ = some (.int .i64 e.env) ∧ w.cell? ⟨g, i * 5 + 2, none⟩ = some (.int .i64 e.page) ∧ w.cell? ⟨g, i * 5 + 3, none⟩ = some (.int .i64 e.fr) ∧ w.cell? ⟨g, i * 5 + 4, none⟩ = some (.bool e.wr) := by
  have h1 := h.row
  rw [hv] at h1
  exact h1.ent hx
theorem TableAt.frozenAt {g cap : Nat} (h : TableAt own t w b o T cs vT es) (hv : vT = .slice (some ⟨g, 0, none⟩) es.length cap) (j : Nat) : w.frozen? ⟨g, j, none⟩ = false := by
  have h1 := h.row
  rw [hv] at h1
  exact World.ownsRow.frozenAt h1 j
/-- A slot is written. -/
theorem TableAt.put {g cap : Nat} (h : TableAt own t w b o T cs vT es) (hv : vT = .slice (some ⟨g, 0, none⟩) es.length cap) (i : Nat) (hi : i < es.length) (e : Ent) :
    TableAt own t (((((w.setCell ⟨g, i * 5, none⟩ (.bool e.used)).setCell ⟨g, i * 5 + 1, none⟩ (.int .i64 e.env)).setCell ⟨g, i * 5 + 2, none⟩ (.int .i64 e.page)).setCell ⟨g, i * 5 + 3, none⟩ (.int .i64 e.fr)).setCell ⟨g, i * 5 + 4, none⟩ (.bool e.wr)) b o T cs vT (es.set i e) := by
  have hg : own g = t := h.tag g (by rw [hv]; rfl)
  have hn : b ≠ g := fun e => h.ne (by rw [e]; exact hg)
  refine ⟨h.blk.of ?_, h.c0, ?_, h.tag, h.ne⟩
  · rw [Below.heap_setCell _ _ _ _ hn, Below.heap_setCell _ _ _ _ hn, Below.heap_setCell _ _ _ _ hn, Below.heap_setCell _ _ _ _ hn, Below.heap_setCell _ _ _ _ hn]
  · have h1 := h.row
    rw [hv] at h1 ⊢
    rw [List.length_set, flat_set5 _ _ _ hi]
    exact ((((h1.set _ _).set _ _).set _ _).set _ _).set _ _

set_option maxHeartbeats 1000000 in
set_option maxRecDepth 100000 in
theorem thas_any (h : TableAt own t w b o T cs vT es) (hm : es.length ≤ 8) (slot : Int) :
    Calls Try.prog 32 #[.pointer (some ⟨b, o, none⟩), .int .i64 slot] w fun e w' => e = .returned (.bool (decide (0 ≤ slot) && decide (slot < es.length))) ∧ w' = w := by
  have k0 := (h.blk.cell o).trans h.c0
  obtain ⟨ao, cap, hv, _⟩ := h.shape
  rw [hv] at k0
  clear hv
  by_cases h1 : 0 ≤ slot
  · have HE : Hid ((decide (0 ≤ slot) && decide (slot < es.length)) = decide (slot < es.length)) := by simp [Hid, h1]
    go_enter Try.func32, Try.ntmps32
    go_wp2_with fail
    go_ret
    exact ⟨ret_bool (by rw [HE.out]), rfl⟩
  · have HE : Hid ((decide (0 ≤ slot) && decide (slot < es.length)) = false) := by simp [Hid]; omega
    go_enter Try.func32, Try.ntmps32
    go_wp2_with fail
    go_ret
    exact ⟨ret_bool (by rw [HE.out]), rfl⟩

set_option maxHeartbeats 1000000 in
set_option maxRecDepth 100000 in
theorem isOf_any (u : Bool) (a c d : Int) (wt : Bool) (env page : Int) :
    Calls Try.prog 50 #[.agg #[.bool u, .int .i64 a, .int .i64 c, .int .i64 d, .bool wt], .int .i64 env, .int .i64 page] w fun e w' => e = .returned (.bool (entP env page ⟨u, a, c, d, wt⟩)) ∧ Below w.heap.size w w' := by
  cases u
  · go_enter Try.func50, Try.ntmps50
    go_wp2_with fail
    go_ret
    exact ⟨ret_bool (by simp [entP]), (Below.refl _ _).alloc (Nat.le_refl _) _⟩
  · cases h1 : (a == env)
    · go_enter Try.func50, Try.ntmps50
      go_wp2_with fail
      go_ret
      exact ⟨ret_bool (by simp [entP, h1]), (Below.refl _ _).alloc (Nat.le_refl _) _⟩
    · have HE : Hid (entP env page ⟨true, a, c, d, wt⟩ = (c == page)) := by simp [Hid, entP, h1]
      go_enter Try.func50, Try.ntmps50
      go_wp2_with fail
      go_ret
      exact ⟨ret_bool (by rw [HE.out]), (Below.refl _ _).alloc (Nat.le_refl _) _⟩
end
end Go.Proofs.Ytnolplmpanbmhab

namespace Go.Proofs.Ytnolplmpanbmhab
open Go.RowKit
set_option linter.unusedVariables false
attribute [local go_sem ↓] Go.wp_at_zero Go.wp_at_succ

/-- The entry of env and page. -/
def findT (es : List Ent) (env page : Int) : Option Ent := es.find? (entP env page)
def entV (e : Ent) : Value := .agg #[.bool e.used, .int .i64 e.env, .int .i64 e.page, .int .i64 e.fr, .bool e.wr]
def findTV (x : Option Ent) : Value := match x with
  | some e => .tuple #[.agg #[.bool e.used, .int .i64 e.env, .int .i64 e.page, .int .i64 e.fr, .bool e.wr], .bool true]
  | none => .tuple #[.agg #[.bool false, .int .i64 0, .int .i64 0, .int .i64 0, .bool false], .bool false]
theorem findT_none {es : List Ent} {env page : Int} (hno : ∀ i y, i < es.length → es[i]? = some y → entP env page y = false) : findT es env page = none := by
  unfold findT
  rw [List.find?_eq_none]
  intro x hx
  obtain ⟨i, hi, rfl⟩ := List.getElem_of_mem hx
  rw [hno i es[i] hi (by simp)]; simp
theorem findT_hit {es : List Ent} {env page : Int} {q : Nat} {x : Ent} (hx : es[q]? = some x) (hno : ∀ i y, i < q → es[i]? = some y → entP env page y = false) (hy : entP env page x = true) : findT es env page = some x := by
  obtain ⟨hq, he⟩ := List.getElem?_eq_some_iff.1 hx
  unfold findT
  rw [List.find?_eq_some_iff_append]
  refine ⟨hy, es.take q, es.drop (q + 1), ?_, ?_⟩
  · conv => lhs; rw [← List.take_append_drop q es, List.drop_eq_getElem_cons hq, he]
  · intro y hy'
    obtain ⟨i, hi, rfl⟩ := List.getElem_of_mem hy'
    rw [List.length_take] at hi
    rw [List.getElem_take]
    rw [hno i _ (by omega) (List.getElem?_eq_getElem (by omega))]; rfl

section
variable {own : Nat → Nat × Nat} {t : Nat × Nat} {w : World} {b o : Nat} {T : TypeId} {cs : List Value} {vT : Value} {es : List Ent}

set_option maxHeartbeats 2000000 in
set_option maxRecDepth 100000 in
theorem tfind_any (h : TableAt own t w b o T cs vT es) (hm : es.length ≤ 8) (env page : Int) :
    Calls Try.prog 35 #[.pointer (some ⟨b, o, none⟩), .int .i64 env, .int .i64 page] w fun e w' => e = .returned (findTV (findT es env page)) ∧ Below w.heap.size w w' := by
  have k0 := (h.blk.cell o).trans h.c0
  obtain ⟨ao, cap, hv, hcase⟩ := h.shape
  rw [hv] at k0
  have hbl0 := h.blk.lt
  have Hv : Hid (vT = .slice ao es.length cap) := hv
  clear hv
  rcases hcase with h0 | ⟨g, rfl⟩
  all_goals
    go_enter Try.func35, Try.ntmps35
    go_wp2_with fail
    go_loopg [15] es.length (fun k x wr => ∃ q : Nat, x = .int .i64 q ∧ q + k = es.length ∧ (∀ i y, i < q → es[i]? = some y → entP env page y = false) ∧ Below w.heap.size w wr ∧ Blk wr w.heap.size [.bool false, .int .i64 0, .int .i64 0, .int .i64 0, .bool false] 74)
    case atStart => exact ⟨0, rfl, by omega, fun i y hi _ => by omega, (Below.refl _ _).alloc (Nat.le_refl _) _, Blk.new _ _ _⟩
    case round =>
      obtain ⟨q, rfl, hk, hno, hbl, hrb⟩ := hrel
      have hrl := hrb.lt
      have r0 := hrb.cell 0
      have r1 := hrb.cell 1
      have r2 := hrb.cell 2
      have r3 := hrb.cell 3
      have r4 := hrb.cell 4
      simp at r0 r1 r2 r3 r4
      have s0 := hrb.frozen 0
      have s1 := hrb.frozen 1
      have s2 := hrb.frozen 2
      have s3 := hrb.frozen 3
      have s4 := hrb.frozen 4
      have HK : Hid (q + gk = es.length) := hk
      have HN : Hid (∀ i y, i < q → es[i]? = some y → entP env page y = false) := hno
      have hq : q ≤ es.length := by omega
      clear hk hno
      by_cases hlt : q < es.length
      · first
        | (exfalso; omega; done)
        | (obtain ⟨x, hx⟩ : ∃ x, es[q]? = some x := ⟨es[q], by simp⟩
           obtain ⟨c0, c1, c2, c3, c4⟩ := (h.below hbl).slotAt Hv.out hx
           have HX : Hid (es[q]? = some x) := hx
           clear hx
           have hnext : entP env page x = false → ∀ i y, i < q + 1 → es[i]? = some y → entP env page y = false := fun hf i y hi hy => by
             rcases Nat.lt_or_ge i q with h1 | h1
             · exact HN.out i y h1 hy
             · obtain rfl : i = q := by omega
               rw [HX.out] at hy
               simp at hy
               subst hy
               exact hf
           have HNX : Hid (entP env page x = false → ∀ i y, i < q + 1 → es[i]? = some y → entP env page y = false) := hnext
           clear hnext
           go_wp2_with fail
           refine (isOf_any x.used x.env x.page x.fr x.wr env page).mono ?_
           rintro e w2 ⟨rfl, hb2⟩
           have hbw : Below wr.heap.size wr w2 := ((Below.refl _ _).alloc (Nat.le_refl _) _).trans (hb2.mono (by simp))
           have hbl2 : Below w.heap.size w w2 := hbl.trans (hbw.mono hbl.size)
           have hrb2 := hrb.below hbw hrl
           have hrl2 := hrb2.lt
           have t0 := hrb2.cell 0
           have t1 := hrb2.cell 1
           have t2 := hrb2.cell 2
           have t3 := hrb2.cell 3
           have t4 := hrb2.cell 4
           simp at t0 t1 t2 t3 t4
           have u0 := hrb2.frozen 0
           have u1 := hrb2.frozen 1
           have u2 := hrb2.frozen 2
           have u3 := hrb2.frozen 3
           have u4 := hrb2.frozen 4
           have hbxx := (Blk.new wr [.bool x.used, .int .i64 x.env, .int .i64 x.page, .int .i64 x.fr, .bool x.wr] 74).below hb2 (by simp)
           have hxl := hbxx.lt
           have v0 := hbxx.cell 0
           have v1 := hbxx.cell 1
           have v2 := hbxx.cell 2
           have v3 := hbxx.cell 3
           have v4 := hbxx.cell 4
           simp at v0 v1 v2 v3 v4
           cases he : entP env page x
           · go_wp2_with fail
             go_roundg (gk - 1)
             case measure => have := HK.out; omega
             case rel => exact ⟨q + 1, by go_num, by have := HK.out; omega, HNX.out he, hbl2, hrb2⟩
           · have HF : Hid (findT es env page = some x) := findT_hit HX.out HN.out he
             clear HNX HN
             go_wp2_with fail
             exact bodyPost_ret (v := .tuple #[.agg #[.bool x.used, .int .i64 x.env, .int .i64 x.page, .int .i64 x.fr, .bool x.wr], .bool true]) (by simp [results, Try.results35, go_sem, t0, t1, t2, t3, t4]) rfl ⟨by rw [HF.out]; rfl, ((((hbl2.setCell (by simp) _).setCell (by simp) _).setCell (by simp) _).setCell (by simp) _).setCell (by simp) _⟩)
      · have HF : Hid (findT es env page = none) := findT_none (fun i y hi => HN.out i y (by omega))
        go_wp2_with fail
        exact bodyPost_ret (v := .tuple #[.agg #[.bool false, .int .i64 0, .int .i64 0, .int .i64 0, .bool false], .bool false]) (by simp [results, Try.results35, go_sem, r0, r1, r2, r3, r4]) rfl ⟨by rw [HF.out]; rfl, ((((hbl.setCell (by simp) _).setCell (by simp) _).setCell (by simp) _).setCell (by simp) _).setCell (by simp) _⟩

set_option maxHeartbeats 4000000 in
set_option maxRecDepth 100000 in
theorem tlist_any (h : TableAt own t w b o T cs vT es) (hm : es.length ≤ 8) :
    Calls Try.prog 52 #[.pointer (some ⟨b, o, none⟩)] w fun e w' => ∃ v, e = .returned v ∧ Below w.heap.size w w' ∧ (∀ x, v.ownBlock = some x → w.heap.size ≤ x) ∧ Row w' v 74 5 es.length (es.flatMap Ent.cells) := by
  obtain ⟨i0, hi, hz0, hz1, hz2⟩ := info_parts Try.infoEnt
  have k0 := (h.blk.cell o).trans h.c0
  obtain ⟨ao, cap, hv, hcase⟩ := h.shape
  rw [hv] at k0
  have Hv : Hid (vT = .slice ao es.length cap) := hv
  clear hv
  rcases hcase with h0 | ⟨g, rfl⟩
  all_goals
    go_enter Try.func52, Try.ntmps52
    go_wp2_with fail
    go_loopg [3, 11] es.length (fun k v x wr => ∃ q : Nat, x = .int .i64 q ∧ q + k = es.length ∧ Below w.heap.size w wr ∧ Row wr v 74 5 (es.take q).length ((es.take q).flatMap Ent.cells) ∧ ∀ x, v.ownBlock = some x → w.heap.size ≤ x)
    case atStart => exact ⟨0, rfl, by omega, Below.refl _ _, Row.nil _ _ _, by simp [Value.ownBlock]⟩
    case round =>
      obtain ⟨q, rfl, hk, hbl, hrow, hnew⟩ := hrel
      have HK : Hid (q + gk = es.length) := hk
      have hq : q ≤ es.length := by omega
      have hle : (es.take q).length = q := by simp; omega
      have hsz := hbl.size
      obtain ⟨ao5, cap5, hv5, _⟩ := hrow.shape
      subst hv5
      rw [hle] at hrow
      rw [hle] at hnew
      rw [hle]
      clear hk hle
      by_cases hlt : q < es.length
      · first
        | (exfalso; omega; done)
        | (obtain ⟨x, hx⟩ : ∃ x, es[q]? = some x := ⟨es[q], by simp⟩
           obtain ⟨c0, c1, c2, c3, c4⟩ := (h.below hbl).slotAt Hv.out hx
           have HW : Hid (es.take (q + 1) = es.take q ++ [x]) := by
             obtain ⟨hq', he⟩ := List.getElem?_eq_some_iff.1 hx
             unfold Hid
             rw [List.take_succ_eq_append_getElem hq', he]
           have hR' := (hrow.alloc (.cells x.cells.toArray 74)).alloc (.cells x.cells.toArray 74)
           clear hx hrow
           go_wp2_with (at_builtin; refine wpList_append_lies _ rfl (.tmp 15) (.tmp 17) 57 rfl 0 74 i0 _ 5 40 Try.underlying57 hi hz0 hz1 hz2 rfl (by decide) (.slice ao5 q cap5) q _ rfl hR' ⟨wr.heap.size + 1, 0, none⟩ 1 1 x.cells rfl rfl ?c1 ?c2 (by omega) ?b1 ?b2 (by omega) (wr.heap.size + 2) (by simp) ?nx)
           case c1 => exact World.news_of_block (B := wr.heap.size + 1) (cs := x.cells.toArray) (t := 74) (fr := (0, 0)) (Blk.at _ _ _ _ (by simp))
           case c2 => exact oneCell_ent _
           case b1 => unfold maxLen; omega
           case b2 => omega
           case nx =>
             intro g1 cap1 w4 hown hgrow hat hlt1
             go_wp2
             go_roundg (gk - 1)
             case measure => have := HK.out; omega
             case rel =>
               refine ⟨q + 1, by go_num, by have := HK.out; omega, ((hbl.alloc hsz _).alloc (by simp; omega) _).grown hgrow (by simp; omega) hnew, ?_, ?_⟩
               · rw [HW.out]
                 simp only [List.length_append, List.flatMap_append, List.length_cons, List.length_nil, List.flatMap_cons, List.flatMap_nil, List.append_nil]
                 have hl2 : (es.take q).length = q := by simp; omega
                 rw [hl2]
                 exact hown
               · intro x hb
                 simp [Value.ownBlock] at hb
                 subst hb
                 rcases hat with h | h
                 · exact hnew _ h
                 · omega)
      · obtain rfl : q = es.length := by omega
        rw [List.take_length] at hrow
        go_wp2_with fail
        go_ret
        exact ⟨_, rfl, hbl, hnew, hrow⟩

set_option maxHeartbeats 4000000 in
set_option maxRecDepth 100000 in
theorem tremove_any (h : TableAt own t w b o T cs vT es) (hm : es.length ≤ 8) (env page : Int) :
    Calls Try.prog 42 #[.pointer (some ⟨b, o, none⟩), .int .i64 env, .int .i64 page] w fun e w' => e = .returned (.tuple #[]) ∧ TableAt own t w' b o T cs vT (es.map (remE env page)) ∧ Touch w.heap.size (fun x => vT.ownBlock = some x) w w' := by
  have k0 := (h.blk.cell o).trans h.c0
  obtain ⟨ao, cap, hv, hcase⟩ := h.shape
  rw [hv] at k0
  have Hv : Hid (vT = .slice ao es.length cap) := hv
  clear hv
  rcases hcase with h0 | ⟨g, rfl⟩
  all_goals
    go_enter Try.func42, Try.ntmps42
    go_wp2_with fail
    go_loopg [13] es.length (fun k x wr => ∃ q : Nat, x = .int .i64 q ∧ q + k = es.length ∧ TableAt own t wr b o T cs vT (mapTo (remE env page) es q) ∧ Touch w.heap.size (fun x => vT.ownBlock = some x) w wr)
    case atStart => exact ⟨0, rfl, by omega, by rw [mapTo_zero]; exact h, Touch.refl _ _ _⟩
    case round =>
      obtain ⟨q, rfl, hk, h', ht⟩ := hrel
      have HK : Hid (q + gk = es.length) := hk
      have hq : q ≤ es.length := by omega
      have hsl := mapTo_len (remE env page) es q
      have hsz := ht.size
      clear hk
      by_cases hlt : q < es.length
      · first
        | (exfalso; omega; done)
        | (obtain ⟨x, hx⟩ : ∃ x, es[q]? = some x := ⟨es[q], by simp⟩
           have hx' : (mapTo (remE env page) es q)[q]? = some x := (mapTo_at _ _ _).trans hx
           obtain ⟨c0, c1, c2, c3, c4⟩ := h'.slotAt (by rw [hsl]; exact Hv.out) hx'
           have HS : Hid (mapTo (remE env page) es (q + 1) = (mapTo (remE env page) es q).set q (remE env page x)) := mapTo_succ _ _ _ _ hx
           have HQ : Hid (remE env page x = x → mapTo (remE env page) es (q + 1) = mapTo (remE env page) es q) := mapTo_same _ _ _ _ hx
           have HL : Hid ((mapTo (remE env page) es q).length = es.length) := hsl
           have hq1 : (q : Int) < (es.length : Int) := by omega
           have hgl : g < wr.heap.size := h'.row.lt g (by rw [Hv.out]; rfl)
           have hblt := h'.blk.lt
           clear hx hx' hsl
           go_wp2_with fail
           refine (isOf_any x.used x.env x.page x.fr x.wr env page).mono ?_
           rintro e w2 ⟨rfl, hb2⟩
           have hbw : Below wr.heap.size wr w2 := ((Below.refl _ _).alloc (Nat.le_refl _) _).trans (hb2.mono (by simp))
           have h2 := h'.below hbw
           have ht2 : Touch w.heap.size (fun x => vT.ownBlock = some x) w w2 := ht.then_below hbw hsz
           have j0 := (h2.blk.cell o).trans h2.c0
           rw [Hv.out] at j0
           have z := h2.frozenAt (by rw [HL.out]; exact Hv.out)
           have z0 := z (q * 5)
           have z1 := z (q * 5 + 1)
           have z2 := z (q * 5 + 2)
           have z3 := z (q * 5 + 3)
           have z4 := z (q * 5 + 4)
           have d0 := (hbw.cell (p := ⟨g, q * 5, none⟩) hgl).trans c0
           have d1 := (hbw.cell (p := ⟨g, q * 5 + 1, none⟩) hgl).trans c1
           have d2 := (hbw.cell (p := ⟨g, q * 5 + 2, none⟩) hgl).trans c2
           have d3 := (hbw.cell (p := ⟨g, q * 5 + 3, none⟩) hgl).trans c3
           have d4 := (hbw.cell (p := ⟨g, q * 5 + 4, none⟩) hgl).trans c4
           have hst := h2.put (g := g) (cap := cap) (by rw [HL.out]; exact Hv.out) q (by rw [HL.out]; exact hlt) Ent.empty
           have hin : vT.ownBlock = some g := by rw [Hv.out]; rfl
           clear z c0 c1 c2 c3 c4
           cases he : entP env page x
           · have HW : Hid (mapTo (remE env page) es (q + 1) = mapTo (remE env page) es q) := HQ.out (by simp [remE, he])
             clear HS HQ
             go_wp2_with fail
             go_roundg (gk - 1)
             case measure => have := HK.out; omega
             case rel => exact ⟨q + 1, by go_num, by have := HK.out; omega, by rw [HW.out]; exact h2, ht2⟩
           · have HW : Hid (mapTo (remE env page) es (q + 1) = (mapTo (remE env page) es q).set q Ent.empty) := by
               have := HS.out
               rw [show remE env page x = Ent.empty by simp [remE, he]] at this
               exact this
             clear HS HQ
             go_wp2_with fail
             go_roundg (gk - 1)
             case measure => have := HK.out; omega
             case rel => exact ⟨q + 1, by go_num, by have := HK.out; omega, by rw [HW.out]; exact hst, ((((ht2.setCell (.inl hin) _).setCell (.inl hin) _).setCell (.inl hin) _).setCell (.inl hin) _).setCell (.inl hin) _⟩)
      · obtain rfl : q = es.length := by omega
        rw [mapTo_all] at h'
        clear hsl
        go_wp2_with fail
        go_end0
        exact ⟨rfl, h', ht⟩
end
end Go.Proofs.Ytnolplmpanbmhab

namespace Go.Proofs.Ytnolplmpanbmhab
open Go.RowKit
set_option linter.unusedVariables false
attribute [local go_sem ↓] Go.wp_at_zero Go.wp_at_succ

def backP (env fr : Int) (wt : Bool) (x : PH) : Bool := x.env == env && (x.fr == fr && (x.wr || !wt))
/-- Is a right of env to a frame alive, by which one may write if that is asked? -/
def backsP (hs : List PH) (env fr : Int) (wt : Bool) : Bool := hs.any (backP env fr wt)

section
variable {own : Nat → Nat × Nat} {t : Nat × Nat} {w : World} {b o : Nat} {T : TypeId} {cs : List Value} {vL : Value} {hs : List PH} {last : Int}

set_option maxHeartbeats 4000000 in
set_option maxRecDepth 100000 in
theorem backs_any (h : StoreAt own t w b o T cs vL hs last) (hm : hs.length ≤ 4611686018427387904) (env fr : Int) (wt : Bool) :
    Calls Try.prog 53 #[.pointer (some ⟨b, o, none⟩), .int .i64 env, .int .i64 fr, .bool wt] w fun e w' => e = .returned (.bool (backsP hs env fr wt)) ∧ Below w.heap.size w w' := by
  have k0 := (h.blk.cell o).trans h.c0
  obtain ⟨ao, cap, hv, hcase⟩ := h.shape
  rw [hv] at k0
  have Hv : Hid (vL = .slice ao hs.length cap) := hv
  clear hv
  rcases hcase with h0 | ⟨g, rfl⟩
  all_goals
    go_enter Try.func53, Try.ntmps53
    go_wp2_with fail
    go_loopg [16] hs.length (fun k x wr => ∃ q : Nat, x = .int .i64 q ∧ q + k = hs.length ∧ (∀ i y, i < q → hs[i]? = some y → backP env fr wt y = false) ∧ Below w.heap.size w wr)
    case atStart => exact ⟨0, rfl, by omega, fun i y hi _ => by omega, Below.refl _ _⟩
    case round =>
      obtain ⟨q, rfl, hk, hno, hbl⟩ := hrel
      have HK : Hid (q + gk = hs.length) := hk
      have HN : Hid (∀ i y, i < q → hs[i]? = some y → backP env fr wt y = false) := hno
      have hq : q ≤ hs.length := by omega
      have hsz := hbl.size
      clear hk hno
      by_cases hlt : q < hs.length
      · first
        | (exfalso; omega; done)
        | (obtain ⟨x, hx⟩ : ∃ x, hs[q]? = some x := ⟨hs[q], by simp⟩
           obtain ⟨c0, c1, c2, c3, c4⟩ := (h.below hbl).heldAt Hv.out hx
           have HX : Hid (hs[q]? = some x) := hx
           have HNX : Hid (backP env fr wt x = false → ∀ i y, i < q + 1 → hs[i]? = some y → backP env fr wt y = false) := fun hf i y hi hy => by
             rcases Nat.lt_or_ge i q with h1 | h1
             · exact HN.out i y h1 hy
             · obtain rfl : i = q := by omega
               rw [HX.out] at hy
               simp at hy
               subst hy
               exact hf
           have HY : Hid (backP env fr wt x = true → backsP hs env fr wt = true) := fun hp => by
             unfold backsP
             rw [List.any_eq_true]
             exact ⟨x, List.mem_of_getElem? HX.out, hp⟩
           clear hx
           cases h1 : (x.env == env)
           · have HF : Hid (backP env fr wt x = false) := by simp [Hid, backP, h1]
             go_wp2_with fail
             go_roundg (gk - 1)
             case measure => have := HK.out; omega
             case rel => exact ⟨q + 1, by go_num, by have := HK.out; omega, HNX.out HF.out, hbl.alloc hsz _⟩
           · cases h2 : (x.fr == fr)
             · have HF : Hid (backP env fr wt x = false) := by simp [Hid, backP, h2]
               go_wp2_with fail
               go_roundg (gk - 1)
               case measure => have := HK.out; omega
               case rel => exact ⟨q + 1, by go_num, by have := HK.out; omega, HNX.out HF.out, hbl.alloc hsz _⟩
             · rcases Bool.eq_false_or_eq_true x.wr with h3 | h3
               · have HF : Hid (backP env fr wt x = true) := by simp [Hid, backP, h1, h2, h3]
                 rw [h3] at c3
                 go_wp2_with fail
                 go_ret
                 exact ⟨ret_bool (HY.out HF.out).symm, hbl.alloc hsz _⟩
               · rw [h3] at c3
                 rcases Bool.eq_false_or_eq_true wt with rfl | rfl
                 · have HF : Hid (backP env fr true x = false) := by simp [Hid, backP, h3]
                   go_wp2_with fail
                   go_roundg (gk - 1)
                   case measure => have := HK.out; omega
                   case rel => exact ⟨q + 1, by go_num, by have := HK.out; omega, HNX.out HF.out, hbl.alloc hsz _⟩
                 · have HF : Hid (backP env fr false x = true) := by simp [Hid, backP, h1, h2]
                   go_wp2_with fail
                   go_ret
                   exact ⟨ret_bool (HY.out HF.out).symm, hbl.alloc hsz _⟩)
      · go_wp2_with fail
        go_ret
        exact ⟨ret_bool (by
          unfold backsP
          rw [eq_comm, List.any_eq_false]
          intro x hx
          obtain ⟨i, hi, rfl⟩ := List.getElem_of_mem hx
          rw [HN.out i hs[i] (by omega) (by simp)]; simp), hbl⟩
end

section
variable {own : Nat → Nat × Nat} {t : Nat × Nat} {w : World} {b o : Nat} {T : TypeId} {cs : List Value} {vT : Value} {es : List Ent}

/-- What Put leaves. -/
def putP (es : List Ent) (slot : Nat) (x : Ent) : List Ent := (es.map (remE x.env x.page)).set slot x

set_option maxHeartbeats 4000000 in
set_option maxRecDepth 100000 in
theorem tput_any (h : TableAt own t w b o T cs vT es) (hm : es.length ≤ 8) (slot : Nat) (hs : slot < es.length) (u : Bool) (a c d : Int) (wt : Bool) :
    Calls Try.prog 33 #[.pointer (some ⟨b, o, none⟩), .int .i64 slot, .agg #[.bool u, .int .i64 a, .int .i64 c, .int .i64 d, .bool wt]] w fun e w' => e = .returned (.tuple #[]) ∧ TableAt own t w' b o T cs vT (putP es slot ⟨u, a, c, d, wt⟩) ∧ Touch w.heap.size (fun x => vT.ownBlock = some x) w w' := by
  have hd : (decide (0 ≤ (slot : Int)) && decide ((slot : Int) < es.length)) = true := by simp; omega
  have hba : Below w.heap.size w (w.alloc (.cells #[.bool u, .int .i64 a, .int .i64 c, .int .i64 d, .bool wt] 74)) := (Below.refl _ _).alloc (Nat.le_refl _) _
  have h1 := h.below hba
  have hbx := Blk.new w [.bool u, .int .i64 a, .int .i64 c, .int .i64 d, .bool wt] 74
  have hvlt := h.row.lt
  go_enter Try.func33, Try.ntmps33
  go_wp2_with fail
  refine (thas_any h1 hm slot).mono ?_
  rintro e w2 ⟨rfl, hw2⟩
  subst hw2
  rw [hd]
  have hl2 : w.heap.size < (w.alloc (.cells #[.bool u, .int .i64 a, .int .i64 c, .int .i64 d, .bool wt] 74)).heap.size := by simp
  go_wp2_with fail
  refine (tremove_any h1 hm a c).mono ?_
  rintro e w3 ⟨rfl, h3, ht3⟩
  obtain ⟨ao, cap, hv, hcase⟩ := h3.shape
  obtain ⟨g, rfl⟩ : ∃ g, ao = some ⟨g, 0, none⟩ := by
    rcases hcase with h0 | h0
    · simp at h0; rw [h0] at hs; simp at hs
    · exact h0
  have hb3 := hbx.of (ht3.block _ hl2 (fun e => by have := hvlt _ e; omega))
  have v0 := hb3.cell 0
  have v1 := hb3.cell 1
  have v2 := hb3.cell 2
  have v3 := hb3.cell 3
  have v4 := hb3.cell 4
  simp at v0 v1 v2 v3 v4
  have k0 := (h3.blk.cell o).trans h3.c0
  have hst := h3.put hv slot (by simpa using hs) ⟨u, a, c, d, wt⟩
  have hx : ∃ x, (es.map (remE a c))[slot]? = some x := ⟨_, List.getElem?_eq_getElem (by simpa using hs)⟩
  obtain ⟨x, hx⟩ := hx
  obtain ⟨c0, c1, c2, c3, c4⟩ := h3.slotAt hv hx
  have z0 := h3.frozenAt hv (slot * 5)
  have z1 := h3.frozenAt hv (slot * 5 + 1)
  have z2 := h3.frozenAt hv (slot * 5 + 2)
  have z3 := h3.frozenAt hv (slot * 5 + 3)
  have z4 := h3.frozenAt hv (slot * 5 + 4)
  have hin : vT.ownBlock = some g := by rw [hv]; rfl
  rw [hv, List.length_map] at k0
  have hq1 : (slot : Int) < (es.length : Int) := by omega
  have HT : Hid (Touch w.heap.size (fun x => vT.ownBlock = some x) w w3) := (Touch.of_below hba _).trans (ht3.mono (Nat.le_of_lt hl2) (fun _ _ h => h))
  have hgt : own g = t := h3.tag g hin
  have n1 : b ≠ g := fun e => h3.ne (by rw [e]; exact hgt)
  have n2 : g ≠ b := fun e => n1 e.symm
  have hglt := hvlt g hin
  have n3 : w.heap.size ≠ g := by omega
  have n4 : g ≠ w.heap.size := by omega
  have hgl3 := h3.row.lt g hin
  clear hv hx hcase
  go_wp2_with fail
  go_region_held3 (fun w' => w'.cell? ⟨b, o, none⟩ = some (.slice (some ⟨g, 0, none⟩) es.length cap) ∧ w'.cell? ⟨w.heap.size, 0, none⟩ = some (.bool u) ∧ w'.cell? ⟨w.heap.size, 1, none⟩ = some (.int .i64 a) ∧ w'.cell? ⟨w.heap.size, 2, none⟩ = some (.int .i64 c) ∧ w'.cell? ⟨w.heap.size, 3, none⟩ = some (.int .i64 d) ∧ w'.cell? ⟨w.heap.size, 4, none⟩ = some (.bool wt)) (go_keep) (fail)
  go_wp2_with fail
  go_end0
  exact ⟨rfl, hst.below (Below.refl _ _).drew, (((((HT.out.setCell (.inl hin) _).setCell (.inl hin) _).setCell (.inl hin) _).setCell (.inl hin) _).setCell (.inl hin) _).drew⟩
end
end Go.Proofs.Ytnolplmpanbmhab
