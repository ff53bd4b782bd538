import Derived.Test.YtkonobbhohfjlaaPStoreC
namespace Go.Proofs.Ytkonobbhohfjlaa
open Go.RowKit
set_option linter.unusedVariables false

def eaStep (hd : List Int) (st : List PH × List Int) (x : PH) : List PH × List Int :=
  if hasI hd x.h || hasI st.2 x.par then (st.1, st.2 ++ [x.h]) else (st.1 ++ [x], st.2)
def eaTo (hs : List PH) (hd : List Int) (q : Nat) : List PH × List Int := (hs.take q).foldl (eaStep hd) ([], [])
/-- What is left when the rights with these handles end, and all that comes of them. -/
def endAllP (hs : List PH) (hd : List Int) : List PH := (eaTo hs hd hs.length).1
theorem eaTo_succ {hs : List PH} (hd : List Int) {q : Nat} {x : PH} (hx : hs[q]? = some x) : eaTo hs hd (q + 1) = eaStep hd (eaTo hs hd q) x := by
  obtain ⟨hq, he⟩ := List.getElem?_eq_some_iff.1 hx
  unfold eaTo
  rw [List.take_succ_eq_append_getElem hq, List.foldl_append, he]
  rfl
theorem eaTo_len (hs : List PH) (hd : List Int) (q : Nat) : (eaTo hs hd q).1.length ≤ q ∧ (eaTo hs hd q).2.length ≤ q := by
  induction q with
  | zero => simp [eaTo]
  | succ q ih =>
    cases hx : hs[q]? with
    | none =>
      have h1 := List.getElem?_eq_none_iff.1 hx
      have : eaTo hs hd (q + 1) = eaTo hs hd q := by unfold eaTo; rw [List.take_of_length_le (by omega), List.take_of_length_le h1]
      rw [this]; omega
    | some x =>
      rw [eaTo_succ hd hx]
      unfold eaStep
      split <;> simp <;> omega

section
variable {own : Nat → Nat × Nat} {t : Nat × Nat} {w : World} {b o : Nat} {T : TypeId} {cs : List Value} {vL : Value} {hs : List PH} {last : Int}

theorem set_same {l : List Value} {i : Nat} {v : Value} (h : l[i]? = some v) : l.set i v = l := by
  obtain ⟨hlt, hx⟩ := List.getElem?_eq_some_iff.1 h
  conv => lhs; rw [← hx]
  exact List.set_getElem_self hlt

theorem endAll_end {wr : World} {vl : Value} {L : List PH} (h : StoreAt own t w b o T cs vL hs last) (hbl : Below w.heap.size w wr) (hrl : Row wr vl 133 5 L.length (L.flatMap PH.cells)) (hnl : ∀ x, vl.ownBlock = some x → w.heap.size ≤ x) :
    StoreNext own t w b o T cs vL (wr.setCell ⟨b, o, none⟩ vl) L last := by
  have hblt := h.blk.lt
  have hf := h.below hbl
  obtain ⟨ho0, _⟩ := List.getElem?_eq_some_iff.1 h.c0
  have hc1 : (cs.set o vl)[o + 1]? = some (.int .i64 last) := by rw [List.getElem?_set_ne (by omega)]; exact h.c1
  have hag : ∀ x, x < w.heap.size → (if vl.ownBlock = some x then t else own x) = own x := fun x hx => if_neg (fun e => by have := hnl x e; omega)
  refine ⟨fun x => if vl.ownBlock = some x then t else own x, vl, ?_, hag, (Touch.of_below hbl _).setCell (.inl (.inl rfl)) _⟩
  rw [set_same hc1]
  exact ⟨hf.blk.set o vl, List.getElem?_set_self ho0, hc1, hrl.other _ (fun e => by have := hnl b e; omega), fun x hx => by simp [hx], by show (if vl.ownBlock = some b then t else own b) ≠ t; rw [hag b hblt]; exact h.ne⟩

set_option maxHeartbeats 8000000 in
set_option maxRecDepth 100000 in
theorem endAll_any (h : StoreAt own t w b o T cs vL hs last) (hm : (hs.length + 1) * 48 ≤ 140737488355328) (vH : Value) (hd : List Int) (hH : Row w vH 3 1 hd.length (hd.map (.int .i64))) (hm2 : hd.length ≤ 4611686018427387904) :
    Calls Try.prog 107 #[.pointer (some ⟨b, o, none⟩), vH] w fun e w' => e = .returned (.tuple #[]) ∧ StoreNext own t w b o T cs vL w' (endAllP hs hd) last := by
  obtain ⟨i0, hi, hz0, hz1, hz2⟩ := info_parts Try.infoHeld
  obtain ⟨i1, gi, gz0, gz1, gz2⟩ := info_parts Try.infoInt
  have k0 := (h.blk.cell o).trans h.c0
  have hblt := h.blk.lt
  obtain ⟨ao, cap, hv, hcase⟩ := h.shape
  obtain ⟨aoH, capH, hvH, _⟩ := hH.shape
  subst hvH
  rw [hv] at k0
  have Hv : Hid (vL = .slice ao hs.length cap) := hv
  clear hv
  rcases hcase with h0 | ⟨g, rfl⟩
  all_goals
    go_enter Try.func107, Try.ntmps107
    go_wp2_with fail
    go_loopg [4, 5, 15] hs.length (fun k vl ve x wr => ∃ q : Nat, x = .int .i64 q ∧ q + k = hs.length ∧ Below w.heap.size w wr ∧ Row wr vl 133 5 (eaTo hs hd q).1.length ((eaTo hs hd q).1.flatMap PH.cells) ∧ Row wr ve 3 1 (eaTo hs hd q).2.length ((eaTo hs hd q).2.map (.int .i64)) ∧
      (∀ x, vl.ownBlock = some x → w.heap.size ≤ x) ∧ (∀ x, ve.ownBlock = some x → w.heap.size ≤ x) ∧ (∀ x, vl.ownBlock = some x → ve.ownBlock ≠ some x))
    case atStart => exact ⟨0, rfl, by omega, Below.refl _ _, Row.nil _ _ _, Row.nil _ _ _, by simp [Value.ownBlock], by simp [Value.ownBlock], by simp [Value.ownBlock]⟩
    case round =>
      obtain ⟨q, rfl, hk, hbl, hrl, hre, hnl, hne, hdj⟩ := hrel
      have HK : Hid (q + gk = hs.length) := hk
      have hq : q ≤ hs.length := by omega
      obtain ⟨hl1, hl2⟩ := eaTo_len hs hd q
      have hsz := hbl.size
      obtain ⟨aol, capl, hvl, _⟩ := hrl.shape
      obtain ⟨aoe, cape, hve, _⟩ := hre.shape
      subst hvl
      subst hve
      clear hk
      by_cases hlt : q < hs.length
      · first
        | (exfalso; omega; done)
        | (obtain ⟨x, hx⟩ : ∃ x, hs[q]? = some x := ⟨hs[q], by simp⟩
           obtain ⟨c0, c1, c2, c3, c4⟩ := (h.below hbl).heldAt Hv.out hx
           have HS : Hid (eaTo hs hd (q + 1) = eaStep hd (eaTo hs hd q) x) := eaTo_succ hd hx
           have hH' := (hH.of fun x hx => hbl.block x (hH.lt x hx)).alloc (.cells #[.int .i64 x.h, .int .i64 x.env, .int .i64 x.fr, .bool x.wr, .int .i64 x.par] 133)
           have hre' := hre.alloc (.cells #[.int .i64 x.h, .int .i64 x.env, .int .i64 x.fr, .bool x.wr, .int .i64 x.par] 133)
           have hrl' := hrl.alloc (.cells #[.int .i64 x.h, .int .i64 x.env, .int .i64 x.fr, .bool x.wr, .int .i64 x.par] 133)
           clear hx
           go_wp2_with fail
           refine (has_any hH' hm2 x.h).mono ?_
           rintro e w3 ⟨rfl, hw3⟩
           subst hw3
           go_wp2_with fail
           refine (has_any hre' (by omega) x.par).mono ?_
           rintro e w4 ⟨rfl, hw4⟩
           subst hw4
           cases hin : (hasI hd x.h || hasI (eaTo hs hd q).2 x.par)
           · have HW : Hid (eaTo hs hd (q + 1) = ((eaTo hs hd q).1 ++ [x], (eaTo hs hd q).2)) := by have := HS.out; unfold eaStep at this; rw [hin] at this; simpa [Hid] using this
             obtain ⟨g1, g2⟩ : hasI hd x.h = false ∧ hasI (eaTo hs hd q).2 x.par = false := by simpa using hin
             rw [g1, g2]
             have hrl2 := hrl'.alloc (.cells x.cells.toArray 133)
             clear hin g1 g2 HS
             go_wp2_with (at_builtin; refine wpList_append_lies _ rfl (.tmp 38) (.tmp 40) 76 rfl 0 133 i0 _ 5 40 Try.underlying76 hi hz0 hz1 hz2 rfl (by decide) (.slice aol (eaTo hs hd q).1.length capl) (eaTo hs hd q).1.length _ rfl hrl2 ⟨wr.heap.size + 1, 0, none⟩ 1 1 x.cells rfl rfl ?c1 ?c2 (by omega) ?b1 ?b2 (by omega) (wr.heap.size + 2) (by simp) ?nx)
             case c1 => exact World.news_of_block (B := wr.heap.size + 1) (cs := x.cells.toArray) (t := 133) (fr := (0, 0)) (Blk.at _ _ _ _ (by simp))
             case c2 => exact oneCell_ph _
             case b1 => unfold maxLen; omega
             case b2 => omega
             case nx =>
               intro g1 cap1 w4 hown hgrow hat hlt1
               go_wp2
               go_roundg (gk - 1)
               case measure => have := HK.out; omega
               case rel =>
                 refine ⟨q + 1, by go_num, by have := HK.out; omega, ((hbl.alloc hsz _).alloc (by simp; omega) _).grown hgrow (by simp; omega) hnl, ?_, ?_, ?_, ?_, ?_⟩
                 · rw [HW.out]
                   simp only [List.length_append, List.flatMap_append, List.length_cons, List.length_nil, List.flatMap_cons, List.flatMap_nil, List.append_nil]
                   exact hown
                 · rw [HW.out]
                   exact (hre'.alloc _).of fun y hy => hgrow.block y (Nat.lt_of_lt_of_le (hre.lt y hy) (by simp; omega)) (fun e => hdj y e.symm hy)
                 · intro y hb
                   simp [Value.ownBlock] at hb
                   subst hb
                   rcases hat with h | h
                   · exact hnl _ h
                   · omega
                 · exact hne
                 · intro y hb
                   simp [Value.ownBlock] at hb
                   subst hb
                   intro hy
                   have hy2 := hre.lt _ hy
                   rcases hat with h | h
                   · exact hdj _ h hy
                   · omega
           · have HW : Hid (eaTo hs hd (q + 1) = ((eaTo hs hd q).1, (eaTo hs hd q).2 ++ [x.h])) := by have := HS.out; unfold eaStep at this; rw [hin] at this; simpa [Hid] using this
             have hre2 := hre'.alloc (.cells [.int .i64 x.h].toArray 3)
             have hN := Blk.at (wr.alloc (.cells #[.int .i64 x.h, .int .i64 x.env, .int .i64 x.fr, .bool x.wr, .int .i64 x.par] 133)) [Value.int .i64 x.h] 3 (wr.heap.size + 1) (by simp)
             have hcs : hasI hd x.h = true ∨ (hasI hd x.h = false ∧ hasI (eaTo hs hd q).2 x.par = true) := by
               cases hq1 : hasI hd x.h
               · rw [hq1] at hin; exact .inr ⟨rfl, by simpa using hin⟩
               · exact .inl rfl
             clear hin HS
             rcases hcs with g1 | ⟨g1, g2⟩
             all_goals
               rw [g1]
               try rw [g2]
               clear g1
               go_wp2_with (at_builtin; refine wpList_append_lies _ rfl (.tmp 32) (.tmp 36) 65 rfl 0 3 i1 _ 1 8 Try.underlying65 gi gz0 gz1 gz2 rfl (by decide) (.slice aoe (eaTo hs hd q).2.length cape) (eaTo hs hd q).2.length _ rfl hre2 ⟨wr.heap.size + 1, 0, none⟩ 1 1 [.int .i64 x.h] rfl rfl ?c1 ?c2 (by omega) ?b1 ?b2 (by omega) (wr.heap.size + 2) (by simp) ?nx)
               case c1 => exact World.news_of_block hN
               case c2 => exact oneCell_int _
               case b1 => unfold maxLen; omega
               case b2 => omega
               case nx =>
                 intro g1 cap1 w4 hown hgrow hat hlt1
                 go_wp2
                 go_roundg (gk - 1)
                 case measure => have := HK.out; omega
                 case rel =>
                   refine ⟨q + 1, by go_num, by have := HK.out; omega, ((hbl.alloc hsz (.cells #[.int .i64 x.h, .int .i64 x.env, .int .i64 x.fr, .bool x.wr, .int .i64 x.par] 133)).alloc (by simp; omega) (.cells [.int .i64 x.h].toArray 3)).grown hgrow (by simp; omega) hne, ?_, ?_, ?_, ?_, ?_⟩
                   · rw [HW.out]
                     exact (hrl'.alloc _).of fun y hy => hgrow.block y (Nat.lt_of_lt_of_le (hrl.lt y hy) (by simp; omega)) (fun e => hdj y hy e.symm)
                   · rw [HW.out]
                     simp only [List.length_append, List.map_append, List.length_cons, List.length_nil, List.map_cons, List.map_nil]
                     exact hown
                   · exact hnl
                   · intro y hb
                     simp [Value.ownBlock] at hb
                     subst hb
                     rcases hat with h | h
                     · exact hne _ h
                     · omega
                   · intro y hy hb
                     simp [Value.ownBlock] at hb
                     subst hb
                     have hy2 := hrl.lt _ hy
                     rcases hat with h | h
                     · exact hdj _ hy h
                     · omega)
      · have hqe : q = hs.length := by omega
        have HW : Hid ((eaTo hs hd q).1 = endAllP hs hd) := by rw [hqe]; rfl
        have hf := h.below hbl
        have j0 := (hf.blk.cell o).trans hf.c0
        rw [Hv.out] at j0
        have j1 := hf.blk.frozen o
        clear hqe
        go_wp2_with fail
        go_end0
        exact ⟨rfl, by rw [← HW.out]; exact endAll_end h hbl hrl hnl⟩
end
end Go.Proofs.Ytkonobbhohfjlaa
