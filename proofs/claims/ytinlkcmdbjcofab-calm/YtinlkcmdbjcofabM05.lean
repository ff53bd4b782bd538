import Derived.Test.YtinlkcmdbjcofabM04
namespace Go.Proofs.Ytinlkcmdbjcofab
open Go.RowKit
set_option linter.unusedVariables false
attribute [local go_sem ↓] Go.wp_at_zero Go.wp_at_succ

theorem Try.infoHeld : (Try.prog.info? 115).map (fun i => (i.zero, i.size, i.bytes)) = some (some (.agg #[.int .i64 0, .int .i64 0, .int .i64 0, .bool false, .int .i64 0]), 5, 40) := by kernel_rfl
theorem Try.infoInt : (Try.prog.info? 3).map (fun i => (i.zero, i.size, i.bytes)) = some (some (.int .i64 0), 1, 8) := by kernel_rfl
theorem oneCell_ph (x : PH) : ∀ u ∈ x.cells, u.oneCell' = true := by
  intro u hu; simp [PH.cells] at hu; rcases hu with rfl | rfl | rfl | rfl | rfl <;> rfl
theorem oneCell_rc (x : PH) : ∀ u ∈ x.rc, u.oneCell' = true := by
  intro u hu; simp [PH.rc] at hu; rcases hu with rfl | rfl | rfl | rfl <;> rfl
theorem oneCell_int (n : Int) : ∀ u ∈ [Value.int .i64 n], u.oneCell' = true := by
  intro u hu; simp at hu; subst hu; rfl

section
variable {own : Nat → Nat × Nat} {t : Nat × Nat} {w : World} {b o : Nat} {T : TypeId} {cs : List Value} {vL : Value} {hs : List PH} {last : Int}

/-- The rights of env. -/
def ofP (hs : List PH) (env : Int) : List PH := hs.filter fun x => x.env == env

def ofTo (hs : List PH) (env : Int) (q : Nat) : List PH := (hs.take q).filter fun x => x.env == env

theorem take_filter_succ {hs : List PH} {p : PH → Bool} {q : Nat} {x : PH} (hx : hs[q]? = some x) : (hs.take (q + 1)).filter p = (hs.take q).filter p ++ if p x then [x] else [] := by
  obtain ⟨hq, he⟩ := List.getElem?_eq_some_iff.1 hx
  rw [List.take_succ_eq_append_getElem hq, List.filter_append, he]
  cases hp : p x <;> simp [hp]

set_option maxHeartbeats 4000000 in
set_option maxRecDepth 100000 in
theorem of_any (h : StoreAt own t w b o T cs vL hs last) (hm : (hs.length + 1) * 48 ≤ 140737488355328) (env : Int) :
    Calls Try.prog 70 #[.pointer (some ⟨b, o, none⟩), .int .i64 env] w fun e w' => ∃ v, e = .returned v ∧ Below w.heap.size w w' ∧ Row w' v 64 4 (ofP hs env).length ((ofP hs env).flatMap PH.rc) ∧ ∀ x, v.ownBlock = some x → w.heap.size ≤ x := by
  obtain ⟨i0, hi, hz0, hz1, hz2⟩ := info_parts Try.infoRt
  have k0 := (h.blk.cell o).trans h.c0
  obtain ⟨ao, cap, hv, hcase⟩ := h.shape
  rw [hv] at k0
  have Hv : Hid (vL = .slice ao hs.length cap) := hv
  clear hv
  rcases hcase with h0 | ⟨g, rfl⟩
  all_goals
    go_enter Try.func70, Try.ntmps70
    go_wp2_with fail
    go_loopg [5, 13] hs.length (fun k v x wr => ∃ q : Nat, x = .int .i64 q ∧ q + k = hs.length ∧ Below w.heap.size w wr ∧ Row wr v 64 4 (ofTo hs env q).length ((ofTo hs env q).flatMap PH.rc) ∧ ∀ x, v.ownBlock = some x → w.heap.size ≤ x)
    case atStart => exact ⟨0, rfl, by omega, Below.refl _ _, Row.nil _ _ _, by simp [Value.ownBlock]⟩
    case round =>
      obtain ⟨q, rfl, hk, hbl, hrow, hnew⟩ := hrel
      have HK : Hid (q + gk = hs.length) := hk
      have hq : q ≤ hs.length := by omega
      have hle : (ofTo hs env q).length ≤ q := by unfold ofTo; have := List.length_filter_le (fun x : PH => x.env == env) (hs.take q); simp at this; omega
      have hsz := hbl.size
      obtain ⟨ao5, cap5, hv5, _⟩ := hrow.shape
      subst hv5
      clear hk
      by_cases hlt : q < hs.length
      · first
        | (exfalso; omega; done)
        | (obtain ⟨x, hx⟩ : ∃ x, hs[q]? = some x := ⟨hs[q], by simp⟩
           obtain ⟨c0, c1, c2, c3, c4⟩ := (h.below hbl).heldAt Hv.out hx
           have HS : Hid (ofTo hs env (q + 1) = ofTo hs env q ++ if x.env == env then [x] else []) := take_filter_succ hx
           clear hx
           cases he : (x.env == env)
           · have HW : Hid (ofTo hs env (q + 1) = ofTo hs env q) := by have := HS.out; rw [he] at this; simpa [Hid] using this
             clear HS
             go_wp2_with fail
             go_roundg (gk - 1)
             case measure => have := HK.out; omega
             case rel => exact ⟨q + 1, by go_num, by have := HK.out; omega, hbl.alloc hsz _, by rw [HW.out]; exact hrow.alloc _, hnew⟩
           · have HW : Hid (ofTo hs env (q + 1) = ofTo hs env q ++ [x]) := by have := HS.out; rw [he] at this; simpa [Hid] using this
             have hR' := (hrow.alloc (.cells x.cells.toArray 115)).alloc (.cells x.rc.toArray 64)
             clear HS hrow
             go_wp2_with (at_builtin; refine wpList_append_lies _ rfl (.tmp 22) (.tmp 25) 94 rfl 0 64 i0 _ 4 32 Try.underlying94 hi hz0 hz1 hz2 rfl (by decide) (.slice ao5 (ofTo hs env q).length cap5) (ofTo hs env q).length _ rfl hR' ⟨wr.heap.size + 1, 0, none⟩ 1 1 x.rc rfl rfl ?c1 ?c2 (by omega) ?b1 ?b2 (by omega) (wr.heap.size + 2) (by simp) ?nx)
             case c1 => exact World.news_of_block (B := wr.heap.size + 1) (cs := x.rc.toArray) (t := 64) (fr := (0, 0)) (Blk.at _ _ _ _ (by simp))
             case c2 => exact oneCell_rc _
             case b1 => unfold maxLen; omega
             case b2 => omega
             case nx =>
               intro g1 cap1 w4 hown hgrow hat hlt1
               go_wp2
               go_roundg (gk - 1)
               case measure => have := HK.out; omega
               case rel =>
                 refine ⟨q + 1, by go_num, by have := HK.out; omega, ((hbl.alloc hsz _).alloc (by simp; omega) _).grown hgrow (by simp; omega) hnew, ?_, ?_⟩
                 · rw [HW.out]
                   simp only [List.length_append, List.flatMap_append, List.length_cons, List.length_nil, List.flatMap_cons, List.flatMap_nil, List.append_nil]
                   exact hown
                 · intro x hb
                   simp [Value.ownBlock] at hb
                   subst hb
                   rcases hat with h | h
                   · exact hnew _ h
                   · omega)
      · have hqe : q = hs.length := by omega
        have HW : Hid (ofTo hs env q = ofP hs env) := by rw [hqe]; simp [Hid, ofP, ofTo]
        clear hqe
        go_wp2_with fail
        go_ret
        exact ⟨_, rfl, hbl, by rw [← HW.out]; exact hrow, hnew⟩

/-- A right more. -/
def addP (hs : List PH) (last : Int) (env fr : Int) (wt : Bool) (par : Int) : List PH := hs ++ [⟨last + 1, env, fr, wt, par⟩]

/-- What a call that turns the store leaves. -/
def StoreNext (own : Nat → Nat × Nat) (t : Nat × Nat) (w : World) (b o : Nat) (T : TypeId) (cs : List Value) (vL : Value) (w' : World) (hs' : List PH) (last' : Int) : Prop :=
  ∃ (own' : Nat → Nat × Nat) (vL' : Value), StoreAt own' t w' b o T ((cs.set o vL').set (o + 1) (.int .i64 last')) vL' hs' last' ∧ (∀ x, x < w.heap.size → own' x = own x) ∧ Touch w.heap.size (fun x => x = b ∨ vL.ownBlock = some x) w w'

theorem add_end {W0 w4 : World} {g1 cap1 : Nat} {vL0 : Value} {x : PH} {last' : Int} {o1 : Obj} (h : StoreAt own t w b o T cs vL hs last) (Hv : vL = vL0) (hblk2 : Blk W0 b (cs.set (o + 1) (.int .i64 last')) T) (ht2 : Touch w.heap.size (fun x => x = b ∨ vL.ownBlock = some x) w W0)
    (hown : w4.ownsRow 0 115 5 (.slice (some ⟨g1, 0, none⟩) (hs.length + 1) cap1) (hs.length + 1) (hs.flatMap PH.cells ++ x.cells)) (hgrow : (W0.alloc o1).drew.grownBy w4 vL0.ownBlock) (hat : vL0.ownBlock = some g1 ∨ g1 = W0.heap.size + 1)
    (hw4 : Blk w4 b (cs.set (o + 1) (.int .i64 last')) T) : StoreNext own t w b o T cs vL (w4.setCell ⟨b, o, none⟩ (.slice (some ⟨g1, 0, none⟩) (hs.length + 1) cap1)) (hs ++ [x]) last' := by
  subst Hv
  have hs0 := ht2.size
  have hblt := h.blk.lt
  obtain ⟨ho0, _⟩ := List.getElem?_eq_some_iff.1 h.c0
  obtain ⟨ho1, _⟩ := List.getElem?_eq_some_iff.1 h.c1
  refine ⟨set1 own (W0.heap.size + 1) t, .slice (some ⟨g1, 0, none⟩) (hs.length + 1) cap1, ⟨?_, ?_, ?_, ?_, ?_, ?_⟩, set1_old (by omega), ?_⟩
  · have := hw4.set o (.slice (some ⟨g1, 0, none⟩) (hs.length + 1) cap1)
    rwa [List.set_comm _ _ (by omega)] at this
  · rw [List.getElem?_set_ne (by omega), List.getElem?_set_self ho0]
  · rw [List.getElem?_set_self (by simpa using ho1)]
  · refine Row.other ?_ _ (fun e => ?_)
    · show w4.ownsRow 0 _ _ _ _ _
      simpa using hown
    · simp [Value.ownBlock] at e
      rcases hat with h1 | h1
      · exact h.ne (h.tag b (by rw [h1, e]))
      · omega
  · exact h.tag.app (fun x hx => by have := h.row.lt x hx; omega) hat
  · rw [set1_old (n := w.heap.size) (by omega) b hblt]; exact h.ne
  · exact (((ht2.alloc (by omega) _).drew.grown hgrow (by show w.heap.size ≤ (W0.alloc o1).heap.size; simp; omega) (fun k hk => .inl (.inr hk))).setCell (.inl (.inl rfl)) _)

set_option maxHeartbeats 4000000 in
set_option maxRecDepth 100000 in
theorem add_any (h : StoreAt own t w b o T cs vL hs last) (hm : (hs.length + 1) * 48 ≤ 140737488355328) (hl0 : 0 ≤ last) (hl1 : last ≤ 4611686018427387904) (x0 env fr : Int) (wt : Bool) (par : Int) :
    Calls Try.prog 75 #[.pointer (some ⟨b, o, none⟩), .agg #[.int .i64 x0, .int .i64 env, .int .i64 fr, .bool wt], .int .i64 par] w fun e w' => e = .returned (.int .i64 (last + 1)) ∧ StoreNext own t w b o T cs vL w' (addP hs last env fr wt par) (last + 1) := by
  obtain ⟨i0, hi, hz0, hz1, hz2⟩ := info_parts Try.infoHeld
  have k0 := (h.blk.cell o).trans h.c0
  have k1 := (h.blk.cell (o + 1)).trans h.c1
  have f0 := h.blk.frozen o
  have f1 := h.blk.frozen (o + 1)
  have hblt := h.blk.lt
  obtain ⟨ao, cap, hv, _⟩ := h.shape
  rw [hv] at k0
  have Hv : Hid (vL = .slice ao hs.length cap) := hv
  clear hv
  go_enter Try.func75, Try.ntmps75
  go_wp2_with fail
  have hrow2 : Row ((w.setCell ⟨b, o + 1, none⟩ (.int .i64 (last + 1))).alloc (.cells #[.int .i64 (last + 1), .int .i64 env, .int .i64 fr, .bool wt] 64)) (.slice ao hs.length cap) 115 5 hs.length (hs.flatMap PH.cells) := by
    rw [← Hv.out]
    exact (h.row.other _ (fun e => h.ne (h.tag b e))).alloc _
  have hblk2 : Blk ((w.setCell ⟨b, o + 1, none⟩ (.int .i64 (last + 1))).alloc (.cells #[.int .i64 (last + 1), .int .i64 env, .int .i64 fr, .bool wt] 64)) b (cs.set (o + 1) (.int .i64 (last + 1))) T := (h.blk.set _ _).alloc _
  have hne2 : (Value.slice ao hs.length cap).ownBlock ≠ some b := by rw [← Hv.out]; exact fun e => h.ne (h.tag b e)
  have hlt2 : ∀ x, (Value.slice ao hs.length cap).ownBlock = some x → x < w.heap.size := by rw [← Hv.out]; exact h.row.lt
  have htg2 : Tg own (.slice ao hs.length cap) t := by rw [← Hv.out]; exact h.tag
  have ht2 : Touch w.heap.size (fun x => x = b ∨ vL.ownBlock = some x) w ((w.setCell ⟨b, o + 1, none⟩ (.int .i64 (last + 1))).alloc (.cells #[.int .i64 (last + 1), .int .i64 env, .int .i64 fr, .bool wt] 64)) := ((Touch.refl _ _ _).setCell (.inl (.inl rfl)) _).alloc (by simp) _
  have hbox := Blk.at (w.setCell ⟨b, o + 1, none⟩ (.int .i64 (last + 1))) [.int .i64 (last + 1), .int .i64 env, .int .i64 fr, .bool wt] 64 w.heap.size (by simp)
  have hsz2 : ((w.setCell ⟨b, o + 1, none⟩ (.int .i64 (last + 1))).alloc (.cells #[.int .i64 (last + 1), .int .i64 env, .int .i64 fr, .bool wt] 64)).heap.size = w.heap.size + 1 := by simp
  obtain ⟨W0, hW0⟩ : ∃ W0, (w.setCell ⟨b, o + 1, none⟩ (.int .i64 (last + 1))).alloc (.cells #[.int .i64 (last + 1), .int .i64 env, .int .i64 fr, .bool wt] 64) = W0 := ⟨_, rfl⟩
  have hbox0 : Blk ((w.setCell ⟨b, o + 1, none⟩ (.int .i64 (last + 1))).alloc (.cells #[.int .i64 (last + 1), .int .i64 env, .int .i64 fr, .bool wt] 64)) w.heap.size [.int .i64 (last + 1), .int .i64 env, .int .i64 fr, .bool wt] 64 := hbox
  rw [hW0] at hrow2 hblk2 ht2 hsz2 hbox0 ⊢
  clear hbox hW0
  have c0 : W0.cell? ⟨b, o, none⟩ = some (.slice ao hs.length cap) := by rw [hblk2.cell o, List.getElem?_set_ne (by omega), h.c0, Hv.out]
  have d0 := hbox0.cell 0
  have d1 := hbox0.cell 1
  have d2 := hbox0.cell 2
  have d3 := hbox0.cell 3
  simp at d0 d1 d2 d3
  have e0 := hblk2.frozen o
  have hR3 := (hrow2.alloc (.cells (PH.cells ⟨last + 1, env, fr, wt, par⟩).toArray 115)).drew
  have hN3 := (Blk.new W0 (PH.cells ⟨last + 1, env, fr, wt, par⟩) 115).drew
  have hbW : b < W0.heap.size := by omega
  have hxW : w.heap.size < W0.heap.size := by omega
  have Hsz2 : Hid (W0.heap.size = w.heap.size + 1) := hsz2
  clear k0 k1 f0 f1 hsz2
  go_region_law
    ((refine step_append_lies _ (by rfl) (.tmp 23) (.tmp 27) 68 (by rfl) 0 115 i0 _ 5 40 Try.underlying68 hi hz0 hz1 hz2 rfl (by decide) (.slice ao hs.length cap) hs.length _ (by rfl) hR3 ⟨W0.heap.size, 0, none⟩ 1 1 (PH.cells ⟨last + 1, env, fr, wt, par⟩) (by rfl) rfl (World.news_of_block hN3) (oneCell_ph _) (by omega) (by unfold maxLen; omega) (by omega) (by omega) (W0.heap.size + 1) (by simp) ?_
      intro g1 cap1 w4 hown hgrow hat hlt
      have hw4 := (hblk2.alloc (.cells (PH.cells ⟨last + 1, env, fr, wt, par⟩).toArray 115)).drew.grown hgrow hne2
      have u0 := (hw4.cell o)
      rw [List.getElem?_set_ne (by omega), h.c0, Hv.out] at u0
      have u1 := hw4.frozen o
      have hx4 := (hbox0.alloc (.cells (PH.cells ⟨last + 1, env, fr, wt, par⟩).toArray 115)).drew.grown hgrow (fun e => by have := hlt2 _ e; omega)
      have v0 := hx4.cell 0
      simp at v0))
  all_goals
    go_wp2
    go_ret
    exact ⟨rfl, add_end h Hv.out hblk2 ht2 hown hgrow hat hw4⟩
end
end Go.Proofs.Ytinlkcmdbjcofab

namespace Go.Proofs.Ytinlkcmdbjcofab
open Go.RowKit
set_option linter.unusedVariables false

def eaStep (hd : List Int) (st : List PH × List Int) (x : PH) : List PH × List Int :=
  if hasI hd x.h || hasI st.2 x.par then (st.1, st.2 ++ [x.h]) else (st.1 ++ [x], st.2)
def eaTo (hs : List PH) (hd : List Int) (q : Nat) : List PH × List Int := (hs.take q).foldl (eaStep hd) ([], [])
/-- What is left when the rights with these handles end, and all that comes of them. -/
def endAllP (hs : List PH) (hd : List Int) : List PH := (eaTo hs hd hs.length).1
theorem eaTo_succ {hs : List PH} (hd : List Int) {q : Nat} {x : PH} (hx : hs[q]? = some x) : eaTo hs hd (q + 1) = eaStep hd (eaTo hs hd q) x := by
  obtain ⟨hq, he⟩ := List.getElem?_eq_some_iff.1 hx
  unfold eaTo
  rw [List.take_succ_eq_append_getElem hq, List.foldl_append, he]
  rfl
theorem eaTo_len (hs : List PH) (hd : List Int) (q : Nat) : (eaTo hs hd q).1.length ≤ q ∧ (eaTo hs hd q).2.length ≤ q := by
  induction q with
  | zero => simp [eaTo]
  | succ q ih =>
    cases hx : hs[q]? with
    | none =>
      have h1 := List.getElem?_eq_none_iff.1 hx
      have : eaTo hs hd (q + 1) = eaTo hs hd q := by unfold eaTo; rw [List.take_of_length_le (by omega), List.take_of_length_le h1]
      rw [this]; omega
    | some x =>
      rw [eaTo_succ hd hx]
      unfold eaStep
      split <;> simp <;> omega

section
variable {own : Nat → Nat × Nat} {t : Nat × Nat} {w : World} {b o : Nat} {T : TypeId} {cs : List Value} {vL : Value} {hs : List PH} {last : Int}

theorem set_same {l : List Value} {i : Nat} {v : Value} (h : l[i]? = some v) : l.set i v = l := by
  obtain ⟨hlt, hx⟩ := List.getElem?_eq_some_iff.1 h
  conv => lhs; rw [← hx]
  exact List.set_getElem_self hlt

theorem endAll_end {wr : World} {vl : Value} {L : List PH} (h : StoreAt own t w b o T cs vL hs last) (hbl : Below w.heap.size w wr) (hrl : Row wr vl 115 5 L.length (L.flatMap PH.cells)) (hnl : ∀ x, vl.ownBlock = some x → w.heap.size ≤ x) :
    StoreNext own t w b o T cs vL (wr.setCell ⟨b, o, none⟩ vl) L last := by
  have hblt := h.blk.lt
  have hf := h.below hbl
  obtain ⟨ho0, _⟩ := List.getElem?_eq_some_iff.1 h.c0
  have hc1 : (cs.set o vl)[o + 1]? = some (.int .i64 last) := by rw [List.getElem?_set_ne (by omega)]; exact h.c1
  have hag : ∀ x, x < w.heap.size → (if vl.ownBlock = some x then t else own x) = own x := fun x hx => if_neg (fun e => by have := hnl x e; omega)
  refine ⟨fun x => if vl.ownBlock = some x then t else own x, vl, ?_, hag, (Touch.of_below hbl _).setCell (.inl (.inl rfl)) _⟩
  rw [set_same hc1]
  exact ⟨hf.blk.set o vl, List.getElem?_set_self ho0, hc1, hrl.other _ (fun e => by have := hnl b e; omega), fun x hx => by simp [hx], by show (if vl.ownBlock = some b then t else own b) ≠ t; rw [hag b hblt]; exact h.ne⟩

set_option maxHeartbeats 8000000 in
set_option maxRecDepth 100000 in
theorem endAll_any (h : StoreAt own t w b o T cs vL hs last) (hm : (hs.length + 1) * 48 ≤ 140737488355328) (vH : Value) (hd : List Int) (hH : Row w vH 3 1 hd.length (hd.map (.int .i64))) (hm2 : hd.length ≤ 4611686018427387904) :
    Calls Try.prog 76 #[.pointer (some ⟨b, o, none⟩), vH] w fun e w' => e = .returned (.tuple #[]) ∧ StoreNext own t w b o T cs vL w' (endAllP hs hd) last := by
  obtain ⟨i0, hi, hz0, hz1, hz2⟩ := info_parts Try.infoHeld
  obtain ⟨i1, gi, gz0, gz1, gz2⟩ := info_parts Try.infoInt
  have k0 := (h.blk.cell o).trans h.c0
  have hblt := h.blk.lt
  obtain ⟨ao, cap, hv, hcase⟩ := h.shape
  obtain ⟨aoH, capH, hvH, _⟩ := hH.shape
  subst hvH
  rw [hv] at k0
  have Hv : Hid (vL = .slice ao hs.length cap) := hv
  clear hv
  rcases hcase with h0 | ⟨g, rfl⟩
  all_goals
    go_enter Try.func76, Try.ntmps76
    go_wp2_with fail
    go_loopg [4, 5, 15] hs.length (fun k vl ve x wr => ∃ q : Nat, x = .int .i64 q ∧ q + k = hs.length ∧ Below w.heap.size w wr ∧ Row wr vl 115 5 (eaTo hs hd q).1.length ((eaTo hs hd q).1.flatMap PH.cells) ∧ Row wr ve 3 1 (eaTo hs hd q).2.length ((eaTo hs hd q).2.map (.int .i64)) ∧
      (∀ x, vl.ownBlock = some x → w.heap.size ≤ x) ∧ (∀ x, ve.ownBlock = some x → w.heap.size ≤ x) ∧ (∀ x, vl.ownBlock = some x → ve.ownBlock ≠ some x))
    case atStart => exact ⟨0, rfl, by omega, Below.refl _ _, Row.nil _ _ _, Row.nil _ _ _, by simp [Value.ownBlock], by simp [Value.ownBlock], by simp [Value.ownBlock]⟩
    case round =>
      obtain ⟨q, rfl, hk, hbl, hrl, hre, hnl, hne, hdj⟩ := hrel
      have HK : Hid (q + gk = hs.length) := hk
      have hq : q ≤ hs.length := by omega
      obtain ⟨hl1, hl2⟩ := eaTo_len hs hd q
      have hsz := hbl.size
      obtain ⟨aol, capl, hvl, _⟩ := hrl.shape
      obtain ⟨aoe, cape, hve, _⟩ := hre.shape
      subst hvl
      subst hve
      clear hk
      by_cases hlt : q < hs.length
      · first
        | (exfalso; omega; done)
        | (obtain ⟨x, hx⟩ : ∃ x, hs[q]? = some x := ⟨hs[q], by simp⟩
           obtain ⟨c0, c1, c2, c3, c4⟩ := (h.below hbl).heldAt Hv.out hx
           have HS : Hid (eaTo hs hd (q + 1) = eaStep hd (eaTo hs hd q) x) := eaTo_succ hd hx
           have hH' := (hH.of fun x hx => hbl.block x (hH.lt x hx)).alloc (.cells #[.int .i64 x.h, .int .i64 x.env, .int .i64 x.fr, .bool x.wr, .int .i64 x.par] 115)
           have hre' := hre.alloc (.cells #[.int .i64 x.h, .int .i64 x.env, .int .i64 x.fr, .bool x.wr, .int .i64 x.par] 115)
           have hrl' := hrl.alloc (.cells #[.int .i64 x.h, .int .i64 x.env, .int .i64 x.fr, .bool x.wr, .int .i64 x.par] 115)
           clear hx
           go_wp2_with fail
           refine (has_any hH' hm2 x.h).mono ?_
           rintro e w3 ⟨rfl, hw3⟩
           subst hw3
           go_wp2_with fail
           refine (has_any hre' (by omega) x.par).mono ?_
           rintro e w4 ⟨rfl, hw4⟩
           subst hw4
           cases hin : (hasI hd x.h || hasI (eaTo hs hd q).2 x.par)
           · have HW : Hid (eaTo hs hd (q + 1) = ((eaTo hs hd q).1 ++ [x], (eaTo hs hd q).2)) := by have := HS.out; unfold eaStep at this; rw [hin] at this; simpa [Hid] using this
             obtain ⟨g1, g2⟩ : hasI hd x.h = false ∧ hasI (eaTo hs hd q).2 x.par = false := by simpa using hin
             rw [g1, g2]
             have hrl2 := hrl'.alloc (.cells x.cells.toArray 115)
             clear hin g1 g2 HS
             go_wp2_with (at_builtin; refine wpList_append_lies _ rfl (.tmp 38) (.tmp 40) 68 rfl 0 115 i0 _ 5 40 Try.underlying68 hi hz0 hz1 hz2 rfl (by decide) (.slice aol (eaTo hs hd q).1.length capl) (eaTo hs hd q).1.length _ rfl hrl2 ⟨wr.heap.size + 1, 0, none⟩ 1 1 x.cells rfl rfl ?c1 ?c2 (by omega) ?b1 ?b2 (by omega) (wr.heap.size + 2) (by simp) ?nx)
             case c1 => exact World.news_of_block (B := wr.heap.size + 1) (cs := x.cells.toArray) (t := 115) (fr := (0, 0)) (Blk.at _ _ _ _ (by simp))
             case c2 => exact oneCell_ph _
             case b1 => unfold maxLen; omega
             case b2 => omega
             case nx =>
               intro g1 cap1 w4 hown hgrow hat hlt1
               go_wp2
               go_roundg (gk - 1)
               case measure => have := HK.out; omega
               case rel =>
                 refine ⟨q + 1, by go_num, by have := HK.out; omega, ((hbl.alloc hsz _).alloc (by simp; omega) _).grown hgrow (by simp; omega) hnl, ?_, ?_, ?_, ?_, ?_⟩
                 · rw [HW.out]
                   simp only [List.length_append, List.flatMap_append, List.length_cons, List.length_nil, List.flatMap_cons, List.flatMap_nil, List.append_nil]
                   exact hown
                 · rw [HW.out]
                   exact (hre'.alloc _).of fun y hy => hgrow.block y (Nat.lt_of_lt_of_le (hre.lt y hy) (by simp; omega)) (fun e => hdj y e.symm hy)
                 · intro y hb
                   simp [Value.ownBlock] at hb
                   subst hb
                   rcases hat with h | h
                   · exact hnl _ h
                   · omega
                 · exact hne
                 · intro y hb
                   simp [Value.ownBlock] at hb
                   subst hb
                   intro hy
                   have hy2 := hre.lt _ hy
                   rcases hat with h | h
                   · exact hdj _ h hy
                   · omega
           · have HW : Hid (eaTo hs hd (q + 1) = ((eaTo hs hd q).1, (eaTo hs hd q).2 ++ [x.h])) := by have := HS.out; unfold eaStep at this; rw [hin] at this; simpa [Hid] using this
             have hre2 := hre'.alloc (.cells [.int .i64 x.h].toArray 3)
             have hN := Blk.at (wr.alloc (.cells #[.int .i64 x.h, .int .i64 x.env, .int .i64 x.fr, .bool x.wr, .int .i64 x.par] 115)) [Value.int .i64 x.h] 3 (wr.heap.size + 1) (by simp)
             have hcs : hasI hd x.h = true ∨ (hasI hd x.h = false ∧ hasI (eaTo hs hd q).2 x.par = true) := by
               cases hq1 : hasI hd x.h
               · rw [hq1] at hin; exact .inr ⟨rfl, by simpa using hin⟩
               · exact .inl rfl
             clear hin HS
             rcases hcs with g1 | ⟨g1, g2⟩
             all_goals
               rw [g1]
               try rw [g2]
               clear g1
               go_wp2_with (at_builtin; refine wpList_append_lies _ rfl (.tmp 32) (.tmp 36) 37 rfl 0 3 i1 _ 1 8 Try.underlying37 gi gz0 gz1 gz2 rfl (by decide) (.slice aoe (eaTo hs hd q).2.length cape) (eaTo hs hd q).2.length _ rfl hre2 ⟨wr.heap.size + 1, 0, none⟩ 1 1 [.int .i64 x.h] rfl rfl ?c1 ?c2 (by omega) ?b1 ?b2 (by omega) (wr.heap.size + 2) (by simp) ?nx)
               case c1 => exact World.news_of_block hN
               case c2 => exact oneCell_int _
               case b1 => unfold maxLen; omega
               case b2 => omega
               case nx =>
                 intro g1 cap1 w4 hown hgrow hat hlt1
                 go_wp2
                 go_roundg (gk - 1)
                 case measure => have := HK.out; omega
                 case rel =>
                   refine ⟨q + 1, by go_num, by have := HK.out; omega, ((hbl.alloc hsz (.cells #[.int .i64 x.h, .int .i64 x.env, .int .i64 x.fr, .bool x.wr, .int .i64 x.par] 115)).alloc (by simp; omega) (.cells [.int .i64 x.h].toArray 3)).grown hgrow (by simp; omega) hne, ?_, ?_, ?_, ?_, ?_⟩
                   · rw [HW.out]
                     exact (hrl'.alloc _).of fun y hy => hgrow.block y (Nat.lt_of_lt_of_le (hrl.lt y hy) (by simp; omega)) (fun e => hdj y hy e.symm)
                   · rw [HW.out]
                     simp only [List.length_append, List.map_append, List.length_cons, List.length_nil, List.map_cons, List.map_nil]
                     exact hown
                   · exact hnl
                   · intro y hb
                     simp [Value.ownBlock] at hb
                     subst hb
                     rcases hat with h | h
                     · exact hne _ h
                     · omega
                   · intro y hy hb
                     simp [Value.ownBlock] at hb
                     subst hb
                     have hy2 := hrl.lt _ hy
                     rcases hat with h | h
                     · exact hdj _ hy h
                     · omega)
      · have hqe : q = hs.length := by omega
        have HW : Hid ((eaTo hs hd q).1 = endAllP hs hd) := by rw [hqe]; rfl
        have hf := h.below hbl
        have j0 := (hf.blk.cell o).trans hf.c0
        rw [Hv.out] at j0
        have j1 := hf.blk.frozen o
        clear hqe
        go_wp2_with fail
        go_end0
        exact ⟨rfl, by rw [← HW.out]; exact endAll_end h hbl hrl hnl⟩
end
end Go.Proofs.Ytinlkcmdbjcofab

namespace Go.Proofs.Ytinlkcmdbjcofab
open Go.RowKit
set_option linter.unusedVariables false

section
variable {own : Nat → Nat × Nat} {t : Nat × Nat} {w : World} {b o : Nat} {T : TypeId} {cs : List Value} {vL : Value} {hs : List PH} {last : Int}

theorem StoreNext.after {w1 w2 : World} {hs' : List PH} {last' : Int} (hb : Below w.heap.size w w1) (h : StoreNext own t w1 b o T cs vL w2 hs' last') : StoreNext own t w b o T cs vL w2 hs' last' := by
  obtain ⟨own', vL', h1, h2, h3⟩ := h
  exact ⟨own', vL', h1, fun x hx => h2 x (Nat.lt_of_lt_of_le hx hb.size), (Touch.of_below hb _).trans (h3.mono hb.size (fun _ _ h => h))⟩

set_option maxHeartbeats 2000000 in
set_option maxRecDepth 100000 in
theorem pfirst_any (h : StoreAt own t w b o T cs vL hs last) (hm : (hs.length + 1) * 48 ≤ 140737488355328) (hl0 : 0 ≤ last) (hl1 : last ≤ 4611686018427387904) (env fr : Int) :
    Calls Try.prog 67 #[.pointer (some ⟨b, o, none⟩), .int .i64 env, .int .i64 fr] w fun e w' => e = .returned (.int .i64 (last + 1)) ∧ StoreNext own t w b o T cs vL w' (addP hs last env fr true 0) (last + 1) := by
  go_enter Try.func67, Try.ntmps67
  go_wp2_with fail
  refine (add_any h hm hl0 hl1 0 env fr true 0).mono ?_
  rintro e w2 ⟨rfl, hn⟩
  go_wp2_with fail
  go_ret
  exact ⟨rfl, hn⟩

set_option maxHeartbeats 2000000 in
set_option maxRecDepth 100000 in
theorem psderive_any (h : StoreAt own t w b o T cs vL hs last) (hm : (hs.length + 1) * 48 ≤ 140737488355328) (hl0 : 0 ≤ last) (hl1 : last ≤ 4611686018427387904) (ph penv pfr : Int) (pwr : Bool) (env : Int) (wt : Bool) :
    Calls Try.prog 48 #[.pointer (some ⟨b, o, none⟩), .agg #[.int .i64 ph, .int .i64 penv, .int .i64 pfr, .bool pwr], .int .i64 env, .bool wt] w fun e w' => e = .returned (.int .i64 (last + 1)) ∧ StoreNext own t w b o T cs vL w' (addP hs last env pfr wt ph) (last + 1) := by
  have h' := h.below ((Below.refl _ _).alloc (Nat.le_refl _) (.cells #[.int .i64 ph, .int .i64 penv, .int .i64 pfr, .bool pwr] 64))
  go_enter Try.func48, Try.ntmps48
  go_wp2_with fail
  refine (add_any h' hm hl0 hl1 0 env pfr wt ph).mono ?_
  rintro e w2 ⟨rfl, hn⟩
  go_wp2_with fail
  go_ret
  exact ⟨rfl, hn.after ((Below.refl _ _).alloc (Nat.le_refl _) _)⟩

set_option maxHeartbeats 2000000 in
set_option maxRecDepth 100000 in
theorem end_any (h : StoreAt own t w b o T cs vL hs last) (hm : (hs.length + 1) * 48 ≤ 140737488355328) (hd : Int) :
    Calls Try.prog 84 #[.pointer (some ⟨b, o, none⟩), .int .i64 hd] w fun e w' => e = .returned (.tuple #[]) ∧ StoreNext own t w b o T cs vL w' (endAllP hs [hd]) last := by
  have h' := h.below ((Below.refl _ _).alloc (Nat.le_refl _) (.cells #[.int .i64 hd] 3))
  have hrow : Row (w.alloc (.cells #[.int .i64 hd] 3)) (.slice (some ⟨w.heap.size, 0, none⟩) 1 1) 3 1 1 ([hd].map (.int .i64)) := World.ownsRow_lit w _ 1 (by omega) (by simp [maxLen]) rfl
  go_enter Try.func84, Try.ntmps84
  go_wp2_with fail
  refine (endAll_any h' hm (.slice (some ⟨w.heap.size, 0, none⟩) 1 1) [hd] hrow (by simp)).mono ?_
  rintro e w2 ⟨rfl, hn⟩
  go_wp2_with fail
  go_end0
  exact ⟨rfl, hn.after ((Below.refl _ _).alloc (Nat.le_refl _) _)⟩

/-- The handles of those among the first q of which p holds. -/
def hdTo (hs : List PH) (p : PH → Bool) (q : Nat) : List Int := ((hs.take q).filter p).map PH.h
theorem hdTo_succ {hs : List PH} (p : PH → Bool) {q : Nat} {x : PH} (hx : hs[q]? = some x) : hdTo hs p (q + 1) = hdTo hs p q ++ if p x then [x.h] else [] := by
  unfold hdTo
  rw [take_filter_succ hx, List.map_append]
  cases p x <;> rfl
theorem hdTo_len (hs : List PH) (p : PH → Bool) (q : Nat) : (hdTo hs p q).length ≤ q := by
  unfold hdTo
  have := List.length_filter_le p (hs.take q)
  simp at this ⊢
  omega

set_option maxHeartbeats 4000000 in
set_option maxRecDepth 100000 in
theorem endDerived_any (h : StoreAt own t w b o T cs vL hs last) (hm : (hs.length + 1) * 48 ≤ 140737488355328) (key : Int) :
    Calls Try.prog 49 #[.pointer (some ⟨b, o, none⟩), .int .i64 key] w fun e w' => e = .returned (.tuple #[]) ∧ StoreNext own t w b o T cs vL w' (endAllP hs (hdTo hs (fun x => x.par == key) hs.length)) last := by
  obtain ⟨i1, gi, gz0, gz1, gz2⟩ := info_parts Try.infoInt
  have k0 := (h.blk.cell o).trans h.c0
  obtain ⟨ao, cap, hv, hcase⟩ := h.shape
  rw [hv] at k0
  have Hv : Hid (vL = .slice ao hs.length cap) := hv
  clear hv
  rcases hcase with h0 | ⟨g, rfl⟩
  all_goals
    go_enter Try.func49, Try.ntmps49
    go_wp2_with fail
    go_loopg [4, 12] hs.length (fun k v x wr => ∃ q : Nat, x = .int .i64 q ∧ q + k = hs.length ∧ Below w.heap.size w wr ∧ Row wr v 3 1 (hdTo hs (fun x => x.par == key) q).length ((hdTo hs (fun x => x.par == key) q).map (.int .i64)) ∧ ∀ x, v.ownBlock = some x → w.heap.size ≤ x)
    case atStart => exact ⟨0, rfl, by omega, Below.refl _ _, Row.nil _ _ _, by simp [Value.ownBlock]⟩
    case round =>
      obtain ⟨q, rfl, hk, hbl, hrow, hnew⟩ := hrel
      have HK : Hid (q + gk = hs.length) := hk
      have hq : q ≤ hs.length := by omega
      have hle := hdTo_len hs (fun x => x.par == key) q
      have hsz := hbl.size
      obtain ⟨ao5, cap5, hv5, _⟩ := hrow.shape
      subst hv5
      clear hk
      by_cases hlt : q < hs.length
      · first
        | (exfalso; omega; done)
        | (obtain ⟨x, hx⟩ : ∃ x, hs[q]? = some x := ⟨hs[q], by simp⟩
           obtain ⟨c0, c1, c2, c3, c4⟩ := (h.below hbl).heldAt Hv.out hx
           have HS : Hid (hdTo hs (fun x => x.par == key) (q + 1) = hdTo hs (fun x => x.par == key) q ++ if x.par == key then [x.h] else []) := hdTo_succ _ hx
           clear hx
           cases he : (x.par == key)
           · have HW : Hid (hdTo hs (fun x => x.par == key) (q + 1) = hdTo hs (fun x => x.par == key) q) := by have := HS.out; rw [he] at this; simpa [Hid] using this
             clear HS
             go_wp2_with fail
             go_roundg (gk - 1)
             case measure => have := HK.out; omega
             case rel => exact ⟨q + 1, by go_num, by have := HK.out; omega, hbl.alloc hsz _, by rw [HW.out]; exact hrow.alloc _, hnew⟩
           · have HW : Hid (hdTo hs (fun x => x.par == key) (q + 1) = hdTo hs (fun x => x.par == key) q ++ [x.h]) := by have := HS.out; rw [he] at this; simpa [Hid] using this
             have hR' := (hrow.alloc (.cells #[.int .i64 x.h, .int .i64 x.env, .int .i64 x.fr, .bool x.wr, .int .i64 x.par] 115)).alloc (.cells [.int .i64 x.h].toArray 3)
             have hN := Blk.at (wr.alloc (.cells #[.int .i64 x.h, .int .i64 x.env, .int .i64 x.fr, .bool x.wr, .int .i64 x.par] 115)) [Value.int .i64 x.h] 3 (wr.heap.size + 1) (by simp)
             clear HS hrow
             go_wp2_with (at_builtin; refine wpList_append_lies _ rfl (.tmp 20) (.tmp 24) 37 rfl 0 3 i1 _ 1 8 Try.underlying37 gi gz0 gz1 gz2 rfl (by decide) (.slice ao5 (hdTo hs (fun x => x.par == key) q).length cap5) (hdTo hs (fun x => x.par == key) q).length _ rfl hR' ⟨wr.heap.size + 1, 0, none⟩ 1 1 [.int .i64 x.h] rfl rfl ?c1 ?c2 (by omega) ?b1 ?b2 (by omega) (wr.heap.size + 2) (by simp) ?nx)
             case c1 => exact World.news_of_block hN
             case c2 => exact oneCell_int _
             case b1 => unfold maxLen; omega
             case b2 => omega
             case nx =>
               intro g1 cap1 w4 hown hgrow hat hlt1
               go_wp2
               go_roundg (gk - 1)
               case measure => have := HK.out; omega
               case rel =>
                 refine ⟨q + 1, by go_num, by have := HK.out; omega, ((hbl.alloc hsz (.cells #[.int .i64 x.h, .int .i64 x.env, .int .i64 x.fr, .bool x.wr, .int .i64 x.par] 115)).alloc (by simp; omega) (.cells [.int .i64 x.h].toArray 3)).grown hgrow (by simp; omega) hnew, ?_, ?_⟩
                 · rw [HW.out]
                   simp only [List.length_append, List.map_append, List.length_cons, List.length_nil, List.map_cons, List.map_nil]
                   exact hown
                 · intro x hb
                   simp [Value.ownBlock] at hb
                   subst hb
                   rcases hat with h | h
                   · exact hnew _ h
                   · omega)
      · have hqe : q = hs.length := by omega
        have HQ : Hid (hdTo hs (fun x => x.par == key) q = hdTo hs (fun x => x.par == key) hs.length) := by rw [hqe]; exact rfl
        clear hqe
        have h' := h.below hbl
        go_wp2_with fail
        refine (endAll_any h' hm _ _ hrow (by omega)).mono ?_
        rintro e w2 ⟨rfl, hn⟩
        go_wp2_with fail
        go_end0
        rw [← HQ.out]
        exact ⟨rfl, hn.after hbl⟩

set_option maxHeartbeats 4000000 in
set_option maxRecDepth 100000 in
theorem endOf_any (h : StoreAt own t w b o T cs vL hs last) (hm : (hs.length + 1) * 48 ≤ 140737488355328) (key : Int) :
    Calls Try.prog 87 #[.pointer (some ⟨b, o, none⟩), .int .i64 key] w fun e w' => e = .returned (.tuple #[]) ∧ StoreNext own t w b o T cs vL w' (endAllP hs (hdTo hs (fun x => x.env == key) hs.length)) last := by
  obtain ⟨i1, gi, gz0, gz1, gz2⟩ := info_parts Try.infoInt
  have k0 := (h.blk.cell o).trans h.c0
  obtain ⟨ao, cap, hv, hcase⟩ := h.shape
  rw [hv] at k0
  have Hv : Hid (vL = .slice ao hs.length cap) := hv
  clear hv
  rcases hcase with h0 | ⟨g, rfl⟩
  all_goals
    go_enter Try.func87, Try.ntmps87
    go_wp2_with fail
    go_loopg [4, 12] hs.length (fun k v x wr => ∃ q : Nat, x = .int .i64 q ∧ q + k = hs.length ∧ Below w.heap.size w wr ∧ Row wr v 3 1 (hdTo hs (fun x => x.env == key) q).length ((hdTo hs (fun x => x.env == key) q).map (.int .i64)) ∧ ∀ x, v.ownBlock = some x → w.heap.size ≤ x)
    case atStart => exact ⟨0, rfl, by omega, Below.refl _ _, Row.nil _ _ _, by simp [Value.ownBlock]⟩
    case round =>
      obtain ⟨q, rfl, hk, hbl, hrow, hnew⟩ := hrel
      have HK : Hid (q + gk = hs.length) := hk
      have hq : q ≤ hs.length := by omega
      have hle := hdTo_len hs (fun x => x.env == key) q
      have hsz := hbl.size
      obtain ⟨ao5, cap5, hv5, _⟩ := hrow.shape
      subst hv5
      clear hk
      by_cases hlt : q < hs.length
      · first
        | (exfalso; omega; done)
        | (obtain ⟨x, hx⟩ : ∃ x, hs[q]? = some x := ⟨hs[q], by simp⟩
           obtain ⟨c0, c1, c2, c3, c4⟩ := (h.below hbl).heldAt Hv.out hx
           have HS : Hid (hdTo hs (fun x => x.env == key) (q + 1) = hdTo hs (fun x => x.env == key) q ++ if x.env == key then [x.h] else []) := hdTo_succ _ hx
           clear hx
           cases he : (x.env == key)
           · have HW : Hid (hdTo hs (fun x => x.env == key) (q + 1) = hdTo hs (fun x => x.env == key) q) := by have := HS.out; rw [he] at this; simpa [Hid] using this
             clear HS
             go_wp2_with fail
             go_roundg (gk - 1)
             case measure => have := HK.out; omega
             case rel => exact ⟨q + 1, by go_num, by have := HK.out; omega, hbl.alloc hsz _, by rw [HW.out]; exact hrow.alloc _, hnew⟩
           · have HW : Hid (hdTo hs (fun x => x.env == key) (q + 1) = hdTo hs (fun x => x.env == key) q ++ [x.h]) := by have := HS.out; rw [he] at this; simpa [Hid] using this
             have hR' := (hrow.alloc (.cells #[.int .i64 x.h, .int .i64 x.env, .int .i64 x.fr, .bool x.wr, .int .i64 x.par] 115)).alloc (.cells [.int .i64 x.h].toArray 3)
             have hN := Blk.at (wr.alloc (.cells #[.int .i64 x.h, .int .i64 x.env, .int .i64 x.fr, .bool x.wr, .int .i64 x.par] 115)) [Value.int .i64 x.h] 3 (wr.heap.size + 1) (by simp)
             clear HS hrow
             go_wp2_with (at_builtin; refine wpList_append_lies _ rfl (.tmp 21) (.tmp 25) 37 rfl 0 3 i1 _ 1 8 Try.underlying37 gi gz0 gz1 gz2 rfl (by decide) (.slice ao5 (hdTo hs (fun x => x.env == key) q).length cap5) (hdTo hs (fun x => x.env == key) q).length _ rfl hR' ⟨wr.heap.size + 1, 0, none⟩ 1 1 [.int .i64 x.h] rfl rfl ?c1 ?c2 (by omega) ?b1 ?b2 (by omega) (wr.heap.size + 2) (by simp) ?nx)
             case c1 => exact World.news_of_block hN
             case c2 => exact oneCell_int _
             case b1 => unfold maxLen; omega
             case b2 => omega
             case nx =>
               intro g1 cap1 w4 hown hgrow hat hlt1
               go_wp2
               go_roundg (gk - 1)
               case measure => have := HK.out; omega
               case rel =>
                 refine ⟨q + 1, by go_num, by have := HK.out; omega, ((hbl.alloc hsz (.cells #[.int .i64 x.h, .int .i64 x.env, .int .i64 x.fr, .bool x.wr, .int .i64 x.par] 115)).alloc (by simp; omega) (.cells [.int .i64 x.h].toArray 3)).grown hgrow (by simp; omega) hnew, ?_, ?_⟩
                 · rw [HW.out]
                   simp only [List.length_append, List.map_append, List.length_cons, List.length_nil, List.map_cons, List.map_nil]
                   exact hown
                 · intro x hb
                   simp [Value.ownBlock] at hb
                   subst hb
                   rcases hat with h | h
                   · exact hnew _ h
                   · omega)
      · have hqe : q = hs.length := by omega
        have HQ : Hid (hdTo hs (fun x => x.env == key) q = hdTo hs (fun x => x.env == key) hs.length) := by rw [hqe]; exact rfl
        clear hqe
        have h' := h.below hbl
        go_wp2_with fail
        refine (endAll_any h' hm _ _ hrow (by omega)).mono ?_
        rintro e w2 ⟨rfl, hn⟩
        go_wp2_with fail
        go_end0
        rw [← HQ.out]
        exact ⟨rfl, hn.after hbl⟩
end
end Go.Proofs.Ytinlkcmdbjcofab

namespace Go.Proofs.Ytinlkcmdbjcofab
open Go.RowKit
set_option linter.unusedVariables false
attribute [local go_sem ↓] Go.wp_at_zero Go.wp_at_succ

section
variable {own : Nat → Nat × Nat} {t : Nat × Nat} {w : World} {b o : Nat} {T : TypeId} {cs : List Value} {vL : Value} {hs : List PH} {last : Int}

/-- The rights to other frames. -/
def notP (hs : List PH) (f : Int) : List PH := hs.filter fun x => x.fr != f
def notTo (hs : List PH) (f : Int) (q : Nat) : List PH := (hs.take q).filter fun x => x.fr != f

set_option maxHeartbeats 4000000 in
set_option maxRecDepth 100000 in
theorem endFirst_any (h : StoreAt own t w b o T cs vL hs last) (hm : (hs.length + 1) * 48 ≤ 140737488355328) (f : Int) :
    Calls Try.prog 95 #[.pointer (some ⟨b, o, none⟩), .int .i64 f] w fun e w' => e = .returned (.tuple #[]) ∧ StoreNext own t w b o T cs vL w' (notP hs f) last := by
  obtain ⟨i0, hi, hz0, hz1, hz2⟩ := info_parts Try.infoHeld
  have k0 := (h.blk.cell o).trans h.c0
  have hblt := h.blk.lt
  obtain ⟨ao, cap, hv, hcase⟩ := h.shape
  rw [hv] at k0
  have Hv : Hid (vL = .slice ao hs.length cap) := hv
  clear hv
  rcases hcase with h0 | ⟨g, rfl⟩
  all_goals
    go_enter Try.func95, Try.ntmps95
    go_wp2_with fail
    go_loopg [4, 12] hs.length (fun k v x wr => ∃ q : Nat, x = .int .i64 q ∧ q + k = hs.length ∧ Below w.heap.size w wr ∧ Row wr v 115 5 (notTo hs f q).length ((notTo hs f q).flatMap PH.cells) ∧ ∀ x, v.ownBlock = some x → w.heap.size ≤ x)
    case atStart => exact ⟨0, rfl, by omega, Below.refl _ _, Row.nil _ _ _, by simp [Value.ownBlock]⟩
    case round =>
      obtain ⟨q, rfl, hk, hbl, hrow, hnew⟩ := hrel
      have HK : Hid (q + gk = hs.length) := hk
      have hq : q ≤ hs.length := by omega
      have hle : (notTo hs f q).length ≤ q := by unfold notTo; have := List.length_filter_le (fun x : PH => x.fr != f) (hs.take q); simp at this; simp; omega
      have hsz := hbl.size
      obtain ⟨ao5, cap5, hv5, _⟩ := hrow.shape
      subst hv5
      clear hk
      by_cases hlt : q < hs.length
      · first
        | (exfalso; omega; done)
        | (obtain ⟨x, hx⟩ : ∃ x, hs[q]? = some x := ⟨hs[q], by simp⟩
           obtain ⟨c0, c1, c2, c3, c4⟩ := (h.below hbl).heldAt Hv.out hx
           have HS : Hid (notTo hs f (q + 1) = notTo hs f q ++ if x.fr != f then [x] else []) := take_filter_succ hx
           clear hx
           cases he : (x.fr != f)
           · have HW : Hid (notTo hs f (q + 1) = notTo hs f q) := by have := HS.out; rw [he] at this; simpa [Hid] using this
             clear HS
             go_wp2_with fail
             go_roundg (gk - 1)
             case measure => have := HK.out; omega
             case rel => exact ⟨q + 1, by go_num, by have := HK.out; omega, hbl.alloc hsz _, by rw [HW.out]; exact hrow.alloc _, hnew⟩
           · have HW : Hid (notTo hs f (q + 1) = notTo hs f q ++ [x]) := by have := HS.out; rw [he] at this; simpa [Hid] using this
             have hR' := (hrow.alloc (.cells x.cells.toArray 115)).alloc (.cells x.cells.toArray 115)
             clear HS hrow
             go_wp2_with (at_builtin; refine wpList_append_lies _ rfl (.tmp 21) (.tmp 23) 68 rfl 0 115 i0 _ 5 40 Try.underlying68 hi hz0 hz1 hz2 rfl (by decide) (.slice ao5 (notTo hs f q).length cap5) (notTo hs f q).length _ rfl hR' ⟨wr.heap.size + 1, 0, none⟩ 1 1 x.cells rfl rfl ?c1 ?c2 (by omega) ?b1 ?b2 (by omega) (wr.heap.size + 2) (by simp) ?nx)
             case c1 => exact World.news_of_block (B := wr.heap.size + 1) (cs := x.cells.toArray) (t := 115) (fr := (0, 0)) (Blk.at _ _ _ _ (by simp))
             case c2 => exact oneCell_ph _
             case b1 => unfold maxLen; omega
             case b2 => omega
             case nx =>
               intro g1 cap1 w4 hown hgrow hat hlt1
               go_wp2
               go_roundg (gk - 1)
               case measure => have := HK.out; omega
               case rel =>
                 refine ⟨q + 1, by go_num, by have := HK.out; omega, ((hbl.alloc hsz _).alloc (by simp; omega) _).grown hgrow (by simp; omega) hnew, ?_, ?_⟩
                 · rw [HW.out]
                   simp only [List.length_append, List.flatMap_append, List.length_cons, List.length_nil, List.flatMap_cons, List.flatMap_nil, List.append_nil]
                   exact hown
                 · intro x hb
                   simp [Value.ownBlock] at hb
                   subst hb
                   rcases hat with h | h
                   · exact hnew _ h
                   · omega)
      · have hqe : q = hs.length := by omega
        have HW : Hid (notTo hs f q = notP hs f) := by rw [hqe]; simp [Hid, notP, notTo]
        have hf := h.below hbl
        have j0 := (hf.blk.cell o).trans hf.c0
        rw [Hv.out] at j0
        have j1 := hf.blk.frozen o
        clear hqe
        go_wp2_with fail
        go_end0
        exact ⟨rfl, by rw [← HW.out]; exact endAll_end h hbl hrow hnew⟩
end
end Go.Proofs.Ytinlkcmdbjcofab

/-
  The program's table: package table.
-/
namespace Go.Proofs.Ytinlkcmdbjcofab
open Go.RowKit
set_option linter.unusedVariables false
attribute [local go_sem ↓] Go.wp_at_zero Go.wp_at_succ

/-- The table at ⟨b, o⟩ of a block whose cells are cs. -/
structure TableAt (own : Nat → Nat × Nat) (t : Nat × Nat) (w : World) (b o : Nat) (T : TypeId) (cs : List Value) (vT : Value) (es : List Ent) (tn : Int) : Prop where
  blk : Blk w b cs T
  c0 : cs[o]? = some vT
  c1 : cs[o + 1]? = some (.int .i64 tn)
  row : Row w vT 80 5 es.length (es.flatMap Ent.cells)
  tag : Tg own vT t
  ne : own b ≠ t

def remE (env page : Int) (e : Ent) : Ent := if entP env page e then Ent.empty else e

theorem Try.infoEnt : (Try.prog.info? 80).map (fun i => (i.zero, i.size, i.bytes)) = some (some (.agg #[.bool false, .int .i64 0, .int .i64 0, .int .i64 0, .bool false]), 5, 40) := by kernel_rfl
theorem oneCell_ent (x : Ent) : ∀ u ∈ x.cells, u.oneCell' = true := by
  intro u hu; simp [Ent.cells] at hu; rcases hu with rfl | rfl | rfl | rfl | rfl <;> rfl

section
variable {own : Nat → Nat × Nat} {t : Nat × Nat} {w : World} {b o : Nat} {T : TypeId} {cs : List Value} {vT : Value} {es : List Ent} {tn : Int}

theorem TableAt.of {own' : Nat → Nat × Nat} {w' : World} (h : TableAt own t w b o T cs vT es tn) (ho : ∀ x, x < w.heap.size → own' x = own x) (hb : w'.heap[b]? = w.heap[b]?) (hr : ∀ x, x < w.heap.size → own x = t → w'.heap[x]? = w.heap[x]?) : TableAt own' t w' b o T cs vT es tn :=
  ⟨h.blk.of hb, h.c0, h.c1, h.row.kept h.tag hr, h.tag.congr h.row ho, by rw [ho b h.blk.lt]; exact h.ne⟩
theorem TableAt.below {w' : World} (h : TableAt own t w b o T cs vT es tn) (hb : Below w.heap.size w w') : TableAt own t w' b o T cs vT es tn :=
  h.of (fun _ _ => rfl) (hb.block b h.blk.lt) (fun x hx _ => hb.block x hx)
theorem TableAt.shape (h : TableAt own t w b o T cs vT es tn) : ∃ ao cap, vT = .slice ao es.length cap ∧ (es.length = 0 ∨ ∃ g, ao = some ⟨g, 0, none⟩) := h.row.shape
theorem Row.ent {g cap : Nat} (h : Row w (.slice (some ⟨g, 0, none⟩) es.length cap) 80 5 es.length (es.flatMap Ent.cells)) {i : Nat} {e : Ent} (hx : es[i]? = some e) :
    w.cell? ⟨g, i * 5, none⟩ = some (.bool e.used) ∧ w.cell? ⟨g, i * 5 + 1, none⟩ = some (.int .i64 e.env) ∧ w.cell? ⟨g, i * 5 + 2, none⟩ = some (.int .i64 e.page) ∧ w.cell? ⟨g, i * 5 + 3, none⟩ = some (.int .i64 e.fr) ∧ w.cell? ⟨g, i * 5 + 4, none⟩ = some (.bool e.wr) := by
  have hi := (List.getElem?_eq_some_iff.1 hx).1
  have hy : ∀ j, j < 5 → w.cell? ⟨g, i * 5 + j, none⟩ = e.cells[j]? := fun j hj => by
    rw [h.cellAt _ (by omega), flat_get Ent.cells 5 (fun _ => rfl) _ _ j _ hx hj]
  exact ⟨hy 0 (by omega), hy 1 (by omega), hy 2 (by omega), hy 3 (by omega), hy 4 (by omega)⟩
theorem TableAt.slotAt {g cap : Nat} (h : TableAt own t w b o T cs vT es tn) (hv : vT = .slice (some ⟨g, 0, none⟩) es.length cap) {i : Nat} {e : Ent} (hx : es[i]? = some e) :
    w.cell? ⟨g, i * 5, none⟩ = some (.bool e.used) ∧ w.cell? ⟨g, i * 5 + 1, none⟩ = some (.int .i64 e.env) ∧ w.cell? ⟨g, i * 5 + 2, none⟩ = some (.int .i64 e.page) ∧ w.cell? ⟨g, i * 5 + 3, none⟩ = some (.int .i64 e.fr) ∧ w.cell? ⟨g, i * 5 + 4, none⟩ = some (.bool e.wr) := by
  have h1 := h.row
  rw [hv] at h1
  exact h1.ent hx
theorem TableAt.frozenAt {g cap : Nat} (h : TableAt own t w b o T cs vT es tn) (hv : vT = .slice (some ⟨g, 0, none⟩) es.length cap) (j : Nat) : w.frozen? ⟨g, j, none⟩ = false := by
  have h1 := h.row
  rw [hv] at h1
  exact World.ownsRow.frozenAt h1 j
/-- A slot is written. -/
theorem TableAt.put {g cap : Nat} (h : TableAt own t w b o T cs vT es tn) (hv : vT = .slice (some ⟨g, 0, none⟩) es.length cap) (i : Nat) (hi : i < es.length) (e : Ent) :
    TableAt own t (((((w.setCell ⟨g, i * 5, none⟩ (.bool e.used)).setCell ⟨g, i * 5 + 1, none⟩ (.int .i64 e.env)).setCell ⟨g, i * 5 + 2, none⟩ (.int .i64 e.page)).setCell ⟨g, i * 5 + 3, none⟩ (.int .i64 e.fr)).setCell ⟨g, i * 5 + 4, none⟩ (.bool e.wr)) b o T cs vT (es.set i e) tn := by
  have hg : own g = t := h.tag g (by rw [hv]; rfl)
  have hn : b ≠ g := fun e => h.ne (by rw [e]; exact hg)
  refine ⟨h.blk.of ?_, h.c0, h.c1, ?_, h.tag, h.ne⟩
  · rw [Below.heap_setCell _ _ _ _ hn, Below.heap_setCell _ _ _ _ hn, Below.heap_setCell _ _ _ _ hn, Below.heap_setCell _ _ _ _ hn, Below.heap_setCell _ _ _ _ hn]
  · have h1 := h.row
    rw [hv] at h1 ⊢
    rw [List.length_set, flat_set5 _ _ _ hi]
    exact ((((h1.set _ _).set _ _).set _ _).set _ _).set _ _

set_option maxHeartbeats 1000000 in
set_option maxRecDepth 100000 in
theorem thas_any (h : TableAt own t w b o T cs vT es tn) (hm : es.length ≤ 8) (slot : Int) :
    Calls Try.prog 41 #[.pointer (some ⟨b, o, none⟩), .int .i64 slot] w fun e w' => e = .returned (.bool (decide (0 ≤ slot) && decide (slot < es.length))) ∧ w' = w := by
  have k0 := (h.blk.cell o).trans h.c0
  obtain ⟨ao, cap, hv, _⟩ := h.shape
  rw [hv] at k0
  clear hv
  by_cases h1 : 0 ≤ slot
  · have HE : Hid ((decide (0 ≤ slot) && decide (slot < es.length)) = decide (slot < es.length)) := by simp [Hid, h1]
    go_enter Try.func41, Try.ntmps41
    go_wp2_with fail
    go_ret
    exact ⟨ret_bool (by rw [HE.out]), rfl⟩
  · have HE : Hid ((decide (0 ≤ slot) && decide (slot < es.length)) = false) := by simp [Hid]; omega
    go_enter Try.func41, Try.ntmps41
    go_wp2_with fail
    go_ret
    exact ⟨ret_bool (by rw [HE.out]), rfl⟩

/-- The slot of the entry of env and page. -/
def slotP (es : List Ent) (env page : Int) : Option Nat := es.findIdx? (entP env page)
def lfV (x : Option Nat) : Value := match x with
  | some f => .tuple #[.int .i64 f, .bool true]
  | none => .tuple #[.int .i64 0, .bool false]
theorem findIdx_hit {p : Ent → Bool} {q : Nat} {x : Ent} (hx : es[q]? = some x) (hno : ∀ i y, i < q → es[i]? = some y → p y = false) (hy : p x = true) : es.findIdx? p = some q := by
  obtain ⟨hq, he⟩ := List.getElem?_eq_some_iff.1 hx
  rw [List.findIdx?_eq_some_iff_getElem]
  refine ⟨hq, by rw [he]; exact hy, fun j hj => ?_⟩
  rw [hno j es[j] hj (by simp)]; simp
theorem findIdx_none {p : Ent → Bool} (hno : ∀ i y, i < es.length → es[i]? = some y → p y = false) : es.findIdx? p = none := by
  rw [List.findIdx?_eq_none_iff]
  intro x hx
  obtain ⟨i, hi, rfl⟩ := List.getElem_of_mem hx
  exact hno i es[i] hi (by simp)
theorem findIdx_get {p : Ent → Bool} {q : Nat} (h : es.findIdx? p = some q) : ∃ x, es[q]? = some x ∧ p x = true ∧ q < es.length ∧ ∀ i y, i < q → es[i]? = some y → p y = false := by
  obtain ⟨hq, h1, h2⟩ := List.findIdx?_eq_some_iff_getElem.1 h
  refine ⟨es[q], by simp, h1, hq, fun i y hi hy => ?_⟩
  obtain ⟨hi', rfl⟩ := List.getElem?_eq_some_iff.1 hy
  have := h2 i hi
  simpa using this

set_option maxHeartbeats 2000000 in
set_option maxRecDepth 100000 in
theorem slotOf_any (h : TableAt own t w b o T cs vT es tn) (hm : es.length ≤ 8) (env page : Int) :
    Calls Try.prog 74 #[.pointer (some ⟨b, o, none⟩), .int .i64 env, .int .i64 page] w fun e w' => e = .returned (lfV (slotP es env page)) ∧ Below w.heap.size w w' := by
  have k0 := (h.blk.cell o).trans h.c0
  obtain ⟨ao, cap, hv, hcase⟩ := h.shape
  rw [hv] at k0
  have Hv : Hid (vT = .slice ao es.length cap) := hv
  clear hv
  rcases hcase with h0 | ⟨g, rfl⟩
  all_goals
    go_enter Try.func74, Try.ntmps74
    go_wp2_with fail
    go_loopg [15] es.length (fun k x wr => ∃ q : Nat, x = .int .i64 q ∧ q + k = es.length ∧ (∀ i y, i < q → es[i]? = some y → entP env page y = false) ∧ Below w.heap.size w wr)
    case atStart => exact ⟨0, rfl, by omega, fun i y hi _ => by omega, Below.refl _ _⟩
    case round =>
      obtain ⟨q, rfl, hk, hno, hbl⟩ := hrel
      have HK : Hid (q + gk = es.length) := hk
      have HN : Hid (∀ i y, i < q → es[i]? = some y → entP env page y = false) := hno
      have hq : q ≤ es.length := by omega
      have hsz := hbl.size
      clear hk hno
      by_cases hlt : q < es.length
      · first
        | (exfalso; omega; done)
        | (obtain ⟨x, hx⟩ : ∃ x, es[q]? = some x := ⟨es[q], by simp⟩
           obtain ⟨c0, c1, c2, c3, c4⟩ := (h.below hbl).slotAt Hv.out hx
           have HX : Hid (es[q]? = some x) := hx
           have HNX : Hid (entP env page x = false → ∀ i y, i < q + 1 → es[i]? = some y → entP env page y = false) := fun hf i y hi hy => by
             rcases Nat.lt_or_ge i q with h1 | h1
             · exact HN.out i y h1 hy
             · obtain rfl : i = q := by omega
               rw [HX.out] at hy
               simp at hy
               subst hy
               exact hf
           clear hx
           rcases Bool.eq_false_or_eq_true x.used with hu | hu
           · rw [hu] at c0
             cases h1 : (x.env == env)
             · have HF : Hid (entP env page x = false) := by simp [Hid, entP, h1]
               go_wp2_with fail
               go_roundg (gk - 1)
               case measure => have := HK.out; omega
               case rel => exact ⟨q + 1, by go_num, by have := HK.out; omega, HNX.out HF.out, hbl.alloc hsz _⟩
             · cases h2 : (x.page == page)
               · have HF : Hid (entP env page x = false) := by simp [Hid, entP, h2]
                 go_wp2_with fail
                 go_roundg (gk - 1)
                 case measure => have := HK.out; omega
                 case rel => exact ⟨q + 1, by go_num, by have := HK.out; omega, HNX.out HF.out, hbl.alloc hsz _⟩
               · have HF : Hid (slotP es env page = some q) := findIdx_hit HX.out HN.out (by simp [entP, h1, h2, hu])
                 go_wp2_with fail
                 go_ret2
                 exact ⟨by rw [HF.out]; rfl, hbl.alloc hsz _⟩
           · rw [hu] at c0
             have HF : Hid (entP env page x = false) := by simp [Hid, entP, hu]
             go_wp2_with fail
             go_roundg (gk - 1)
             case measure => have := HK.out; omega
             case rel => exact ⟨q + 1, by go_num, by have := HK.out; omega, HNX.out HF.out, hbl.alloc hsz _⟩)
      · have HF : Hid (slotP es env page = none) := findIdx_none (fun i y hi => HN.out i y (by omega))
        go_wp2_with fail
        go_ret2
        exact ⟨by rw [HF.out]; rfl, hbl⟩

set_option maxHeartbeats 2000000 in
set_option maxRecDepth 100000 in
theorem firstEmpty_any (h : TableAt own t w b o T cs vT es tn) (hm : es.length ≤ 8) :
    Calls Try.prog 105 #[.pointer (some ⟨b, o, none⟩)] w fun e w' => e = .returned (lfV (es.findIdx? fun e => !e.used)) ∧ Below w.heap.size w w' := by
  have k0 := (h.blk.cell o).trans h.c0
  obtain ⟨ao, cap, hv, hcase⟩ := h.shape
  rw [hv] at k0
  have Hv : Hid (vT = .slice ao es.length cap) := hv
  clear hv
  rcases hcase with h0 | ⟨g, rfl⟩
  all_goals
    go_enter Try.func105, Try.ntmps105
    go_wp2_with fail
    go_loopg [11] es.length (fun k x wr => ∃ q : Nat, x = .int .i64 q ∧ q + k = es.length ∧ (∀ i y, i < q → es[i]? = some y → (!y.used) = false) ∧ Below w.heap.size w wr)
    case atStart => exact ⟨0, rfl, by omega, fun i y hi _ => by omega, Below.refl _ _⟩
    case round =>
      obtain ⟨q, rfl, hk, hno, hbl⟩ := hrel
      have HK : Hid (q + gk = es.length) := hk
      have HN : Hid (∀ i y, i < q → es[i]? = some y → (!y.used) = false) := hno
      have hq : q ≤ es.length := by omega
      have hsz := hbl.size
      clear hk hno
      by_cases hlt : q < es.length
      · first
        | (exfalso; omega; done)
        | (obtain ⟨x, hx⟩ : ∃ x, es[q]? = some x := ⟨es[q], by simp⟩
           obtain ⟨c0, c1, c2, c3, c4⟩ := (h.below hbl).slotAt Hv.out hx
           have HX : Hid (es[q]? = some x) := hx
           clear hx
           rcases Bool.eq_false_or_eq_true x.used with hu | hu
           · rw [hu] at c0
             have HU : Hid (x.used = true) := hu
             clear hu
             go_wp2_with fail
             go_roundg (gk - 1)
             case measure => have := HK.out; omega
             case rel => exact ⟨q + 1, by go_num, by have := HK.out; omega, fun i y hi hy => by
               rcases Nat.lt_or_ge i q with h1 | h1
               · exact HN.out i y h1 hy
               · obtain rfl : i = q := by omega
                 rw [HX.out] at hy
                 simp at hy
                 subst hy
                 rw [HU.out]; rfl, hbl.alloc hsz _⟩
           · rw [hu] at c0
             have HF : Hid ((es.findIdx? fun e => !e.used) = some q) := findIdx_hit HX.out HN.out (by simp [hu])
             go_wp2_with fail
             go_ret2
             exact ⟨by rw [HF.out]; rfl, hbl.alloc hsz _⟩)
      · have HF : Hid ((es.findIdx? fun e => !e.used) = none) := findIdx_none (fun i y hi => HN.out i y (by omega))
        go_wp2_with fail
        go_ret2
        exact ⟨by rw [HF.out]; rfl, hbl⟩

def nextT (es : List Ent) (tn : Int) : Int := if (es.length : Int) ≤ tn + 1 then 0 else tn + 1
set_option maxHeartbeats 2000000 in
set_option maxRecDepth 100000 in
theorem takeTurn_any (h : TableAt own t w b o T cs vT es tn) (hm : es.length ≤ 8) (h0 : 0 ≤ tn) (h1 : tn ≤ 8) :
    Calls Try.prog 106 #[.pointer (some ⟨b, o, none⟩)] w fun e w' => e = .returned (.int .i64 tn) ∧ TableAt own t w' b o T (cs.set (o + 1) (.int .i64 (nextT es tn))) vT es (nextT es tn) ∧ Touch w.heap.size (fun x => x = b) w w' := by
  have k0 := (h.blk.cell o).trans h.c0
  have k1 := (h.blk.cell (o + 1)).trans h.c1
  have f1 := h.blk.frozen (o + 1)
  obtain ⟨ao, cap, hv, _⟩ := h.shape
  have Hv : Hid (vT = .slice ao es.length cap) := hv
  rw [hv] at k0
  have hst : ∀ v, TableAt own t (w.setCell ⟨b, o + 1, none⟩ (.int .i64 v)) b o T (cs.set (o + 1) (.int .i64 v)) vT es v := fun v => by
    obtain ⟨ho1, _⟩ := List.getElem?_eq_some_iff.1 h.c1
    exact ⟨h.blk.set _ _, by rw [List.getElem?_set_ne (by omega)]; exact h.c0, by rw [List.getElem?_set_self ho1], h.row.other _ (fun e => h.ne (h.tag b e)), h.tag, h.ne⟩
  have hs1 := hst (tn + 1)
  obtain ⟨w1, hw1⟩ : ∃ w1, w.setCell ⟨b, o + 1, none⟩ (.int .i64 (tn + 1)) = w1 := ⟨_, rfl⟩
  have HW1 : Hid (w.setCell ⟨b, o + 1, none⟩ (.int .i64 (tn + 1)) = w1) := hw1
  have ht1 : Touch w.heap.size (fun x => x = b) w w1 := by rw [← hw1]; exact Touch.setCell (p := ⟨b, o + 1, none⟩) (S := fun x => x = b) (Touch.refl _ _ _) (.inl rfl) _
  rw [hw1] at hs1
  have d0 := (hs1.blk.cell o).trans hs1.c0
  have d1 := (hs1.blk.cell (o + 1)).trans hs1.c1
  have d2 := hs1.blk.frozen (o + 1)
  rw [hv] at d0
  clear hv hw1
  by_cases hc : (es.length : Int) ≤ tn + 1
  · have HN : Hid (nextT es tn = 0) := by simp [Hid, nextT, hc]
    have hcd : decide ((es.length : Int) ≤ tn + 1) = true := by simpa using hc
    have hs2 : TableAt own t (w1.setCell ⟨b, o + 1, none⟩ (.int .i64 0)) b o T (cs.set (o + 1) (.int .i64 0)) vT es 0 := by
      obtain ⟨ho1, _⟩ := List.getElem?_eq_some_iff.1 h.c1
      have e : cs.set (o + 1) (.int .i64 0) = (cs.set (o + 1) (.int .i64 (tn + 1))).set (o + 1) (.int .i64 0) := by rw [List.set_set]
      rw [e]
      exact ⟨hs1.blk.set _ _, by rw [List.getElem?_set_ne (by omega)]; exact hs1.c0, by rw [List.getElem?_set_self (by simpa using ho1)], hs1.row.other _ (fun e => h.ne (h.tag b e)), h.tag, h.ne⟩
    go_enter Try.func106, Try.ntmps106
    go_wp2_with fail
    rw [HW1.out]
    go_quiet (fail)
    go_wp2_with fail
    go_ret
    refine ⟨rfl, ?_, ?_⟩
    · rw [HN.out]
      exact hs2.below (below_drewN (Below.refl _ _) _)
    · exact (ht1.then_below (below_drewN (Below.refl _ _) _) ht1.size).setCell (.inl rfl) _
  · have HN : Hid (nextT es tn = tn + 1) := by simp [Hid, nextT, hc]
    have hcd : decide ((es.length : Int) ≤ tn + 1) = false := by simpa using hc
    go_enter Try.func106, Try.ntmps106
    go_wp2_with fail
    rw [HW1.out]
    go_quiet (fail)
    go_wp2_with fail
    go_ret
    exact ⟨rfl, by rw [HN.out]; exact hs1.below (below_drewN (Below.refl _ _) _), ht1.then_below (below_drewN (Below.refl _ _) _) ht1.size⟩
end
end Go.Proofs.Ytinlkcmdbjcofab
