import Derived.Test.YtkonobbhohfjlaaPStoreB
namespace Go.Proofs.Ytkonobbhohfjlaa
open Go.RowKit
set_option linter.unusedVariables false
attribute [local go_sem ↓] Go.wp_at_zero Go.wp_at_succ

theorem Try.infoHeld : (Try.prog.info? 133).map (fun i => (i.zero, i.size, i.bytes)) = some (some (.agg #[.int .i64 0, .int .i64 0, .int .i64 0, .bool false, .int .i64 0]), 5, 40) := by kernel_rfl
theorem Try.infoInt : (Try.prog.info? 3).map (fun i => (i.zero, i.size, i.bytes)) = some (some (.int .i64 0), 1, 8) := by kernel_rfl
theorem oneCell_ph (x : PH) : ∀ u ∈ x.cells, u.oneCell' = true := by
  intro u hu; simp [PH.cells] at hu; rcases hu with rfl | rfl | rfl | rfl | rfl <;> rfl
theorem oneCell_rc (x : PH) : ∀ u ∈ x.rc, u.oneCell' = true := by
  intro u hu; simp [PH.rc] at hu; rcases hu with rfl | rfl | rfl | rfl <;> rfl
theorem oneCell_int (n : Int) : ∀ u ∈ [Value.int .i64 n], u.oneCell' = true := by
  intro u hu; simp at hu; subst hu; rfl

section
variable {own : Nat → Nat × Nat} {t : Nat × Nat} {w : World} {b o : Nat} {T : TypeId} {cs : List Value} {vL : Value} {hs : List PH} {last : Int}

/-- The rights of env. -/
def ofP (hs : List PH) (env : Int) : List PH := hs.filter fun x => x.env == env

def ofTo (hs : List PH) (env : Int) (q : Nat) : List PH := (hs.take q).filter fun x => x.env == env

theorem take_filter_succ {hs : List PH} {p : PH → Bool} {q : Nat} {x : PH} (hx : hs[q]? = some x) : (hs.take (q + 1)).filter p = (hs.take q).filter p ++ if p x then [x] else [] := by
  obtain ⟨hq, he⟩ := List.getElem?_eq_some_iff.1 hx
  rw [List.take_succ_eq_append_getElem hq, List.filter_append, he]
  cases hp : p x <;> simp [hp]

set_option maxHeartbeats 4000000 in
set_option maxRecDepth 100000 in
theorem of_any (h : StoreAt own t w b o T cs vL hs last) (hm : (hs.length + 1) * 48 ≤ 140737488355328) (env : Int) :
    Calls Try.prog 41 #[.pointer (some ⟨b, o, none⟩), .int .i64 env] w fun e w' => ∃ v, e = .returned v ∧ Below w.heap.size w w' ∧ Row w' v 64 4 (ofP hs env).length ((ofP hs env).flatMap PH.rc) ∧ ∀ x, v.ownBlock = some x → w.heap.size ≤ x := by
  obtain ⟨i0, hi, hz0, hz1, hz2⟩ := info_parts Try.infoRt
  have k0 := (h.blk.cell o).trans h.c0
  obtain ⟨ao, cap, hv, hcase⟩ := h.shape
  rw [hv] at k0
  have Hv : Hid (vL = .slice ao hs.length cap) := hv
  clear hv
  rcases hcase with h0 | ⟨g, rfl⟩
  all_goals
    go_enter Try.func41, Try.ntmps41
    go_wp2_with fail
    go_loopg [5, 13] hs.length (fun k v x wr => ∃ q : Nat, x = .int .i64 q ∧ q + k = hs.length ∧ Below w.heap.size w wr ∧ Row wr v 64 4 (ofTo hs env q).length ((ofTo hs env q).flatMap PH.rc) ∧ ∀ x, v.ownBlock = some x → w.heap.size ≤ x)
    case atStart => exact ⟨0, rfl, by omega, Below.refl _ _, Row.nil _ _ _, by simp [Value.ownBlock]⟩
    case round =>
      obtain ⟨q, rfl, hk, hbl, hrow, hnew⟩ := hrel
      have HK : Hid (q + gk = hs.length) := hk
      have hq : q ≤ hs.length := by omega
      have hle : (ofTo hs env q).length ≤ q := by unfold ofTo; have := List.length_filter_le (fun x : PH => x.env == env) (hs.take q); simp at this; omega
      have hsz := hbl.size
      obtain ⟨ao5, cap5, hv5, _⟩ := hrow.shape
      subst hv5
      clear hk
      by_cases hlt : q < hs.length
      · first
        | (exfalso; omega; done)
        | (obtain ⟨x, hx⟩ : ∃ x, hs[q]? = some x := ⟨hs[q], by simp⟩
           obtain ⟨c0, c1, c2, c3, c4⟩ := (h.below hbl).heldAt Hv.out hx
           have HS : Hid (ofTo hs env (q + 1) = ofTo hs env q ++ if x.env == env then [x] else []) := take_filter_succ hx
           clear hx
           cases he : (x.env == env)
           · have HW : Hid (ofTo hs env (q + 1) = ofTo hs env q) := by have := HS.out; rw [he] at this; simpa [Hid] using this
             clear HS
             go_wp2_with fail
             go_roundg (gk - 1)
             case measure => have := HK.out; omega
             case rel => exact ⟨q + 1, by go_num, by have := HK.out; omega, hbl.alloc hsz _, by rw [HW.out]; exact hrow.alloc _, hnew⟩
           · have HW : Hid (ofTo hs env (q + 1) = ofTo hs env q ++ [x]) := by have := HS.out; rw [he] at this; simpa [Hid] using this
             have hR' := (hrow.alloc (.cells x.cells.toArray 133)).alloc (.cells x.rc.toArray 64)
             clear HS hrow
             go_wp2_with (at_builtin; refine wpList_append_lies _ rfl (.tmp 22) (.tmp 25) 58 rfl 0 64 i0 _ 4 32 Try.underlying58 hi hz0 hz1 hz2 rfl (by decide) (.slice ao5 (ofTo hs env q).length cap5) (ofTo hs env q).length _ rfl hR' ⟨wr.heap.size + 1, 0, none⟩ 1 1 x.rc rfl rfl ?c1 ?c2 (by omega) ?b1 ?b2 (by omega) (wr.heap.size + 2) (by simp) ?nx)
             case c1 => exact World.news_of_block (B := wr.heap.size + 1) (cs := x.rc.toArray) (t := 64) (fr := (0, 0)) (Blk.at _ _ _ _ (by simp))
             case c2 => exact oneCell_rc _
             case b1 => unfold maxLen; omega
             case b2 => omega
             case nx =>
               intro g1 cap1 w4 hown hgrow hat hlt1
               go_wp2
               go_roundg (gk - 1)
               case measure => have := HK.out; omega
               case rel =>
                 refine ⟨q + 1, by go_num, by have := HK.out; omega, ((hbl.alloc hsz _).alloc (by simp; omega) _).grown hgrow (by simp; omega) hnew, ?_, ?_⟩
                 · rw [HW.out]
                   simp only [List.length_append, List.flatMap_append, List.length_cons, List.length_nil, List.flatMap_cons, List.flatMap_nil, List.append_nil]
                   exact hown
                 · intro x hb
                   simp [Value.ownBlock] at hb
                   subst hb
                   rcases hat with h | h
                   · exact hnew _ h
                   · omega)
      · have hqe : q = hs.length := by omega
        have HW : Hid (ofTo hs env q = ofP hs env) := by rw [hqe]; simp [Hid, ofP, ofTo]
        clear hqe
        go_wp2_with fail
        go_ret
        exact ⟨_, rfl, hbl, by rw [← HW.out]; exact hrow, hnew⟩

/-- A right more. -/
def addP (hs : List PH) (last : Int) (env fr : Int) (wt : Bool) (par : Int) : List PH := hs ++ [⟨last + 1, env, fr, wt, par⟩]

/-- What a call that turns the store leaves. -/
def StoreNext (own : Nat → Nat × Nat) (t : Nat × Nat) (w : World) (b o : Nat) (T : TypeId) (cs : List Value) (vL : Value) (w' : World) (hs' : List PH) (last' : Int) : Prop :=
  ∃ (own' : Nat → Nat × Nat) (vL' : Value), StoreAt own' t w' b o T ((cs.set o vL').set (o + 1) (.int .i64 last')) vL' hs' last' ∧ (∀ x, x < w.heap.size → own' x = own x) ∧ Touch w.heap.size (fun x => x = b ∨ vL.ownBlock = some x) w w'

theorem add_end {W0 w4 : World} {g1 cap1 : Nat} {vL0 : Value} {x : PH} {last' : Int} {o1 : Obj} (h : StoreAt own t w b o T cs vL hs last) (Hv : vL = vL0) (hblk2 : Blk W0 b (cs.set (o + 1) (.int .i64 last')) T) (ht2 : Touch w.heap.size (fun x => x = b ∨ vL.ownBlock = some x) w W0)
    (hown : w4.ownsRow 0 133 5 (.slice (some ⟨g1, 0, none⟩) (hs.length + 1) cap1) (hs.length + 1) (hs.flatMap PH.cells ++ x.cells)) (hgrow : (W0.alloc o1).drew.grownBy w4 vL0.ownBlock) (hat : vL0.ownBlock = some g1 ∨ g1 = W0.heap.size + 1)
    (hw4 : Blk w4 b (cs.set (o + 1) (.int .i64 last')) T) : StoreNext own t w b o T cs vL (w4.setCell ⟨b, o, none⟩ (.slice (some ⟨g1, 0, none⟩) (hs.length + 1) cap1)) (hs ++ [x]) last' := by
  subst Hv
  have hs0 := ht2.size
  have hblt := h.blk.lt
  obtain ⟨ho0, _⟩ := List.getElem?_eq_some_iff.1 h.c0
  obtain ⟨ho1, _⟩ := List.getElem?_eq_some_iff.1 h.c1
  refine ⟨set1 own (W0.heap.size + 1) t, .slice (some ⟨g1, 0, none⟩) (hs.length + 1) cap1, ⟨?_, ?_, ?_, ?_, ?_, ?_⟩, set1_old (by omega), ?_⟩
  · have := hw4.set o (.slice (some ⟨g1, 0, none⟩) (hs.length + 1) cap1)
    rwa [List.set_comm _ _ (by omega)] at this
  · rw [List.getElem?_set_ne (by omega), List.getElem?_set_self ho0]
  · rw [List.getElem?_set_self (by simpa using ho1)]
  · refine Row.other ?_ _ (fun e => ?_)
    · show w4.ownsRow 0 _ _ _ _ _
      simpa using hown
    · simp [Value.ownBlock] at e
      rcases hat with h1 | h1
      · exact h.ne (h.tag b (by rw [h1, e]))
      · omega
  · exact h.tag.app (fun x hx => by have := h.row.lt x hx; omega) hat
  · rw [set1_old (n := w.heap.size) (by omega) b hblt]; exact h.ne
  · exact (((ht2.alloc (by omega) _).drew.grown hgrow (by show w.heap.size ≤ (W0.alloc o1).heap.size; simp; omega) (fun k hk => .inl (.inr hk))).setCell (.inl (.inl rfl)) _)

set_option maxHeartbeats 4000000 in
set_option maxRecDepth 100000 in
theorem add_any (h : StoreAt own t w b o T cs vL hs last) (hm : (hs.length + 1) * 48 ≤ 140737488355328) (hl0 : 0 ≤ last) (hl1 : last ≤ 4611686018427387904) (x0 env fr : Int) (wt : Bool) (par : Int) :
    Calls Try.prog 105 #[.pointer (some ⟨b, o, none⟩), .agg #[.int .i64 x0, .int .i64 env, .int .i64 fr, .bool wt], .int .i64 par] w fun e w' => e = .returned (.int .i64 (last + 1)) ∧ StoreNext own t w b o T cs vL w' (addP hs last env fr wt par) (last + 1) := by
  obtain ⟨i0, hi, hz0, hz1, hz2⟩ := info_parts Try.infoHeld
  have k0 := (h.blk.cell o).trans h.c0
  have k1 := (h.blk.cell (o + 1)).trans h.c1
  have f0 := h.blk.frozen o
  have f1 := h.blk.frozen (o + 1)
  have hblt := h.blk.lt
  obtain ⟨ao, cap, hv, _⟩ := h.shape
  rw [hv] at k0
  have Hv : Hid (vL = .slice ao hs.length cap) := hv
  clear hv
  go_enter Try.func105, Try.ntmps105
  go_wp2_with fail
  have hrow2 : Row ((w.setCell ⟨b, o + 1, none⟩ (.int .i64 (last + 1))).alloc (.cells #[.int .i64 (last + 1), .int .i64 env, .int .i64 fr, .bool wt] 64)) (.slice ao hs.length cap) 133 5 hs.length (hs.flatMap PH.cells) := by
    rw [← Hv.out]
    exact (h.row.other _ (fun e => h.ne (h.tag b e))).alloc _
  have hblk2 : Blk ((w.setCell ⟨b, o + 1, none⟩ (.int .i64 (last + 1))).alloc (.cells #[.int .i64 (last + 1), .int .i64 env, .int .i64 fr, .bool wt] 64)) b (cs.set (o + 1) (.int .i64 (last + 1))) T := (h.blk.set _ _).alloc _
  have hne2 : (Value.slice ao hs.length cap).ownBlock ≠ some b := by rw [← Hv.out]; exact fun e => h.ne (h.tag b e)
  have hlt2 : ∀ x, (Value.slice ao hs.length cap).ownBlock = some x → x < w.heap.size := by rw [← Hv.out]; exact h.row.lt
  have htg2 : Tg own (.slice ao hs.length cap) t := by rw [← Hv.out]; exact h.tag
  have ht2 : Touch w.heap.size (fun x => x = b ∨ vL.ownBlock = some x) w ((w.setCell ⟨b, o + 1, none⟩ (.int .i64 (last + 1))).alloc (.cells #[.int .i64 (last + 1), .int .i64 env, .int .i64 fr, .bool wt] 64)) := ((Touch.refl _ _ _).setCell (.inl (.inl rfl)) _).alloc (by simp) _
  have hbox := Blk.at (w.setCell ⟨b, o + 1, none⟩ (.int .i64 (last + 1))) [.int .i64 (last + 1), .int .i64 env, .int .i64 fr, .bool wt] 64 w.heap.size (by simp)
  have hsz2 : ((w.setCell ⟨b, o + 1, none⟩ (.int .i64 (last + 1))).alloc (.cells #[.int .i64 (last + 1), .int .i64 env, .int .i64 fr, .bool wt] 64)).heap.size = w.heap.size + 1 := by simp
  obtain ⟨W0, hW0⟩ : ∃ W0, (w.setCell ⟨b, o + 1, none⟩ (.int .i64 (last + 1))).alloc (.cells #[.int .i64 (last + 1), .int .i64 env, .int .i64 fr, .bool wt] 64) = W0 := ⟨_, rfl⟩
  have hbox0 : Blk ((w.setCell ⟨b, o + 1, none⟩ (.int .i64 (last + 1))).alloc (.cells #[.int .i64 (last + 1), .int .i64 env, .int .i64 fr, .bool wt] 64)) w.heap.size [.int .i64 (last + 1), .int .i64 env, .int .i64 fr, .bool wt] 64 := hbox
  rw [hW0] at hrow2 hblk2 ht2 hsz2 hbox0 ⊢
  clear hbox hW0
  have c0 : W0.cell? ⟨b, o, none⟩ = some (.slice ao hs.length cap) := by rw [hblk2.cell o, List.getElem?_set_ne (by omega), h.c0, Hv.out]
  have d0 := hbox0.cell 0
  have d1 := hbox0.cell 1
  have d2 := hbox0.cell 2
  have d3 := hbox0.cell 3
  simp at d0 d1 d2 d3
  have e0 := hblk2.frozen o
  have hR3 := (hrow2.alloc (.cells (PH.cells ⟨last + 1, env, fr, wt, par⟩).toArray 133)).drew
  have hN3 := (Blk.new W0 (PH.cells ⟨last + 1, env, fr, wt, par⟩) 133).drew
  have hbW : b < W0.heap.size := by omega
  have hxW : w.heap.size < W0.heap.size := by omega
  have Hsz2 : Hid (W0.heap.size = w.heap.size + 1) := hsz2
  clear k0 k1 f0 f1 hsz2
  go_region_law
    ((refine step_append_lies _ (by rfl) (.tmp 23) (.tmp 27) 76 (by rfl) 0 133 i0 _ 5 40 Try.underlying76 hi hz0 hz1 hz2 rfl (by decide) (.slice ao hs.length cap) hs.length _ (by rfl) hR3 ⟨W0.heap.size, 0, none⟩ 1 1 (PH.cells ⟨last + 1, env, fr, wt, par⟩) (by rfl) rfl (World.news_of_block hN3) (oneCell_ph _) (by omega) (by unfold maxLen; omega) (by omega) (by omega) (W0.heap.size + 1) (by simp) ?_
      intro g1 cap1 w4 hown hgrow hat hlt
      have hw4 := (hblk2.alloc (.cells (PH.cells ⟨last + 1, env, fr, wt, par⟩).toArray 133)).drew.grown hgrow hne2
      have u0 := (hw4.cell o)
      rw [List.getElem?_set_ne (by omega), h.c0, Hv.out] at u0
      have u1 := hw4.frozen o
      have hx4 := (hbox0.alloc (.cells (PH.cells ⟨last + 1, env, fr, wt, par⟩).toArray 133)).drew.grown hgrow (fun e => by have := hlt2 _ e; omega)
      have v0 := hx4.cell 0
      simp at v0))
  all_goals
    go_wp2
    go_ret
    exact ⟨rfl, add_end h Hv.out hblk2 ht2 hown hgrow hat hw4⟩
end
end Go.Proofs.Ytkonobbhohfjlaa
