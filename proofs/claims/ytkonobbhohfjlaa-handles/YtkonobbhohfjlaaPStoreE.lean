import Derived.Test.YtkonobbhohfjlaaPStoreD
namespace Go.Proofs.Ytkonobbhohfjlaa
open Go.RowKit
set_option linter.unusedVariables false

section
variable {own : Nat → Nat × Nat} {t : Nat × Nat} {w : World} {b o : Nat} {T : TypeId} {cs : List Value} {vL : Value} {hs : List PH} {last : Int}

theorem StoreNext.after {w1 w2 : World} {hs' : List PH} {last' : Int} (hb : Below w.heap.size w w1) (h : StoreNext own t w1 b o T cs vL w2 hs' last') : StoreNext own t w b o T cs vL w2 hs' last' := by
  obtain ⟨own', vL', h1, h2, h3⟩ := h
  exact ⟨own', vL', h1, fun x hx => h2 x (Nat.lt_of_lt_of_le hx hb.size), (Touch.of_below hb _).trans (h3.mono hb.size (fun _ _ h => h))⟩

set_option maxHeartbeats 2000000 in
set_option maxRecDepth 100000 in
theorem pfirst_any (h : StoreAt own t w b o T cs vL hs last) (hm : (hs.length + 1) * 48 ≤ 140737488355328) (hl0 : 0 ≤ last) (hl1 : last ≤ 4611686018427387904) (env fr : Int) :
    Calls Try.prog 82 #[.pointer (some ⟨b, o, none⟩), .int .i64 env, .int .i64 fr] w fun e w' => e = .returned (.int .i64 (last + 1)) ∧ StoreNext own t w b o T cs vL w' (addP hs last env fr true 0) (last + 1) := by
  go_enter Try.func82, Try.ntmps82
  go_wp2_with fail
  refine (add_any h hm hl0 hl1 0 env fr true 0).mono ?_
  rintro e w2 ⟨rfl, hn⟩
  go_wp2_with fail
  go_ret
  exact ⟨rfl, hn⟩

set_option maxHeartbeats 2000000 in
set_option maxRecDepth 100000 in
theorem psderive_any (h : StoreAt own t w b o T cs vL hs last) (hm : (hs.length + 1) * 48 ≤ 140737488355328) (hl0 : 0 ≤ last) (hl1 : last ≤ 4611686018427387904) (ph penv pfr : Int) (pwr : Bool) (env : Int) (wt : Bool) :
    Calls Try.prog 84 #[.pointer (some ⟨b, o, none⟩), .agg #[.int .i64 ph, .int .i64 penv, .int .i64 pfr, .bool pwr], .int .i64 env, .bool wt] w fun e w' => e = .returned (.int .i64 (last + 1)) ∧ StoreNext own t w b o T cs vL w' (addP hs last env pfr wt ph) (last + 1) := by
  have h' := h.below ((Below.refl _ _).alloc (Nat.le_refl _) (.cells #[.int .i64 ph, .int .i64 penv, .int .i64 pfr, .bool pwr] 64))
  go_enter Try.func84, Try.ntmps84
  go_wp2_with fail
  refine (add_any h' hm hl0 hl1 0 env pfr wt ph).mono ?_
  rintro e w2 ⟨rfl, hn⟩
  go_wp2_with fail
  go_ret
  exact ⟨rfl, hn.after ((Below.refl _ _).alloc (Nat.le_refl _) _)⟩

set_option maxHeartbeats 2000000 in
set_option maxRecDepth 100000 in
theorem end_any (h : StoreAt own t w b o T cs vL hs last) (hm : (hs.length + 1) * 48 ≤ 140737488355328) (hd : Int) :
    Calls Try.prog 85 #[.pointer (some ⟨b, o, none⟩), .int .i64 hd] w fun e w' => e = .returned (.tuple #[]) ∧ StoreNext own t w b o T cs vL w' (endAllP hs [hd]) last := by
  have h' := h.below ((Below.refl _ _).alloc (Nat.le_refl _) (.cells #[.int .i64 hd] 3))
  have hrow : Row (w.alloc (.cells #[.int .i64 hd] 3)) (.slice (some ⟨w.heap.size, 0, none⟩) 1 1) 3 1 1 ([hd].map (.int .i64)) := World.ownsRow_lit w _ 1 (by omega) (by simp [maxLen]) rfl
  go_enter Try.func85, Try.ntmps85
  go_wp2_with fail
  refine (endAll_any h' hm (.slice (some ⟨w.heap.size, 0, none⟩) 1 1) [hd] hrow (by simp)).mono ?_
  rintro e w2 ⟨rfl, hn⟩
  go_wp2_with fail
  go_end0
  exact ⟨rfl, hn.after ((Below.refl _ _).alloc (Nat.le_refl _) _)⟩

/-- The handles of those among the first q of which p holds. -/
def hdTo (hs : List PH) (p : PH → Bool) (q : Nat) : List Int := ((hs.take q).filter p).map PH.h
theorem hdTo_succ {hs : List PH} (p : PH → Bool) {q : Nat} {x : PH} (hx : hs[q]? = some x) : hdTo hs p (q + 1) = hdTo hs p q ++ if p x then [x.h] else [] := by
  unfold hdTo
  rw [take_filter_succ hx, List.map_append]
  cases p x <;> rfl
theorem hdTo_len (hs : List PH) (p : PH → Bool) (q : Nat) : (hdTo hs p q).length ≤ q := by
  unfold hdTo
  have := List.length_filter_le p (hs.take q)
  simp at this ⊢
  omega

set_option maxHeartbeats 4000000 in
set_option maxRecDepth 100000 in
theorem endDerived_any (h : StoreAt own t w b o T cs vL hs last) (hm : (hs.length + 1) * 48 ≤ 140737488355328) (key : Int) :
    Calls Try.prog 86 #[.pointer (some ⟨b, o, none⟩), .int .i64 key] w fun e w' => e = .returned (.tuple #[]) ∧ StoreNext own t w b o T cs vL w' (endAllP hs (hdTo hs (fun x => x.par == key) hs.length)) last := by
  obtain ⟨i1, gi, gz0, gz1, gz2⟩ := info_parts Try.infoInt
  have k0 := (h.blk.cell o).trans h.c0
  obtain ⟨ao, cap, hv, hcase⟩ := h.shape
  rw [hv] at k0
  have Hv : Hid (vL = .slice ao hs.length cap) := hv
  clear hv
  rcases hcase with h0 | ⟨g, rfl⟩
  all_goals
    go_enter Try.func86, Try.ntmps86
    go_wp2_with fail
    go_loopg [4, 12] hs.length (fun k v x wr => ∃ q : Nat, x = .int .i64 q ∧ q + k = hs.length ∧ Below w.heap.size w wr ∧ Row wr v 3 1 (hdTo hs (fun x => x.par == key) q).length ((hdTo hs (fun x => x.par == key) q).map (.int .i64)) ∧ ∀ x, v.ownBlock = some x → w.heap.size ≤ x)
    case atStart => exact ⟨0, rfl, by omega, Below.refl _ _, Row.nil _ _ _, by simp [Value.ownBlock]⟩
    case round =>
      obtain ⟨q, rfl, hk, hbl, hrow, hnew⟩ := hrel
      have HK : Hid (q + gk = hs.length) := hk
      have hq : q ≤ hs.length := by omega
      have hle := hdTo_len hs (fun x => x.par == key) q
      have hsz := hbl.size
      obtain ⟨ao5, cap5, hv5, _⟩ := hrow.shape
      subst hv5
      clear hk
      by_cases hlt : q < hs.length
      · first
        | (exfalso; omega; done)
        | (obtain ⟨x, hx⟩ : ∃ x, hs[q]? = some x := ⟨hs[q], by simp⟩
           obtain ⟨c0, c1, c2, c3, c4⟩ := (h.below hbl).heldAt Hv.out hx
           have HS : Hid (hdTo hs (fun x => x.par == key) (q + 1) = hdTo hs (fun x => x.par == key) q ++ if x.par == key then [x.h] else []) := hdTo_succ _ hx
           clear hx
           cases he : (x.par == key)
           · have HW : Hid (hdTo hs (fun x => x.par == key) (q + 1) = hdTo hs (fun x => x.par == key) q) := by have := HS.out; rw [he] at this; simpa [Hid] using this
             clear HS
             go_wp2_with fail
             go_roundg (gk - 1)
             case measure => have := HK.out; omega
             case rel => exact ⟨q + 1, by go_num, by have := HK.out; omega, hbl.alloc hsz _, by rw [HW.out]; exact hrow.alloc _, hnew⟩
           · have HW : Hid (hdTo hs (fun x => x.par == key) (q + 1) = hdTo hs (fun x => x.par == key) q ++ [x.h]) := by have := HS.out; rw [he] at this; simpa [Hid] using this
             have hR' := (hrow.alloc (.cells #[.int .i64 x.h, .int .i64 x.env, .int .i64 x.fr, .bool x.wr, .int .i64 x.par] 133)).alloc (.cells [.int .i64 x.h].toArray 3)
             have hN := Blk.at (wr.alloc (.cells #[.int .i64 x.h, .int .i64 x.env, .int .i64 x.fr, .bool x.wr, .int .i64 x.par] 133)) [Value.int .i64 x.h] 3 (wr.heap.size + 1) (by simp)
             clear HS hrow
             go_wp2_with (at_builtin; refine wpList_append_lies _ rfl (.tmp 20) (.tmp 24) 65 rfl 0 3 i1 _ 1 8 Try.underlying65 gi gz0 gz1 gz2 rfl (by decide) (.slice ao5 (hdTo hs (fun x => x.par == key) q).length cap5) (hdTo hs (fun x => x.par == key) q).length _ rfl hR' ⟨wr.heap.size + 1, 0, none⟩ 1 1 [.int .i64 x.h] rfl rfl ?c1 ?c2 (by omega) ?b1 ?b2 (by omega) (wr.heap.size + 2) (by simp) ?nx)
             case c1 => exact World.news_of_block hN
             case c2 => exact oneCell_int _
             case b1 => unfold maxLen; omega
             case b2 => omega
             case nx =>
               intro g1 cap1 w4 hown hgrow hat hlt1
               go_wp2
               go_roundg (gk - 1)
               case measure => have := HK.out; omega
               case rel =>
                 refine ⟨q + 1, by go_num, by have := HK.out; omega, ((hbl.alloc hsz (.cells #[.int .i64 x.h, .int .i64 x.env, .int .i64 x.fr, .bool x.wr, .int .i64 x.par] 133)).alloc (by simp; omega) (.cells [.int .i64 x.h].toArray 3)).grown hgrow (by simp; omega) hnew, ?_, ?_⟩
                 · rw [HW.out]
                   simp only [List.length_append, List.map_append, List.length_cons, List.length_nil, List.map_cons, List.map_nil]
                   exact hown
                 · intro x hb
                   simp [Value.ownBlock] at hb
                   subst hb
                   rcases hat with h | h
                   · exact hnew _ h
                   · omega)
      · have hqe : q = hs.length := by omega
        have HQ : Hid (hdTo hs (fun x => x.par == key) q = hdTo hs (fun x => x.par == key) hs.length) := by rw [hqe]; exact rfl
        clear hqe
        have h' := h.below hbl
        go_wp2_with fail
        refine (endAll_any h' hm _ _ hrow (by omega)).mono ?_
        rintro e w2 ⟨rfl, hn⟩
        go_wp2_with fail
        go_end0
        rw [← HQ.out]
        exact ⟨rfl, hn.after hbl⟩

set_option maxHeartbeats 4000000 in
set_option maxRecDepth 100000 in
theorem endOf_any (h : StoreAt own t w b o T cs vL hs last) (hm : (hs.length + 1) * 48 ≤ 140737488355328) (key : Int) :
    Calls Try.prog 88 #[.pointer (some ⟨b, o, none⟩), .int .i64 key] w fun e w' => e = .returned (.tuple #[]) ∧ StoreNext own t w b o T cs vL w' (endAllP hs (hdTo hs (fun x => x.env == key) hs.length)) last := by
  obtain ⟨i1, gi, gz0, gz1, gz2⟩ := info_parts Try.infoInt
  have k0 := (h.blk.cell o).trans h.c0
  obtain ⟨ao, cap, hv, hcase⟩ := h.shape
  rw [hv] at k0
  have Hv : Hid (vL = .slice ao hs.length cap) := hv
  clear hv
  rcases hcase with h0 | ⟨g, rfl⟩
  all_goals
    go_enter Try.func88, Try.ntmps88
    go_wp2_with fail
    go_loopg [4, 12] hs.length (fun k v x wr => ∃ q : Nat, x = .int .i64 q ∧ q + k = hs.length ∧ Below w.heap.size w wr ∧ Row wr v 3 1 (hdTo hs (fun x => x.env == key) q).length ((hdTo hs (fun x => x.env == key) q).map (.int .i64)) ∧ ∀ x, v.ownBlock = some x → w.heap.size ≤ x)
    case atStart => exact ⟨0, rfl, by omega, Below.refl _ _, Row.nil _ _ _, by simp [Value.ownBlock]⟩
    case round =>
      obtain ⟨q, rfl, hk, hbl, hrow, hnew⟩ := hrel
      have HK : Hid (q + gk = hs.length) := hk
      have hq : q ≤ hs.length := by omega
      have hle := hdTo_len hs (fun x => x.env == key) q
      have hsz := hbl.size
      obtain ⟨ao5, cap5, hv5, _⟩ := hrow.shape
      subst hv5
      clear hk
      by_cases hlt : q < hs.length
      · first
        | (exfalso; omega; done)
        | (obtain ⟨x, hx⟩ : ∃ x, hs[q]? = some x := ⟨hs[q], by simp⟩
           obtain ⟨c0, c1, c2, c3, c4⟩ := (h.below hbl).heldAt Hv.out hx
           have HS : Hid (hdTo hs (fun x => x.env == key) (q + 1) = hdTo hs (fun x => x.env == key) q ++ if x.env == key then [x.h] else []) := hdTo_succ _ hx
           clear hx
           cases he : (x.env == key)
           · have HW : Hid (hdTo hs (fun x => x.env == key) (q + 1) = hdTo hs (fun x => x.env == key) q) := by have := HS.out; rw [he] at this; simpa [Hid] using this
             clear HS
             go_wp2_with fail
             go_roundg (gk - 1)
             case measure => have := HK.out; omega
             case rel => exact ⟨q + 1, by go_num, by have := HK.out; omega, hbl.alloc hsz _, by rw [HW.out]; exact hrow.alloc _, hnew⟩
           · have HW : Hid (hdTo hs (fun x => x.env == key) (q + 1) = hdTo hs (fun x => x.env == key) q ++ [x.h]) := by have := HS.out; rw [he] at this; simpa [Hid] using this
             have hR' := (hrow.alloc (.cells #[.int .i64 x.h, .int .i64 x.env, .int .i64 x.fr, .bool x.wr, .int .i64 x.par] 133)).alloc (.cells [.int .i64 x.h].toArray 3)
             have hN := Blk.at (wr.alloc (.cells #[.int .i64 x.h, .int .i64 x.env, .int .i64 x.fr, .bool x.wr, .int .i64 x.par] 133)) [Value.int .i64 x.h] 3 (wr.heap.size + 1) (by simp)
             clear HS hrow
             go_wp2_with (at_builtin; refine wpList_append_lies _ rfl (.tmp 21) (.tmp 25) 65 rfl 0 3 i1 _ 1 8 Try.underlying65 gi gz0 gz1 gz2 rfl (by decide) (.slice ao5 (hdTo hs (fun x => x.env == key) q).length cap5) (hdTo hs (fun x => x.env == key) q).length _ rfl hR' ⟨wr.heap.size + 1, 0, none⟩ 1 1 [.int .i64 x.h] rfl rfl ?c1 ?c2 (by omega) ?b1 ?b2 (by omega) (wr.heap.size + 2) (by simp) ?nx)
             case c1 => exact World.news_of_block hN
             case c2 => exact oneCell_int _
             case b1 => unfold maxLen; omega
             case b2 => omega
             case nx =>
               intro g1 cap1 w4 hown hgrow hat hlt1
               go_wp2
               go_roundg (gk - 1)
               case measure => have := HK.out; omega
               case rel =>
                 refine ⟨q + 1, by go_num, by have := HK.out; omega, ((hbl.alloc hsz (.cells #[.int .i64 x.h, .int .i64 x.env, .int .i64 x.fr, .bool x.wr, .int .i64 x.par] 133)).alloc (by simp; omega) (.cells [.int .i64 x.h].toArray 3)).grown hgrow (by simp; omega) hnew, ?_, ?_⟩
                 · rw [HW.out]
                   simp only [List.length_append, List.map_append, List.length_cons, List.length_nil, List.map_cons, List.map_nil]
                   exact hown
                 · intro x hb
                   simp [Value.ownBlock] at hb
                   subst hb
                   rcases hat with h | h
                   · exact hnew _ h
                   · omega)
      · have hqe : q = hs.length := by omega
        have HQ : Hid (hdTo hs (fun x => x.env == key) q = hdTo hs (fun x => x.env == key) hs.length) := by rw [hqe]; exact rfl
        clear hqe
        have h' := h.below hbl
        go_wp2_with fail
        refine (endAll_any h' hm _ _ hrow (by omega)).mono ?_
        rintro e w2 ⟨rfl, hn⟩
        go_wp2_with fail
        go_end0
        rw [← HQ.out]
        exact ⟨rfl, hn.after hbl⟩
end
end Go.Proofs.Ytkonobbhohfjlaa
