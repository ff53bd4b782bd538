import Derived.Test.YtinlkcmdbjcofabM05
namespace Go.Proofs.Ytinlkcmdbjcofab
open Go.RowKit
set_option linter.unusedVariables false
attribute [local go_sem ↓] Go.wp_at_zero Go.wp_at_succ

/-- The entry of env and page. -/
def findT (es : List Ent) (env page : Int) : Option Ent := es.find? (entP env page)
def entV (e : Ent) : Value := .agg #[.bool e.used, .int .i64 e.env, .int .i64 e.page, .int .i64 e.fr, .bool e.wr]
def findTV (x : Option Ent) : Value := match x with
  | some e => .tuple #[.agg #[.bool e.used, .int .i64 e.env, .int .i64 e.page, .int .i64 e.fr, .bool e.wr], .bool true]
  | none => .tuple #[.agg #[.bool false, .int .i64 0, .int .i64 0, .int .i64 0, .bool false], .bool false]
theorem findT_none {es : List Ent} {env page : Int} (hno : ∀ i y, i < es.length → es[i]? = some y → entP env page y = false) : findT es env page = none := by
  unfold findT
  rw [List.find?_eq_none]
  intro x hx
  obtain ⟨i, hi, rfl⟩ := List.getElem_of_mem hx
  rw [hno i es[i] hi (by simp)]; simp
theorem findT_hit {es : List Ent} {env page : Int} {q : Nat} {x : Ent} (hx : es[q]? = some x) (hno : ∀ i y, i < q → es[i]? = some y → entP env page y = false) (hy : entP env page x = true) : findT es env page = some x := by
  obtain ⟨hq, he⟩ := List.getElem?_eq_some_iff.1 hx
  unfold findT
  rw [List.find?_eq_some_iff_append]
  refine ⟨hy, es.take q, es.drop (q + 1), ?_, ?_⟩
  · conv => lhs; rw [← List.take_append_drop q es, List.drop_eq_getElem_cons hq, he]
  · intro y hy'
    obtain ⟨i, hi, rfl⟩ := List.getElem_of_mem hy'
    rw [List.length_take] at hi
    rw [List.getElem_take]
    rw [hno i _ (by omega) (List.getElem?_eq_getElem (by omega))]; rfl

section
variable {own : Nat → Nat × Nat} {t : Nat × Nat} {w : World} {b o : Nat} {T : TypeId} {cs : List Value} {vT : Value} {es : List Ent} {tn : Int}

theorem findT_slot (es : List Ent) (env page : Int) : findT es env page = (slotP es env page).bind fun i => es[i]? := by
  unfold slotP
  cases h : es.findIdx? (entP env page) with
  | none =>
    have := List.findIdx?_eq_none_iff.1 h
    simp only [Option.bind_none]
    unfold findT
    rw [List.find?_eq_none]
    intro x hx
    simp [this x hx]
  | some q =>
    obtain ⟨x, hx, hp, hq, hno⟩ := findIdx_get h
    simp only [Option.bind_some]
    rw [hx]
    exact findT_hit hx hno hp

set_option maxHeartbeats 2000000 in
set_option maxRecDepth 100000 in
theorem tfind_any (h : TableAt own t w b o T cs vT es tn) (hm : es.length ≤ 8) (env page : Int) :
    Calls Try.prog 44 #[.pointer (some ⟨b, o, none⟩), .int .i64 env, .int .i64 page] w fun e w' => e = .returned (findTV (findT es env page)) ∧ Below w.heap.size w w' := by
  have hba : Below w.heap.size w (w.alloc (.cells #[.bool false, .int .i64 0, .int .i64 0, .int .i64 0, .bool false] 80)) := (Below.refl _ _).alloc (Nat.le_refl _) _
  have h1 := h.below hba
  have hbx := Blk.new w [.bool false, .int .i64 0, .int .i64 0, .int .i64 0, .bool false] 80
  have hf := findT_slot es env page
  cases hs : slotP es env page with
  | none =>
    rw [hs] at hf
    have HF : Hid (findT es env page = none) := hf
    have HS : Hid (slotP es env page = none) := hs
    clear hf hs
    go_enter Try.func44, Try.ntmps44
    go_wp2_with fail
    refine (slotOf_any h1 hm env page).mono ?_
    rintro e w2 ⟨rfl, hb2⟩
    rw [HS.out]
    simp only [lfV]
    have hrb := hbx.below hb2 (by simp)
    have hrl := hrb.lt
    have r0 := hrb.cell 0
    have r1 := hrb.cell 1
    have r2 := hrb.cell 2
    have r3 := hrb.cell 3
    have r4 := hrb.cell 4
    simp at r0 r1 r2 r3 r4
    have s0 := hrb.frozen 0
    have s1 := hrb.frozen 1
    have s2 := hrb.frozen 2
    have s3 := hrb.frozen 3
    have s4 := hrb.frozen 4
    have hbl : Below w.heap.size w w2 := hba.trans (hb2.mono (by simp))
    go_wp2_with fail
    exact bodyPost_ret (v := .tuple #[.agg #[.bool false, .int .i64 0, .int .i64 0, .int .i64 0, .bool false], .bool false]) (by simp [results, Try.results44, go_sem, r0, r1, r2, r3, r4]) rfl ⟨by rw [HF.out]; rfl, ((((hbl.setCell (by simp) _).setCell (by simp) _).setCell (by simp) _).setCell (by simp) _).setCell (by simp) _⟩
  | some q =>
    obtain ⟨x, hx, hp, hq, hno⟩ := findIdx_get hs
    rw [hs] at hf
    simp only [Option.bind_some] at hf
    rw [hx] at hf
    have HF : Hid (findT es env page = some x) := hf
    have HS : Hid (slotP es env page = some q) := hs
    clear hf hs hno
    go_enter Try.func44, Try.ntmps44
    go_wp2_with fail
    refine (slotOf_any h1 hm env page).mono ?_
    rintro e w2 ⟨rfl, hb2⟩
    rw [HS.out]
    simp only [lfV]
    have hrb := hbx.below hb2 (by simp)
    have hrl := hrb.lt
    have r0 := hrb.cell 0
    have r1 := hrb.cell 1
    have r2 := hrb.cell 2
    have r3 := hrb.cell 3
    have r4 := hrb.cell 4
    simp at r0 r1 r2 r3 r4
    have s0 := hrb.frozen 0
    have s1 := hrb.frozen 1
    have s2 := hrb.frozen 2
    have s3 := hrb.frozen 3
    have s4 := hrb.frozen 4
    have hbl : Below w.heap.size w w2 := hba.trans (hb2.mono (by simp))
    have h2 := h1.below hb2
    have k0 := (h2.blk.cell o).trans h2.c0
    obtain ⟨ao, cap, hv, hcase⟩ := h2.shape
    obtain ⟨g, rfl⟩ : ∃ g, ao = some ⟨g, 0, none⟩ := by
      rcases hcase with h0 | h0
      · omega
      · exact h0
    obtain ⟨c0, c1, c2, c3, c4⟩ := h2.slotAt hv hx
    rw [hv] at k0
    have hql : (q : Int) < (es.length : Int) := by omega
    clear hv hx hcase
    go_wp2_with fail
    exact bodyPost_ret (v := .tuple #[.agg #[.bool x.used, .int .i64 x.env, .int .i64 x.page, .int .i64 x.fr, .bool x.wr], .bool true]) (by simp [results, Try.results44, go_sem, r0, r1, r2, r3, r4]) rfl ⟨by rw [HF.out]; rfl, ((((hbl.setCell (by simp) _).setCell (by simp) _).setCell (by simp) _).setCell (by simp) _).setCell (by simp) _⟩

set_option maxHeartbeats 4000000 in
set_option maxRecDepth 100000 in
theorem tlist_any (h : TableAt own t w b o T cs vT es tn) (hm : es.length ≤ 8) :
    Calls Try.prog 77 #[.pointer (some ⟨b, o, none⟩)] w fun e w' => ∃ v, e = .returned v ∧ Below w.heap.size w w' ∧ (∀ x, v.ownBlock = some x → w.heap.size ≤ x) ∧ Row w' v 80 5 es.length (es.flatMap Ent.cells) := by
  obtain ⟨i0, hi, hz0, hz1, hz2⟩ := info_parts Try.infoEnt
  have k0 := (h.blk.cell o).trans h.c0
  obtain ⟨ao, cap, hv, hcase⟩ := h.shape
  rw [hv] at k0
  have Hv : Hid (vT = .slice ao es.length cap) := hv
  clear hv
  rcases hcase with h0 | ⟨g, rfl⟩
  all_goals
    go_enter Try.func77, Try.ntmps77
    go_wp2_with fail
    go_loopg [3, 11] es.length (fun k v x wr => ∃ q : Nat, x = .int .i64 q ∧ q + k = es.length ∧ Below w.heap.size w wr ∧ Row wr v 80 5 (es.take q).length ((es.take q).flatMap Ent.cells) ∧ ∀ x, v.ownBlock = some x → w.heap.size ≤ x)
    case atStart => exact ⟨0, rfl, by omega, Below.refl _ _, Row.nil _ _ _, by simp [Value.ownBlock]⟩
    case round =>
      obtain ⟨q, rfl, hk, hbl, hrow, hnew⟩ := hrel
      have HK : Hid (q + gk = es.length) := hk
      have hq : q ≤ es.length := by omega
      have hle : (es.take q).length = q := by simp; omega
      have hsz := hbl.size
      obtain ⟨ao5, cap5, hv5, _⟩ := hrow.shape
      subst hv5
      rw [hle] at hrow
      rw [hle] at hnew
      rw [hle]
      clear hk hle
      by_cases hlt : q < es.length
      · first
        | (exfalso; omega; done)
        | (obtain ⟨x, hx⟩ : ∃ x, es[q]? = some x := ⟨es[q], by simp⟩
           obtain ⟨c0, c1, c2, c3, c4⟩ := (h.below hbl).slotAt Hv.out hx
           have HW : Hid (es.take (q + 1) = es.take q ++ [x]) := by
             obtain ⟨hq', he⟩ := List.getElem?_eq_some_iff.1 hx
             unfold Hid
             rw [List.take_succ_eq_append_getElem hq', he]
           have hR' := (hrow.alloc (.cells x.cells.toArray 80)).alloc (.cells x.cells.toArray 80)
           clear hx hrow
           go_wp2_with (at_builtin; refine wpList_append_lies _ rfl (.tmp 15) (.tmp 17) 71 rfl 0 80 i0 _ 5 40 Try.underlying71 hi hz0 hz1 hz2 rfl (by decide) (.slice ao5 q cap5) q _ rfl hR' ⟨wr.heap.size + 1, 0, none⟩ 1 1 x.cells rfl rfl ?c1 ?c2 (by omega) ?b1 ?b2 (by omega) (wr.heap.size + 2) (by simp) ?nx)
           case c1 => exact World.news_of_block (B := wr.heap.size + 1) (cs := x.cells.toArray) (t := 80) (fr := (0, 0)) (Blk.at _ _ _ _ (by simp))
           case c2 => exact oneCell_ent _
           case b1 => unfold maxLen; omega
           case b2 => omega
           case nx =>
             intro g1 cap1 w4 hown hgrow hat hlt1
             go_wp2
             go_roundg (gk - 1)
             case measure => have := HK.out; omega
             case rel =>
               refine ⟨q + 1, by go_num, by have := HK.out; omega, ((hbl.alloc hsz _).alloc (by simp; omega) _).grown hgrow (by simp; omega) hnew, ?_, ?_⟩
               · rw [HW.out]
                 simp only [List.length_append, List.flatMap_append, List.length_cons, List.length_nil, List.flatMap_cons, List.flatMap_nil, List.append_nil]
                 have hl2 : (es.take q).length = q := by simp; omega
                 rw [hl2]
                 exact hown
               · intro x hb
                 simp [Value.ownBlock] at hb
                 subst hb
                 rcases hat with h | h
                 · exact hnew _ h
                 · omega)
      · obtain rfl : q = es.length := by omega
        rw [List.take_length] at hrow
        go_wp2_with fail
        go_ret
        exact ⟨_, rfl, hbl, hnew, hrow⟩

/-- What Remove leaves. -/
def remP (es : List Ent) (env page : Int) : List Ent := match slotP es env page with
  | none => es
  | some i => es.set i Ent.empty
theorem remP_len (es : List Ent) (env page : Int) : (remP es env page).length = es.length := by
  unfold remP; split <;> simp

set_option maxHeartbeats 4000000 in
set_option maxRecDepth 100000 in
theorem tremove_any (h : TableAt own t w b o T cs vT es tn) (hm : es.length ≤ 8) (env page : Int) :
    Calls Try.prog 60 #[.pointer (some ⟨b, o, none⟩), .int .i64 env, .int .i64 page] w fun e w' => e = .returned (.tuple #[]) ∧ TableAt own t w' b o T cs vT (remP es env page) tn ∧ Touch w.heap.size (fun x => vT.ownBlock = some x) w w' := by
  cases hs : slotP es env page with
  | none =>
    have HS : Hid (slotP es env page = none) := hs
    have HR : Hid (remP es env page = es) := by simp [Hid, remP, hs]
    clear hs
    go_enter Try.func60, Try.ntmps60
    go_wp2_with fail
    refine (slotOf_any h hm env page).mono ?_
    rintro e w2 ⟨rfl, hb2⟩
    rw [HS.out]
    simp only [lfV]
    go_wp2_with fail
    go_end0
    exact ⟨rfl, by rw [HR.out]; exact h.below hb2, Touch.of_below hb2 _⟩
  | some q =>
    obtain ⟨x, hx, hp, hq, hno⟩ := findIdx_get hs
    have HS : Hid (slotP es env page = some q) := hs
    have HR : Hid (remP es env page = es.set q Ent.empty) := by simp [Hid, remP, hs]
    clear hs hno
    go_enter Try.func60, Try.ntmps60
    go_wp2_with fail
    refine (slotOf_any h hm env page).mono ?_
    rintro e w2 ⟨rfl, hb2⟩
    rw [HS.out]
    simp only [lfV]
    have h2 := h.below hb2
    have k0 := (h2.blk.cell o).trans h2.c0
    obtain ⟨ao, cap, hv, hcase⟩ := h2.shape
    obtain ⟨g, rfl⟩ : ∃ g, ao = some ⟨g, 0, none⟩ := by
      rcases hcase with h0 | h0
      · omega
      · exact h0
    obtain ⟨c0, c1, c2, c3, c4⟩ := h2.slotAt hv hx
    have z0 := h2.frozenAt hv (q * 5)
    have z1 := h2.frozenAt hv (q * 5 + 1)
    have z2 := h2.frozenAt hv (q * 5 + 2)
    have z3 := h2.frozenAt hv (q * 5 + 3)
    have z4 := h2.frozenAt hv (q * 5 + 4)
    have hst := h2.put hv q hq Ent.empty
    have hin : vT.ownBlock = some g := by rw [hv]; rfl
    rw [hv] at k0
    have hql : (q : Int) < (es.length : Int) := by omega
    clear hv hx hcase
    go_wp2_with fail
    go_end0
    exact ⟨rfl, by rw [HR.out]; exact hst, (((((Touch.of_below hb2 _).setCell (.inl hin) _).setCell (.inl hin) _).setCell (.inl hin) _).setCell (.inl hin) _).setCell (.inl hin) _⟩
end
end Go.Proofs.Ytinlkcmdbjcofab

namespace Go.Proofs.Ytinlkcmdbjcofab
open Go.RowKit
set_option linter.unusedVariables false
attribute [local go_sem ↓] Go.wp_at_zero Go.wp_at_succ

def backP (env fr : Int) (wt : Bool) (x : PH) : Bool := x.env == env && (x.fr == fr && (x.wr || !wt))
/-- Is a right of env to a frame alive, by which one may write if that is asked? -/
def backsP (hs : List PH) (env fr : Int) (wt : Bool) : Bool := hs.any (backP env fr wt)

section
variable {own : Nat → Nat × Nat} {t : Nat × Nat} {w : World} {b o : Nat} {T : TypeId} {cs : List Value} {vL : Value} {hs : List PH} {last : Int}

set_option maxHeartbeats 4000000 in
set_option maxRecDepth 100000 in
theorem backs_any (h : StoreAt own t w b o T cs vL hs last) (hm : hs.length ≤ 4611686018427387904) (env fr : Int) (wt : Bool) :
    Calls Try.prog 78 #[.pointer (some ⟨b, o, none⟩), .int .i64 env, .int .i64 fr, .bool wt] w fun e w' => e = .returned (.bool (backsP hs env fr wt)) ∧ Below w.heap.size w w' := by
  have k0 := (h.blk.cell o).trans h.c0
  obtain ⟨ao, cap, hv, hcase⟩ := h.shape
  rw [hv] at k0
  have Hv : Hid (vL = .slice ao hs.length cap) := hv
  clear hv
  rcases hcase with h0 | ⟨g, rfl⟩
  all_goals
    go_enter Try.func78, Try.ntmps78
    go_wp2_with fail
    go_loopg [16] hs.length (fun k x wr => ∃ q : Nat, x = .int .i64 q ∧ q + k = hs.length ∧ (∀ i y, i < q → hs[i]? = some y → backP env fr wt y = false) ∧ Below w.heap.size w wr)
    case atStart => exact ⟨0, rfl, by omega, fun i y hi _ => by omega, Below.refl _ _⟩
    case round =>
      obtain ⟨q, rfl, hk, hno, hbl⟩ := hrel
      have HK : Hid (q + gk = hs.length) := hk
      have HN : Hid (∀ i y, i < q → hs[i]? = some y → backP env fr wt y = false) := hno
      have hq : q ≤ hs.length := by omega
      have hsz := hbl.size
      clear hk hno
      by_cases hlt : q < hs.length
      · first
        | (exfalso; omega; done)
        | (obtain ⟨x, hx⟩ : ∃ x, hs[q]? = some x := ⟨hs[q], by simp⟩
           obtain ⟨c0, c1, c2, c3, c4⟩ := (h.below hbl).heldAt Hv.out hx
           have HX : Hid (hs[q]? = some x) := hx
           have HNX : Hid (backP env fr wt x = false → ∀ i y, i < q + 1 → hs[i]? = some y → backP env fr wt y = false) := fun hf i y hi hy => by
             rcases Nat.lt_or_ge i q with h1 | h1
             · exact HN.out i y h1 hy
             · obtain rfl : i = q := by omega
               rw [HX.out] at hy
               simp at hy
               subst hy
               exact hf
           have HY : Hid (backP env fr wt x = true → backsP hs env fr wt = true) := fun hp => by
             unfold backsP
             rw [List.any_eq_true]
             exact ⟨x, List.mem_of_getElem? HX.out, hp⟩
           clear hx
           cases h1 : (x.env == env)
           · have HF : Hid (backP env fr wt x = false) := by simp [Hid, backP, h1]
             go_wp2_with fail
             go_roundg (gk - 1)
             case measure => have := HK.out; omega
             case rel => exact ⟨q + 1, by go_num, by have := HK.out; omega, HNX.out HF.out, hbl.alloc hsz _⟩
           · cases h2 : (x.fr == fr)
             · have HF : Hid (backP env fr wt x = false) := by simp [Hid, backP, h2]
               go_wp2_with fail
               go_roundg (gk - 1)
               case measure => have := HK.out; omega
               case rel => exact ⟨q + 1, by go_num, by have := HK.out; omega, HNX.out HF.out, hbl.alloc hsz _⟩
             · rcases Bool.eq_false_or_eq_true x.wr with h3 | h3
               · have HF : Hid (backP env fr wt x = true) := by simp [Hid, backP, h1, h2, h3]
                 rw [h3] at c3
                 go_wp2_with fail
                 go_ret
                 exact ⟨ret_bool (HY.out HF.out).symm, hbl.alloc hsz _⟩
               · rw [h3] at c3
                 rcases Bool.eq_false_or_eq_true wt with rfl | rfl
                 · have HF : Hid (backP env fr true x = false) := by simp [Hid, backP, h3]
                   go_wp2_with fail
                   go_roundg (gk - 1)
                   case measure => have := HK.out; omega
                   case rel => exact ⟨q + 1, by go_num, by have := HK.out; omega, HNX.out HF.out, hbl.alloc hsz _⟩
                 · have HF : Hid (backP env fr false x = true) := by simp [Hid, backP, h1, h2]
                   go_wp2_with fail
                   go_ret
                   exact ⟨ret_bool (HY.out HF.out).symm, hbl.alloc hsz _⟩)
      · go_wp2_with fail
        go_ret
        exact ⟨ret_bool (by
          unfold backsP
          rw [eq_comm, List.any_eq_false]
          intro x hx
          obtain ⟨i, hi, rfl⟩ := List.getElem_of_mem hx
          rw [HN.out i hs[i] (by omega) (by simp)]; simp), hbl⟩
end

section
variable {own : Nat → Nat × Nat} {t : Nat × Nat} {w : World} {b o : Nat} {T : TypeId} {cs : List Value} {vT : Value} {es : List Ent} {tn : Int}

/-- What Put leaves. -/
def putP (es : List Ent) (slot : Nat) (x : Ent) : List Ent := (remP es x.env x.page).set slot x

set_option maxHeartbeats 4000000 in
set_option maxRecDepth 100000 in
theorem tput_any (h : TableAt own t w b o T cs vT es tn) (hm : es.length ≤ 8) (slot : Nat) (hs : slot < es.length) (u : Bool) (a c d : Int) (wt : Bool) :
    Calls Try.prog 42 #[.pointer (some ⟨b, o, none⟩), .int .i64 slot, .agg #[.bool u, .int .i64 a, .int .i64 c, .int .i64 d, .bool wt]] w fun e w' => e = .returned (.tuple #[]) ∧ TableAt own t w' b o T cs vT (putP es slot ⟨u, a, c, d, wt⟩) tn ∧ Touch w.heap.size (fun x => vT.ownBlock = some x) w w' := by
  have hd : (decide (0 ≤ (slot : Int)) && decide ((slot : Int) < es.length)) = true := by simp; omega
  have hba : Below w.heap.size w (w.alloc (.cells #[.bool u, .int .i64 a, .int .i64 c, .int .i64 d, .bool wt] 80)) := (Below.refl _ _).alloc (Nat.le_refl _) _
  have h1 := h.below hba
  have hbx := Blk.new w [.bool u, .int .i64 a, .int .i64 c, .int .i64 d, .bool wt] 80
  have hvlt := h.row.lt
  go_enter Try.func42, Try.ntmps42
  go_wp2_with fail
  refine (thas_any h1 hm slot).mono ?_
  rintro e w2 ⟨rfl, hw2⟩
  subst hw2
  rw [hd]
  have hl2 : w.heap.size < (w.alloc (.cells #[.bool u, .int .i64 a, .int .i64 c, .int .i64 d, .bool wt] 80)).heap.size := by simp
  go_wp2_with fail
  refine (tremove_any h1 hm a c).mono ?_
  rintro e w3 ⟨rfl, h3, ht3⟩
  obtain ⟨ao, cap, hv, hcase⟩ := h3.shape
  obtain ⟨g, rfl⟩ : ∃ g, ao = some ⟨g, 0, none⟩ := by
    rcases hcase with h0 | h0
    · rw [remP_len] at h0; omega
    · exact h0
  have hb3 := hbx.of (ht3.block _ hl2 (fun e => by have := hvlt _ e; omega))
  have v0 := hb3.cell 0
  have v1 := hb3.cell 1
  have v2 := hb3.cell 2
  have v3 := hb3.cell 3
  have v4 := hb3.cell 4
  simp at v0 v1 v2 v3 v4
  have k0 := (h3.blk.cell o).trans h3.c0
  have hst := h3.put hv slot (by rw [remP_len]; exact hs) ⟨u, a, c, d, wt⟩
  have hx : ∃ x, (remP es a c)[slot]? = some x := ⟨_, List.getElem?_eq_getElem (by rw [remP_len]; exact hs)⟩
  obtain ⟨x, hx⟩ := hx
  obtain ⟨c0, c1, c2, c3, c4⟩ := h3.slotAt hv hx
  have z0 := h3.frozenAt hv (slot * 5)
  have z1 := h3.frozenAt hv (slot * 5 + 1)
  have z2 := h3.frozenAt hv (slot * 5 + 2)
  have z3 := h3.frozenAt hv (slot * 5 + 3)
  have z4 := h3.frozenAt hv (slot * 5 + 4)
  have hin : vT.ownBlock = some g := by rw [hv]; rfl
  rw [hv, remP_len] at k0
  have hq1 : (slot : Int) < (es.length : Int) := by omega
  have HT : Hid (Touch w.heap.size (fun x => vT.ownBlock = some x) w w3) := (Touch.of_below hba _).trans (ht3.mono (Nat.le_of_lt hl2) (fun _ _ h => h))
  have hgt : own g = t := h3.tag g hin
  have n1 : b ≠ g := fun e => h3.ne (by rw [e]; exact hgt)
  have n2 : g ≠ b := fun e => n1 e.symm
  have hglt := hvlt g hin
  have n3 : w.heap.size ≠ g := by omega
  have n4 : g ≠ w.heap.size := by omega
  have hgl3 := h3.row.lt g hin
  clear hv hx hcase
  go_wp2_with fail
  go_region_held3 (fun w' => w'.cell? ⟨b, o, none⟩ = some (.slice (some ⟨g, 0, none⟩) es.length cap) ∧ w'.cell? ⟨w.heap.size, 0, none⟩ = some (.bool u) ∧ w'.cell? ⟨w.heap.size, 1, none⟩ = some (.int .i64 a) ∧ w'.cell? ⟨w.heap.size, 2, none⟩ = some (.int .i64 c) ∧ w'.cell? ⟨w.heap.size, 3, none⟩ = some (.int .i64 d) ∧ w'.cell? ⟨w.heap.size, 4, none⟩ = some (.bool wt)) (go_keep) (fail)
  go_wp2_with fail
  go_end0
  exact ⟨rfl, hst.below (Below.refl _ _).drew, (((((HT.out.setCell (.inl hin) _).setCell (.inl hin) _).setCell (.inl hin) _).setCell (.inl hin) _).setCell (.inl hin) _).drew⟩
end
end Go.Proofs.Ytinlkcmdbjcofab

/-
  The program's table: an entry is refilled.
-/
namespace Go.Proofs.Ytinlkcmdbjcofab
open Go.RowKit
set_option linter.unusedVariables false
attribute [local go_sem ↓] Go.wp_at_zero Go.wp_at_succ

section
variable {own : Nat → Nat × Nat} {t : Nat × Nat} {w : World} {b o : Nat} {T : TypeId} {cs : List Value} {vT : Value} {es : List Ent} {tn : Int}

/-- Where Refill lays an entry, and whose turn it is then. -/
def refQ (es : List Ent) (tn : Int) (x : Ent) : Nat × Int := match slotP es x.env x.page with
  | some i => (i, tn)
  | none => match es.findIdx? (fun e => !e.used) with
    | some j => (j, tn)
    | none => (tn.toNat, nextT es tn)
/-- What Refill leaves. -/
def refP (es : List Ent) (tn : Int) (x : Ent) : List Ent := putP es (refQ es tn x).1 x

set_option maxHeartbeats 4000000 in
set_option maxRecDepth 100000 in
theorem refill_any (h : TableAt own t w b o T cs vT es tn) (hm : es.length ≤ 8) (h0 : 0 ≤ tn) (h1 : tn < es.length) (u : Bool) (a c d : Int) (wt : Bool) :
    Calls Try.prog 100 #[.pointer (some ⟨b, o, none⟩), .agg #[.bool u, .int .i64 a, .int .i64 c, .int .i64 d, .bool wt]] w fun e w' => e = .returned (.tuple #[]) ∧
      TableAt own t w' b o T (cs.set (o + 1) (.int .i64 (refQ es tn ⟨u, a, c, d, wt⟩).2)) vT (refP es tn ⟨u, a, c, d, wt⟩) (refQ es tn ⟨u, a, c, d, wt⟩).2 ∧ Touch w.heap.size (fun x => x = b ∨ vT.ownBlock = some x) w w' := by
  have hba : Below w.heap.size w (w.alloc (.cells #[.bool u, .int .i64 a, .int .i64 c, .int .i64 d, .bool wt] 80)) := (Below.refl _ _).alloc (Nat.le_refl _) _
  have h2 := h.below hba
  have hbx := Blk.new w [.bool u, .int .i64 a, .int .i64 c, .int .i64 d, .bool wt] 80
  have hblt := h.blk.lt
  have hvlt := h.row.lt
  cases hs : slotP es a c with
  | some i =>
    have hi : i < es.length := (findIdx_get hs).choose_spec.2.2.1
    have HQ : Hid (refQ es tn ⟨u, a, c, d, wt⟩ = (i, tn)) := by simp [Hid, refQ, hs]
    have HS : Hid (slotP es a c = some i) := hs
    clear hs
    go_enter Try.func100, Try.ntmps100
    go_wp2_with fail
    refine (slotOf_any h2 hm a c).mono ?_
    rintro e w2 ⟨rfl, hb2⟩
    rw [HS.out]
    simp only [lfV]
    have h3 := h2.below hb2
    have hb3 := hbx.below hb2 (by simp)
    have v0 := hb3.cell 0
    have v1 := hb3.cell 1
    have v2 := hb3.cell 2
    have v3 := hb3.cell 3
    have v4 := hb3.cell 4
    simp at v0 v1 v2 v3 v4
    go_wp2_with fail
    refine (tput_any h3 hm i hi u a c d wt).mono ?_
    rintro e w3 ⟨rfl, h4, ht4⟩
    go_wp2_with fail
    go_end0
    refine ⟨rfl, ?_, (Touch.of_below (hba.trans (hb2.mono (by simp))) _).trans (ht4.mono (Nat.le_of_lt hb3.lt |> fun _ => (hba.trans (hb2.mono (by simp))).size) (fun _ _ h => .inr h))⟩
    unfold refP
    rw [HQ.out]
    simp only
    rw [set_same h.c1]
    exact h4
  | none =>
    cases hf : es.findIdx? (fun e => !e.used) with
    | some j =>
      have hj : j < es.length := (findIdx_get hf).choose_spec.2.2.1
      have HQ : Hid (refQ es tn ⟨u, a, c, d, wt⟩ = (j, tn)) := by simp [Hid, refQ, hs, hf]
      have HS : Hid (slotP es a c = none) := hs
      have HF : Hid (es.findIdx? (fun e => !e.used) = some j) := hf
      clear hs hf
      go_enter Try.func100, Try.ntmps100
      go_wp2_with fail
      refine (slotOf_any h2 hm a c).mono ?_
      rintro e w2 ⟨rfl, hb2⟩
      rw [HS.out]
      simp only [lfV]
      have h3 := h2.below hb2
      have hb3 := hbx.below hb2 (by simp)
      go_wp2_with fail
      refine (firstEmpty_any h3 hm).mono ?_
      rintro e w3 ⟨rfl, hb4⟩
      rw [HF.out]
      simp only [lfV]
      have h4 := h3.below hb4
      have hb5 := hb3.below hb4 hb3.lt
      have v0 := hb5.cell 0
      have v1 := hb5.cell 1
      have v2 := hb5.cell 2
      have v3 := hb5.cell 3
      have v4 := hb5.cell 4
      simp at v0 v1 v2 v3 v4
      have hbw : Below w.heap.size w w3 := (hba.trans (hb2.mono (by simp))).trans (hb4.mono (hba.trans (hb2.mono (by simp))).size)
      go_wp2_with fail
      refine (tput_any h4 hm j hj u a c d wt).mono ?_
      rintro e w4 ⟨rfl, h5, ht5⟩
      go_wp2_with fail
      go_end0
      refine ⟨rfl, ?_, (Touch.of_below hbw _).trans (ht5.mono hbw.size (fun _ _ h => .inr h))⟩
      unfold refP
      rw [HQ.out]
      simp only
      rw [set_same h.c1]
      exact h5
    | none =>
      obtain ⟨k, rfl⟩ := Int.eq_ofNat_of_zero_le h0
      have hk : k < es.length := by omega
      have HQ : Hid (refQ es k ⟨u, a, c, d, wt⟩ = (k, nextT es k)) := by simp [Hid, refQ, hs, hf]
      have HS : Hid (slotP es a c = none) := hs
      have HF : Hid (es.findIdx? (fun e => !e.used) = none) := hf
      clear hs hf
      go_enter Try.func100, Try.ntmps100
      go_wp2_with fail
      refine (slotOf_any h2 hm a c).mono ?_
      rintro e w2 ⟨rfl, hb2⟩
      rw [HS.out]
      simp only [lfV]
      have h3 := h2.below hb2
      have hb3 := hbx.below hb2 (by simp)
      go_wp2_with fail
      refine (firstEmpty_any h3 hm).mono ?_
      rintro e w3 ⟨rfl, hb4⟩
      rw [HF.out]
      simp only [lfV]
      have h4 := h3.below hb4
      have hb5 := hb3.below hb4 hb3.lt
      have hbw : Below w.heap.size w w3 := (hba.trans (hb2.mono (by simp))).trans (hb4.mono (hba.trans (hb2.mono (by simp))).size)
      go_wp2_with fail
      refine (takeTurn_any h4 hm (by omega) (by omega)).mono ?_
      rintro e w4 ⟨rfl, h5, ht5⟩
      have hb6 := hb5.of (ht5.block _ hb5.lt (by omega))
      have v0 := hb6.cell 0
      have v1 := hb6.cell 1
      have v2 := hb6.cell 2
      have v3 := hb6.cell 3
      have v4 := hb6.cell 4
      simp at v0 v1 v2 v3 v4
      go_wp2_with fail
      refine (tput_any h5 hm k hk u a c d wt).mono ?_
      rintro e w5 ⟨rfl, h6, ht6⟩
      go_wp2_with fail
      go_end0
      refine ⟨rfl, ?_, ((Touch.of_below hbw _).trans (ht5.mono hbw.size (fun _ _ h => .inl h))).trans (ht6.mono (Nat.le_trans hbw.size ht5.size) (fun _ _ h => .inr h))⟩
      unfold refP
      rw [HQ.out]
      exact h6
end
end Go.Proofs.Ytinlkcmdbjcofab

/-
  The pages that are in, by their last access: how that order turns.
-/
namespace Go.Proofs.Ytinlkcmdbjcofab
open Go.RowKit
set_option linter.unusedVariables false

/-- What going through L meets anew, acc being met. -/
def newMet (inp : List Int) : List Int → List Int → List Int
  | _, [] => []
  | acc, x :: L => if x ∈ inp ∧ x ∉ acc then x :: newMet inp (acc ++ [x]) L else newMet inp acc L
theorem newMet_cons (inp acc : List Int) (x : Int) (L : List Int) : newMet inp acc (x :: L) = if x ∈ inp ∧ x ∉ acc then x :: newMet inp (acc ++ [x]) L else newMet inp acc L := rfl
theorem met_new (k : KSt) : ∀ (L acc : List Int), L.foldl (metStep k) acc = acc ++ newMet k.inp acc L := by
  intro L
  induction L with
  | nil => intro acc; simp [newMet]
  | cons x L ih =>
    intro acc
    rw [List.foldl_cons, ih]
    rw [newMet_cons]
    unfold metStep
    by_cases h1 : x ∈ k.inp
    · by_cases h2 : x ∈ acc
      · rw [if_neg (by rw [hasK_iff.2 h1, anyI_iff.2 h2]; simp), if_neg (fun h => h.2 h2)]
      · have e : anyI acc x = false := by
          cases hx : anyI acc x with
          | false => rfl
          | true => exact absurd (anyI_iff.1 hx) h2
        rw [if_pos (by rw [hasK_iff.2 h1, e]; rfl), if_pos ⟨h1, h2⟩]
        simp
    · have e : hasK k x = false := by
        cases hx : hasK k x with
        | false => rfl
        | true => exact absurd (hasK_iff.1 hx) h1
      rw [if_neg (by rw [e]; simp), if_neg (fun h => h1 h.1)]
/-- The order of the last accesses, the latest first. -/
def ordK (k : KSt) : List Int := newMet k.inp [] (k.uses.reverse.map Prod.fst)
theorem metFrom_ord (k : KSt) : metFrom k 0 = ordK k := by
  unfold metFrom ordK
  rw [List.drop_zero, met_new]
  simp

theorem newMet_acc (inp : List Int) (y : Int) : ∀ (L acc acc' : List Int), (∀ x, x ∈ acc' ↔ x ∈ acc ∨ x = y) → newMet inp acc' L = (newMet inp acc L).filter (fun x => !(x == y)) := by
  intro L
  induction L with
  | nil => intro acc acc' _; rfl
  | cons x L ih =>
    intro acc acc' h
    rw [newMet_cons inp acc', newMet_cons inp acc]
    by_cases h1 : x ∈ inp
    · by_cases hy : x = y
      · subst hy
        rw [if_neg (fun hh => hh.2 ((h x).2 (.inr rfl)))]
        by_cases h2 : x ∈ acc
        · rw [if_neg (fun hh => hh.2 h2)]
          exact ih acc acc' h
        · rw [if_pos ⟨h1, h2⟩, List.filter_cons]
          simp only [beq_self_eq_true, Bool.not_true, Bool.false_eq_true, if_false]
          exact ih (acc ++ [x]) acc' (fun z => by rw [h z]; simp)
      · by_cases h2 : x ∈ acc
        · rw [if_neg (fun hh => hh.2 ((h x).2 (.inl h2))), if_neg (fun hh => hh.2 h2)]
          exact ih acc acc' h
        · rw [if_pos ⟨h1, fun hh => ((h x).1 hh).elim h2 hy⟩, if_pos ⟨h1, h2⟩, List.filter_cons]
          have e : (!(x == y)) = true := by simpa using hy
          rw [e]
          simp only [if_true]
          rw [ih (acc ++ [x]) (acc' ++ [x]) (fun z => by simp only [List.mem_append, List.mem_singleton, h z]; constructor <;> intro hh <;> rcases hh with (hh | hh) | hh <;> simp [hh])]
    · rw [if_neg (fun hh => h1 hh.1), if_neg (fun hh => h1 hh.1)]
      exact ih acc acc' h
theorem newMet_out (inp : List Int) (p : Int) : ∀ (L acc acc' : List Int), (∀ x, x ≠ p → (x ∈ acc' ↔ x ∈ acc)) → newMet (inp.filter (fun x => !(x == p))) acc' L = (newMet inp acc L).filter (fun x => !(x == p)) := by
  intro L
  induction L with
  | nil => intro acc acc' _; rfl
  | cons x L ih =>
    intro acc acc' h
    rw [newMet_cons _ acc', newMet_cons inp acc]
    by_cases hy : x = p
    · subst hy
      rw [if_neg (fun hh => by have := List.mem_filter.1 hh.1; simp at this)]
      by_cases h2 : x ∈ inp ∧ x ∉ acc
      · rw [if_pos h2, List.filter_cons]
        simp only [beq_self_eq_true, Bool.not_true, Bool.false_eq_true, if_false]
        exact ih (acc ++ [x]) acc' (fun z hz => by rw [h z hz]; simp [hz])
      · rw [if_neg h2]
        exact ih acc acc' h
    · have e : (!(x == p)) = true := by simpa using hy
      by_cases h2 : x ∈ inp ∧ x ∉ acc
      · rw [if_pos ⟨List.mem_filter.2 ⟨h2.1, e⟩, fun hh => h2.2 ((h x hy).1 hh)⟩, if_pos h2, List.filter_cons, e]
        simp only [if_true]
        rw [ih (acc ++ [x]) (acc' ++ [x]) (fun z hz => by simp only [List.mem_append, h z hz])]
      · rw [if_neg (fun hh => h2 ⟨(List.mem_filter.1 hh.1).1, fun h3 => hh.2 ((h x hy).2 h3)⟩), if_neg h2]
        exact ih acc acc' h
theorem newMet_in (inp : List Int) (p : Int) (hp : p ∉ inp) : ∀ (L acc acc' : List Int), (∀ x, x ≠ p → (x ∈ acc' ↔ x ∈ acc)) → p ∈ acc' → newMet (inp ++ [p]) acc' L = newMet inp acc L := by
  intro L
  induction L with
  | nil => intro acc acc' _ _; rfl
  | cons x L ih =>
    intro acc acc' h hm
    rw [newMet_cons _ acc', newMet_cons inp acc]
    by_cases hy : x = p
    · subst hy
      rw [if_neg (fun hh => hh.2 hm), if_neg (fun hh => hp hh.1)]
      exact ih acc acc' h hm
    · by_cases h2 : x ∈ inp ∧ x ∉ acc
      · rw [if_pos ⟨by simp [h2.1], fun hh => h2.2 ((h x hy).1 hh)⟩, if_pos h2]
        rw [ih (acc ++ [x]) (acc' ++ [x]) (fun z hz => by simp only [List.mem_append, h z hz]) (by simp [hm])]
      · rw [if_neg (fun hh => h2 ⟨by have := hh.1; simp at this; rcases this with h3 | h3; exact h3; exact absurd h3 hy, fun h3 => hh.2 ((h x hy).2 h3)⟩), if_neg h2]
        exact ih acc acc' h hm

/-- An access to a page that is in. -/
theorem ord_touch {k k' : KSt} {p : Nat} {wt : Bool} (hi : k'.inp = k.inp) (hu : k'.uses = k.uses ++ [((p : Int), wt)]) (hp : (p : Int) ∈ k.inp) : ordK k' = (p : Int) :: (ordK k).filter (fun x => !(x == (p : Int))) := by
  unfold ordK
  rw [hi, hu, List.reverse_append, List.reverse_singleton, List.singleton_append, List.map_cons]
  show newMet k.inp [] ((p : Int) :: _) = _
  rw [newMet_cons]
  rw [if_pos ⟨hp, by simp⟩]
  congr 1
  exact newMet_acc k.inp p _ [] ([] ++ [(p : Int)]) (fun x => by simp)
/-- A page goes out. -/
theorem ord_leave (k : KSt) (p : Nat) : ordK (leaveK k p) = (ordK k).filter (fun x => !(x == (p : Int))) := by
  unfold ordK
  show newMet (k.inp.filter (fun x => !(x == (p : Int)))) [] _ = _
  exact newMet_out k.inp p _ [] [] (fun _ _ => Iff.rfl)
/-- A page comes in, by an access to it. -/
theorem ord_in {k k' : KSt} {p : Nat} {wt : Bool} (hi : k'.inp = k.inp ++ [(p : Int)]) (hu : k'.uses = k.uses ++ [((p : Int), wt)]) (hp : (p : Int) ∉ k.inp) : ordK k' = (p : Int) :: ordK k := by
  unfold ordK
  rw [hi, hu, List.reverse_append, List.reverse_singleton, List.singleton_append, List.map_cons]
  show newMet (k.inp ++ [(p : Int)]) [] ((p : Int) :: _) = _
  rw [newMet_cons]
  rw [if_pos ⟨by simp, by simp⟩]
  congr 1
  exact newMet_in k.inp p hp _ [] ([] ++ [(p : Int)]) (fun x hx => by simp [hx]) (by simp)
/-- The page that goes out. -/
theorem pick_ord (k : KSt) : pickK k = if k.policy == 0 then (k.inp[0]?).getD 0 else if k.policy == 2 then ((ordK k)[0]?).getD 0 else ((ordK k)[(ordK k).length - 1]?).getD 0 := by
  unfold pickK
  rw [metFrom_ord]
end Go.Proofs.Ytinlkcmdbjcofab

/-
  A kept memory of the program, as plain data, beside the document's: which page goes out; a page goes out, comes in, is accessed.
-/
namespace Go.Proofs.Ytinlkcmdbjcofab
open Go.RowKit
set_option linter.unusedVariables false

/-- What the program knows of a page. -/
structure PG where
  frame : Int
  chg : Bool
  dty : Bool
  sto : Bool
  out : List Int
structure PK where
  quota : Int
  policy : Int
  pages : List PG
  inl : List Int
  refills : Int
  ins : Int
  outs : Int
def PK.new (quota policy : Int) : PK := ⟨quota, policy, List.replicate 16 ⟨0, false, false, false, [0, 0, 0, 0]⟩, [], 0, 0, 0⟩

def inOrd (k : KSt) : List Int := if k.policy == 0 then k.inp else (ordK k).reverse
def pageB (k : KSt) (p : Nat) : List Int := (k.bytes.drop (4 * p)).take 4

/-- The program's memory pk stands for k; fb: what the frames hold; l: the pages that are in, in the program's order. -/
structure KSim (s : RSt) (k : KSt) (pk : PK) (fb : List (List Int)) (l : List Int) : Prop where
  qt : pk.quota = k.quota
  po : pk.policy = k.policy
  cr : pk.refills = k.refills
  ci : pk.ins = k.ins
  co : pk.outs = k.outs
  np : pk.pages.length = 16
  inl : pk.inl = l
  pg : ∀ (p : Nat) (g : PG), pk.pages[p]? = some g → g.dty = dtyB k p ∧ g.sto = (k.out[p]?).getD false ∧ g.out.length = 4 ∧
    ((p : Int) ∈ k.inp → g.frame = frameOf s k p ∧ g.chg = chgB k p ∧ fb[g.frame.toNat]? = some (pageB k p)) ∧ ((p : Int) ∉ k.inp ∨ chgB k p = false → g.out = pageB k p)

theorem newMet_mem (inp : List Int) (p : Int) : ∀ (L acc : List Int), p ∈ newMet inp acc L ↔ p ∈ L ∧ p ∈ inp ∧ p ∉ acc := by
  intro L
  induction L with
  | nil => intro acc; simp [newMet]
  | cons x L ih =>
    intro acc
    rw [newMet_cons]
    by_cases h : x ∈ inp ∧ x ∉ acc
    · rw [if_pos h]
      simp only [List.mem_cons, ih, List.mem_append, List.not_mem_nil, or_false]
      constructor
      · rintro (rfl | ⟨h1, h2, h3⟩)
        · exact ⟨.inl rfl, h.1, h.2⟩
        · exact ⟨.inr h1, h2, fun h4 => h3 (.inl h4)⟩
      · rintro ⟨rfl | h1, h2, h3⟩
        · exact .inl rfl
        · by_cases e : p = x
          · exact .inl e
          · exact .inr ⟨h1, h2, fun h4 => h4.elim h3 e⟩
    · rw [if_neg h, ih]
      simp only [List.mem_cons]
      constructor
      · rintro ⟨h1, h2, h3⟩; exact ⟨.inr h1, h2, h3⟩
      · rintro ⟨rfl | h1, h2, h3⟩
        · exact absurd ⟨h2, h3⟩ h
        · exact ⟨h1, h2, h3⟩
theorem ord_mem {k : KSt} {p : Int} (hmet : ∀ p, p ∈ k.inp → ∃ u, u ∈ k.uses ∧ u.1 = p) : p ∈ ordK k ↔ p ∈ k.inp := by
  unfold ordK
  rw [newMet_mem]
  simp only [List.mem_map, List.mem_reverse, List.not_mem_nil, not_false_eq_true, and_true]
  constructor
  · rintro ⟨_, h⟩; exact h
  · intro h; exact ⟨hmet p h, h⟩
theorem inOrd_mem {k : KSt} {p : Int} (hmet : ∀ p, p ∈ k.inp → ∃ u, u ∈ k.uses ∧ u.1 = p) : p ∈ inOrd k ↔ p ∈ k.inp := by
  unfold inOrd
  split
  · exact Iff.rfl
  · rw [List.mem_reverse]; exact ord_mem hmet
theorem newMet_nodup (inp : List Int) : ∀ (L acc : List Int), (newMet inp acc L).Nodup := by
  intro L
  induction L with
  | nil => intro acc; simp [newMet]
  | cons x L ih =>
    intro acc
    rw [newMet_cons]
    by_cases h : x ∈ inp ∧ x ∉ acc
    · rw [if_pos h, List.nodup_cons]
      exact ⟨fun hm => by have := ((newMet_mem inp x L _).1 hm).2.2; simp at this, ih _⟩
    · rw [if_neg h]; exact ih _
theorem ord_len {k : KSt} (hn : k.inp.Nodup) (hmet : ∀ p, p ∈ k.inp → ∃ u, u ∈ k.uses ∧ u.1 = p) : (ordK k).length = k.inp.length := by
  have h1 := pigeonI (ordK k) k.inp (newMet_nodup _ _ _) (fun x hx => (ord_mem hmet).1 hx)
  have h2 := pigeonI k.inp (ordK k) hn (fun x hx => (ord_mem hmet).2 hx)
  omega
theorem inOrd_len {k : KSt} (hn : k.inp.Nodup) (hmet : ∀ p, p ∈ k.inp → ∃ u, u ∈ k.uses ∧ u.1 = p) : (inOrd k).length = k.inp.length := by
  unfold inOrd
  split
  · rfl
  · rw [List.length_reverse]; exact ord_len hn hmet

/-- The page that the policy chooses: the first, or the last one. -/
def chosen (policy : Int) (l : List Int) : Int := if policy == 2 then (l[l.length - 1]?).getD 0 else (l[0]?).getD 0
theorem chosen_pick (k : KSt) : chosen k.policy (inOrd k) = pickK k := by
  rw [pick_ord]
  unfold chosen inOrd
  by_cases h0 : (k.policy == 0) = true
  · have h2 : (k.policy == 2) = false := by
      have : k.policy = 0 := by simpa using h0
      rw [this]; rfl
    rw [if_pos h0, if_pos h0, h2]
    rfl
  · rw [if_neg h0, if_neg h0]
    by_cases h2 : (k.policy == 2) = true
    · rw [if_pos h2, if_pos h2, List.length_reverse]
      cases hl : ordK k with
      | nil => rfl
      | cons x l => simp
    · rw [if_neg h2, if_neg h2]
      cases hl : ordK k with
      | nil => rfl
      | cons x l =>
        rw [← hl, List.getElem?_reverse (by rw [hl]; simp)]
        simp
/-- A page goes out: the order of the others. -/
theorem inOrd_leave (k : KSt) (p : Nat) : inOrd (leaveK k p) = (inOrd k).filter (fun x => !(x == (p : Int))) := by
  unfold inOrd
  show (if k.policy == 0 then (leaveK k p).inp else (ordK (leaveK k p)).reverse) = _
  split
  · rfl
  · rw [ord_leave, List.filter_reverse]

def PK.goOut (pk : PK) (p : Nat) (bytes : List Int) : PK := match pk.pages[p]? with
  | none => pk
  | some g => { pk with outs := if g.chg then pk.outs + 1 else pk.outs, pages := pk.pages.set p (if g.chg then { g with sto := true, out := bytes } else g), inl := pk.inl.filter (fun x => !(x == (p : Int))) }
def PK.comeIn (pk : PK) (p : Nat) (f : Int) : PK := match pk.pages[p]? with
  | none => pk
  | some g => { pk with ins := if g.sto then pk.ins + 1 else pk.ins, pages := pk.pages.set p { g with frame := f, chg := false }, inl := pk.inl ++ [(p : Int)] }
def PK.touch (pk : PK) (p : Nat) (wt : Bool) : PK := match pk.pages[p]? with
  | none => pk
  | some g => { pk with pages := if wt then pk.pages.set p { g with chg := true, dty := true } else pk.pages, inl := if pk.policy == 0 then pk.inl else pk.inl.filter (fun x => !(x == (p : Int))) ++ [(p : Int)] }

section
variable {s t : RSt} {k : KSt} {pk : PK} {fb fb' : List (List Int)} {l : List Int}
theorem KSim.page (h : KSim s k pk fb l) {p : Nat} (hp : p < 16) : ∃ g, pk.pages[p]? = some g := ⟨pk.pages[p]'(by rw [h.np]; exact hp), by simp⟩
theorem chg_leave {k : KSt} {p q : Nat} (hne : q ≠ p) : chgB (leaveK k p) q = chgB k q := by
  unfold chgB leaveK
  simp only
  rw [List.getElem?_set_ne (fun e => hne e.symm)]
theorem chg_leave_self {k : KSt} {p : Nat} (hp : p < k.chg.length) : chgB (leaveK k p) p = false := by
  unfold chgB leaveK
  simp only
  rw [List.getElem?_set_self hp]; rfl

/-- A page goes out. -/
theorem KSim.leave (h : KSim s k pk fb l) (hL : KLen0 k (-1) k.uses.length) {p : Nat} (hin : (p : Int) ∈ k.inp) (hr : t.rights = s.rights) (hf : ∀ q : Nat, (q : Int) ∈ k.inp → q ≠ p → fb'[(frameOf s k q).toNat]? = fb[(frameOf s k q).toNat]?) :
    KSim t (leaveK k p) (pk.goOut p (pageB k p)) fb' (l.filter (fun x => !(x == (p : Int)))) := by
  have hp : p < 16 := by have := hL.pg _ hin; omega
  obtain ⟨g, hg⟩ := h.page hp
  obtain ⟨a1, a2, a3, a4, a5⟩ := h.pg p g hg
  obtain ⟨b1, b2, b3⟩ := a4 hin
  have e : pk.goOut p (pageB k p) = { pk with outs := if g.chg then pk.outs + 1 else pk.outs, pages := pk.pages.set p (if g.chg then { g with sto := true, out := pageB k p } else g), inl := pk.inl.filter (fun x => !(x == (p : Int))) } := by
    unfold PK.goOut; rw [hg]
  rw [e]
  refine ⟨h.qt, h.po, h.cr, h.ci, ?_, by simp [h.np], by show pk.inl.filter _ = _; rw [h.inl], fun q x hq => ?_⟩
  · show (if g.chg then pk.outs + 1 else pk.outs) = (leaveK k p).outs
    unfold leaveK
    simp only
    rw [b2, h.co]
  · have hq' : (pk.pages.set p (if g.chg then { g with sto := true, out := pageB k p } else g))[q]? = some x := hq
    rw [List.getElem?_set] at hq'
    split at hq'
    · rename_i epq
      subst epq
      rw [if_pos (by rw [h.np]; exact hp)] at hq'
      simp only [Option.some.injEq] at hq'
      have hpl : p < k.out.length := by rw [hL.out]; exact hp
      have hnin : (p : Int) ∉ (leaveK k p).inp := fun hh => (leave_inp.1 hh).2 rfl
      cases hc : g.chg with
      | true =>
        rw [hc] at hq'
        simp only [if_true] at hq'
        subst hq'
        have hcb : chgB k p = true := by rw [← b2]; exact hc
        refine ⟨a1, ?_, ?_, fun hh => absurd hh hnin, fun _ => rfl⟩
        · unfold leaveK
          simp only [hcb, if_true]
          rw [List.getElem?_set_self hpl]; rfl
        · show (pageB k p).length = 4
          unfold pageB
          simp [hL.by_]; omega
      | false =>
        rw [hc] at hq'
        simp only [Bool.false_eq_true, if_false] at hq'
        subst hq'
        have hcb : chgB k p = false := by rw [← b2]; exact hc
        refine ⟨a1, ?_, a3, fun hh => absurd hh hnin, fun _ => a5 (.inr hcb)⟩
        unfold leaveK
        simp only [hcb, Bool.false_eq_true, if_false]
        exact a2
    · rename_i epq
      have hqp : q ≠ p := fun e => epq e.symm
      obtain ⟨c1, c2, c3, c4, c5⟩ := h.pg q x hq'
      refine ⟨c1, ?_, c3, fun hh => ?_, fun hh => c5 ?_⟩
      · rw [c2]
        unfold leaveK
        simp only
        split
        · rw [List.getElem?_set_ne epq]
        · rfl
      · obtain ⟨d1, d2, d3⟩ := c4 (leave_inp.1 hh).1
        refine ⟨?_, by rw [chg_leave hqp]; exact d2, ?_⟩
        · rw [d1]
          unfold frameOf
          rw [leave_hnd, hr]
        · have := hf q (leave_inp.1 hh).1 hqp
          rw [d1, this, ← d1]
          exact d3
      · rw [chg_leave hqp] at hh
        rcases hh with hh | hh
        · exact .inl (fun h2 => hh (leave_inp.2 ⟨h2, by omega⟩))
        · exact .inr hh

/-- A page comes in. -/
theorem KSim.come (h : KSim s k pk fb l) (hL : KLen0 k (-1) k.uses.length) {p : Nat} (hp : p < 16) (hno : (p : Int) ∉ k.inp) {hh f : Int} (hfr : ∀ q : Nat, (q : Int) ∈ k.inp → frameOf t (inK k p hh) q = frameOf s k q) (hfp : frameOf t (inK k p hh) p = f)
    (hfb : ∀ q : Nat, (q : Int) ∈ k.inp → fb'[(frameOf s k q).toNat]? = fb[(frameOf s k q).toNat]?) (hbp : fb'[f.toNat]? = some (pageB k p)) : KSim t (inK k p hh) (pk.comeIn p f) fb' (l ++ [(p : Int)]) := by
  obtain ⟨g, hg⟩ := h.page hp
  obtain ⟨a1, a2, a3, a4, a5⟩ := h.pg p g hg
  have e : pk.comeIn p f = { pk with ins := if g.sto then pk.ins + 1 else pk.ins, pages := pk.pages.set p { g with frame := f, chg := false }, inl := pk.inl ++ [(p : Int)] } := by
    unfold PK.comeIn; rw [hg]
  have hcp : chgB k p = false := by
    unfold chgB
    cases hx : k.chg[p]? with
    | none => rfl
    | some v =>
      cases v with
      | false => rfl
      | true => exact absurd (hL.chi p hx) hno
  rw [e]
  refine ⟨h.qt, h.po, h.cr, ?_, h.co, by simp [h.np], by show pk.inl ++ _ = _; rw [h.inl], fun q x hq => ?_⟩
  · show (if g.sto then pk.ins + 1 else pk.ins) = (inK k p hh).ins
    unfold inK
    simp only
    rw [a2, h.ci]
  · have hq' : (pk.pages.set p { g with frame := f, chg := false })[q]? = some x := hq
    rw [List.getElem?_set] at hq'
    split at hq'
    · rename_i epq
      subst epq
      rw [if_pos (by rw [h.np]; exact hp)] at hq'
      simp only [Option.some.injEq] at hq'
      subst hq'
      refine ⟨a1, a2, a3, fun _ => ⟨hfp.symm, hcp.symm, hbp⟩, fun _ => a5 (.inl hno)⟩
    · rename_i epq
      obtain ⟨c1, c2, c3, c4, c5⟩ := h.pg q x hq'
      have hin : (q : Int) ∈ (inK k p hh).inp → (q : Int) ∈ k.inp := fun hm => by
        rcases in_inp.1 hm with h1 | h1
        · exact h1
        · exact absurd (by omega) epq
      refine ⟨c1, c2, c3, fun hm => ?_, fun hm => c5 ?_⟩
      · obtain ⟨d1, d2, d3⟩ := c4 (hin hm)
        refine ⟨by rw [hfr q (hin hm)]; exact d1, d2, ?_⟩
        have := hfb q (hin hm)
        rw [← d1] at this
        rw [this]
        exact d3
      · rcases hm with hm | hm
        · exact .inl (fun h2 => hm (in_inp.2 (.inl h2)))
        · exact .inr hm

/-- An access to a page that is in. -/
theorem KSim.touch (h : KSim s k pk fb l) (hl1 : k.chg.length = 16) (hl2 : k.dty.length = 16) {p env : Nat} (hp : p < 16) (hin : (p : Int) ∈ k.inp) (wt : Bool) {s0 : RSt} (hr : t.rights = s.rights) :
    KSim t (touchK s0 k env p wt) (({ pk with refills := if needB s0 env p wt then pk.refills + 1 else pk.refills } : PK).touch p wt) fb (if k.policy == 0 then l else l.filter (fun x => !(x == (p : Int))) ++ [(p : Int)]) := by
  obtain ⟨g, hg⟩ := h.page hp
  obtain ⟨a1, a2, a3, a4, a5⟩ := h.pg p g hg
  obtain ⟨b1, b2, b3⟩ := a4 hin
  have e : (({ pk with refills := if needB s0 env p wt then pk.refills + 1 else pk.refills } : PK).touch p wt) = { pk with refills := if needB s0 env p wt then pk.refills + 1 else pk.refills, pages := if wt then pk.pages.set p { g with chg := true, dty := true } else pk.pages, inl := if pk.policy == 0 then pk.inl else pk.inl.filter (fun x => !(x == (p : Int))) ++ [(p : Int)] } := by
    unfold PK.touch
    simp only [hg]
  rw [e]
  have hfo : ∀ q, frameOf t (touchK s0 k env p wt) q = frameOf s k q := fun q => by unfold frameOf; rw [hr]; rfl
  have hcq : ∀ q : Nat, q ≠ p → chgB (touchK s0 k env p wt) q = chgB k q := fun q hne => by
    show ((k.chg.set p (chgB k p || wt))[q]?).getD false = _
    rw [List.getElem?_set_ne (fun e => hne e.symm)]; rfl
  have hcp : chgB (touchK s0 k env p wt) p = (chgB k p || wt) := by
    show ((k.chg.set p (chgB k p || wt))[p]?).getD false = _
    rw [List.getElem?_set_self (by omega)]; rfl
  have hdq : ∀ q : Nat, q ≠ p → dtyB (touchK s0 k env p wt) q = dtyB k q := fun q hne => by
    show ((k.dty.set p (dtyB k p || wt))[q]?).getD false = _
    rw [List.getElem?_set_ne (fun e => hne e.symm)]; rfl
  have hdp : dtyB (touchK s0 k env p wt) p = (dtyB k p || wt) := by
    show ((k.dty.set p (dtyB k p || wt))[p]?).getD false = _
    rw [List.getElem?_set_self (by omega)]; rfl
  refine ⟨h.qt, h.po, ?_, h.ci, h.co, by show (if wt then _ else _ : List PG).length = 16; split <;> simp [h.np], ?_, fun q x hq => ?_⟩
  · show (if needB s0 env p wt then pk.refills + 1 else pk.refills) = (if needB s0 env p wt then k.refills + 1 else k.refills)
    rw [h.cr]
  · show (if pk.policy == 0 then pk.inl else _) = _
    rw [h.po, h.inl]
  · have hq' : (if wt then pk.pages.set p { g with chg := true, dty := true } else pk.pages)[q]? = some x := hq
    by_cases hqp : q = p
    · subst hqp
      rw [hdp, hfo, hcp]
      cases wt with
      | false =>
        simp only [Bool.false_eq_true, if_false] at hq'
        rw [hg] at hq'
        simp only [Option.some.injEq] at hq'
        subst hq'
        simp only [Bool.or_false]
        exact ⟨a1, a2, a3, fun _ => ⟨b1, b2, b3⟩, fun hh => a5 hh⟩
      | true =>
        simp only [if_true] at hq'
        rw [List.getElem?_set_self (by rw [h.np]; exact hp)] at hq'
        simp only [Option.some.injEq] at hq'
        subst hq'
        simp only [Bool.or_true]
        exact ⟨by first | rfl | trivial, a2, a3, fun _ => ⟨b1, by first | rfl | trivial, b3⟩, fun hh => by
          rcases hh with hh | hh
          · exact absurd hin hh
          · simp at hh⟩
    · have hx : pk.pages[q]? = some x := by
        split at hq'
        · rw [List.getElem?_set_ne (fun e => hqp e.symm)] at hq'; exact hq'
        · exact hq'
      rw [hdq q hqp, hfo, hcq q hqp]
      exact h.pg q x hx
end
end Go.Proofs.Ytinlkcmdbjcofab

/-
  The order of the pages that are in behind an access; a byte is written; whose frame is whose.
-/
namespace Go.Proofs.Ytinlkcmdbjcofab
open Go.RowKit
set_option linter.unusedVariables false

theorem filter_no {p : Int} : ∀ (l : List Int), p ∉ l → l.filter (fun x => !(x == p)) = l := by
  intro l h
  rw [List.filter_eq_self]
  intro x hx
  have : x ≠ p := fun e => h (e ▸ hx)
  simpa using this
/-- Behind an access to a page that was in. -/
theorem inOrd_touch {s0 : RSt} {k : KSt} {env p : Nat} {wt : Bool} (hin : (p : Int) ∈ k.inp) : inOrd (touchK s0 k env p wt) = if k.policy == 0 then inOrd k else (inOrd k).filter (fun x => !(x == (p : Int))) ++ [(p : Int)] := by
  unfold inOrd
  show (if k.policy == 0 then k.inp else (ordK (touchK s0 k env p wt)).reverse) = _
  split
  · rfl
  · rw [ord_touch (k := k) (k' := touchK s0 k env p wt) rfl rfl hin, List.reverse_cons, List.filter_reverse]
/-- Behind an access to a page that has come in. -/
theorem inOrd_come {s0 : RSt} {k : KSt} {env p : Nat} {wt : Bool} {hh : Int} (hno : (p : Int) ∉ k.inp) : inOrd (touchK s0 (inK k p hh) env p wt) = inOrd k ++ [(p : Int)] := by
  unfold inOrd
  show (if k.policy == 0 then (inK k p hh).inp else (ordK (touchK s0 (inK k p hh) env p wt)).reverse) = _
  split
  · rfl
  · rw [ord_in (k := k) (k' := touchK s0 (inK k p hh) env p wt) rfl rfl hno, List.reverse_cons]
theorem come_list {k : KSt} {p : Nat} (hmet : ∀ p, p ∈ k.inp → ∃ u, u ∈ k.uses ∧ u.1 = p) (hno : (p : Int) ∉ k.inp) : (if k.policy == 0 then inOrd k ++ [(p : Int)] else (inOrd k ++ [(p : Int)]).filter (fun x => !(x == (p : Int))) ++ [(p : Int)]) = inOrd k ++ [(p : Int)] := by
  split
  · rfl
  · rw [List.filter_append, filter_no _ (fun h => hno ((inOrd_mem hmet).1 h))]
    simp

theorem pageB_len {k : KSt} (hb : k.bytes.length = 64) {p : Nat} (hp : p < 16) : (pageB k p).length = 4 := by
  unfold pageB
  simp [hb]; omega
theorem pageB_get {k : KSt} {p j : Nat} (hj : j < 4) : (pageB k p)[j]? = k.bytes[4 * p + j]? := by
  unfold pageB
  rw [List.getElem?_take_of_lt hj, List.getElem?_drop]
theorem pageB_set {k : KSt} {p j : Nat} {v : Int} (hj : j < 4) : pageB { k with bytes := k.bytes.set (4 * p + j) v } p = (pageB k p).set j v := by
  apply List.ext_getElem?
  intro i
  by_cases hi : i < 4
  · rw [pageB_get hi]
    show (k.bytes.set (4 * p + j) v)[4 * p + i]? = _
    rw [List.getElem?_set, List.getElem?_set]
    by_cases e : j = i
    · subst e
      rw [if_pos rfl, if_pos rfl]
      unfold pageB
      simp only [List.length_take, List.length_drop]
      by_cases hl : 4 * p + j < k.bytes.length
      · rw [if_pos hl, if_pos (by omega)]
      · rw [if_neg hl, if_neg (by omega)]
    · rw [if_neg (by omega), if_neg e, pageB_get hi]
  · rw [List.getElem?_eq_none (by unfold pageB; simp; omega), List.getElem?_eq_none (by rw [List.length_set]; unfold pageB; simp; omega)]
theorem pageB_other {k : KSt} {p q j : Nat} {v : Int} (hj : j < 4) (hne : q ≠ p) : pageB { k with bytes := k.bytes.set (4 * p + j) v } q = pageB k q := by
  apply List.ext_getElem?
  intro i
  by_cases hi : i < 4
  · rw [pageB_get hi, pageB_get hi]
    show (k.bytes.set (4 * p + j) v)[4 * q + i]? = _
    rw [List.getElem?_set_ne (by omega)]
  · rw [List.getElem?_eq_none (by unfold pageB; simp; omega), List.getElem?_eq_none (by unfold pageB; simp; omega)]

section
variable {s : RSt} {k : KSt} {pk : PK} {fb : List (List Int)} {l : List Int}
/-- A byte of a changed page that is in. -/
theorem KSim.poke (h : KSim s k pk fb l) {p j : Nat} (hj : j < 4) (hp : p < 16) (hin : (p : Int) ∈ k.inp) (hc : chgB k p = true) {v : Int} (hdis : ∀ q : Nat, (q : Int) ∈ k.inp → q ≠ p → (frameOf s k q).toNat ≠ (frameOf s k p).toNat) (hfl : (frameOf s k p).toNat < fb.length) :
    KSim s { k with bytes := k.bytes.set (4 * p + j) v } pk (fb.set (frameOf s k p).toNat ((pageB k p).set j v)) l := by
  refine ⟨h.qt, h.po, h.cr, h.ci, h.co, h.np, h.inl, fun q x hq => ?_⟩
  obtain ⟨c1, c2, c3, c4, c5⟩ := h.pg q x hq
  refine ⟨c1, c2, c3, fun hm => ?_, fun hm => ?_⟩
  · obtain ⟨d1, d2, d3⟩ := c4 hm
    refine ⟨d1, d2, ?_⟩
    by_cases e : q = p
    · subst e
      rw [pageB_set hj, d1]
      exact List.getElem?_set_self hfl
    · rw [pageB_other hj e, d1, List.getElem?_set_ne (fun e2 => hdis q hm e e2.symm), ← d1]
      exact d3
  · by_cases e : q = p
    · subst e
      exfalso
      rcases hm with hm | hm
      · exact hm hin
      · have : chgB k q = false := hm
        rw [hc] at this
        simp at this
    · rw [pageB_other hj e]
      exact c5 hm

/-- Two pages that are in lie in two frames. -/
theorem frames_apart (h : SOk s) {env : Nat} (hO : s.kept[env]? = some (some k)) {p q : Nat} (hp : (p : Int) ∈ k.inp) (hq : (q : Int) ∈ k.inp) (hne : q ≠ p) : (frameOf s k q).toNat ≠ (frameOf s k p).toNat := by
  have hK := h.kok.k1 env k hO
  obtain ⟨j, a1, r, a2, a3, a4, a5, a6⟩ := hK.hr p hp
  obtain ⟨j', b1, r', b2, b3, b4, b5, b6⟩ := hK.hr q hq
  simp only [Int.toNat_natCast] at a1 b1
  have f1 : frameOf s k p = r.fr := by unfold frameOf; rw [a1]; simp only [Option.getD_some]; rw [show ((j : Int) + 1 - 1).toNat = j by omega, a2]; rfl
  have f2 : frameOf s k q = r'.fr := by unfold frameOf; rw [b1]; simp only [Option.getD_some]; rw [show ((j' : Int) + 1 - 1).toNat = j' by omega, b2]; rfl
  rw [f1, f2]
  intro e
  have g1 := h.inv.fr j r a2
  have g2 := h.inv.fr j' r' b2
  have : j = j' := h.hin.one j j' r r' a2 b2 a3 b3 a5 b5 (by omega)
  subst this
  have := hK.inj q p hq hp (by simp only [Int.toNat_natCast]; rw [a1, b1])
  omega
/-- A right that is alive, to the frame of a kept page, is that page's. -/
theorem only_right (h : SOk s) {env : Nat} (hO : s.kept[env]? = some (some k)) {p : Int} (hp : p ∈ k.inp) {j : Nat} (hL : Lies s env k p j) {r0 : RR} (hr0 : s.rights[j]? = some r0) : ∀ (n i : Nat) (r : RR), i < n → s.rights[i]? = some r → lv s.rights i = true → r.fr = r0.fr → i = j := by
  obtain ⟨a1, r1, a2, a3, a4, a5, a6⟩ := hL
  rw [hr0] at a2
  obtain rfl : r0 = r1 := by simpa using a2
  intro n
  induction n with
  | zero => intro i r hi; omega
  | succ n ih =>
    intro i r hi hr hl hf
    by_cases h0 : r.frm < 0
    · exact h.hin.one i j r r0 hr hr0 hl a3 h0 a5 hf
    · exfalso
      obtain ⟨q, hq, hqf⟩ := h.hin.same i r hr (by omega)
      have ho := h.inv.ord i r hr
      have hl2 := hl
      rw [lv_step h.inv.ord hr] at hl2
      simp at hl2
      have hj : r.frm.toNat = j := ih r.frm.toNat q (by omega) hq (by rw [Int.toNat_of_nonneg (by omega)]; exact hl2.2) (by rw [hqf, hf])
      have hd := h.kok.der i r q hr hl (by omega) hq
      rw [hj, hr0] at hq
      obtain rfl : r0 = q := by simpa using hq
      rw [a4, keptB_at hO] at hd
      simp at hd
end
end Go.Proofs.Ytinlkcmdbjcofab
