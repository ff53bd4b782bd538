import Derived.Test.YtnolplmpanbmhaaGreatM05
/-
  The program's table: package table.
-/
namespace Go.Proofs.YtnolplmpanbmhaaGreat
open Go.RowKit
set_option linter.unusedVariables false
attribute [local go_sem ↓] Go.wp_at_zero Go.wp_at_succ

/-- The table at ⟨b, o⟩ of a block whose cells are cs. -/
structure TableAt (own : Nat → Nat × Nat) (t : Nat × Nat) (w : World) (b o : Nat) (T : TypeId) (cs : List Value) (vT : Value) (es : List Ent) : Prop where
  blk : Blk w b cs T
  c0 : cs[o]? = some vT
  row : Row w vT 68 5 es.length (es.flatMap Ent.cells)
  tag : Tg own vT t
  ne : own b ≠ t

def remE (env page : Int) (e : Ent) : Ent := if entP env page e then Ent.empty else e

theorem Tryz.infoEnt : (Tryz.prog.info? 68).map (fun i => (i.zero, i.size, i.bytes)) = some (some (.agg #[.bool false, .int .i64 0, .int .i64 0, .int .i64 0, .bool false]), 5, 40) := by kernel_rfl
theorem oneCell_ent (x : Ent) : ∀ u ∈ x.cells, u.oneCell' = true := by
  intro u hu; simp [Ent.cells] at hu; rcases hu with rfl | rfl | rfl | rfl | rfl <;> rfl

section
variable {own : Nat → Nat × Nat} {t : Nat × Nat} {w : World} {b o : Nat} {T : TypeId} {cs : List Value} {vT : Value} {es : List Ent}

theorem TableAt.of {own' : Nat → Nat × Nat} {w' : World} (h : TableAt own t w b o T cs vT es) (ho : ∀ x, x < w.heap.size → own' x = own x) (hb : w'.heap[b]? = w.heap[b]?) (hr : ∀ x, x < w.heap.size → own x = t → w'.heap[x]? = w.heap[x]?) : TableAt own' t w' b o T cs vT es :=
  ⟨h.blk.of hb, h.c0, h.row.kept h.tag hr, h.tag.congr h.row ho, by rw [ho b h.blk.lt]; exact h.ne⟩
theorem TableAt.below {w' : World} (h : TableAt own t w b o T cs vT es) (hb : Below w.heap.size w w') : TableAt own t w' b o T cs vT es :=
  h.of (fun _ _ => rfl) (hb.block b h.blk.lt) (fun x hx _ => hb.block x hx)
theorem TableAt.shape (h : TableAt own t w b o T cs vT es) : ∃ ao cap, vT = .slice ao es.length cap ∧ (es.length = 0 ∨ ∃ g, ao = some ⟨g, 0, none⟩) := h.row.shape
theorem Row.ent {g cap : Nat} (h : Row w (.slice (some ⟨g, 0, none⟩) es.length cap) 68 5 es.length (es.flatMap Ent.cells)) {i : Nat} {e : Ent} (hx : es[i]? = some e) :
    w.cell? ⟨g, i * 5, none⟩ = some (.bool e.used) ∧ w.cell? ⟨g, i * 5 + 1, none⟩ = some (.int .i64 e.env) ∧ w.cell? ⟨g, i * 5 + 2, none⟩ = some (.int .i64 e.page) ∧ w.cell? ⟨g, i * 5 + 3, none⟩ = some (.int .i64 e.fr) ∧ w.cell? ⟨g, i * 5 + 4, none⟩ = some (.bool e.wr) := by
  have hi := (List.getElem?_eq_some_iff.1 hx).1
  have hy : ∀ j, j < 5 → w.cell? ⟨g, i * 5 + j, none⟩ = e.cells[j]? := fun j hj => by
    rw [h.cellAt _ (by omega), flat_get Ent.cells 5 (fun _ => rfl) _ _ j _ hx hj]
  exact ⟨hy 0 (by omega), hy 1 (by omega), hy 2 (by omega), hy 3 (by omega), hy 4 (by omega)⟩
theorem TableAt.slotAt {g cap : Nat} (h : TableAt own t w b o T cs vT es) (hv : vT = .slice (some ⟨g, 0, none⟩) es.length cap) {i : Nat} {e : Ent} (hx : es[i]? = some e) :
    w.cell? ⟨g, i * 5, none⟩ = some (.bool e.used) ∧ w.cell? ⟨g, i * 5 + 1, none⟩ = some (.int .i64 e.env) ∧ w.cell? ⟨g, i * 5 + 2, none⟩ = some (.int .i64 e.page) ∧ w.cell? ⟨g, i * 5 + 3, none⟩ = some (.int .i64 e.fr) ∧ w.cell? ⟨g, i * 5 + 4, none⟩ = some (.bool e.wr) := by
  have h1 := h.row
  rw [hv] at h1
  exact h1.ent hx
theorem TableAt.frozenAt {g cap : Nat} (h : TableAt own t w b o T cs vT es) (hv : vT = .slice (some ⟨g, 0, none⟩) es.length cap) (j : Nat) : w.frozen? ⟨g, j, none⟩ = false := by
  have h1 := h.row
  rw [hv] at h1
  exact World.ownsRow.frozenAt h1 j
/-- A slot is written. -/
theorem TableAt.put {g cap : Nat} (h : TableAt own t w b o T cs vT es) (hv : vT = .slice (some ⟨g, 0, none⟩) es.length cap) (i : Nat) (hi : i < es.length) (e : Ent) :
    TableAt own t (((((w.setCell ⟨g, i * 5, none⟩ (.bool e.used)).setCell ⟨g, i * 5 + 1, none⟩ (.int .i64 e.env)).setCell ⟨g, i * 5 + 2, none⟩ (.int .i64 e.page)).setCell ⟨g, i * 5 + 3, none⟩ (.int .i64 e.fr)).setCell ⟨g, i * 5 + 4, none⟩ (.bool e.wr)) b o T cs vT (es.set i e) := by
  have hg : own g = t := h.tag g (by rw [hv]; rfl)
  have hn : b ≠ g := fun e => h.ne (by rw [e]; exact hg)
  refine ⟨h.blk.of ?_, h.c0, ?_, h.tag, h.ne⟩
  · rw [Below.heap_setCell _ _ _ _ hn, Below.heap_setCell _ _ _ _ hn, Below.heap_setCell _ _ _ _ hn, Below.heap_setCell _ _ _ _ hn, Below.heap_setCell _ _ _ _ hn]
  · have h1 := h.row
    rw [hv] at h1 ⊢
    rw [List.length_set, flat_set5 _ _ _ hi]
    exact ((((h1.set _ _).set _ _).set _ _).set _ _).set _ _

set_option maxHeartbeats 1000000 in
set_option maxRecDepth 100000 in
theorem thas_any (h : TableAt own t w b o T cs vT es) (hm : es.length ≤ 8) (slot : Int) :
    Calls Tryz.prog 90 #[.pointer (some ⟨b, o, none⟩), .int .i64 slot] w fun e w' => e = .returned (.bool (decide (0 ≤ slot) && decide (slot < es.length))) ∧ w' = w := by
  have k0 := (h.blk.cell o).trans h.c0
  obtain ⟨ao, cap, hv, _⟩ := h.shape
  rw [hv] at k0
  clear hv
  by_cases h1 : 0 ≤ slot
  · have HE : Hid ((decide (0 ≤ slot) && decide (slot < es.length)) = decide (slot < es.length)) := by simp [Hid, h1]
    go_enter Tryz.func90, Tryz.ntmps90
    go_wp2_with fail
    go_ret
    exact ⟨ret_bool (by rw [HE.out]), rfl⟩
  · have HE : Hid ((decide (0 ≤ slot) && decide (slot < es.length)) = false) := by simp [Hid]; omega
    go_enter Tryz.func90, Tryz.ntmps90
    go_wp2_with fail
    go_ret
    exact ⟨ret_bool (by rw [HE.out]), rfl⟩

set_option maxHeartbeats 1000000 in
set_option maxRecDepth 100000 in
theorem isOf_any (u : Bool) (a c d : Int) (wt : Bool) (env page : Int) :
    Calls Tryz.prog 108 #[.agg #[.bool u, .int .i64 a, .int .i64 c, .int .i64 d, .bool wt], .int .i64 env, .int .i64 page] w fun e w' => e = .returned (.bool (entP env page ⟨u, a, c, d, wt⟩)) ∧ Below w.heap.size w w' := by
  cases u
  · go_enter Tryz.func108, Tryz.ntmps108
    go_wp2_with fail
    go_ret
    exact ⟨ret_bool (by simp [entP]), (Below.refl _ _).alloc (Nat.le_refl _) _⟩
  · cases h1 : (a == env)
    · go_enter Tryz.func108, Tryz.ntmps108
      go_wp2_with fail
      go_ret
      exact ⟨ret_bool (by simp [entP, h1]), (Below.refl _ _).alloc (Nat.le_refl _) _⟩
    · have HE : Hid (entP env page ⟨true, a, c, d, wt⟩ = (c == page)) := by simp [Hid, entP, h1]
      go_enter Tryz.func108, Tryz.ntmps108
      go_wp2_with fail
      go_ret
      exact ⟨ret_bool (by rw [HE.out]), (Below.refl _ _).alloc (Nat.le_refl _) _⟩
end
end Go.Proofs.YtnolplmpanbmhaaGreat

namespace Go.Proofs.YtnolplmpanbmhaaGreat
open Go.RowKit
set_option linter.unusedVariables false
attribute [local go_sem ↓] Go.wp_at_zero Go.wp_at_succ

/-- The entry of env and page. -/
def findT (es : List Ent) (env page : Int) : Option Ent := es.find? (entP env page)
def entV (e : Ent) : Value := .agg #[.bool e.used, .int .i64 e.env, .int .i64 e.page, .int .i64 e.fr, .bool e.wr]
def findTV (x : Option Ent) : Value := match x with
  | some e => .tuple #[.agg #[.bool e.used, .int .i64 e.env, .int .i64 e.page, .int .i64 e.fr, .bool e.wr], .bool true]
  | none => .tuple #[.agg #[.bool false, .int .i64 0, .int .i64 0, .int .i64 0, .bool false], .bool false]
theorem findT_none {es : List Ent} {env page : Int} (hno : ∀ i y, i < es.length → es[i]? = some y → entP env page y = false) : findT es env page = none := by
  unfold findT
  rw [List.find?_eq_none]
  intro x hx
  obtain ⟨i, hi, rfl⟩ := List.getElem_of_mem hx
  rw [hno i es[i] hi (by simp)]; simp
theorem findT_hit {es : List Ent} {env page : Int} {q : Nat} {x : Ent} (hx : es[q]? = some x) (hno : ∀ i y, i < q → es[i]? = some y → entP env page y = false) (hy : entP env page x = true) : findT es env page = some x := by
  obtain ⟨hq, he⟩ := List.getElem?_eq_some_iff.1 hx
  unfold findT
  rw [List.find?_eq_some_iff_append]
  refine ⟨hy, es.take q, es.drop (q + 1), ?_, ?_⟩
  · conv => lhs; rw [← List.take_append_drop q es, List.drop_eq_getElem_cons hq, he]
  · intro y hy'
    obtain ⟨i, hi, rfl⟩ := List.getElem_of_mem hy'
    rw [List.length_take] at hi
    rw [List.getElem_take]
    rw [hno i _ (by omega) (List.getElem?_eq_getElem (by omega))]; rfl

section
variable {own : Nat → Nat × Nat} {t : Nat × Nat} {w : World} {b o : Nat} {T : TypeId} {cs : List Value} {vT : Value} {es : List Ent}

set_option maxHeartbeats 2000000 in
set_option maxRecDepth 100000 in
theorem tfind_any (h : TableAt own t w b o T cs vT es) (hm : es.length ≤ 8) (env page : Int) :
    Calls Tryz.prog 95 #[.pointer (some ⟨b, o, none⟩), .int .i64 env, .int .i64 page] w fun e w' => e = .returned (findTV (findT es env page)) ∧ Below w.heap.size w w' := by
  have k0 := (h.blk.cell o).trans h.c0
  obtain ⟨ao, cap, hv, hcase⟩ := h.shape
  rw [hv] at k0
  have hbl0 := h.blk.lt
  have Hv : Hid (vT = .slice ao es.length cap) := hv
  clear hv
  rcases hcase with h0 | ⟨g, rfl⟩
  all_goals
    go_enter Tryz.func95, Tryz.ntmps95
    go_wp2_with fail
    go_loopg [15] es.length (fun k x wr => ∃ q : Nat, x = .int .i64 q ∧ q + k = es.length ∧ (∀ i y, i < q → es[i]? = some y → entP env page y = false) ∧ Below w.heap.size w wr ∧ Blk wr w.heap.size [.bool false, .int .i64 0, .int .i64 0, .int .i64 0, .bool false] 68)
    case atStart => exact ⟨0, rfl, by omega, fun i y hi _ => by omega, (Below.refl _ _).alloc (Nat.le_refl _) _, Blk.new _ _ _⟩
    case round =>
      obtain ⟨q, rfl, hk, hno, hbl, hrb⟩ := hrel
      have hrl := hrb.lt
      have r0 := hrb.cell 0
      have r1 := hrb.cell 1
      have r2 := hrb.cell 2
      have r3 := hrb.cell 3
      have r4 := hrb.cell 4
      simp at r0 r1 r2 r3 r4
      have s0 := hrb.frozen 0
      have s1 := hrb.frozen 1
      have s2 := hrb.frozen 2
      have s3 := hrb.frozen 3
      have s4 := hrb.frozen 4
      have HK : Hid (q + gk = es.length) := hk
      have HN : Hid (∀ i y, i < q → es[i]? = some y → entP env page y = false) := hno
      have hq : q ≤ es.length := by omega
      clear hk hno
      by_cases hlt : q < es.length
      · first
        | (exfalso; omega; done)
        | (obtain ⟨x, hx⟩ : ∃ x, es[q]? = some x := ⟨es[q], by simp⟩
           obtain ⟨c0, c1, c2, c3, c4⟩ := (h.below hbl).slotAt Hv.out hx
           have HX : Hid (es[q]? = some x) := hx
           clear hx
           have hnext : entP env page x = false → ∀ i y, i < q + 1 → es[i]? = some y → entP env page y = false := fun hf i y hi hy => by
             rcases Nat.lt_or_ge i q with h1 | h1
             · exact HN.out i y h1 hy
             · obtain rfl : i = q := by omega
               rw [HX.out] at hy
               simp at hy
               subst hy
               exact hf
           have HNX : Hid (entP env page x = false → ∀ i y, i < q + 1 → es[i]? = some y → entP env page y = false) := hnext
           clear hnext
           go_wp2_with fail
           refine (isOf_any x.used x.env x.page x.fr x.wr env page).mono ?_
           rintro e w2 ⟨rfl, hb2⟩
           have hbw : Below wr.heap.size wr w2 := ((Below.refl _ _).alloc (Nat.le_refl _) _).trans (hb2.mono (by simp))
           have hbl2 : Below w.heap.size w w2 := hbl.trans (hbw.mono hbl.size)
           have hrb2 := hrb.below hbw hrl
           have hrl2 := hrb2.lt
           have t0 := hrb2.cell 0
           have t1 := hrb2.cell 1
           have t2 := hrb2.cell 2
           have t3 := hrb2.cell 3
           have t4 := hrb2.cell 4
           simp at t0 t1 t2 t3 t4
           have u0 := hrb2.frozen 0
           have u1 := hrb2.frozen 1
           have u2 := hrb2.frozen 2
           have u3 := hrb2.frozen 3
           have u4 := hrb2.frozen 4
           have hbxx := (Blk.new wr [.bool x.used, .int .i64 x.env, .int .i64 x.page, .int .i64 x.fr, .bool x.wr] 68).below hb2 (by simp)
           have hxl := hbxx.lt
           have v0 := hbxx.cell 0
           have v1 := hbxx.cell 1
           have v2 := hbxx.cell 2
           have v3 := hbxx.cell 3
           have v4 := hbxx.cell 4
           simp at v0 v1 v2 v3 v4
           cases he : entP env page x
           · go_wp2_with fail
             go_roundg (gk - 1)
             case measure => have := HK.out; omega
             case rel => exact ⟨q + 1, by go_num, by have := HK.out; omega, HNX.out he, hbl2, hrb2⟩
           · have HF : Hid (findT es env page = some x) := findT_hit HX.out HN.out he
             clear HNX HN
             go_wp2_with fail
             exact bodyPost_ret (v := .tuple #[.agg #[.bool x.used, .int .i64 x.env, .int .i64 x.page, .int .i64 x.fr, .bool x.wr], .bool true]) (by simp [results, Tryz.results95, go_sem, t0, t1, t2, t3, t4]) rfl ⟨by rw [HF.out]; rfl, ((((hbl2.setCell (by simp) _).setCell (by simp) _).setCell (by simp) _).setCell (by simp) _).setCell (by simp) _⟩)
      · have HF : Hid (findT es env page = none) := findT_none (fun i y hi => HN.out i y (by omega))
        go_wp2_with fail
        exact bodyPost_ret (v := .tuple #[.agg #[.bool false, .int .i64 0, .int .i64 0, .int .i64 0, .bool false], .bool false]) (by simp [results, Tryz.results95, go_sem, r0, r1, r2, r3, r4]) rfl ⟨by rw [HF.out]; rfl, ((((hbl.setCell (by simp) _).setCell (by simp) _).setCell (by simp) _).setCell (by simp) _).setCell (by simp) _⟩

set_option maxHeartbeats 4000000 in
set_option maxRecDepth 100000 in
theorem tlist_any (h : TableAt own t w b o T cs vT es) (hm : es.length ≤ 8) :
    Calls Tryz.prog 97 #[.pointer (some ⟨b, o, none⟩)] w fun e w' => ∃ v, e = .returned v ∧ Below w.heap.size w w' ∧ (∀ x, v.ownBlock = some x → w.heap.size ≤ x) ∧ Row w' v 68 5 es.length (es.flatMap Ent.cells) := by
  obtain ⟨i0, hi, hz0, hz1, hz2⟩ := info_parts Tryz.infoEnt
  have k0 := (h.blk.cell o).trans h.c0
  obtain ⟨ao, cap, hv, hcase⟩ := h.shape
  rw [hv] at k0
  have Hv : Hid (vT = .slice ao es.length cap) := hv
  clear hv
  rcases hcase with h0 | ⟨g, rfl⟩
  all_goals
    go_enter Tryz.func97, Tryz.ntmps97
    go_wp2_with fail
    go_loopg [3, 11] es.length (fun k v x wr => ∃ q : Nat, x = .int .i64 q ∧ q + k = es.length ∧ Below w.heap.size w wr ∧ Row wr v 68 5 (es.take q).length ((es.take q).flatMap Ent.cells) ∧ ∀ x, v.ownBlock = some x → w.heap.size ≤ x)
    case atStart => exact ⟨0, rfl, by omega, Below.refl _ _, Row.nil _ _ _, by simp [Value.ownBlock]⟩
    case round =>
      obtain ⟨q, rfl, hk, hbl, hrow, hnew⟩ := hrel
      have HK : Hid (q + gk = es.length) := hk
      have hq : q ≤ es.length := by omega
      have hle : (es.take q).length = q := by simp; omega
      have hsz := hbl.size
      obtain ⟨ao5, cap5, hv5, _⟩ := hrow.shape
      subst hv5
      rw [hle] at hrow
      rw [hle] at hnew
      rw [hle]
      clear hk hle
      by_cases hlt : q < es.length
      · first
        | (exfalso; omega; done)
        | (obtain ⟨x, hx⟩ : ∃ x, es[q]? = some x := ⟨es[q], by simp⟩
           obtain ⟨c0, c1, c2, c3, c4⟩ := (h.below hbl).slotAt Hv.out hx
           have HW : Hid (es.take (q + 1) = es.take q ++ [x]) := by
             obtain ⟨hq', he⟩ := List.getElem?_eq_some_iff.1 hx
             unfold Hid
             rw [List.take_succ_eq_append_getElem hq', he]
           have hR' := (hrow.alloc (.cells x.cells.toArray 68)).alloc (.cells x.cells.toArray 68)
           clear hx hrow
           go_wp2_with (at_builtin; refine wpList_append_lies _ rfl (.tmp 15) (.tmp 17) 49 rfl 0 68 i0 _ 5 40 Tryz.underlying49 hi hz0 hz1 hz2 rfl (by decide) (.slice ao5 q cap5) q _ rfl hR' ⟨wr.heap.size + 1, 0, none⟩ 1 1 x.cells rfl rfl ?c1 ?c2 (by omega) ?b1 ?b2 (by omega) (wr.heap.size + 2) (by simp) ?nx)
           case c1 => exact World.news_of_block (B := wr.heap.size + 1) (cs := x.cells.toArray) (t := 68) (fr := (0, 0)) (Blk.at _ _ _ _ (by simp))
           case c2 => exact oneCell_ent _
           case b1 => unfold maxLen; omega
           case b2 => omega
           case nx =>
             intro g1 cap1 w4 hown hgrow hat hlt1
             go_wp2
             go_roundg (gk - 1)
             case measure => have := HK.out; omega
             case rel =>
               refine ⟨q + 1, by go_num, by have := HK.out; omega, ((hbl.alloc hsz _).alloc (by simp; omega) _).grown hgrow (by simp; omega) hnew, ?_, ?_⟩
               · rw [HW.out]
                 simp only [List.length_append, List.flatMap_append, List.length_cons, List.length_nil, List.flatMap_cons, List.flatMap_nil, List.append_nil]
                 have hl2 : (es.take q).length = q := by simp; omega
                 rw [hl2]
                 exact hown
               · intro x hb
                 simp [Value.ownBlock] at hb
                 subst hb
                 rcases hat with h | h
                 · exact hnew _ h
                 · omega)
      · obtain rfl : q = es.length := by omega
        rw [List.take_length] at hrow
        go_wp2_with fail
        go_ret
        exact ⟨_, rfl, hbl, hnew, hrow⟩

set_option maxHeartbeats 4000000 in
set_option maxRecDepth 100000 in
theorem tremove_any (h : TableAt own t w b o T cs vT es) (hm : es.length ≤ 8) (env page : Int) :
    Calls Tryz.prog 93 #[.pointer (some ⟨b, o, none⟩), .int .i64 env, .int .i64 page] w fun e w' => e = .returned (.tuple #[]) ∧ TableAt own t w' b o T cs vT (es.map (remE env page)) ∧ Touch w.heap.size (fun x => vT.ownBlock = some x) w w' := by
  have k0 := (h.blk.cell o).trans h.c0
  obtain ⟨ao, cap, hv, hcase⟩ := h.shape
  rw [hv] at k0
  have Hv : Hid (vT = .slice ao es.length cap) := hv
  clear hv
  rcases hcase with h0 | ⟨g, rfl⟩
  all_goals
    go_enter Tryz.func93, Tryz.ntmps93
    go_wp2_with fail
    go_loopg [13] es.length (fun k x wr => ∃ q : Nat, x = .int .i64 q ∧ q + k = es.length ∧ TableAt own t wr b o T cs vT (mapTo (remE env page) es q) ∧ Touch w.heap.size (fun x => vT.ownBlock = some x) w wr)
    case atStart => exact ⟨0, rfl, by omega, by rw [mapTo_zero]; exact h, Touch.refl _ _ _⟩
    case round =>
      obtain ⟨q, rfl, hk, h', ht⟩ := hrel
      have HK : Hid (q + gk = es.length) := hk
      have hq : q ≤ es.length := by omega
      have hsl := mapTo_len (remE env page) es q
      have hsz := ht.size
      clear hk
      by_cases hlt : q < es.length
      · first
        | (exfalso; omega; done)
        | (obtain ⟨x, hx⟩ : ∃ x, es[q]? = some x := ⟨es[q], by simp⟩
           have hx' : (mapTo (remE env page) es q)[q]? = some x := (mapTo_at _ _ _).trans hx
           obtain ⟨c0, c1, c2, c3, c4⟩ := h'.slotAt (by rw [hsl]; exact Hv.out) hx'
           have HS : Hid (mapTo (remE env page) es (q + 1) = (mapTo (remE env page) es q).set q (remE env page x)) := mapTo_succ _ _ _ _ hx
           have HQ : Hid (remE env page x = x → mapTo (remE env page) es (q + 1) = mapTo (remE env page) es q) := mapTo_same _ _ _ _ hx
           have HL : Hid ((mapTo (remE env page) es q).length = es.length) := hsl
           have hq1 : (q : Int) < (es.length : Int) := by omega
           have hgl : g < wr.heap.size := h'.row.lt g (by rw [Hv.out]; rfl)
           have hblt := h'.blk.lt
           clear hx hx' hsl
           go_wp2_with fail
           refine (isOf_any x.used x.env x.page x.fr x.wr env page).mono ?_
           rintro e w2 ⟨rfl, hb2⟩
           have hbw : Below wr.heap.size wr w2 := ((Below.refl _ _).alloc (Nat.le_refl _) _).trans (hb2.mono (by simp))
           have h2 := h'.below hbw
           have ht2 : Touch w.heap.size (fun x => vT.ownBlock = some x) w w2 := ht.then_below hbw hsz
           have j0 := (h2.blk.cell o).trans h2.c0
           rw [Hv.out] at j0
           have z := h2.frozenAt (by rw [HL.out]; exact Hv.out)
           have z0 := z (q * 5)
           have z1 := z (q * 5 + 1)
           have z2 := z (q * 5 + 2)
           have z3 := z (q * 5 + 3)
           have z4 := z (q * 5 + 4)
           have d0 := (hbw.cell (p := ⟨g, q * 5, none⟩) hgl).trans c0
           have d1 := (hbw.cell (p := ⟨g, q * 5 + 1, none⟩) hgl).trans c1
           have d2 := (hbw.cell (p := ⟨g, q * 5 + 2, none⟩) hgl).trans c2
           have d3 := (hbw.cell (p := ⟨g, q * 5 + 3, none⟩) hgl).trans c3
           have d4 := (hbw.cell (p := ⟨g, q * 5 + 4, none⟩) hgl).trans c4
           have hst := h2.put (g := g) (cap := cap) (by rw [HL.out]; exact Hv.out) q (by rw [HL.out]; exact hlt) Ent.empty
           have hin : vT.ownBlock = some g := by rw [Hv.out]; rfl
           clear z c0 c1 c2 c3 c4
           cases he : entP env page x
           · have HW : Hid (mapTo (remE env page) es (q + 1) = mapTo (remE env page) es q) := HQ.out (by simp [remE, he])
             clear HS HQ
             go_wp2_with fail
             go_roundg (gk - 1)
             case measure => have := HK.out; omega
             case rel => exact ⟨q + 1, by go_num, by have := HK.out; omega, by rw [HW.out]; exact h2, ht2⟩
           · have HW : Hid (mapTo (remE env page) es (q + 1) = (mapTo (remE env page) es q).set q Ent.empty) := by
               have := HS.out
               rw [show remE env page x = Ent.empty by simp [remE, he]] at this
               exact this
             clear HS HQ
             go_wp2_with fail
             go_roundg (gk - 1)
             case measure => have := HK.out; omega
             case rel => exact ⟨q + 1, by go_num, by have := HK.out; omega, by rw [HW.out]; exact hst, ((((ht2.setCell (.inl hin) _).setCell (.inl hin) _).setCell (.inl hin) _).setCell (.inl hin) _).setCell (.inl hin) _⟩)
      · obtain rfl : q = es.length := by omega
        rw [mapTo_all] at h'
        clear hsl
        go_wp2_with fail
        go_end0
        exact ⟨rfl, h', ht⟩
end
end Go.Proofs.YtnolplmpanbmhaaGreat

namespace Go.Proofs.YtnolplmpanbmhaaGreat
open Go.RowKit
set_option linter.unusedVariables false
attribute [local go_sem ↓] Go.wp_at_zero Go.wp_at_succ

def backP (env fr : Int) (wt : Bool) (x : PH) : Bool := x.env == env && (x.fr == fr && (x.wr || !wt))
/-- Is a right of env to a frame alive, by which one may write if that is asked? -/
def backsP (hs : List PH) (env fr : Int) (wt : Bool) : Bool := hs.any (backP env fr wt)

section
variable {own : Nat → Nat × Nat} {t : Nat × Nat} {w : World} {b o : Nat} {T : TypeId} {cs : List Value} {vL : Value} {hs : List PH} {last : Int}

set_option maxHeartbeats 4000000 in
set_option maxRecDepth 100000 in
theorem backs_any (h : StoreAt own t w b o T cs vL hs last) (hm : hs.length ≤ 4611686018427387904) (env fr : Int) (wt : Bool) :
    Calls Tryz.prog 106 #[.pointer (some ⟨b, o, none⟩), .int .i64 env, .int .i64 fr, .bool wt] w fun e w' => e = .returned (.bool (backsP hs env fr wt)) ∧ Below w.heap.size w w' := by
  have k0 := (h.blk.cell o).trans h.c0
  obtain ⟨ao, cap, hv, hcase⟩ := h.shape
  rw [hv] at k0
  have Hv : Hid (vL = .slice ao hs.length cap) := hv
  clear hv
  rcases hcase with h0 | ⟨g, rfl⟩
  all_goals
    go_enter Tryz.func106, Tryz.ntmps106
    go_wp2_with fail
    go_loopg [16] hs.length (fun k x wr => ∃ q : Nat, x = .int .i64 q ∧ q + k = hs.length ∧ (∀ i y, i < q → hs[i]? = some y → backP env fr wt y = false) ∧ Below w.heap.size w wr)
    case atStart => exact ⟨0, rfl, by omega, fun i y hi _ => by omega, Below.refl _ _⟩
    case round =>
      obtain ⟨q, rfl, hk, hno, hbl⟩ := hrel
      have HK : Hid (q + gk = hs.length) := hk
      have HN : Hid (∀ i y, i < q → hs[i]? = some y → backP env fr wt y = false) := hno
      have hq : q ≤ hs.length := by omega
      have hsz := hbl.size
      clear hk hno
      by_cases hlt : q < hs.length
      · first
        | (exfalso; omega; done)
        | (obtain ⟨x, hx⟩ : ∃ x, hs[q]? = some x := ⟨hs[q], by simp⟩
           obtain ⟨c0, c1, c2, c3, c4⟩ := (h.below hbl).heldAt Hv.out hx
           have HX : Hid (hs[q]? = some x) := hx
           have HNX : Hid (backP env fr wt x = false → ∀ i y, i < q + 1 → hs[i]? = some y → backP env fr wt y = false) := fun hf i y hi hy => by
             rcases Nat.lt_or_ge i q with h1 | h1
             · exact HN.out i y h1 hy
             · obtain rfl : i = q := by omega
               rw [HX.out] at hy
               simp at hy
               subst hy
               exact hf
           have HY : Hid (backP env fr wt x = true → backsP hs env fr wt = true) := fun hp => by
             unfold backsP
             rw [List.any_eq_true]
             exact ⟨x, List.mem_of_getElem? HX.out, hp⟩
           clear hx
           cases h1 : (x.env == env)
           · have HF : Hid (backP env fr wt x = false) := by simp [Hid, backP, h1]
             go_wp2_with fail
             go_roundg (gk - 1)
             case measure => have := HK.out; omega
             case rel => exact ⟨q + 1, by go_num, by have := HK.out; omega, HNX.out HF.out, hbl.alloc hsz _⟩
           · cases h2 : (x.fr == fr)
             · have HF : Hid (backP env fr wt x = false) := by simp [Hid, backP, h2]
               go_wp2_with fail
               go_roundg (gk - 1)
               case measure => have := HK.out; omega
               case rel => exact ⟨q + 1, by go_num, by have := HK.out; omega, HNX.out HF.out, hbl.alloc hsz _⟩
             · rcases Bool.eq_false_or_eq_true x.wr with h3 | h3
               · have HF : Hid (backP env fr wt x = true) := by simp [Hid, backP, h1, h2, h3]
                 rw [h3] at c3
                 go_wp2_with fail
                 go_ret
                 exact ⟨ret_bool (HY.out HF.out).symm, hbl.alloc hsz _⟩
               · rw [h3] at c3
                 rcases Bool.eq_false_or_eq_true wt with rfl | rfl
                 · have HF : Hid (backP env fr true x = false) := by simp [Hid, backP, h3]
                   go_wp2_with fail
                   go_roundg (gk - 1)
                   case measure => have := HK.out; omega
                   case rel => exact ⟨q + 1, by go_num, by have := HK.out; omega, HNX.out HF.out, hbl.alloc hsz _⟩
                 · have HF : Hid (backP env fr false x = true) := by simp [Hid, backP, h1, h2]
                   go_wp2_with fail
                   go_ret
                   exact ⟨ret_bool (HY.out HF.out).symm, hbl.alloc hsz _⟩)
      · go_wp2_with fail
        go_ret
        exact ⟨ret_bool (by
          unfold backsP
          rw [eq_comm, List.any_eq_false]
          intro x hx
          obtain ⟨i, hi, rfl⟩ := List.getElem_of_mem hx
          rw [HN.out i hs[i] (by omega) (by simp)]; simp), hbl⟩
end

section
variable {own : Nat → Nat × Nat} {t : Nat × Nat} {w : World} {b o : Nat} {T : TypeId} {cs : List Value} {vT : Value} {es : List Ent}

/-- What Put leaves. -/
def putP (es : List Ent) (slot : Nat) (x : Ent) : List Ent := (es.map (remE x.env x.page)).set slot x

set_option maxHeartbeats 4000000 in
set_option maxRecDepth 100000 in
theorem tput_any (h : TableAt own t w b o T cs vT es) (hm : es.length ≤ 8) (slot : Nat) (hs : slot < es.length) (u : Bool) (a c d : Int) (wt : Bool) :
    Calls Tryz.prog 91 #[.pointer (some ⟨b, o, none⟩), .int .i64 slot, .agg #[.bool u, .int .i64 a, .int .i64 c, .int .i64 d, .bool wt]] w fun e w' => e = .returned (.tuple #[]) ∧ TableAt own t w' b o T cs vT (putP es slot ⟨u, a, c, d, wt⟩) ∧ Touch w.heap.size (fun x => vT.ownBlock = some x) w w' := by
  have hd : (decide (0 ≤ (slot : Int)) && decide ((slot : Int) < es.length)) = true := by simp; omega
  have hba : Below w.heap.size w (w.alloc (.cells #[.bool u, .int .i64 a, .int .i64 c, .int .i64 d, .bool wt] 68)) := (Below.refl _ _).alloc (Nat.le_refl _) _
  have h1 := h.below hba
  have hbx := Blk.new w [.bool u, .int .i64 a, .int .i64 c, .int .i64 d, .bool wt] 68
  have hvlt := h.row.lt
  go_enter Tryz.func91, Tryz.ntmps91
  go_wp2_with fail
  refine (thas_any h1 hm slot).mono ?_
  rintro e w2 ⟨rfl, hw2⟩
  subst hw2
  rw [hd]
  have hl2 : w.heap.size < (w.alloc (.cells #[.bool u, .int .i64 a, .int .i64 c, .int .i64 d, .bool wt] 68)).heap.size := by simp
  go_wp2_with fail
  refine (tremove_any h1 hm a c).mono ?_
  rintro e w3 ⟨rfl, h3, ht3⟩
  obtain ⟨ao, cap, hv, hcase⟩ := h3.shape
  obtain ⟨g, rfl⟩ : ∃ g, ao = some ⟨g, 0, none⟩ := by
    rcases hcase with h0 | h0
    · simp at h0; rw [h0] at hs; simp at hs
    · exact h0
  have hb3 := hbx.of (ht3.block _ hl2 (fun e => by have := hvlt _ e; omega))
  have v0 := hb3.cell 0
  have v1 := hb3.cell 1
  have v2 := hb3.cell 2
  have v3 := hb3.cell 3
  have v4 := hb3.cell 4
  simp at v0 v1 v2 v3 v4
  have k0 := (h3.blk.cell o).trans h3.c0
  have hst := h3.put hv slot (by simpa using hs) ⟨u, a, c, d, wt⟩
  have hx : ∃ x, (es.map (remE a c))[slot]? = some x := ⟨_, List.getElem?_eq_getElem (by simpa using hs)⟩
  obtain ⟨x, hx⟩ := hx
  obtain ⟨c0, c1, c2, c3, c4⟩ := h3.slotAt hv hx
  have z0 := h3.frozenAt hv (slot * 5)
  have z1 := h3.frozenAt hv (slot * 5 + 1)
  have z2 := h3.frozenAt hv (slot * 5 + 2)
  have z3 := h3.frozenAt hv (slot * 5 + 3)
  have z4 := h3.frozenAt hv (slot * 5 + 4)
  have hin : vT.ownBlock = some g := by rw [hv]; rfl
  rw [hv, List.length_map] at k0
  have hq1 : (slot : Int) < (es.length : Int) := by omega
  have HT : Hid (Touch w.heap.size (fun x => vT.ownBlock = some x) w w3) := (Touch.of_below hba _).trans (ht3.mono (Nat.le_of_lt hl2) (fun _ _ h => h))
  have hgt : own g = t := h3.tag g hin
  have n1 : b ≠ g := fun e => h3.ne (by rw [e]; exact hgt)
  have n2 : g ≠ b := fun e => n1 e.symm
  have hglt := hvlt g hin
  have n3 : w.heap.size ≠ g := by omega
  have n4 : g ≠ w.heap.size := by omega
  have hgl3 := h3.row.lt g hin
  clear hv hx hcase
  go_wp2_with fail
  go_region_held3 (fun w' => w'.cell? ⟨b, o, none⟩ = some (.slice (some ⟨g, 0, none⟩) es.length cap) ∧ w'.cell? ⟨w.heap.size, 0, none⟩ = some (.bool u) ∧ w'.cell? ⟨w.heap.size, 1, none⟩ = some (.int .i64 a) ∧ w'.cell? ⟨w.heap.size, 2, none⟩ = some (.int .i64 c) ∧ w'.cell? ⟨w.heap.size, 3, none⟩ = some (.int .i64 d) ∧ w'.cell? ⟨w.heap.size, 4, none⟩ = some (.bool wt)) (go_keep) (fail)
  go_wp2_with fail
  go_end0
  exact ⟨rfl, hst.below (Below.refl _ _).drew, (((((HT.out.setCell (.inl hin) _).setCell (.inl hin) _).setCell (.inl hin) _).setCell (.inl hin) _).setCell (.inl hin) _).drew⟩
end
end Go.Proofs.YtnolplmpanbmhaaGreat

/-
  The program's machine (stage 2).
-/
namespace Go.Proofs.YtnolplmpanbmhaaGreat
open Go.RowKit
set_option linter.unusedVariables false

structure PSt where
  alive : List Bool
  bytes : List (List Int)
  hs : List PH
  last : Int
  slots : List Ent

def ecells (b : Bool) : List Value := [.bool b, .bool false]
def fcells (l : List Int) : List Value := [.int .u8 (l[0]?.getD 0), .int .u8 (l[1]?.getD 0), .int .u8 (l[2]?.getD 0), .int .u8 (l[3]?.getD 0)]

/-- 'own': (id, 0): the struct; 1: the environments; 2: the frames; 3: the rights; 4: the slots. -/
structure PRep (own : Nat → Nat × Nat) (id : Nat) (w : World) (p : Nat) (s : PSt) (vE vF vL vT : Value) : Prop where
  st : StoreAt own (id, 3) w p 2 57 [vE, vF, vL, .int .i64 s.last, vT] vL s.hs s.last
  tb : TableAt own (id, 4) w p 4 57 [vE, vF, vL, .int .i64 s.last, vT] vT s.slots
  rE : Row w vE 59 2 s.alive.length (s.alive.flatMap ecells)
  rF : Row w vF 103 4 s.bytes.length (s.bytes.flatMap fcells)
  tm : own p = (id, 0)
  tE : Tg own vE (id, 1)
  tF : Tg own vF (id, 2)

section
variable {own : Nat → Nat × Nat} {id : Nat} {w : World} {p : Nat} {s : PSt} {vE vF vL vT : Value}

theorem PRep.of {own' : Nat → Nat × Nat} {w' : World} (h : PRep own id w p s vE vF vL vT) (ho : ∀ b, b < w.heap.size → own' b = own b) (hb : ∀ b, b < w.heap.size → (own b).1 = id → w'.heap[b]? = w.heap[b]?) : PRep own' id w' p s vE vF vL vT :=
  ⟨h.st.of ho (hb p h.st.blk.lt (by rw [h.tm])) (fun x hx ht => hb x hx (by rw [ht])), h.tb.of ho (hb p h.st.blk.lt (by rw [h.tm])) (fun x hx ht => hb x hx (by rw [ht])), h.rE.kept h.tE (fun x hx ht => hb x hx (by rw [ht])), h.rF.kept h.tF (fun x hx ht => hb x hx (by rw [ht])),
    (ho p h.st.blk.lt).trans h.tm, h.tE.congr h.rE ho, h.tF.congr h.rF ho⟩
theorem PRep.below {w' : World} (h : PRep own id w p s vE vF vL vT) (hb : Below w.heap.size w w') : PRep own id w' p s vE vF vL vT := h.of (fun _ _ => rfl) (fun b hm _ => hb.block b hm)

def PNext (own : Nat → Nat × Nat) (id : Nat) (w : World) (p : Nat) (w' : World) (s' : PSt) : Prop :=
  ∃ (own' : Nat → Nat × Nat) (vE vF vL vT : Value), PRep own' id w' p s' vE vF vL vT ∧ (∀ b, b < w.heap.size → own' b = own b) ∧ Touch w.heap.size (fun b => (own b).1 = id) w w'

theorem PNext.refl (h : PRep own id w p s vE vF vL vT) : PNext own id w p w s := ⟨own, vE, vF, vL, vT, h, fun _ _ => rfl, Touch.refl _ _ _⟩
theorem PNext.of_below {w' : World} (h : PRep own id w p s vE vF vL vT) (hb : Below w.heap.size w w') : PNext own id w p w' s := ⟨own, vE, vF, vL, vT, h.below hb, fun _ _ => rfl, Touch.of_below hb _⟩
theorem PNext.after {w1 w2 : World} {s2 : PSt} (ht : Touch w.heap.size (fun b => (own b).1 = id) w w1) (h2 : PNext own id w1 p w2 s2) : PNext own id w p w2 s2 := by
  obtain ⟨own2, a, b, c, d, hr2, ho2, ht2⟩ := h2
  exact ⟨own2, a, b, c, d, hr2, fun b hb => ho2 b (Nat.lt_of_lt_of_le hb ht.size), ht.next (fun _ _ => rfl) ht2⟩
theorem PNext.then {own' : Nat → Nat × Nat} {w1 w2 : World} {s2 : PSt} (ho : ∀ b, b < w.heap.size → own' b = own b) (ht : Touch w.heap.size (fun b => (own b).1 = id) w w1) (h2 : PNext own' id w1 p w2 s2) : PNext own id w p w2 s2 := by
  obtain ⟨own2, a, b, c, d, hr2, ho2, ht2⟩ := h2
  exact ⟨own2, a, b, c, d, hr2, fun b hb => (ho2 b (Nat.lt_of_lt_of_le hb ht.size)).trans (ho b hb), ht.next ho ht2⟩

/-- The store has turned. -/
theorem PRep.next {w' : World} {hs' : List PH} {last' : Int} (h : PRep own id w p s vE vF vL vT) (hn : StoreNext own (id, 3) w p 2 57 [vE, vF, vL, .int .i64 s.last, vT] vL w' hs' last') : PNext own id w p w' { s with hs := hs', last := last' } := by
  obtain ⟨own', vL', h1, h2, h3⟩ := hn
  have hpid : (own p).1 = id := by rw [h.tm]
  have hk : ∀ j, j = 1 ∨ j = 2 ∨ j = 4 → ∀ x, x < w.heap.size → own x = (id, j) → w'.heap[x]? = w.heap[x]? := fun j hj x hx ht => h3.block x hx (fun e => by
    rcases e with e | e
    · subst e; rw [h.tm] at ht; simp at ht; omega
    · have := h.st.tag x e; rw [ht] at this; simp at this; omega)
  refine ⟨own', vE, vF, vL', vT, ⟨h1, ⟨h1.blk, rfl, h.tb.row.kept h.tb.tag (hk 4 (by simp)), h.tb.tag.congr h.tb.row h2, by rw [h2 p h.st.blk.lt]; exact h.tb.ne⟩, h.rE.kept h.tE (hk 1 (by simp)), h.rF.kept h.tF (hk 2 (by simp)), (h2 p h.st.blk.lt).trans h.tm, h.tE.congr h.rE h2, h.tF.congr h.rF h2⟩, h2, h3.mono (Nat.le_refl _) (fun k hk e => ?_)⟩
  rcases e with e | e
  · subst e; exact hpid
  · rw [h.st.tag k e]

/-- The table has turned. -/
theorem PRep.turned {w' : World} {es' : List Ent} (h : PRep own id w p s vE vF vL vT) (ht : TableAt own (id, 4) w' p 4 57 [vE, vF, vL, .int .i64 s.last, vT] vT es') (hT : Touch w.heap.size (fun x => vT.ownBlock = some x) w w') : PRep own id w' p { s with slots := es' } vE vF vL vT := by
  have hk : ∀ j, j ≠ 4 → ∀ x, x < w.heap.size → own x = (id, j) → w'.heap[x]? = w.heap[x]? := fun j hj x hx hx2 => hT.block x hx (fun e => by
    have := h.tb.tag x e; rw [hx2] at this; simp at this; omega)
  exact ⟨⟨ht.blk, rfl, rfl, h.st.row.kept h.st.tag (hk 3 (by simp)), h.st.tag, h.st.ne⟩, ht, h.rE.kept h.tE (hk 1 (by simp)), h.rF.kept h.tF (hk 2 (by simp)), h.tm, h.tE, h.tF⟩
theorem PRep.touch {w' : World} (h : PRep own id w p s vE vF vL vT) (hT : Touch w.heap.size (fun x => vT.ownBlock = some x) w w') : Touch w.heap.size (fun b => (own b).1 = id) w w' :=
  hT.mono (Nat.le_refl _) (fun k hk e => by rw [h.tb.tag k e])

def isEnvP (s : PSt) (env : Int) : Bool := decide (0 ≤ env) && decide (env < s.alive.length)
def aliveP (s : PSt) (env : Int) : Bool := isEnvP s env && s.alive[env.toNat]?.getD false
def rawP (s : PSt) (env : Int) : Int := if aliveP s env then 0 else 2

/-- No two entries of one environment and page. -/
def Uni (es : List Ent) : Prop := ∀ (i j : Nat) (e f : Ent), es[i]? = some e → es[j]? = some f → e.used = true → f.used = true → e.env = f.env → e.page = f.page → i = j

structure PWf (s : PSt) : Prop where
  ne : s.alive.length ≤ 4
  nf : s.bytes.length ≤ 16
  sl : s.slots.length ≤ 8
  uni : Uni s.slots
  fr : ∀ (i : Nat) (e : Ent), s.slots[i]? = some e → e.used = true → 0 ≤ e.fr ∧ e.fr < s.bytes.length
  bys : ∀ (i : Nat) (l : List Int), s.bytes[i]? = some l → l.length = 4 ∧ ∀ (j : Nat) (x : Int), l[j]? = some x → 0 ≤ x ∧ x ≤ 255
  l0 : 0 ≤ s.last
  l1 : s.last ≤ 4611686018427387904
  size : (s.hs.length + 1) * 48 ≤ 140737488355328

theorem PRep.c0 (h : PRep own id w p s vE vF vL vT) : w.cell? ⟨p, 0, none⟩ = some vE := (h.st.blk.cell 0).trans rfl
theorem PRep.c1 (h : PRep own id w p s vE vF vL vT) : w.cell? ⟨p, 1, none⟩ = some vF := (h.st.blk.cell 1).trans rfl

set_option maxHeartbeats 1000000 in
set_option maxRecDepth 100000 in
theorem isEnv_any (h : PRep own id w p s vE vF vL vT) (hw : PWf s) (env : Int) :
    Calls Tryz.prog 84 #[.pointer (some ⟨p, 0, none⟩), .int .i64 env] w fun e w' => e = .returned (.bool (isEnvP s env)) ∧ w' = w := by
  have k0 := h.c0
  have hne := hw.ne
  obtain ⟨ao, cap, hv, _⟩ := h.rE.shape
  rw [hv] at k0
  clear hv
  by_cases h1 : 0 ≤ env
  · have HE : Hid (isEnvP s env = decide (env < s.alive.length)) := by simp [Hid, isEnvP, h1]
    go_enter Tryz.func84, Tryz.ntmps84
    go_wp2_with fail
    go_ret
    exact ⟨ret_bool (by rw [HE.out]), rfl⟩
  · have HE : Hid (isEnvP s env = false) := by simp [Hid, isEnvP]; omega
    go_enter Tryz.func84, Tryz.ntmps84
    go_wp2_with fail
    go_ret
    exact ⟨ret_bool (by rw [HE.out]), rfl⟩

theorem isEnvP_nat {env : Int} (h : isEnvP s env = true) : ∃ j : Nat, env = j ∧ j < s.alive.length := by
  simp [isEnvP] at h
  exact ⟨env.toNat, by omega, by omega⟩

/-- The cells of environment j. -/
theorem PRep.env (h : PRep own id w p s vE vF vL vT) {j : Nat} {a : Bool} (ha : s.alive[j]? = some a) :
    ∃ g cap, vE = .slice (some ⟨g, 0, none⟩) s.alive.length cap ∧ own g = (id, 1) ∧ w.cell? ⟨g, j * 2, none⟩ = some (.bool a) ∧ w.cell? ⟨g, j * 2 + 1, none⟩ = some (.bool false) ∧ ∀ j, w.frozen? ⟨g, j, none⟩ = false := by
  have hi := (List.getElem?_eq_some_iff.1 ha).1
  obtain ⟨g, cap, hv, hc, hf⟩ := h.rE.form (by omega)
  have hx : ∀ k, k < 2 → w.cell? ⟨g, j * 2 + k, none⟩ = (ecells a)[k]? := fun k hk => by
    rw [hc _ (by omega), flat_get ecells 2 (fun _ => rfl) _ _ k _ ha hk]
  exact ⟨g, cap, hv, h.tE g (by rw [hv]; rfl), hx 0 (by omega), hx 1 (by omega), hf⟩

set_option maxHeartbeats 1000000 in
set_option maxRecDepth 100000 in
theorem isAlive_any (h : PRep own id w p s vE vF vL vT) (hw : PWf s) (env : Int) :
    Calls Tryz.prog 81 #[.pointer (some ⟨p, 0, none⟩), .int .i64 env] w fun e w' => e = .returned (.bool (aliveP s env)) ∧ w' = w := by
  have k0 := h.c0
  cases hie : isEnvP s env
  · have HE : Hid (isEnvP s env = false) := hie
    have HA : Hid (aliveP s env = false) := by simp [Hid, aliveP, hie]
    clear hie
    go_enter Tryz.func81, Tryz.ntmps81
    go_wp2_with fail
    refine (isEnv_any h hw env).mono ?_
    rintro e w2 ⟨rfl, rfl⟩
    rw [HE.out]
    go_wp2_with fail
    go_ret
    exact ⟨ret_bool (by rw [HA.out]), rfl⟩
  · obtain ⟨j, rfl, hj⟩ := isEnvP_nat hie
    obtain ⟨a, ha⟩ : ∃ a, s.alive[j]? = some a := ⟨s.alive[j], by simp⟩
    obtain ⟨g, cap, hv, _, c0, _, _⟩ := h.env ha
    have HE : Hid (isEnvP s j = true) := hie
    have HA : Hid (aliveP s j = a) := by simp [Hid, aliveP, hie, ha]
    rw [hv] at k0
    have hl : (j : Int) < (s.alive.length : Int) := by omega
    clear hie hv ha
    go_enter Tryz.func81, Tryz.ntmps81
    go_wp2_with fail
    refine (isEnv_any h hw j).mono ?_
    rintro e w2 ⟨rfl, rfl⟩
    rw [HE.out]
    go_wp2_with fail
    go_ret
    exact ⟨ret_bool (by rw [HA.out]), rfl⟩

theorem aliveP_nat {env : Int} (h : aliveP s env = true) : ∃ j : Nat, env = j ∧ s.alive[j]? = some true := by
  simp [aliveP] at h
  obtain ⟨j, rfl, hj⟩ := isEnvP_nat h.1
  refine ⟨j, rfl, ?_⟩
  have := h.2
  simp at this
  cases hx : s.alive[j]? with
  | none => rw [hx] at this; simp at this
  | some a => rw [hx] at this; simp at this; rw [this]

theorem rawP_cases (s : PSt) (env : Int) : (rawP s env = 2 ∧ aliveP s env = false) ∨ (rawP s env = 0 ∧ aliveP s env = true) := by
  unfold rawP
  cases aliveP s env <;> simp

set_option maxHeartbeats 1000000 in
set_option maxRecDepth 100000 in
theorem needRaw_any (h : PRep own id w p s vE vF vL vT) (hw : PWf s) (env : Int) :
    Calls Tryz.prog 66 #[.pointer (some ⟨p, 0, none⟩), .int .i64 env] w fun e w' => e = .returned (.int .i64 (rawP s env)) ∧ w' = w := by
  have k0 := h.c0
  rcases rawP_cases s env with ⟨hr, ha⟩ | ⟨hr, ha⟩
  · have HA : Hid (aliveP s env = false) := ha
    have HR : Hid (rawP s env = 2) := hr
    clear ha hr
    go_enter Tryz.func66, Tryz.ntmps66
    go_wp2_with fail
    refine (isAlive_any h hw env).mono ?_
    rintro e w2 ⟨rfl, rfl⟩
    rw [HA.out]
    go_wp2_with fail
    go_ret
    exact ⟨ret_int (by rw [HR.out]), rfl⟩
  · obtain ⟨j, rfl, haj⟩ := aliveP_nat ha
    have hj := (List.getElem?_eq_some_iff.1 haj).1
    obtain ⟨g, cap, hv, _, c0, c1, _⟩ := h.env haj
    have HA : Hid (aliveP s j = true) := ha
    have HR : Hid (rawP s j = 0) := hr
    rw [hv] at k0
    have hl : (j : Int) < (s.alive.length : Int) := by omega
    clear ha hr hv haj
    go_enter Tryz.func66, Tryz.ntmps66
    go_wp2_with fail
    refine (isAlive_any h hw j).mono ?_
    rintro e w2 ⟨rfl, rfl⟩
    rw [HA.out]
    go_wp2_with fail
    go_ret
    exact ⟨ret_int (by rw [HR.out]), rfl⟩

def leastFreeP (s : PSt) : Option Nat := (List.range s.bytes.length).find? fun f => freeP s.hs f
def lfV (x : Option Nat) : Value := match x with
  | some f => .tuple #[.int .i64 f, .bool true]
  | none => .tuple #[.int .i64 0, .bool false]
theorem leastFreeP_some {f : Nat} (hlt : f < s.bytes.length) (hno : ∀ g : Nat, g < f → freeP s.hs g = false) (hy : freeP s.hs f = true) : leastFreeP s = some f := by
  unfold leastFreeP
  rw [List.find?_range_eq_some]
  exact ⟨hy, List.mem_range.2 hlt, fun j hj => by simpa using hno j hj⟩
theorem leastFreeP_none (hno : ∀ g : Nat, g < s.bytes.length → freeP s.hs g = false) : leastFreeP s = none := by
  unfold leastFreeP
  rw [List.find?_eq_none]
  intro x hx
  simp [hno x (List.mem_range.1 hx)]

set_option maxHeartbeats 1000000 in
set_option maxRecDepth 100000 in
theorem leastFree_any (h : PRep own id w p s vE vF vL vT) (hw : PWf s) :
    Calls Tryz.prog 67 #[.pointer (some ⟨p, 0, none⟩)] w fun e w' => e = .returned (lfV (leastFreeP s)) ∧ Below w.heap.size w w' := by
  have k1 := h.c1
  have hnf := hw.nf
  have hsz := hw.size
  obtain ⟨ao, cap, hv, _⟩ := h.rF.shape
  rw [hv] at k1
  clear hv
  go_enter Tryz.func67, Tryz.ntmps67
  go_wp2_with fail
  go_loopg [10] s.bytes.length (fun k x wr => ∃ f : Nat, x = .int .i64 f ∧ f + k = s.bytes.length ∧ (∀ g : Nat, g < f → freeP s.hs g = false) ∧ Below w.heap.size w wr)
  case atStart => exact ⟨0, rfl, by omega, fun g hg => by omega, Below.refl _ _⟩
  case round =>
    obtain ⟨f, rfl, hk, hno, hbl⟩ := hrel
    have HK : Hid (f + gk = s.bytes.length) := hk
    have HN : Hid (∀ g : Nat, g < f → freeP s.hs g = false) := hno
    have hf : f ≤ s.bytes.length := by omega
    clear hk hno
    by_cases hlt : f < s.bytes.length
    · go_wp2_with fail
      refine (pfree_any (h.below hbl).st (by omega) f).mono ?_
      rintro e w2 ⟨rfl, hb2⟩
      have hbl2 : Below w.heap.size w w2 := hbl.trans (hb2.mono hbl.size)
      cases hfr : freeP s.hs f
      · have HF : Hid (freeP s.hs f = false) := hfr
        clear hfr
        go_wp2_with fail
        go_roundg (gk - 1)
        case measure => have := HK.out; omega
        case rel => exact ⟨f + 1, by go_num, by have := HK.out; omega, fun g hg => by
          rcases Nat.lt_or_ge g f with h1 | h1
          · exact HN.out g h1
          · obtain rfl : g = f := by omega
            exact HF.out, hbl2⟩
      · have HF : Hid (leastFreeP s = some f) := leastFreeP_some hlt HN.out hfr
        clear hfr
        go_wp2_with fail
        go_ret2
        exact ⟨by rw [HF.out]; rfl, hbl2⟩
    · have HF : Hid (leastFreeP s = none) := leastFreeP_none (fun g hg => HN.out g (by omega))
      go_wp2_with fail
      go_ret2
      exact ⟨by rw [HF.out]; rfl, hbl⟩

/-- The right that a call names, and the error. -/
def rightP (s : PSt) (env hd : Int) : Option PH × Int :=
  if rawP s env ≠ 0 then (none, rawP s env) else match findP s.hs env hd with
    | some x => (some x, 0)
    | none => (none, 9)
def rightV (x : Option PH × Int) : Value := match x.1 with
  | some y => .tuple #[.agg #[.int .i64 y.h, .int .i64 y.env, .int .i64 y.fr, .bool y.wr], .int .i64 x.2]
  | none => .tuple #[.agg #[.int .i64 0, .int .i64 0, .int .i64 0, .bool false], .int .i64 x.2]

set_option maxHeartbeats 1000000 in
set_option maxRecDepth 100000 in
theorem needRight_any (h : PRep own id w p s vE vF vL vT) (hw : PWf s) (env hd : Int) :
    Calls Tryz.prog 72 #[.pointer (some ⟨p, 0, none⟩), .int .i64 env, .int .i64 hd] w fun e w' => e = .returned (rightV (rightP s env hd)) ∧ Below w.heap.size w w' := by
  have hsz := hw.size
  have h' := h.below ((Below.refl _ _).alloc (Nat.le_refl _) (.cells #[.int .i64 0, .int .i64 0, .int .i64 0, .bool false] 107))
  rcases rawP_cases s env with ⟨hr, ha⟩ | ⟨hr, ha⟩
  · have HR : Hid (rawP s env = 2) := hr
    have HP : Hid (rightP s env hd = (none, 2)) := by simp [Hid, rightP, hr]
    clear ha hr
    go_enter Tryz.func72, Tryz.ntmps72
    go_wp2_with fail
    refine (needRaw_any h' hw env).mono ?_
    rintro e w2 ⟨rfl, hw2⟩
    subst hw2
    rw [HR.out]
    go_wp2_with fail
    exact bodyPost_ret (v := .tuple #[.agg #[.int .i64 0, .int .i64 0, .int .i64 0, .bool false], .int .i64 2]) (by simp [results, Tryz.results72, go_sem]) rfl ⟨by rw [HP.out]; rfl, (Below.refl _ _).alloc (Nat.le_refl _) _⟩
  · have HR : Hid (rawP s env = 0) := hr
    cases hf : findP s.hs env hd with
    | none =>
      have HF : Hid (findP s.hs env hd = none) := hf
      have HP : Hid (rightP s env hd = (none, 9)) := by simp [Hid, rightP, hr, hf]
      clear ha hr hf
      go_enter Tryz.func72, Tryz.ntmps72
      go_wp2_with fail
      refine (needRaw_any h' hw env).mono ?_
      rintro e w2 ⟨rfl, hw2⟩
      subst hw2
      rw [HR.out]
      go_wp2_with fail
      refine (find_any h'.st (by omega) env hd).mono ?_
      rintro e w3 ⟨rfl, hb3⟩
      rw [HF.out]
      simp only [findV]
      have hrb := (Blk.new w [.int .i64 0, .int .i64 0, .int .i64 0, .bool false] 107).below hb3 (by simp)
      have hrl := hrb.lt
      have r0 := hrb.cell 0
      have r1 := hrb.cell 1
      have r2 := hrb.cell 2
      have r3 := hrb.cell 3
      simp at r0 r1 r2 r3
      have s0 := hrb.frozen 0
      have s1 := hrb.frozen 1
      have s2 := hrb.frozen 2
      have s3 := hrb.frozen 3
      have hbl3 : Below w.heap.size w w3 := ((Below.refl _ _).alloc (Nat.le_refl _) _).trans (hb3.mono (by simp))
      go_wp2_with fail
      exact bodyPost_ret (v := .tuple #[.agg #[.int .i64 0, .int .i64 0, .int .i64 0, .bool false], .int .i64 9]) (by simp [results, Tryz.results72, go_sem, r0, r1, r2, r3, hrl]) rfl ⟨by rw [HP.out]; rfl, ((((hbl3.setCell (by simp) _).setCell (by simp) _).setCell (by simp) _).setCell (by simp) _).alloc (by simpa using hbl3.size) _⟩
    | some y =>
      have HF : Hid (findP s.hs env hd = some y) := hf
      have HP : Hid (rightP s env hd = (some y, 0)) := by simp [Hid, rightP, hr, hf]
      clear ha hr hf
      go_enter Tryz.func72, Tryz.ntmps72
      go_wp2_with fail
      refine (needRaw_any h' hw env).mono ?_
      rintro e w2 ⟨rfl, hw2⟩
      subst hw2
      rw [HR.out]
      go_wp2_with fail
      refine (find_any h'.st (by omega) env hd).mono ?_
      rintro e w3 ⟨rfl, hb3⟩
      rw [HF.out]
      simp only [findV]
      have hrb := (Blk.new w [.int .i64 0, .int .i64 0, .int .i64 0, .bool false] 107).below hb3 (by simp)
      have hrl := hrb.lt
      have r0 := hrb.cell 0
      have r1 := hrb.cell 1
      have r2 := hrb.cell 2
      have r3 := hrb.cell 3
      simp at r0 r1 r2 r3
      have s0 := hrb.frozen 0
      have s1 := hrb.frozen 1
      have s2 := hrb.frozen 2
      have s3 := hrb.frozen 3
      have hbl3 : Below w.heap.size w w3 := ((Below.refl _ _).alloc (Nat.le_refl _) _).trans (hb3.mono (by simp))
      go_wp2_with fail
      exact bodyPost_ret (v := .tuple #[.agg #[.int .i64 y.h, .int .i64 y.env, .int .i64 y.fr, .bool y.wr], .int .i64 0]) (by simp [results, Tryz.results72, go_sem, r0, r1, r2, r3, hrl]) rfl ⟨by rw [HP.out]; rfl, ((((hbl3.setCell (by simp) _).setCell (by simp) _).setCell (by simp) _).setCell (by simp) _).alloc (by simpa using hbl3.size) _⟩
end
end Go.Proofs.YtnolplmpanbmhaaGreat

namespace Go.Proofs.YtnolplmpanbmhaaGreat
open Go.RowKit
set_option linter.unusedVariables false
attribute [local go_sem ↓] Go.wp_at_zero Go.wp_at_succ

def swP (hs : List PH) (e : Ent) : Ent := if e.used && !backsP hs e.env e.fr e.wr then Ent.empty else e

theorem mapTo_get {α : Type} (f : α → α) (xs : List α) (q i : Nat) : (mapTo f xs q)[i]? = if i < q then xs[i]?.map f else xs[i]? := by
  unfold mapTo
  by_cases h : i < q
  · rw [if_pos h]
    by_cases h2 : i < xs.length
    · rw [List.getElem?_append_left (by simp; omega)]
      simp [h]
    · rw [List.getElem?_eq_none (by simp; omega), List.getElem?_eq_none (show xs.length ≤ i by omega)]; rfl
  · rw [if_neg h]
    by_cases h2 : q ≤ xs.length
    · rw [List.getElem?_append_right (by simp; omega)]
      simp only [List.length_map, List.length_take, List.getElem?_drop]
      congr 1; omega
    · rw [List.getElem?_eq_none (by simp; omega), List.getElem?_eq_none (by omega)]

/-- One entry goes: no other has its environment and page. -/
theorem rem_one {es : List Ent} (hu : Uni es) {f : Ent → Ent} (hf : ∀ e, f e = e ∨ f e = Ent.empty) {q : Nat} {x : Ent} (hx : es[q]? = some x) (hxu : x.used = true) (hfx : f x = Ent.empty) :
    (mapTo f es q).map (remE x.env x.page) = mapTo f es (q + 1) := by
  apply List.ext_getElem?
  intro i
  rw [List.getElem?_map, mapTo_get, mapTo_get]
  cases hi : es[i]? with
  | none => simp
  | some y =>
    have key : i ≠ q → remE x.env x.page y = y := fun hne => by
      unfold remE
      cases hp : entP x.env x.page y with
      | false => rfl
      | true =>
        simp [entP] at hp
        exact absurd (hu i q y x hi hx hp.1 hxu hp.2.1 hp.2.2) hne
    have hemp : remE x.env x.page Ent.empty = Ent.empty := by simp [remE, entP, Ent.empty]
    by_cases h1 : i < q
    · rw [if_pos h1, if_pos (by omega)]
      simp only [Option.map_some]
      rcases hf y with h | h
      · rw [h, key (by omega)]
      · rw [h, hemp]
    · rw [if_neg h1]
      by_cases h2 : i = q
      · subst h2
        rw [if_pos (by omega)]
        rw [hx] at hi
        simp at hi
        subst hi
        simp only [Option.map_some, hfx]
        congr 1
        simp [remE, entP, hxu]
      · rw [if_neg (by omega)]
        simp only [Option.map_some]
        rw [key h2]

section
variable {own : Nat → Nat × Nat} {id : Nat} {w : World} {p : Nat} {s : PSt} {vE vF vL vT : Value}

set_option maxHeartbeats 4000000 in
set_option maxRecDepth 100000 in
theorem unbacked_any (h : PRep own id w p s vE vF vL vT) (hw : PWf s) :
    Calls Tryz.prog 78 #[.pointer (some ⟨p, 0, none⟩)] w fun e w' => e = .returned (.tuple #[]) ∧ PRep own id w' p { s with slots := s.slots.map (swP s.hs) } vE vF vL vT ∧ Touch w.heap.size (fun x => vT.ownBlock = some x) w w' := by
  have hsz := hw.size
  have hsl := hw.sl
  have hplt := h.st.blk.lt
  have hvlt := h.tb.row.lt
  have hsm : s.hs.length ≤ 4611686018427387904 := by omega
  go_enter Tryz.func78, Tryz.ntmps78
  go_wp2_with fail
  refine (tlist_any h.tb hsl).mono ?_
  rintro e w1 ⟨v, rfl, hb1, hnew, hrow⟩
  have HB1 : Hid (Below w.heap.size w w1) := hb1
  have hs1 := hb1.size
  have h1 := h.below hb1
  obtain ⟨ao, cap, hv, hcase⟩ := hrow.shape
  subst hv
  clear hb1
  rcases hcase with h0 | ⟨g, rfl⟩
  all_goals
    go_wp2_with fail
    go_loopg [9] s.slots.length (fun k x wr => ∃ q : Nat, x = .int .i64 q ∧ q + k = s.slots.length ∧ PRep own id wr p { s with slots := mapTo (swP s.hs) s.slots q } vE vF vL vT ∧ Touch w.heap.size (fun x => vT.ownBlock = some x) w wr ∧ Row wr (.slice _ s.slots.length cap) 68 5 s.slots.length (s.slots.flatMap Ent.cells))
    case atStart => exact ⟨0, rfl, by omega, by rw [mapTo_zero]; exact h1, Touch.of_below HB1.out _, hrow⟩
    case round =>
      obtain ⟨q, rfl, hk, h', ht, hr'⟩ := hrel
      have HK : Hid (q + gk = s.slots.length) := hk
      have hq : q ≤ s.slots.length := by omega
      have hwz := ht.size
      clear hk
      by_cases hlt : q < s.slots.length
      · first
        | (exfalso; omega; done)
        | (obtain ⟨x, hx⟩ : ∃ x, s.slots[q]? = some x := ⟨s.slots[q], by simp⟩
           obtain ⟨c0, c1, c2, c3, c4⟩ := hr'.ent hx
           have hgl : g < wr.heap.size := hr'.lt g rfl
           have hgn : w.heap.size ≤ g := hnew g rfl
           have HX : Hid (s.slots[q]? = some x) := hx
           have hba : Below wr.heap.size wr (wr.alloc (.cells #[.bool x.used, .int .i64 x.env, .int .i64 x.page, .int .i64 x.fr, .bool x.wr] 68)) := (Below.refl _ _).alloc (Nat.le_refl _) _
           have h2 := h'.below hba
           have hbx := Blk.new wr [.bool x.used, .int .i64 x.env, .int .i64 x.page, .int .i64 x.fr, .bool x.wr] 68
           clear hx
           rcases Bool.eq_false_or_eq_true x.used with hu | hu
           · have hu2 := hu
             rw [hu] at c0 hba h2 hbx
             have h2d := h2.below (Below.refl _ _).drew
             have hbxd := hbx.drew
             go_wp2_with fail
             go_region_held3 (fun w' => w'.cell? ⟨wr.heap.size, 0, none⟩ = some (.bool true) ∧ w'.cell? ⟨wr.heap.size, 1, none⟩ = some (.int .i64 x.env) ∧ w'.cell? ⟨wr.heap.size, 3, none⟩ = some (.int .i64 x.fr) ∧ w'.cell? ⟨wr.heap.size, 4, none⟩ = some (.bool x.wr)) (go_keep)
               ((first
                 | (go_at_call 106; refine (backs_any h2d.st hsm x.env x.fr x.wr).mono ?_; rintro e w2 ⟨rfl, hb2⟩
                    have hbxx := hbxd.below hb2 (by simp)
                    have a0 := hbxx.cell 0
                    have a1 := hbxx.cell 1
                    have a2 := hbxx.cell 2
                    have a3 := hbxx.cell 3
                    have a4 := hbxx.cell 4
                    simp at a0 a1 a2 a3 a4)))
             have hbw : Below wr.heap.size wr w2 := hba.drew.trans (hb2.mono (by simp))
             have h3 := h2d.below hb2
             have ht3 : Touch w.heap.size (fun x => vT.ownBlock = some x) w w2 := ht.then_below hbw hwz
             have hr3 := hr'.below hbw
             have hxl := hbxx.lt
             cases hbk : backsP s.hs x.env x.fr x.wr
             · have HW : Hid ((mapTo (swP s.hs) s.slots q).map (remE x.env x.page) = mapTo (swP s.hs) s.slots (q + 1)) := rem_one hw.uni (fun e => by unfold swP; split; exact .inr rfl; exact .inl rfl) HX.out hu2 (by simp [swP, hu2, hbk])
               have hl3 : (mapTo (swP s.hs) s.slots q).length ≤ 8 := by rw [mapTo_len]; exact hsl
               clear hbk
               have h3d := h3.below (Below.refl _ _).drew
               have hbxy := hbxx.drew
               have hxn : ∀ y, vT.ownBlock = some y → y ≠ wr.heap.size := fun y hy e => by have := hvlt y hy; omega
               go_wp2_with fail
               go_region_held3 (fun w' => w'.cell? ⟨wr.heap.size, 1, none⟩ = some (.int .i64 x.env) ∧ w'.cell? ⟨wr.heap.size, 2, none⟩ = some (.int .i64 x.page)) (go_keep)
                 ((first
                   | (go_at_call 93; refine (tremove_any h3d.tb hl3 x.env x.page).mono ?_; rintro e w3 ⟨rfl, h4, ht4⟩
                      have hby := hbxy.of (ht4.block _ hxl (fun e => hxn _ e rfl))
                      have e1 := hby.cell 1
                      have e2 := hby.cell 2
                      simp at e1 e2)))
               go_wp2_with fail
               go_roundg (gk - 1)
               case measure => have := HK.out; omega
               case rel =>
                 refine ⟨q + 1, by go_num, by have := HK.out; omega, ?_, ht3.drew.trans (ht4.mono ht3.size (fun _ _ h => h)), ?_⟩
                 · have h5 := h3d.turned h4 ht4
                   rw [← HW.out]
                   exact h5
                 · exact hr3.drew.of (fun y hy => ht4.block y (hr3.lt y hy) (fun e => by
                     simp [Value.ownBlock] at hy
                     have := hvlt y e
                     omega))
             · have HW : Hid (mapTo (swP s.hs) s.slots (q + 1) = mapTo (swP s.hs) s.slots q) := mapTo_same _ _ _ _ HX.out (by simp [swP, hbk])
               clear hbk
               go_wp2_with fail
               go_roundg (gk - 1)
               case measure => have := HK.out; omega
               case rel => exact ⟨q + 1, by go_num, by have := HK.out; omega, by rw [HW.out]; exact h3, ht3, hr3⟩
           · have HW : Hid (mapTo (swP s.hs) s.slots (q + 1) = mapTo (swP s.hs) s.slots q) := mapTo_same _ _ _ _ HX.out (by simp [swP, hu])
             rw [hu] at c0 hba h2 hbx
             go_wp2_with fail
             go_quiet (fail)
             go_wp2_with fail
             go_roundg (gk - 1)
             case measure => have := HK.out; omega
             case rel => exact ⟨q + 1, by go_num, by have := HK.out; omega, by rw [HW.out]; exact h2.below (below_drewN (Below.refl _ _) _), ht.then_below (below_drewN hba _) hwz, hr'.below (below_drewN hba _)⟩)
      · obtain rfl : q = s.slots.length := by omega
        rw [mapTo_all] at h'
        go_wp2_with fail
        go_end0
        exact ⟨rfl, h', ht⟩
end
end Go.Proofs.YtnolplmpanbmhaaGreat
