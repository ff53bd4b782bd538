import Derived.Test.YtinlkcmdbjcofaaGreatM19
/-
  append: the elements that were there are as they were, in the old row too.
-/
namespace Go.Proofs.YtinlkcmdbjcofaaGreat
open Go.RowKit
set_option linter.unusedVariables false

section
variable {P : Program} (w : World)

theorem run_append_kept (t ty : TypeId) (e : TypeId) (i : TypeInfo) (z : Value) (size bytes : Nat) (ht : P.underlying t = some (.slice e)) (hi : P.info? e = some i) (hz : i.zero = some z)
    (hsize : i.size = size) (hby : i.bytes = bytes) (hzs : z.cells.size = size) (hsz : 0 < size)
    (v : Value) (n : Nat) (xs : List Value) (hown : w.ownsRow 0 e size v n xs)
    (ad : Addr) (m c : Nat) (news : List Value) (hl : news.length = m * size) (hnews : ∀ j u, news[j]? = some u → w.cell? (ad.add j) = some u) (h1 : ∀ u ∈ news, u.oneCell' = true)
    (hm : 0 < m) (h63 : n + m ≤ maxLen) (hbytes : (n + m) * bytes ≤ 140737488355328) (H : Nat) (hH : w.heap.size = H) :
    ∃ g cap w', (Builtin.append_ #[t, t] ty #[v, .slice (some ad) m c]).run P w = .ok (.slice (some ⟨g, 0, none⟩) (n + m) cap) w' ∧
      w'.ownsRow 0 e size (.slice (some ⟨g, 0, none⟩) (n + m) cap) (n + m) (xs ++ news) ∧ w.grownBy w' v.ownBlock ∧ (v.ownBlock = some g ∨ g = H) ∧ g < w'.heap.size ∧
      (∀ b, v.ownBlock = some b → ∀ j, j < n * size → w'.cell? ⟨b, j, none⟩ = w.cell? ⟨b, j, none⟩) := by
  obtain ⟨g, cap, w', hr, h2, h3, h4, h5⟩ := run_append_lies (P := P) w t ty 0 e i z size bytes ht hi hz hsize hby hzs hsz v n xs hown ad m c news hl hnews h1 hm h63 hbytes (Nat.zero_le _) H hH
  refine ⟨g, cap, w', hr, h2, h3, h4, h5, ?_⟩
  intro b hb j hj
  rcases hown.2 with ⟨rfl, _⟩ | ⟨g0, cap0, cur, rfl, _, hg, hnc, hcm, hcs, htake⟩
  · simp [Value.ownBlock] at hb
  · have hgb : g0 = b := by simpa [Value.ownBlock] using hb
    subst hgb
    subst hsize
    by_cases hroom : n + m ≤ cap0
    · have hfit : n * i.size + news.length ≤ cur.size := by rw [hl, hcs, ← Nat.add_mul]; exact Nat.mul_le_mul_right _ hroom
      have hr2 := run_append_room (P := P) w t ty e i ht hi g0 n cap0 cur hg ad m c news hl hnews h1 hroom hfit
      rw [hr] at hr2
      have hw : w' = _ := (Result.ok.inj hr2).2
      rw [hw, cell_of_row _ g0 j _ e (0, 0) (setRow_heap w g0 cur _ e _ hg), cell_of_row w g0 j cur e (0, 0) hg]
      have : n * i.size ≤ cur.toList.length := by simp; omega
      simp only [List.getElem?_toArray]
      rw [List.append_assoc, List.getElem?_append_left (by rw [List.length_take]; omega), List.getElem?_take, if_pos hj]
      simp
    · have holds : ∀ j u, xs[j]? = some u → w.cell? ((⟨g0, 0, none⟩ : Addr).add j) = some u := hown.cells (g := g0) rfl
      have hsm : n + m ≤ 9223372036854775807 := by simp only [maxLen] at h63; omega
      have hr2 := run_append_grow (P := P) w t ty e i z ht hi hz ⟨g0, 0, none⟩ n cap0 xs hown.1 holds ad m c news hl hnews (by omega) (by omega) (growslice_fits (by omega) (by rw [hby]; exact hbytes))
      rw [hr] at hr2
      have hw : w' = _ := (Result.ok.inj hr2).2
      have hlt : g0 < w.heap.size := (Array.getElem?_eq_some_iff.1 hg).1
      have hb : w'.heap[g0]? = w.heap[g0]? := by
        rw [hw]
        exact Below.heap_alloc w.drew _ g0 hlt
      exact World.cell?_of_block (a := ⟨g0, j, none⟩) hb

theorem wpList_append_kept {ops : Array Oper} {rest : List Oper} {o : Oper} {a : Act} {Q : Exit → Act → World → Prop} (hgd : o.guard = none) (s x : Operand) (t : TypeId)
    (ho : o.op = .call { callee := .builtin .append, args := #[s, x], argTypes := #[t, t] })
    (e : TypeId) (i : TypeInfo) (z : Value) (size bytes : Nat) (ht : P.underlying t = some (.slice e)) (hi : P.info? e = some i) (hz : i.zero = some z)
    (hsize : i.size = size) (hby : i.bytes = bytes) (hzs : z.cells.size = size) (hsz : 0 < size)
    (v : Value) (n : Nat) (xs : List Value) (hs : a.eval s = v) (hown : w.ownsRow 0 e size v n xs)
    (ad : Addr) (m c : Nat) (news : List Value) (hx : a.eval x = .slice (some ad) m c) (hl : news.length = m * size) (hnews : ∀ j u, news[j]? = some u → w.cell? (ad.add j) = some u) (h1 : ∀ u ∈ news, u.oneCell' = true)
    (hm : 0 < m) (h63 : n + m ≤ maxLen) (hbytes : (n + m) * bytes ≤ 140737488355328) (H : Nat) (hH : w.heap.size = H)
    (h : ∀ g cap w', w'.ownsRow 0 e size (.slice (some ⟨g, 0, none⟩) (n + m) cap) (n + m) (xs ++ news) → w.grownBy w' v.ownBlock → (v.ownBlock = some g ∨ g = H) → g < w'.heap.size →
      (∀ b, v.ownBlock = some b → ∀ j, j < n * size → w'.cell? ⟨b, j, none⟩ = w.cell? ⟨b, j, none⟩) → wpList P ops Q rest (a.put o.dst (.slice (some ⟨g, 0, none⟩) (n + m) cap)) w') : wpList P ops Q (o :: rest) a w := by
  refine wpList_plain hgd fun K hK => ?_
  obtain ⟨g, cap, w', hr, h2, h3, h4, h5, h6⟩ := run_append_kept (P := P) w t o.type e i z size bytes ht hi hz hsize hby hzs hsz v n xs hown ad m c news hl hnews h1 hm h63 hbytes H hH
  unfold Oper.wp execOp
  simp only [ho, resolve, invoke, builtin, Sem.run_bind, Sem.run_pure, Result.andThen_ok, List.map_toArray, List.map_cons, List.map_nil, hs, hx, hr]
  exact hK _ _ (h g cap w' h2 h3 h4 h5 h6)
end
end Go.Proofs.YtinlkcmdbjcofaaGreat

/-
  The lists that came out, and how their owner has marked them.
-/
namespace Go.Proofs.YtinlkcmdbjcofaaGreat
open Go.RowKit
set_option linter.unusedVariables false

theorem Row.cellAt' {w : World} {e k n g cap : Nat} {xs : List Value} (h : Row w (.slice (some ⟨g, 0, none⟩) n cap) e k n xs) (j : Nat) (hj : j < n * k) : w.cell? ⟨g, j, none⟩ = xs[j]? := World.ownsRow.cellAt h j hj
theorem Row.shape' {w : World} {v : Value} {e k n : Nat} {xs : List Value} (h : Row w v e k n xs) : ∃ ao cap, v = .slice ao n cap ∧ (n = 0 ∨ ∃ g, ao = some ⟨g, 0, none⟩) := by
  obtain ⟨ao, cap, g, hv, hao, _⟩ := h.view
  refine ⟨ao, cap, hv, ?_⟩
  rcases Nat.eq_zero_or_pos n with h0 | h0
  · exact .inl h0
  · exact .inr ⟨g, hao h0⟩

/-- A slice all of whose elements hold the k cells c; at most a of them; its row bears the mark t. -/
def SA (own : Nat → Nat × Nat) (t : Nat × Nat) (w : World) (c : List Value) (k a : Nat) (x : Value) : Prop :=
  ∃ ao n cap g, x = .slice ao n cap ∧ n ≤ a ∧ (n = 0 ∨ (ao = some ⟨g, 0, none⟩ ∧ own g = t ∧ g < w.heap.size ∧ ∀ i j, i < n → j < k → w.cell? ⟨g, i * k + j, none⟩ = c[j]?))

theorem SA.of {own own' : Nat → Nat × Nat} {t : Nat × Nat} {w w' : World} {c : List Value} {k a : Nat} {x : Value} (h : SA own t w c k a x) (ho : ∀ b, b < w.heap.size → own' b = own b) (hs : w.heap.size ≤ w'.heap.size)
    (hb : ∀ b, b < w.heap.size → own b = t → ∀ j, j < a * k → w'.cell? ⟨b, j, none⟩ = w.cell? ⟨b, j, none⟩) : SA own' t w' c k a x := by
  obtain ⟨ao, n, cap, g, rfl, hn, h⟩ := h
  refine ⟨ao, n, cap, g, rfl, hn, ?_⟩
  rcases h with h | ⟨h1, h2, h3, h4⟩
  · exact Or.inl h
  refine Or.inr ⟨h1, (ho g h3).trans h2, by omega, fun i j hi hj => ?_⟩
  rw [hb g h3 h2 _ ?_]
  · exact h4 i j hi hj
  · have : i * k + j < (i + 1) * k := by rw [Nat.add_mul]; omega
    have : (i + 1) * k ≤ a * k := Nat.mul_le_mul_right k (by omega)
    omega
theorem SA.mono {own : Nat → Nat × Nat} {t : Nat × Nat} {w : World} {c : List Value} {k a a' : Nat} {x : Value} (h : SA own t w c k a x) (ha : a ≤ a') : SA own t w c k a' x := by
  obtain ⟨ao, n, cap, g, rfl, hn, h⟩ := h
  exact ⟨ao, n, cap, g, rfl, by omega, h⟩

def mI (n : Int) : List Value := [.int .i64 n]
def mR (n : Int) : List Value := [.int .i64 n, .int .i64 0, .int .i64 0, .bool false]
def mE (n : Int) : List Value := [.bool false, .int .i64 n, .int .i64 0, .int .i64 0, .bool false]

/-- A list that its owner has marked: 'own': (id, 0): the struct; 1: ints; 2: the list of more of them; 3, 4: rights; 5, 6: entries. -/
structure HoldOK (own : Nat → Nat × Nat) (id : Nat) (w : World) (hb : Nat) (n : Int) (a : Nat) : Prop where
  ex : ∃ (vI vMI vR vMR vE vME : Value) (xI xR xE : List Value), Blk w hb [vI, vMI, vR, vMR, vE, vME, .int .i64 n] 88 ∧
    SA own (id, 1) w (mI n) 1 a vI ∧ SA own (id, 3) w (mR n) 4 a vR ∧ SA own (id, 5) w (mE n) 5 a vE ∧
    (Row w vMI 62 1 16 xI ∧ Tg own vMI (id, 2) ∧ ∀ x, x ∈ xI → SA own (id, 1) w (mI n) 1 a x) ∧
    (Row w vMR 80 1 16 xR ∧ Tg own vMR (id, 4) ∧ ∀ x, x ∈ xR → SA own (id, 3) w (mR n) 4 a x) ∧
    (Row w vME 49 1 16 xE ∧ Tg own vME (id, 6) ∧ ∀ x, x ∈ xE → SA own (id, 5) w (mE n) 5 a x)
  tm : own hb = (id, 0)
  am : a ≤ 4611686018427387904

theorem HoldOK.lt {own : Nat → Nat × Nat} {id : Nat} {w : World} {hb : Nat} {n : Int} {a : Nat} (h : HoldOK own id w hb n a) : hb < w.heap.size := by
  obtain ⟨_, _, _, _, _, _, _, _, _, h1, _⟩ := h.ex
  exact h1.lt

theorem HoldOK.of {own own' : Nat → Nat × Nat} {id : Nat} {w w' : World} {hb : Nat} {n : Int} {a : Nat} (h : HoldOK own id w hb n a) (ho : ∀ b, b < w.heap.size → own' b = own b) (hs : w.heap.size ≤ w'.heap.size)
    (hk : ∀ b, b < w.heap.size → (own b).1 = id → w'.heap[b]? = w.heap[b]?) : HoldOK own' id w' hb n a := by
  have hc : ∀ t : Nat × Nat, t.1 = id → ∀ b, b < w.heap.size → own b = t → ∀ j k, j < k → w'.cell? ⟨b, j, none⟩ = w.cell? ⟨b, j, none⟩ := fun t ht b hb hot j k _ =>
    World.cell?_of_block (a := ⟨b, j, none⟩) (hk b hb (by rw [hot]; exact ht))
  have hlt := h.lt
  obtain ⟨vI, vMI, vR, vMR, vE, vME, xI, xR, xE, h1, h2, h3, h4, ⟨i1, i2, i3⟩, ⟨r1, r2, r3⟩, ⟨e1, e2, e3⟩⟩ := h.ex
  refine ⟨⟨vI, vMI, vR, vMR, vE, vME, xI, xR, xE, h1.of (hk hb hlt (by rw [h.tm])), h2.of ho hs (fun b hb ht j hj => hc _ rfl b hb ht j _ hj), h3.of ho hs (fun b hb ht j hj => hc _ rfl b hb ht j _ hj), h4.of ho hs (fun b hb ht j hj => hc _ rfl b hb ht j _ hj),
    ⟨i1.kept i2 (fun b hb ht => hk b hb (by rw [ht])), i2.congr i1 ho, fun x hx => (i3 x hx).of ho hs (fun b hb ht j hj => hc _ rfl b hb ht j _ hj)⟩,
    ⟨r1.kept r2 (fun b hb ht => hk b hb (by rw [ht])), r2.congr r1 ho, fun x hx => (r3 x hx).of ho hs (fun b hb ht j hj => hc _ rfl b hb ht j _ hj)⟩,
    ⟨e1.kept e2 (fun b hb ht => hk b hb (by rw [ht])), e2.congr e1 ho, fun x hx => (e3 x hx).of ho hs (fun b hb ht j hj => hc _ rfl b hb ht j _ hj)⟩⟩, (ho hb hlt).trans h.tm, h.am⟩

section
variable {own : Nat → Nat × Nat} {t : Nat × Nat} {w : World}

set_option maxHeartbeats 1000000 in
set_option maxRecDepth 100000 in
theorem allInts_any {x : Value} {a : Nat} {n : Int} (h : SA own t w (mI n) 1 a x) (ha : a ≤ 4611686018427387904) :
    Calls Tryz.prog 67 #[x, .int .i64 n] w fun e w' => e = .returned (.bool true) ∧ w' = w := by
  obtain ⟨ao, len, cap, g, rfl, hn, h⟩ := h
  rcases h with h0 | ⟨rfl, _, _, hc⟩
  all_goals
    go_enter Tryz.func67, Tryz.ntmps67
    go_wp2_with fail
    go_loopg [5] len (fun k x wr => ∃ q : Nat, x = .int .i64 q ∧ q + k = len ∧ wr = w)
    case atStart => exact ⟨0, rfl, by omega, rfl⟩
    case round =>
      obtain ⟨q, rfl, hk, rfl⟩ := hrel
      have HK : Hid (q + gk = len) := hk
      have hq : q ≤ len := by omega
      clear hk
      by_cases hlt : q < len
      · first
        | (exfalso; omega; done)
        | (have c0 : wr.cell? ⟨g, q, none⟩ = some (.int .i64 n) := by have := hc q 0 hlt (by omega); simpa [mI] using this
           have hne : (n != n) = false := by simp
           clear hc
           go_wp2_with fail
           go_roundg (gk - 1)
           case measure => have := HK.out; omega
           case rel => exact ⟨q + 1, by go_num, by have := HK.out; omega, rfl⟩)
      · go_wp2_with fail
        go_ret
        exact ⟨rfl, rfl⟩

set_option maxHeartbeats 1000000 in
set_option maxRecDepth 100000 in
theorem allRights_any {x : Value} {a : Nat} {n : Int} (h : SA own t w (mR n) 4 a x) (ha : a ≤ 4611686018427387904) :
    Calls Tryz.prog 68 #[x, .int .i64 n] w fun e w' => e = .returned (.bool true) ∧ w' = w := by
  obtain ⟨ao, len, cap, g, rfl, hn, h⟩ := h
  rcases h with h0 | ⟨rfl, _, _, hc⟩
  all_goals
    go_enter Tryz.func68, Tryz.ntmps68
    go_wp2_with fail
    go_loopg [5] len (fun k x wr => ∃ q : Nat, x = .int .i64 q ∧ q + k = len ∧ wr = w)
    case atStart => exact ⟨0, rfl, by omega, rfl⟩
    case round =>
      obtain ⟨q, rfl, hk, rfl⟩ := hrel
      have HK : Hid (q + gk = len) := hk
      have hq : q ≤ len := by omega
      clear hk
      by_cases hlt : q < len
      · first
        | (exfalso; omega; done)
        | (have c0 : wr.cell? ⟨g, q * 4, none⟩ = some (.int .i64 n) := by have := hc q 0 hlt (by omega); simpa [mR] using this
           have c1 : wr.cell? ⟨g, q * 4 + 1, none⟩ = some (.int .i64 0) := by have := hc q 1 hlt (by omega); simpa [mR] using this
           have c2 : wr.cell? ⟨g, q * 4 + 2, none⟩ = some (.int .i64 0) := by have := hc q 2 hlt (by omega); simpa [mR] using this
           have c3 : wr.cell? ⟨g, q * 4 + 3, none⟩ = some (.bool false) := by have := hc q 3 hlt (by omega); simpa [mR] using this
           clear hc
           go_wp2_with fail
           go_roundg (gk - 1)
           case measure => have := HK.out; omega
           case rel => exact ⟨q + 1, by go_num, by have := HK.out; omega, rfl⟩)
      · go_wp2_with fail
        go_ret
        exact ⟨rfl, rfl⟩
set_option maxHeartbeats 1000000 in
set_option maxRecDepth 100000 in
theorem allEntries_any {x : Value} {a : Nat} {n : Int} (h : SA own t w (mE n) 5 a x) (ha : a ≤ 4611686018427387904) :
    Calls Tryz.prog 69 #[x, .int .i64 n] w fun e w' => e = .returned (.bool true) ∧ w' = w := by
  obtain ⟨ao, len, cap, g, rfl, hn, h⟩ := h
  rcases h with h0 | ⟨rfl, _, _, hc⟩
  all_goals
    go_enter Tryz.func69, Tryz.ntmps69
    go_wp2_with fail
    go_loopg [5] len (fun k x wr => ∃ q : Nat, x = .int .i64 q ∧ q + k = len ∧ wr = w)
    case atStart => exact ⟨0, rfl, by omega, rfl⟩
    case round =>
      obtain ⟨q, rfl, hk, rfl⟩ := hrel
      have HK : Hid (q + gk = len) := hk
      have hq : q ≤ len := by omega
      clear hk
      by_cases hlt : q < len
      · first
        | (exfalso; omega; done)
        | (have c0 : wr.cell? ⟨g, q * 5, none⟩ = some (.bool false) := by have := hc q 0 hlt (by omega); simpa [mE] using this
           have c1 : wr.cell? ⟨g, q * 5 + 1, none⟩ = some (.int .i64 n) := by have := hc q 1 hlt (by omega); simpa [mE] using this
           have c2 : wr.cell? ⟨g, q * 5 + 2, none⟩ = some (.int .i64 0) := by have := hc q 2 hlt (by omega); simpa [mE] using this
           have c3 : wr.cell? ⟨g, q * 5 + 3, none⟩ = some (.int .i64 0) := by have := hc q 3 hlt (by omega); simpa [mE] using this
           have c4 : wr.cell? ⟨g, q * 5 + 4, none⟩ = some (.bool false) := by have := hc q 4 hlt (by omega); simpa [mE] using this
           clear hc
           go_wp2_with fail
           go_roundg (gk - 1)
           case measure => have := HK.out; omega
           case rel => exact ⟨q + 1, by go_num, by have := HK.out; omega, rfl⟩)
      · go_wp2_with fail
        go_ret
        exact ⟨rfl, rfl⟩

theorem SA.shape {x : Value} {c : List Value} {k a : Nat} (h : SA own t w c k a x) : ∃ ao n cap, x = .slice ao n cap := by
  obtain ⟨ao, n, cap, _, h, _⟩ := h
  exact ⟨ao, n, cap, h⟩

set_option maxHeartbeats 2000000 in
set_option maxRecDepth 100000 in
theorem marked_any {id hb : Nat} {n : Int} {a : Nat} (h : HoldOK own id w hb n a) :
    Calls Tryz.prog 23 #[.pointer (some ⟨hb, 0, none⟩)] w fun e w' => e = .returned (.bool true) ∧ w' = w := by
  have am := h.am
  obtain ⟨vI, vMI, vR, vMR, vE, vME, xI, xR, xE, h1, h2, h3, h4, ⟨i1, i2, i3⟩, ⟨r1, r2, r3⟩, ⟨e1, e2, e3⟩⟩ := h.ex
  have k0 := h1.cell 0
  have k1 := h1.cell 1
  have k2 := h1.cell 2
  have k3 := h1.cell 3
  have k4 := h1.cell 4
  have k5 := h1.cell 5
  have k6 := h1.cell 6
  simp at k0 k1 k2 k3 k4 k5 k6
  obtain ⟨_, _, _, hvI⟩ := h2.shape
  obtain ⟨_, _, _, hvR⟩ := h3.shape
  obtain ⟨_, _, _, hvE⟩ := h4.shape
  subst hvI hvR hvE
  obtain ⟨gI, cI, hI, cellI, _⟩ := i1.form (by omega)
  obtain ⟨gR, cR, hR, cellR, _⟩ := r1.form (by omega)
  obtain ⟨gE, cE, hE, cellE, _⟩ := e1.form (by omega)
  rw [hI] at k1
  rw [hR] at k3
  rw [hE] at k5
  have lI := i1.len
  have lR := r1.len
  have lE := e1.len
  clear hI hR hE
  go_enter Tryz.func23, Tryz.ntmps23
  go_wp2_with fail
  refine (allInts_any h2 am).mono ?_
  rintro e w2 ⟨rfl, hw2⟩
  subst hw2
  go_wp2_with fail
  refine (allRights_any h3 am).mono ?_
  rintro e w3 ⟨rfl, hw3⟩
  subst hw3
  go_wp2_with fail
  refine (allEntries_any h4 am).mono ?_
  rintro e w4 ⟨rfl, hw4⟩
  subst hw4
  go_wp2_with fail
  go_loopg [4, 5] 16 (fun k ok x wr => ∃ q : Nat, x = .int .i64 q ∧ q + k = 16 ∧ ok = .bool true ∧ wr = w4)
  case atStart => exact ⟨0, rfl, by omega, rfl, rfl⟩
  case round =>
    obtain ⟨q, rfl, hk, rfl, rfl⟩ := hrel
    have HK : Hid (q + gk = 16) := hk
    have hq : q ≤ 16 := by omega
    clear hk
    by_cases hlt : q < 16
    · obtain ⟨yI, hyI⟩ : ∃ y, xI[q]? = some y := ⟨xI[q]'(by omega), by simp⟩
      obtain ⟨yR, hyR⟩ : ∃ y, xR[q]? = some y := ⟨xR[q]'(by omega), by simp⟩
      obtain ⟨yE, hyE⟩ : ∃ y, xE[q]? = some y := ⟨xE[q]'(by omega), by simp⟩
      have sI := i3 yI (List.mem_of_getElem? hyI)
      have sR := r3 yR (List.mem_of_getElem? hyR)
      have sE := e3 yE (List.mem_of_getElem? hyE)
      have dI := (cellI q (by omega)).trans hyI
      have dR := (cellR q (by omega)).trans hyR
      have dE := (cellE q (by omega)).trans hyE
      obtain ⟨_, _, _, hvI⟩ := sI.shape
      obtain ⟨_, _, _, hvR⟩ := sR.shape
      obtain ⟨_, _, _, hvE⟩ := sE.shape
      subst hvI hvR hvE
      clear hyI hyR hyE cellI cellR cellE
      go_wp2_with fail
      refine (allInts_any sI am).mono ?_
      rintro e w5 ⟨rfl, hw5⟩
      subst hw5
      go_wp2_with fail
      refine (allRights_any sR am).mono ?_
      rintro e w6 ⟨rfl, hw6⟩
      subst hw6
      go_wp2_with fail
      refine (allEntries_any sE am).mono ?_
      rintro e w7 ⟨rfl, hw7⟩
      subst hw7
      go_wp2_with fail
      go_roundg (gk - 1)
      case measure => have := HK.out; omega
      case rel => exact ⟨q + 1, by go_num, by have := HK.out; omega, rfl, rfl⟩
    · go_wp2_with fail
      go_ret
      exact ⟨rfl, rfl⟩

set_option maxHeartbeats 2000000 in
set_option maxRecDepth 100000 in
theorem looks_any {bw : Nat} {vP vH : Value} {hbs : List Nat} (hw : Blk w bw [vP, vH] 29) (hH : Row w vH 46 1 hbs.length (hbs.map fun b => .pointer (some ⟨b, 0, none⟩))) (hm : hbs.length ≤ 4611686018427387904)
    (hk : ∀ (i b : Nat), hbs[i]? = some b → ∃ id n a, HoldOK own id w b n a) :
    Calls Tryz.prog 16 #[.pointer (some ⟨bw, 0, none⟩)] w fun e w' => e = .returned (.bool true) ∧ w' = w := by
  have k1 := hw.cell 1
  simp at k1
  obtain ⟨ao, cap, hv, hcase⟩ := hH.shape'
  subst hv
  rcases hcase with h0 | ⟨g, rfl⟩
  all_goals
    go_enter Tryz.func16, Tryz.ntmps16
    go_wp2_with fail
    go_loopg [3] hbs.length (fun k x wr => ∃ q : Nat, x = .int .i64 q ∧ q + k = hbs.length ∧ wr = w)
    case atStart => exact ⟨0, rfl, by omega, rfl⟩
    case round =>
      obtain ⟨q, rfl, hkk, rfl⟩ := hrel
      have HK : Hid (q + gk = hbs.length) := hkk
      have hq : q ≤ hbs.length := by omega
      clear hkk
      by_cases hlt : q < hbs.length
      · first
        | (exfalso; omega; done)
        | (obtain ⟨b, hb⟩ : ∃ b, hbs[q]? = some b := ⟨hbs[q], by simp⟩
           obtain ⟨id, n, a, hok⟩ := hk q b hb
           have c0 : wr.cell? ⟨g, q, none⟩ = some (.pointer (some ⟨b, 0, none⟩)) := by rw [hH.cellAt' q (by omega), List.getElem?_map, hb]; rfl
           clear hb
           go_wp2_with fail
           refine (marked_any hok).mono ?_
           rintro e w2 ⟨rfl, hw2⟩
           subst hw2
           go_wp2_with fail
           go_roundg (gk - 1)
           case measure => have := HK.out; omega
           case rel => exact ⟨q + 1, by go_num, by have := HK.out; omega, rfl⟩)
      · go_wp2_with fail
        go_ret
        exact ⟨rfl, rfl⟩
end
end Go.Proofs.YtinlkcmdbjcofaaGreat

/-
  'marks': every place is written, and sixteen behind the last.
-/
namespace Go.Proofs.YtinlkcmdbjcofaaGreat
open Go.RowKit
set_option linter.unusedVariables false

/-- A list of one kind while it is marked: v: the slice that is appended to; v0: the list itself; vM: the slices that came of it. -/
structure Grp (own : Nat → Nat × Nat) (w : World) (t tM : Nat × Nat) (e eS k : Nat) (c : List Value) (v v0 vM : Value) (a m : Nat) (xs : List Value) : Prop where
  row : Row w v e k a (List.replicate a c).flatten
  tg : Tg own v t
  s0 : SA own t w c k a v0
  more : Row w vM eS 1 m xs
  tgM : Tg own vM tM
  all : ∀ x, x ∈ xs → SA own t w c k a x

section
variable {own own' : Nat → Nat × Nat} {w w' : World} {t tM : Nat × Nat} {e eS k : Nat} {c : List Value} {v v0 vM : Value} {a m : Nat} {xs : List Value}

theorem Grp.of (h : Grp own w t tM e eS k c v v0 vM a m xs) (ho : ∀ b, b < w.heap.size → own' b = own b) (hs : w.heap.size ≤ w'.heap.size) (hk : ∀ b, b < w.heap.size → own b = t ∨ own b = tM → w'.heap[b]? = w.heap[b]?) : Grp own' w' t tM e eS k c v v0 vM a m xs := by
  have hc : ∀ b, b < w.heap.size → own b = t → ∀ j, j < a * k → w'.cell? ⟨b, j, none⟩ = w.cell? ⟨b, j, none⟩ := fun b hb ht j _ => World.cell?_of_block (a := ⟨b, j, none⟩) (hk b hb (.inl ht))
  exact ⟨h.row.kept h.tg (fun b hb ht => hk b hb (.inl ht)), h.tg.congr h.row ho, h.s0.of ho hs hc, h.more.kept h.tgM (fun b hb ht => hk b hb (.inr ht)), h.tgM.congr h.more ho, fun x hx => (h.all x hx).of ho hs hc⟩

theorem rep_flat (a : Nat) (c : List Value) (i j : Nat) (hi : i < a) (hj : j < c.length) : (List.replicate a c).flatten[i * c.length + j]? = c[j]? := by
  have := flat_get (fun x : List Value => if x.length = c.length then x else c) c.length (fun x => by split <;> simp_all) (List.replicate a c) i j c (by simp [hi]) hj
  simp only [if_true] at this
  rw [← this]
  congr 1
  rw [List.flatMap_def]
  congr 1
  simp

/-- One element more is appended. -/
theorem Grp.app {o1 : Obj} {g cap : Nat} (h : Grp own w t tM e eS k c v v0 vM a m xs) (hkc : c.length = k) (hne : t ≠ tM)
    (hown : w'.ownsRow 0 e k (.slice (some ⟨g, 0, none⟩) (a + 1) cap) (a + 1) ((List.replicate a c).flatten ++ c)) (hg : (w.alloc o1).grownBy w' v.ownBlock) (hat : v.ownBlock = some g ∨ g = w.heap.size + 1)
    (hold : ∀ b, v.ownBlock = some b → ∀ j, j < a * k → w'.cell? ⟨b, j, none⟩ = (w.alloc o1).cell? ⟨b, j, none⟩) :
    Grp (set1 own (w.heap.size + 1) t) w' t tM e eS k c (.slice (some ⟨g, 0, none⟩) (a + 1) cap) v0 vM (a + 1) m xs := by
  have ho : ∀ b, b < w.heap.size → set1 own (w.heap.size + 1) t b = own b := set1_old (by omega)
  have hs : w.heap.size ≤ w'.heap.size := by have := hg.size; simp at this; omega
  have hblk : ∀ b, b < w.heap.size → v.ownBlock ≠ some b → w'.heap[b]? = w.heap[b]? := fun b hb hn => by
    rw [hg.block b (by simp; omega) (fun e => hn e.symm), Below.heap_alloc _ _ _ hb]
  have hc : ∀ b, b < w.heap.size → own b = t → ∀ j, j < a * k → w'.cell? ⟨b, j, none⟩ = w.cell? ⟨b, j, none⟩ := fun b hb ht j hj => by
    by_cases hv : v.ownBlock = some b
    · rw [hold b hv j hj]
      exact World.cell?_of_block (a := ⟨b, j, none⟩) (Below.heap_alloc _ _ _ hb)
    · exact World.cell?_of_block (a := ⟨b, j, none⟩) (hblk b hb hv)
  refine ⟨?_, h.tg.app (fun b hb => by have := h.row.lt b hb; omega) hat, (h.s0.of ho hs hc).mono (by omega), h.more.kept h.tgM (fun b hb ht => hblk b hb (fun e => hne ((h.tg b e).symm.trans ht))), h.tgM.congr h.more ho, fun x hx => ((h.all x hx).of ho hs hc).mono (by omega)⟩
  have : (List.replicate (a + 1) c).flatten = (List.replicate a c).flatten ++ c := by rw [List.replicate_succ']; simp
  rw [this]
  exact hown

/-- The slice itself, all of whose elements are marked. -/
theorem Grp.self {g cap : Nat} (h : Grp own w t tM e eS k c (.slice (some ⟨g, 0, none⟩) a cap) v0 vM a m xs) (hkc : c.length = k) : SA own t w c k a (.slice (some ⟨g, 0, none⟩) a cap) := by
  refine ⟨_, a, cap, g, rfl, Nat.le_refl _, .inr ⟨rfl, h.tg g rfl, h.row.lt g rfl, fun i j hi hj => ?_⟩⟩
  have hlt : i * k + j < a * k := by
    have : (i + 1) * k ≤ a * k := Nat.mul_le_mul_right k (by omega)
    rw [Nat.add_mul] at this; omega
  rw [h.row.cellAt' _ hlt, ← hkc, rep_flat a c i j hi (by omega)]

/-- The slice goes into the list of those that came of it, which is stored into the struct at hb. -/
theorem Grp.push {o1 : Obj} {g cap gM capM hb j : Nat} {u : Value} (h : Grp own w t tM e eS k c (.slice (some ⟨g, 0, none⟩) a cap) v0 vM a m xs) (hkc : c.length = k) (hne : t ≠ tM) (hhb : own hb ≠ t) (hhb2 : own hb ≠ tM) (hhl : hb < w.heap.size)
    (hown : w'.ownsRow 0 eS 1 (.slice (some ⟨gM, 0, none⟩) (m + 1) capM) (m + 1) (xs ++ [.slice (some ⟨g, 0, none⟩) a cap])) (hg : (w.alloc o1).grownBy w' vM.ownBlock) (hat : vM.ownBlock = some gM ∨ gM = w.heap.size + 1) :
    Grp (set1 own (w.heap.size + 1) tM) (w'.setCell ⟨hb, j, none⟩ u) t tM e eS k c (.slice (some ⟨g, 0, none⟩) a cap) v0 (.slice (some ⟨gM, 0, none⟩) (m + 1) capM) a (m + 1) (xs ++ [.slice (some ⟨g, 0, none⟩) a cap]) := by
  have ho : ∀ b, b < w.heap.size → set1 own (w.heap.size + 1) tM b = own b := set1_old (by omega)
  have hs : w.heap.size ≤ (w'.setCell ⟨hb, j, none⟩ u).heap.size := by have := hg.size; simp at this ⊢; omega
  have hblk : ∀ b, b < w.heap.size → own b = t → (w'.setCell ⟨hb, j, none⟩ u).heap[b]? = w.heap[b]? := fun b hb' ht => by
    rw [Below.heap_setCell _ _ _ _ (fun e => hhb (by rw [← ht, e])), hg.block b (by simp; omega) (fun e => hne (ht.symm.trans (h.tgM b e.symm))), Below.heap_alloc _ _ _ hb']
  have hc : ∀ b, b < w.heap.size → own b = t → ∀ j', j' < a * k → (w'.setCell ⟨hb, j, none⟩ u).cell? ⟨b, j', none⟩ = w.cell? ⟨b, j', none⟩ := fun b hb' ht j' _ => World.cell?_of_block (a := ⟨b, j', none⟩) (hblk b hb' ht)
  refine ⟨h.row.kept h.tg hblk, h.tg.congr h.row ho, h.s0.of ho hs hc, ?_, h.tgM.app (fun b hb' => by have := h.more.lt b hb'; omega) hat, fun x hx => ?_⟩
  · refine Row.other (w := w') hown u (fun e => ?_)
    simp [Value.ownBlock] at e
    rcases hat with h1 | h1
    · exact hhb2 (by rw [← e]; exact h.tgM gM h1)
    · omega
  · rcases List.mem_append.1 hx with hx | hx
    · exact (h.all x hx).of ho hs hc
    · simp at hx
      subst hx
      exact (h.self hkc).of ho hs hc
end

/-- The whole list while it is marked. -/
structure MarkSt (own : Nat → Nat × Nat) (id : Nat) (w : World) (hb br be : Nat) (n : Int) (vI vMI vR vMR vE vME v7 v8 v9 : Value) (a b c mi mr me : Nat) (xI xR xE : List Value) : Prop where
  blk : Blk w hb [vI, vMI, vR, vMR, vE, vME, .int .i64 n] 88
  bR : Blk w br (mR n) 111
  bE : Blk w be (mE n) 74
  gI : Grp own w (id, 1) (id, 2) 3 62 1 (mI n) v7 vI vMI a mi xI
  gR : Grp own w (id, 3) (id, 4) 111 80 4 (mR n) v8 vR vMR b mr xR
  gE : Grp own w (id, 5) (id, 6) 74 49 5 (mE n) v9 vE vME c me xE
  t0 : own hb = (id, 0)
  t7 : own br = (id, 7)
  t8 : own be = (id, 8)

section
variable {own own' : Nat → Nat × Nat} {id : Nat} {w w' : World} {hb br be : Nat} {n : Int} {vI vMI vR vMR vE vME v7 v8 v9 : Value} {a b c mi mr me : Nat} {xI xR xE : List Value}

/-- What is not of the marks in J has not turned. -/
theorem MarkSt.keepB (h : MarkSt own id w hb br be n vI vMI vR vMR vE vME v7 v8 v9 a b c mi mr me xI xR xE) {o1 : Obj} {v : Value} {t : Nat × Nat} (hv : Tg own v t) (hg : (w.alloc o1).grownBy w' v.ownBlock) : ∀ x, x < w.heap.size → own x ≠ t → w'.heap[x]? = w.heap[x]? := fun x hx hn => by
  rw [hg.block x (by simp; omega) (fun e => hn (hv x e.symm)), Below.heap_alloc _ _ _ hx]

theorem MarkSt.appI {o1 : Obj} {g cap : Nat} (h : MarkSt own id w hb br be n vI vMI vR vMR vE vME v7 v8 v9 a b c mi mr me xI xR xE)
    (hown : w'.ownsRow 0 3 1 (.slice (some ⟨g, 0, none⟩) (a + 1) cap) (a + 1) ((List.replicate a (mI n)).flatten ++ mI n)) (hg : (w.alloc o1).grownBy w' v7.ownBlock) (hat : v7.ownBlock = some g ∨ g = w.heap.size + 1)
    (hold : ∀ b, v7.ownBlock = some b → ∀ j, j < a * 1 → w'.cell? ⟨b, j, none⟩ = (w.alloc o1).cell? ⟨b, j, none⟩) :
    MarkSt (set1 own (w.heap.size + 1) (id, 1)) id w' hb br be n vI vMI vR vMR vE vME (.slice (some ⟨g, 0, none⟩) (a + 1) cap) v8 v9 (a + 1) b c mi mr me xI xR xE := by
  have hk := h.keepB h.gI.tg hg
  have ho : ∀ x, x < w.heap.size → set1 own (w.heap.size + 1) (id, 1) x = own x := set1_old (by omega)
  have hs : w.heap.size ≤ w'.heap.size := by have := hg.size; simp at this; omega
  exact ⟨h.blk.of (hk hb h.blk.lt (by rw [h.t0]; simp)), h.bR.of (hk br h.bR.lt (by rw [h.t7]; simp)), h.bE.of (hk be h.bE.lt (by rw [h.t8]; simp)), h.gI.app rfl (by simp) hown hg hat hold,
    h.gR.of ho hs (fun x hx ht => hk x hx (by rcases ht with ht | ht <;> rw [ht] <;> simp)), h.gE.of ho hs (fun x hx ht => hk x hx (by rcases ht with ht | ht <;> rw [ht] <;> simp)), (ho hb h.blk.lt).trans h.t0, (ho br h.bR.lt).trans h.t7, (ho be h.bE.lt).trans h.t8⟩
theorem MarkSt.appR {o1 : Obj} {g cap : Nat} (h : MarkSt own id w hb br be n vI vMI vR vMR vE vME v7 v8 v9 a b c mi mr me xI xR xE)
    (hown : w'.ownsRow 0 111 4 (.slice (some ⟨g, 0, none⟩) (b + 1) cap) (b + 1) ((List.replicate b (mR n)).flatten ++ mR n)) (hg : (w.alloc o1).grownBy w' v8.ownBlock) (hat : v8.ownBlock = some g ∨ g = w.heap.size + 1)
    (hold : ∀ x, v8.ownBlock = some x → ∀ j, j < b * 4 → w'.cell? ⟨x, j, none⟩ = (w.alloc o1).cell? ⟨x, j, none⟩) :
    MarkSt (set1 own (w.heap.size + 1) (id, 3)) id w' hb br be n vI vMI vR vMR vE vME v7 (.slice (some ⟨g, 0, none⟩) (b + 1) cap) v9 a (b + 1) c mi mr me xI xR xE := by
  have hk := h.keepB h.gR.tg hg
  have ho : ∀ x, x < w.heap.size → set1 own (w.heap.size + 1) (id, 3) x = own x := set1_old (by omega)
  have hs : w.heap.size ≤ w'.heap.size := by have := hg.size; simp at this; omega
  exact ⟨h.blk.of (hk hb h.blk.lt (by rw [h.t0]; simp)), h.bR.of (hk br h.bR.lt (by rw [h.t7]; simp)), h.bE.of (hk be h.bE.lt (by rw [h.t8]; simp)),
    h.gI.of ho hs (fun x hx ht => hk x hx (by rcases ht with ht | ht <;> rw [ht] <;> simp)), h.gR.app rfl (by simp) hown hg hat hold, h.gE.of ho hs (fun x hx ht => hk x hx (by rcases ht with ht | ht <;> rw [ht] <;> simp)), (ho hb h.blk.lt).trans h.t0, (ho br h.bR.lt).trans h.t7, (ho be h.bE.lt).trans h.t8⟩
theorem MarkSt.appE {o1 : Obj} {g cap : Nat} (h : MarkSt own id w hb br be n vI vMI vR vMR vE vME v7 v8 v9 a b c mi mr me xI xR xE)
    (hown : w'.ownsRow 0 74 5 (.slice (some ⟨g, 0, none⟩) (c + 1) cap) (c + 1) ((List.replicate c (mE n)).flatten ++ mE n)) (hg : (w.alloc o1).grownBy w' v9.ownBlock) (hat : v9.ownBlock = some g ∨ g = w.heap.size + 1)
    (hold : ∀ x, v9.ownBlock = some x → ∀ j, j < c * 5 → w'.cell? ⟨x, j, none⟩ = (w.alloc o1).cell? ⟨x, j, none⟩) :
    MarkSt (set1 own (w.heap.size + 1) (id, 5)) id w' hb br be n vI vMI vR vMR vE vME v7 v8 (.slice (some ⟨g, 0, none⟩) (c + 1) cap) a b (c + 1) mi mr me xI xR xE := by
  have hk := h.keepB h.gE.tg hg
  have ho : ∀ x, x < w.heap.size → set1 own (w.heap.size + 1) (id, 5) x = own x := set1_old (by omega)
  have hs : w.heap.size ≤ w'.heap.size := by have := hg.size; simp at this; omega
  exact ⟨h.blk.of (hk hb h.blk.lt (by rw [h.t0]; simp)), h.bR.of (hk br h.bR.lt (by rw [h.t7]; simp)), h.bE.of (hk be h.bE.lt (by rw [h.t8]; simp)),
    h.gI.of ho hs (fun x hx ht => hk x hx (by rcases ht with ht | ht <;> rw [ht] <;> simp)), h.gR.of ho hs (fun x hx ht => hk x hx (by rcases ht with ht | ht <;> rw [ht] <;> simp)), h.gE.app rfl (by simp) hown hg hat hold, (ho hb h.blk.lt).trans h.t0, (ho br h.bR.lt).trans h.t7, (ho be h.bE.lt).trans h.t8⟩

theorem MarkSt.keepM (h : MarkSt own id w hb br be n vI vMI vR vMR vE vME v7 v8 v9 a b c mi mr me xI xR xE) {o1 : Obj} {v u : Value} {t : Nat × Nat} {j : Nat} (hv : Tg own v t) (hg : (w.alloc o1).grownBy w' v.ownBlock) :
    ∀ x, x < w.heap.size → own x ≠ t → own x ≠ (id, 0) → (w'.setCell ⟨hb, j, none⟩ u).heap[x]? = w.heap[x]? := fun x hx hn h0 => by
  rw [Below.heap_setCell _ _ _ _ (fun e => h0 (by simp at e; rw [e]; exact h.t0))]
  exact h.keepB hv hg x hx hn

theorem MarkSt.pushI {o1 : Obj} {g cap gM capM : Nat} (h : MarkSt own id w hb br be n vI vMI vR vMR vE vME (.slice (some ⟨g, 0, none⟩) a cap) v8 v9 a b c mi mr me xI xR xE)
    (hown : w'.ownsRow 0 62 1 (.slice (some ⟨gM, 0, none⟩) (mi + 1) capM) (mi + 1) (xI ++ [.slice (some ⟨g, 0, none⟩) a cap])) (hg : (w.alloc o1).grownBy w' vMI.ownBlock) (hat : vMI.ownBlock = some gM ∨ gM = w.heap.size + 1) :
    MarkSt (set1 own (w.heap.size + 1) (id, 2)) id (w'.setCell ⟨hb, 1, none⟩ (.slice (some ⟨gM, 0, none⟩) (mi + 1) capM)) hb br be n vI (.slice (some ⟨gM, 0, none⟩) (mi + 1) capM) vR vMR vE vME (.slice (some ⟨g, 0, none⟩) a cap) v8 v9 a b c (mi + 1) mr me (xI ++ [.slice (some ⟨g, 0, none⟩) a cap]) xR xE := by
  have hk := h.keepM (u := .slice (some ⟨gM, 0, none⟩) (mi + 1) capM) (j := 1) h.gI.tgM hg
  have ho : ∀ x, x < w.heap.size → set1 own (w.heap.size + 1) (id, 2) x = own x := set1_old (by omega)
  have hs : w.heap.size ≤ (w'.setCell ⟨hb, 1, none⟩ (.slice (some ⟨gM, 0, none⟩) (mi + 1) capM)).heap.size := by have := hg.size; simp at this ⊢; omega
  have hblk := (h.blk.of (h.keepB h.gI.tgM hg hb h.blk.lt (by rw [h.t0]; simp))).set 1 (.slice (some ⟨gM, 0, none⟩) (mi + 1) capM)
  exact ⟨hblk, h.bR.of (hk br h.bR.lt (by rw [h.t7]; simp) (by rw [h.t7]; simp)), h.bE.of (hk be h.bE.lt (by rw [h.t8]; simp) (by rw [h.t8]; simp)), h.gI.push rfl (by simp) (by rw [h.t0]; simp) (by rw [h.t0]; simp) h.blk.lt hown hg hat,
    h.gR.of ho hs (fun x hx ht => hk x hx (by rcases ht with ht | ht <;> rw [ht] <;> simp) (by rcases ht with ht | ht <;> rw [ht] <;> simp)), h.gE.of ho hs (fun x hx ht => hk x hx (by rcases ht with ht | ht <;> rw [ht] <;> simp) (by rcases ht with ht | ht <;> rw [ht] <;> simp)), (ho hb h.blk.lt).trans h.t0, (ho br h.bR.lt).trans h.t7, (ho be h.bE.lt).trans h.t8⟩
theorem MarkSt.pushR {o1 : Obj} {g cap gM capM : Nat} (h : MarkSt own id w hb br be n vI vMI vR vMR vE vME v7 (.slice (some ⟨g, 0, none⟩) b cap) v9 a b c mi mr me xI xR xE)
    (hown : w'.ownsRow 0 80 1 (.slice (some ⟨gM, 0, none⟩) (mr + 1) capM) (mr + 1) (xR ++ [.slice (some ⟨g, 0, none⟩) b cap])) (hg : (w.alloc o1).grownBy w' vMR.ownBlock) (hat : vMR.ownBlock = some gM ∨ gM = w.heap.size + 1) :
    MarkSt (set1 own (w.heap.size + 1) (id, 4)) id (w'.setCell ⟨hb, 3, none⟩ (.slice (some ⟨gM, 0, none⟩) (mr + 1) capM)) hb br be n vI vMI vR (.slice (some ⟨gM, 0, none⟩) (mr + 1) capM) vE vME v7 (.slice (some ⟨g, 0, none⟩) b cap) v9 a b c mi (mr + 1) me xI (xR ++ [.slice (some ⟨g, 0, none⟩) b cap]) xE := by
  have hk := h.keepM (u := .slice (some ⟨gM, 0, none⟩) (mr + 1) capM) (j := 3) h.gR.tgM hg
  have ho : ∀ x, x < w.heap.size → set1 own (w.heap.size + 1) (id, 4) x = own x := set1_old (by omega)
  have hs : w.heap.size ≤ (w'.setCell ⟨hb, 3, none⟩ (.slice (some ⟨gM, 0, none⟩) (mr + 1) capM)).heap.size := by have := hg.size; simp at this ⊢; omega
  have hblk := (h.blk.of (h.keepB h.gR.tgM hg hb h.blk.lt (by rw [h.t0]; simp))).set 3 (.slice (some ⟨gM, 0, none⟩) (mr + 1) capM)
  exact ⟨hblk, h.bR.of (hk br h.bR.lt (by rw [h.t7]; simp) (by rw [h.t7]; simp)), h.bE.of (hk be h.bE.lt (by rw [h.t8]; simp) (by rw [h.t8]; simp)),
    h.gI.of ho hs (fun x hx ht => hk x hx (by rcases ht with ht | ht <;> rw [ht] <;> simp) (by rcases ht with ht | ht <;> rw [ht] <;> simp)), h.gR.push rfl (by simp) (by rw [h.t0]; simp) (by rw [h.t0]; simp) h.blk.lt hown hg hat, h.gE.of ho hs (fun x hx ht => hk x hx (by rcases ht with ht | ht <;> rw [ht] <;> simp) (by rcases ht with ht | ht <;> rw [ht] <;> simp)), (ho hb h.blk.lt).trans h.t0, (ho br h.bR.lt).trans h.t7, (ho be h.bE.lt).trans h.t8⟩
theorem MarkSt.pushE {o1 : Obj} {g cap gM capM : Nat} (h : MarkSt own id w hb br be n vI vMI vR vMR vE vME v7 v8 (.slice (some ⟨g, 0, none⟩) c cap) a b c mi mr me xI xR xE)
    (hown : w'.ownsRow 0 49 1 (.slice (some ⟨gM, 0, none⟩) (me + 1) capM) (me + 1) (xE ++ [.slice (some ⟨g, 0, none⟩) c cap])) (hg : (w.alloc o1).grownBy w' vME.ownBlock) (hat : vME.ownBlock = some gM ∨ gM = w.heap.size + 1) :
    MarkSt (set1 own (w.heap.size + 1) (id, 6)) id (w'.setCell ⟨hb, 5, none⟩ (.slice (some ⟨gM, 0, none⟩) (me + 1) capM)) hb br be n vI vMI vR vMR vE (.slice (some ⟨gM, 0, none⟩) (me + 1) capM) v7 v8 (.slice (some ⟨g, 0, none⟩) c cap) a b c mi mr (me + 1) xI xR (xE ++ [.slice (some ⟨g, 0, none⟩) c cap]) := by
  have hk := h.keepM (u := .slice (some ⟨gM, 0, none⟩) (me + 1) capM) (j := 5) h.gE.tgM hg
  have ho : ∀ x, x < w.heap.size → set1 own (w.heap.size + 1) (id, 6) x = own x := set1_old (by omega)
  have hs : w.heap.size ≤ (w'.setCell ⟨hb, 5, none⟩ (.slice (some ⟨gM, 0, none⟩) (me + 1) capM)).heap.size := by have := hg.size; simp at this ⊢; omega
  have hblk := (h.blk.of (h.keepB h.gE.tgM hg hb h.blk.lt (by rw [h.t0]; simp))).set 5 (.slice (some ⟨gM, 0, none⟩) (me + 1) capM)
  exact ⟨hblk, h.bR.of (hk br h.bR.lt (by rw [h.t7]; simp) (by rw [h.t7]; simp)), h.bE.of (hk be h.bE.lt (by rw [h.t8]; simp) (by rw [h.t8]; simp)),
    h.gI.of ho hs (fun x hx ht => hk x hx (by rcases ht with ht | ht <;> rw [ht] <;> simp) (by rcases ht with ht | ht <;> rw [ht] <;> simp)), h.gR.of ho hs (fun x hx ht => hk x hx (by rcases ht with ht | ht <;> rw [ht] <;> simp) (by rcases ht with ht | ht <;> rw [ht] <;> simp)), h.gE.push rfl (by simp) (by rw [h.t0]; simp) (by rw [h.t0]; simp) h.blk.lt hown hg hat, (ho hb h.blk.lt).trans h.t0, (ho br h.bR.lt).trans h.t7, (ho be h.bE.lt).trans h.t8⟩
end
end Go.Proofs.YtinlkcmdbjcofaaGreat

namespace Go.Proofs.YtinlkcmdbjcofaaGreat
open Go.RowKit
set_option linter.unusedVariables false
attribute [local go_sem ↓] Go.wp_at_zero Go.wp_at_succ

/-- A list ahead of the appends: its own places are being written. -/
structure PreSt (own : Nat → Nat × Nat) (id : Nat) (w : World) (hb br be : Nat) (n : Int) (vI vR vE : Value) (nI nR nE : Nat) (lI lR lE : List Value) : Prop where
  blk : Blk w hb [vI, .slice none 0 0, vR, .slice none 0 0, vE, .slice none 0 0, .int .i64 n] 88
  bR : Blk w br (mR n) 111
  bE : Blk w be (mE n) 74
  rI : Row w vI 3 1 nI lI
  rR : Row w vR 111 4 nR lR
  rE : Row w vE 74 5 nE lE
  t0 : own hb = (id, 0)
  t7 : own br = (id, 7)
  t8 : own be = (id, 8)
  tI : Tg own vI (id, 1)
  tR : Tg own vR (id, 3)
  tE : Tg own vE (id, 5)

section
variable {own : Nat → Nat × Nat} {id : Nat} {w w' : World} {hb br be : Nat} {n : Int} {vI vR vE : Value} {nI nR nE : Nat} {lI lR lE : List Value}

theorem PreSt.drew (h : PreSt own id w hb br be n vI vR vE nI nR nE lI lR lE) : PreSt own id w.drew hb br be n vI vR vE nI nR nE lI lR lE := ⟨h.blk, h.bR, h.bE, h.rI, h.rR, h.rE, h.t0, h.t7, h.t8, h.tI, h.tR, h.tE⟩

theorem PreSt.setI {g cap j : Nat} {u : Value} (h : PreSt own id w hb br be n vI vR vE nI nR nE lI lR lE) (hv : vI = .slice (some ⟨g, 0, none⟩) nI cap) : PreSt own id (w.setCell ⟨g, j, none⟩ u) hb br be n vI vR vE nI nR nE (lI.set j u) lR lE := by
  have hg : own g = (id, 1) := h.tI g (by rw [hv]; rfl)
  refine ⟨h.blk.other _ (fun e => by have := h.t0; rw [e, hg] at this; simp at this), h.bR.other _ (fun e => by have := h.t7; rw [e, hg] at this; simp at this), h.bE.other _ (fun e => by have := h.t8; rw [e, hg] at this; simp at this), ?_,
    h.rR.other _ (fun e => by have := h.tR _ e; rw [hg] at this; simp at this), h.rE.other _ (fun e => by have := h.tE _ e; rw [hg] at this; simp at this), h.t0, h.t7, h.t8, h.tI, h.tR, h.tE⟩
  have := h.rI
  rw [hv] at this ⊢
  exact this.set _ _
theorem PreSt.setR {g cap j : Nat} {u : Value} (h : PreSt own id w hb br be n vI vR vE nI nR nE lI lR lE) (hv : vR = .slice (some ⟨g, 0, none⟩) nR cap) : PreSt own id (w.setCell ⟨g, j, none⟩ u) hb br be n vI vR vE nI nR nE lI (lR.set j u) lE := by
  have hg : own g = (id, 3) := h.tR g (by rw [hv]; rfl)
  refine ⟨h.blk.other _ (fun e => by have := h.t0; rw [e, hg] at this; simp at this), h.bR.other _ (fun e => by have := h.t7; rw [e, hg] at this; simp at this), h.bE.other _ (fun e => by have := h.t8; rw [e, hg] at this; simp at this),
    h.rI.other _ (fun e => by have := h.tI _ e; rw [hg] at this; simp at this), ?_, h.rE.other _ (fun e => by have := h.tE _ e; rw [hg] at this; simp at this), h.t0, h.t7, h.t8, h.tI, h.tR, h.tE⟩
  have := h.rR
  rw [hv] at this ⊢
  exact this.set _ _
theorem PreSt.setE {g cap j : Nat} {u : Value} (h : PreSt own id w hb br be n vI vR vE nI nR nE lI lR lE) (hv : vE = .slice (some ⟨g, 0, none⟩) nE cap) : PreSt own id (w.setCell ⟨g, j, none⟩ u) hb br be n vI vR vE nI nR nE lI lR (lE.set j u) := by
  have hg : own g = (id, 5) := h.tE g (by rw [hv]; rfl)
  refine ⟨h.blk.other _ (fun e => by have := h.t0; rw [e, hg] at this; simp at this), h.bR.other _ (fun e => by have := h.t7; rw [e, hg] at this; simp at this), h.bE.other _ (fun e => by have := h.t8; rw [e, hg] at this; simp at this),
    h.rI.other _ (fun e => by have := h.tI _ e; rw [hg] at this; simp at this), h.rR.other _ (fun e => by have := h.tR _ e; rw [hg] at this; simp at this), ?_, h.t0, h.t7, h.t8, h.tI, h.tR, h.tE⟩
  have := h.rE
  rw [hv] at this ⊢
  exact this.set _ _
end

/-- The first q elements are marked. -/
def mkTo (c : List Value) (k : Nat) (l : List Value) (q : Nat) : List Value := (List.replicate q c).flatten ++ l.drop (q * k)
theorem mkTo_zero (c : List Value) (k : Nat) (l : List Value) : mkTo c k l 0 = l := by simp [mkTo]
theorem mkTo_all (c : List Value) (k n : Nat) (l : List Value) (h : l.length = n * k) : mkTo c k l n = (List.replicate n c).flatten := by simp [mkTo, ← h]
theorem mkTo_len (c : List Value) (k q : Nat) (l : List Value) (hc : c.length = k) (h : q * k ≤ l.length) : (mkTo c k l q).length = l.length := by
  simp [mkTo, hc]; omega
theorem rep_len (c : List Value) (q : Nat) : (List.replicate q c).flatten.length = q * c.length := by simp
theorem mkTo1 (x : Value) (l : List Value) (q : Nat) (h : q < l.length) : (mkTo [x] 1 l q).set q x = mkTo [x] 1 l (q + 1) := by
  unfold mkTo
  rw [List.set_append_right _ _ (by rw [rep_len]; simp), List.replicate_succ', List.flatten_append, List.append_assoc, rep_len]
  congr 1
  simp only [List.length_singleton, Nat.mul_one, Nat.sub_self]
  rw [List.drop_eq_getElem_cons h]
  rfl
theorem drop4 {l : List Value} {q : Nat} (h : q * 4 + 4 ≤ l.length) : ∃ a b c d, l.drop (q * 4) = a :: b :: c :: d :: l.drop ((q + 1) * 4) := by
  refine ⟨l[q * 4], l[q * 4 + 1], l[q * 4 + 2], l[q * 4 + 3], ?_⟩
  rw [List.drop_eq_getElem_cons (by omega), List.drop_eq_getElem_cons (by omega), List.drop_eq_getElem_cons (by omega), List.drop_eq_getElem_cons (by omega)]
  rw [show (q + 1) * 4 = q * 4 + 1 + 1 + 1 + 1 by omega]
theorem drop5 {l : List Value} {q : Nat} (h : q * 5 + 5 ≤ l.length) : ∃ a b c d e, l.drop (q * 5) = a :: b :: c :: d :: e :: l.drop ((q + 1) * 5) := by
  refine ⟨l[q * 5], l[q * 5 + 1], l[q * 5 + 2], l[q * 5 + 3], l[q * 5 + 4], ?_⟩
  rw [List.drop_eq_getElem_cons (by omega), List.drop_eq_getElem_cons (by omega), List.drop_eq_getElem_cons (by omega), List.drop_eq_getElem_cons (by omega), List.drop_eq_getElem_cons (by omega)]
  rw [show (q + 1) * 5 = q * 5 + 1 + 1 + 1 + 1 + 1 by omega]
theorem mkTo4 (x0 x1 x2 x3 : Value) (l : List Value) (q : Nat) (h : q * 4 + 4 ≤ l.length) :
    ((((mkTo [x0, x1, x2, x3] 4 l q).set (q * 4) x0).set (q * 4 + 1) x1).set (q * 4 + 2) x2).set (q * 4 + 3) x3 = mkTo [x0, x1, x2, x3] 4 l (q + 1) := by
  unfold mkTo
  obtain ⟨a, b, c, d, hd⟩ := drop4 h
  rw [hd, List.replicate_succ', List.flatten_append]
  have hl := rep_len [x0, x1, x2, x3] q
  simp only [List.length_cons, List.length_nil, Nat.zero_add, Nat.reduceAdd] at hl
  rw [List.set_append_right _ _ (by omega), List.set_append_right _ _ (by omega), List.set_append_right _ _ (by omega), List.set_append_right _ _ (by omega), hl]
  simp
theorem mkTo5 (x0 x1 x2 x3 x4 : Value) (l : List Value) (q : Nat) (h : q * 5 + 5 ≤ l.length) :
    (((((mkTo [x0, x1, x2, x3, x4] 5 l q).set (q * 5) x0).set (q * 5 + 1) x1).set (q * 5 + 2) x2).set (q * 5 + 3) x3).set (q * 5 + 4) x4 = mkTo [x0, x1, x2, x3, x4] 5 l (q + 1) := by
  unfold mkTo
  obtain ⟨a, b, c, d, e, hd⟩ := drop5 h
  rw [hd, List.replicate_succ', List.flatten_append]
  have hl := rep_len [x0, x1, x2, x3, x4] q
  simp only [List.length_cons, List.length_nil, Nat.zero_add, Nat.reduceAdd] at hl
  rw [List.set_append_right _ _ (by omega), List.set_append_right _ _ (by omega), List.set_append_right _ _ (by omega), List.set_append_right _ _ (by omega), List.set_append_right _ _ (by omega), hl]
  simp

/-- Ahead of the appends: all places are marked. -/
theorem PreSt.start {own : Nat → Nat × Nat} {id : Nat} {w : World} {hb br be : Nat} {n : Int} {vI vR vE : Value} {nI nR nE : Nat}
    (h : PreSt own id w hb br be n vI vR vE nI nR nE (List.replicate nI (mI n)).flatten (List.replicate nR (mR n)).flatten (List.replicate nE (mE n)).flatten) :
    MarkSt own id w hb br be n vI (.slice none 0 0) vR (.slice none 0 0) vE (.slice none 0 0) vI vR vE nI nR nE 0 0 0 [] [] [] := by
  have hsa : ∀ {v : Value} {t : Nat × Nat} {e k m : Nat} {c : List Value}, Row w v e k m (List.replicate m c).flatten → Tg own v t → c.length = k → SA own t w c k m v := by
    intro v t e k m c hr ht hc
    obtain ⟨ao, cap, g, hv, hao, hcell, _⟩ := hr.view
    refine ⟨ao, m, cap, g, hv, Nat.le_refl _, ?_⟩
    rcases Nat.eq_zero_or_pos m with h0 | h0
    · exact .inl h0
    · have hob : v.ownBlock = some g := by rw [hv, hao h0]; rfl
      refine .inr ⟨hao h0, ht g hob, hr.lt g hob, fun i j hi hj => ?_⟩
      have hlt : i * k + j < m * k := by
        have : (i + 1) * k ≤ m * k := Nat.mul_le_mul_right k (by omega)
        rw [Nat.add_mul] at this; omega
      rw [hcell _ hlt, ← hc, rep_flat m c i j hi (by omega)]
  exact ⟨h.blk, h.bR, h.bE, ⟨h.rI, h.tI, hsa h.rI h.tI rfl, Row.nil _ _ _, Tg.nil _ _, fun x hx => by simp at hx⟩, ⟨h.rR, h.tR, hsa h.rR h.tR rfl, Row.nil _ _ _, Tg.nil _ _, fun x hx => by simp at hx⟩, ⟨h.rE, h.tE, hsa h.rE h.tE rfl, Row.nil _ _ _, Tg.nil _ _, fun x hx => by simp at hx⟩, h.t0, h.t7, h.t8⟩
end Go.Proofs.YtinlkcmdbjcofaaGreat
