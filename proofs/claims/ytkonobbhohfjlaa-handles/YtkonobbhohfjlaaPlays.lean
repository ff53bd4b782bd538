import Derived.Test.YtkonobbhohfjlaaWBegin
namespace Go.Proofs.Ytkonobbhohfjlaa
open Go.RowKit
set_option linter.unusedVariables false

/-- A call of a script. -/
structure LOp where
  K : Int
  M : Int
  A : Int
  B : Int
  C : Int
  D : Int
  F : Bool

def LOp.cells (o : LOp) : List Value := [.int .i64 o.K, .int .i64 o.M, .int .i64 o.A, .int .i64 o.B, .int .i64 o.C, .int .i64 o.D, .bool o.F]
def LOp.val (o : LOp) : Value := .agg #[.int .i64 o.K, .int .i64 o.M, .int .i64 o.A, .int .i64 o.B, .int .i64 o.C, .int .i64 o.D, .bool o.F]

/-- What a law's invariant must bear, so that 'plays' answers true: G i w S: i calls are played; S: the blocks that are the invariant's own. -/
structure Playable (w0 : World) (ops : List LOp) (lo hi most : Int) (G : Nat → World → (Nat → Prop) → Prop) : Prop where
  lt : ∀ {i w S}, G i w S → ∀ k, S k → k < w.heap.size
  alloc : ∀ {i w S} (o : Obj), G i w S → G i (w.alloc o) S
  begins : Calls Try.prog 13 #[.pointer (some ⟨w0.heap.size, 0, none⟩), .agg #[.int .i64 0, .int .i64 0, .int .i64 3, .int .i64 2, .int .i64 3, .int .i64 0, .bool false]]
      (w0.alloc (.cells #[.slice none 0 0, .slice none 0 0] 47)) fun e w' => e = .returned (.bool true) ∧ ∃ S, G 0 w' S ∧ Below w0.heap.size w0 w' ∧ ∀ k, S k → w0.heap.size ≤ k
  steps : ∀ {i w S} (o : LOp), ops[i]? = some o → o.K ≤ most → G i w S → (∀ k, S k → w0.heap.size ≤ k) →
      Calls Try.prog 14 #[.pointer (some ⟨w0.heap.size, 0, none⟩), .agg #[.int .i64 o.K, .int .i64 o.M, .int .i64 o.A, .int .i64 o.B, .int .i64 o.C, .int .i64 o.D, .bool o.F]] w fun e w' =>
        ∃ ok, e = .returned (.bool ok) ∧ ((o.K = 1 ∨ lo ≤ o.K ∧ o.K ≤ hi) → ok = true) ∧ ∃ S', G (i + 1) w' S' ∧ Touch w.heap.size S w w' ∧ ∀ k, S' k → S k ∨ w.heap.size ≤ k
  skips : ∀ {i w S} (o : LOp), ops[i]? = some o → most < o.K → G i w S → G (i + 1) w S
  looks : ∀ {i w S}, G i w S → Calls Try.prog 15 #[.pointer (some ⟨w0.heap.size, 0, none⟩)] w fun e w' => e = .returned (.bool true) ∧ Below w.heap.size w w' ∧ G i w' S

set_option maxHeartbeats 4000000 in
set_option maxRecDepth 100000 in
theorem plays_pos (w0 : World) (b off len cap : Nat) (ops : List LOp) (lo hi most : Int) (G : Nat → World → (Nat → Prop) → Prop) (hG : Playable w0 ops lo hi most G) (hlen : ops.length = len) (hl : len ≤ 4611686018427387904)
    (hb : b < w0.heap.size) (hc : ∀ (i : Nat) (o : LOp), ops[i]? = some o → ∀ (j : Nat) (v : Value), o.cells[j]? = some v → w0.cell? ⟨b, off + i * 7 + j, none⟩ = some v) :
    Calls Try.prog 7 #[.slice (some ⟨b, off, none⟩) len cap, .int .i64 lo, .int .i64 hi, .int .i64 most] w0 fun e w' => e = .returned (.bool true) ∧ Below w0.heap.size w0 w' := by
  go_enter Try.func7, Try.ntmps7
  go_wp2_with fail
  refine hG.begins.mono ?_
  rintro e w1 ⟨rfl, S, hg0, hb0, hS0⟩
  go_wp2_with fail
  go_loopg [11] len (fun k i wr => ∃ (r : Nat) (S : Nat → Prop), r + k = len ∧ i = .int .i64 r ∧ G r wr S ∧ Below w0.heap.size w0 wr ∧ ∀ k, S k → w0.heap.size ≤ k)
  case atStart => exact ⟨0, S, by omega, rfl, hg0, hb0, hS0⟩
  case round =>
    clear hS0 hb0 hg0
    clear S w1
    obtain ⟨r, S, hr, rfl, hg, hbl, hS⟩ := hrel
    by_cases hlt : r < len
    · obtain ⟨o, ho⟩ : ∃ o, ops[r]? = some o := ⟨ops[r], by simp⟩
      have hx := hc r o ho
      have hy : ∀ (j : Nat) (v : Value), o.cells[j]? = some v → wr.cell? ⟨b, off + r * 7 + j, none⟩ = some v := fun j v hv => (hbl.cell (p := ⟨b, off + r * 7 + j, none⟩) hb).trans (hx j v hv)
      have c0 := hy 0 _ rfl
      have c1 := hy 1 _ rfl
      have c2 := hy 2 _ rfl
      have c3 := hy 3 _ rfl
      have c4 := hy 4 _ rfl
      have c5 := hy 5 _ rfl
      have c6 := hy 6 _ rfl
      simp only [Nat.add_zero] at c0
      clear hx hy hc
      have Hr : Hid (r + gk = len) := hr
      have Hl : Hid (ops.length = len) := hlen
      clear hr hlen
      by_cases hm : most < o.K
      · go_wp2_with fail
        go_roundg (gk - 1)
        case measure => have := Hr.out; omega
        case rel => exact ⟨r + 1, S, by have := Hr.out; omega, by go_num, hG.alloc _ (hG.skips o ho hm hg), hbl.alloc hbl.size _, hS⟩
      · have hm' : o.K ≤ most := by omega
        clear hm
        go_wp2_with fail
        refine (hG.steps o ho hm' (hG.alloc _ hg) hS).mono ?_
        rintro e w2 ⟨ok, rfl, hok, S2, hg2, ht2, hS2⟩
        have hSlt := hG.lt hg
        have hbox : Blk w2 wr.heap.size o.cells 50 := (Blk.new wr o.cells 50).of (ht2.block _ (by simp) (fun h => by have := hSlt _ h; omega))
        have d0 := hbox.cell 0
        simp [LOp.cells] at d0
        have hs2 : wr.heap.size < w2.heap.size := hbox.lt
        have hs0 := hbl.size
        have hbl2 : Below w0.heap.size w0 w2 := (hbl.alloc hbl.size _).trans ((ht2.mono (by simp; omega) (S' := fun _ => False) (fun k hk h => by have := hS k h; omega)).below (by simp))
        have hSn : ∀ k, S2 k → w0.heap.size ≤ k := fun k hk => by
          rcases hS2 k hk with h | h
          · exact hS k h
          · simp at h; omega
        have HOK : Hid (((o.K = 1 ∨ lo ≤ o.K ∧ o.K ≤ hi) → ok = true)) := hok
        clear hok ht2 hbox hSlt hS2 hbl hg hS c0 c1 c2 c3 c4 c5 c6
        by_cases e1 : o.K = 1
        · have e1' : (o.K == 1) = true := by simp [e1]
          obtain rfl := HOK.out (.inl e1)
          clear e1
          go_wp2_with fail
          refine (hG.looks hg2).mono ?_
          rintro e w3 ⟨rfl, hb3, hg3⟩
          go_wp2_with fail
          go_roundg (gk - 1)
          case measure => have := Hr.out; omega
          case rel => exact ⟨r + 1, S2, by have := Hr.out; omega, by go_num, hg3, hbl2.trans (hb3.mono (by omega)), hSn⟩
        · have e1' : (o.K == 1) = false := by simp [e1]
          by_cases e2 : lo ≤ o.K ∧ o.K ≤ hi
          · obtain rfl := HOK.out (.inr e2)
            obtain ⟨e2, e3⟩ := e2
            clear e1
            go_wp2_with fail
            refine (hG.looks hg2).mono ?_
            rintro e w3 ⟨rfl, hb3, hg3⟩
            go_wp2_with fail
            go_roundg (gk - 1)
            case measure => have := Hr.out; omega
            case rel => exact ⟨r + 1, S2, by have := Hr.out; omega, by go_num, hg3, hbl2.trans (hb3.mono (by omega)), hSn⟩
          · clear e1 HOK
            by_cases e3 : lo ≤ o.K
            · have e4 : ¬ o.K ≤ hi := fun h => e2 ⟨e3, h⟩
              clear e2
              cases ok
              all_goals
                go_wp2_with fail
                refine (hG.looks hg2).mono ?_
                rintro e w3 ⟨rfl, hb3, hg3⟩
                go_wp2_with fail
                go_roundg (gk - 1)
                case measure => have := Hr.out; omega
                case rel => exact ⟨r + 1, S2, by have := Hr.out; omega, by go_num, hg3, hbl2.trans (hb3.mono (by omega)), hSn⟩
            · clear e2
              cases ok
              all_goals
                go_wp2_with fail
                refine (hG.looks hg2).mono ?_
                rintro e w3 ⟨rfl, hb3, hg3⟩
                go_wp2_with fail
                go_roundg (gk - 1)
                case measure => have := Hr.out; omega
                case rel => exact ⟨r + 1, S2, by have := Hr.out; omega, by go_num, hg3, hbl2.trans (hb3.mono (by omega)), hSn⟩
    · go_wp2_with fail
      go_ret
      exact ⟨rfl, hbl⟩

set_option maxHeartbeats 4000000 in
set_option maxRecDepth 100000 in
theorem plays_nil (w0 : World) (ao : Option Addr) (cap : Nat) (lo hi most : Int) (G : Nat → World → (Nat → Prop) → Prop) (hG : Playable w0 [] lo hi most G) :
    Calls Try.prog 7 #[.slice ao 0 cap, .int .i64 lo, .int .i64 hi, .int .i64 most] w0 fun e w' => e = .returned (.bool true) ∧ Below w0.heap.size w0 w' := by
  go_enter Try.func7, Try.ntmps7
  go_wp2_with fail
  refine hG.begins.mono ?_
  rintro e w1 ⟨rfl, S, hg0, hb0, hS0⟩
  go_wp2_with fail
  go_loopg [11] 0 (fun k i wr => i = .int .i64 0 ∧ Below w0.heap.size w0 wr)
  case atStart => exact ⟨rfl, hb0⟩
  case round =>
    clear hS0 hb0 hg0
    clear S w1
    obtain ⟨rfl, hbl⟩ := hrel
    go_wp2_with fail
    go_ret
    exact ⟨rfl, hbl⟩
end Go.Proofs.Ytkonobbhohfjlaa
