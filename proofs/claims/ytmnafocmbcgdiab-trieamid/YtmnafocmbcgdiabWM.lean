/-
  A trie beside the reference's: what a step at both leaves.
-/
import Derived.Test.YtmnafocmbcgdiabWLS
import Derived.Test.YtmnafocmbcgdiabWE
namespace Go.Proofs.Ytmnafocmbcgdiab
open Go.ChangeShapes Go.WideShapes Go.ChangeAt Go.RowKit Tri N
set_option maxHeartbeats 400000
set_option maxRecDepth 100000

/-- The blocks Z hold no nodes and no values. -/
def NoTree (w : World) (Z : Nat → Prop) : Prop := ∀ b, Z b → ∀ cs t, w.heap[b]? = some (.cells cs t) → t ≠ 64 ∧ t ≠ 3

theorem Lies.chgT {w w' : World} {X Z : Nat → Prop} {m : MT} (h : Lies w X m) (hZ : NoTree w Z) (hc : Chg Z w w') : Lies w' X m := by
  induction m with
  | nil => trivial
  | node b c k u l r il ir =>
    obtain ⟨q1, q2, q3, q4, q5⟩ := h
    exact ⟨q1, (hc.block b (Array.getElem?_eq_some_iff.1 q2).1 (fun hz => (hZ b hz _ _ q2).1 rfl)).trans q2, fun a ha => ⟨(q3 a ha).1, (hc.block c (Array.getElem?_eq_some_iff.1 (q3 a ha).2).1 (fun hz => (hZ c hz _ _ (q3 a ha).2).2 rfl)).trans (q3 a ha).2⟩, il q4, ir q5⟩

theorem TrieAt.chgT {w w' : World} {X Z : Nat → Prop} {tb : Nat} {t : Tr} (h : TrieAt w X tb t) (hZ : NoTree w Z) (htb : ¬ Z tb) (hc : Chg Z w w') : TrieAt w' X tb t := by
  obtain ⟨h1, h2, ⟨m, h3, h4, h5⟩, h6⟩ := h
  exact ⟨h1, fun b hx => Nat.lt_of_lt_of_le (h2 b hx) hc.size, ⟨m, (hc.block tb (Array.getElem?_eq_some_iff.1 h3).1 htb).trans h3, h4, h5.chgT hZ hc⟩, h6⟩

theorem OwnE.chg {w w' : World} {base : Nat} {v : Value} {L : List (K × Int)} {Z : Nat → Prop} (h : OwnE w base v L) (hz : ∀ b, v.ownBlock = some b → ¬ Z b) (hc : Chg Z w w') : OwnE w' base v L := by
  refine ⟨h.1, ?_⟩
  rcases h.2 with ⟨hv, hn⟩ | ⟨g, cap', cur, hv, hb', hg, hrest⟩
  · exact .inl ⟨hv, hn⟩
  · exact .inr ⟨g, cap', cur, hv, hb', (hc.block g (Array.getElem?_eq_some_iff.1 hg).1 (hz g (by rw [hv]; rfl))).trans hg, hrest⟩

theorem RefAt.chg {w w' : World} {rb : Nat} {v : Value} {L : List (K × Int)} {Z : Nat → Prop} (h : RefAt w rb v L) (hrb : ¬ Z rb) (hz : ∀ b, v.ownBlock = some b → ¬ Z b) (hc : Chg Z w w') : RefAt w' rb v L :=
  ⟨(hc.block rb (Array.getElem?_eq_some_iff.1 h.1).1 hrb).trans h.1, h.2.1.chg hz hc, h.2.2⟩

theorem OwnE.kind {w : World} {base : Nat} {v : Value} {L : List (K × Int)} (h : OwnE w base v L) {b : Nat} (hb : v.ownBlock = some b) : ∃ cs, w.heap[b]? = some (.cells cs 77) := by
  rcases h.2 with ⟨hv, _⟩ | ⟨g, cap', cur, hv, hb', hg, _⟩
  · rw [hv] at hb; cases hb
  · rw [hv] at hb
    have : g = b := by simpa [Value.ownBlock] using hb
    subst this
    exact ⟨cur, hg⟩

theorem kinds_ne {w : World} {a b : Nat} {cs ds : Array Value} {s t : TypeId} (h1 : w.heap[a]? = some (.cells cs s)) (h2 : w.heap[b]? = some (.cells ds t)) (h : s ≠ t) : a ≠ b := fun e => by
  rw [e, h2] at h1
  injection h1 with h1
  injection h1 with _ h1
  exact h h1.symm

theorem kind_no {w : World} {b : Nat} {cs : Array Value} {s : TypeId} (h1 : w.heap[b]? = some (.cells cs s)) (n1 : s ≠ 64) (n2 : s ≠ 3) : ∀ ds t, w.heap[b]? = some (.cells ds t) → t ≠ 64 ∧ t ≠ 3 := fun ds t h => by
  rw [h1] at h
  injection h with h
  injection h with _ h
  subst h
  exact ⟨n1, n2⟩

theorem TrieAt.noTree {w : World} {X : Nat → Prop} {tb : Nat} {t : Tr} (h : TrieAt w X tb t) : NoTree w (fun b => b = tb) := fun b hb => by
  obtain ⟨m, h3, _⟩ := h.tree
  subst hb
  exact kind_no h3 (by decide) (by decide)

theorem RefAt.noTree {w : World} {rb : Nat} {v : Value} {L : List (K × Int)} (h : RefAt w rb v L) : NoTree w (fun b => b = rb ∨ v.ownBlock = some b) := fun b hb => by
  rcases hb with rfl | hb
  · exact kind_no h.1 (by decide) (by decide)
  · obtain ⟨cs, h1⟩ := h.2.1.kind hb
    exact kind_no h1 (by decide) (by decide)

/-- A trie and the reference's that hold the same. -/
structure Duo (w : World) (tb rb : Nat) (v : Value) (t : Tr) (L : List (K × Int)) : Prop where
  tr : TrieAt w (fun b => b = tb) tb t
  ref : RefAt w rb v L
  same : Same t L
  ris : Ris L

theorem Duo.ne {w : World} {tb rb : Nat} {v : Value} {t : Tr} {L : List (K × Int)} (h : Duo w tb rb v t L) : tb ≠ rb ∧ ∀ b, v.ownBlock = some b → b ≠ tb ∧ b ≠ rb := by
  obtain ⟨m, h3, _⟩ := h.tr.tree
  refine ⟨kinds_ne h3 h.ref.1 (by decide), fun b hb => ?_⟩
  obtain ⟨cs, h1⟩ := h.ref.2.1.kind hb
  exact ⟨kinds_ne h1 h3 (by decide), kinds_ne h1 h.ref.1 (by decide)⟩

theorem Duo.below {w w' : World} {tb rb : Nat} {v : Value} {t : Tr} {L : List (K × Int)} (h : Duo w tb rb v t L) (hb : Below w.heap.size w w') : Duo w' tb rb v t L := ⟨h.tr.grow hb, h.ref.below hb, h.same, h.ris⟩

/-- What a step may change. -/
def Touch (tb rb : Nat) (v : Value) (b : Nat) : Prop := b = tb ∨ b = rb ∨ v.ownBlock = some b

/-- What a step at both leaves. -/
def Stepped (w w' : World) (tb rb : Nat) (v : Value) (n : Nat) : Prop := (∃ v' t' L', Duo w' tb rb v' t' L' ∧ L'.length ≤ n + 1 ∧ (v' = v ∨ ∀ b, v'.ownBlock = some b → w.heap.size ≤ b)) ∧ Chg (Touch tb rb v) w w'

theorem Stepped.same {w w' : World} {tb rb : Nat} {v : Value} {t : Tr} {L : List (K × Int)} (h : Duo w tb rb v t L) (hb : Below w.heap.size w w') : Stepped w w' tb rb v L.length := ⟨⟨v, t, L, h.below hb, Nat.le_succ _, .inl rfl⟩, Chg.of_below hb⟩

theorem put_duo {w : World} {tb rb x : Nat} {y a : Int} {v : Value} {t : Tr} {L : List (K × Int)} (hD : Duo w tb rb v t L) (hx : x < 4294967296) (hlen : L.length ≤ 4000000000000) :
    ∃ er : Int, Calls Try.prog 11 #[.pointer (some ⟨tb, 0, none⟩), qv x y, .int .i64 a] w fun e w1 => e = .returned (.int .i64 er) ∧ Chg (fun b => b = tb) w w1 ∧
      ∀ w1', Below w1.heap.size w1 w1' → Calls Try.prog 44 #[.pointer (some ⟨rb, 0, none⟩), qv x y, .int .i64 a] w1' fun f w2 => f = .returned (.int .i64 er) ∧ Stepped w w2 tb rb v L.length := by
  rcases bad_or (y := y) hx with hbad | ⟨p, hp, rfl, rfl⟩
  · refine ⟨11, (put_bad w hx hbad).mono ?_⟩
    rintro _ w1 ⟨rfl, hb1⟩
    refine ⟨rfl, Chg.of_below hb1, fun w1' hb1' => (putR_bad w1' hx hbad).mono ?_⟩
    rintro _ w2 ⟨rfl, hb2⟩
    have h1 := hb1.trans (hb1'.mono hb1.size)
    exact ⟨rfl, Stepped.same hD (h1.trans (hb2.mono h1.size))⟩
  · refine ⟨0, (put_any p a w hD.tr hp).mono ?_⟩
    rintro _ w1 ⟨rfl, hT1, hc1⟩
    refine ⟨rfl, hc1, fun w1' hb1' => ?_⟩
    obtain ⟨n1, n2⟩ := hD.ne
    have hR1 : RefAt w1' rb v L := (hD.ref.chg (fun e => n1 e.symm) (fun b hb => (n2 b hb).1) hc1).below hb1'
    have hT1' := hT1.grow hb1'
    have hc1' : Chg (fun b => b = tb) w w1' := hc1.trans (Chg.of_below hb1')
    have hw := hD.tr.wf
    rcases hD.same.look hw p with ⟨g1, _⟩ | ⟨i, v0, g1, g2, g3, _⟩
    · refine (putR_new p a w1' hR1 hp g1 hlen).mono ?_
      rintro _ w2 ⟨rfl, ⟨v', M, ⟨A, B, rfl, rfl, hA, hB⟩, hR2, hf⟩, hc2⟩
      have hno : ∀ e ∈ A ++ B, e.1 ≠ p := fun e he => by
        obtain ⟨i, hi⟩ := List.getElem?_of_mem he
        exact posL_none g1 i e (List.getElem?_eq_some_iff.1 hi).1 hi
      exact ⟨rfl, ⟨v', _, _, ⟨hT1'.chgT (fun b hb => RefAt.noTree hR1 b (.inl hb)) n1 hc2, hR2, hD.same.ins (H := top) top_ok hw hp hp.top hno a, hD.ris.ins hA hB hno⟩, by simp; omega, .inr fun b hb => Nat.le_trans hc1'.size (hf b hb)⟩, (hc1'.mono fun b hb => .inl hb).trans (hc2.mono fun b hb => .inr (.inl hb))⟩
    · refine (putR_set p a w1' hR1 hp g1 g2 g3).mono ?_
      rintro _ w2 ⟨rfl, hR2, hc2⟩
      exact ⟨rfl, ⟨v, _, _, ⟨hT1'.chgT (fun b hb => RefAt.noTree hR1 b (.inr hb)) (fun h => (n2 tb h).1 rfl) hc2, hR2, hD.same.set (H := top) top_ok hw hp hp.top g3 a, hD.ris.set g3 a⟩, by simp, .inl rfl⟩, (hc1'.mono fun b hb => .inl hb).trans (hc2.mono fun b hb => .inr (.inr hb))⟩

theorem del_duo {w : World} {tb rb x : Nat} {y : Int} {v : Value} {t : Tr} {L : List (K × Int)} (hD : Duo w tb rb v t L) (hx : x < 4294967296) (hlen : L.length ≤ 4000000000000) :
    ∃ a er : Int, Calls Try.prog 13 #[.pointer (some ⟨tb, 0, none⟩), qv x y] w fun e w1 => e = .returned (.tuple #[.int .i64 a, .int .i64 er]) ∧ Chg (fun b => b = tb) w w1 ∧
      ∀ w1', Below w1.heap.size w1 w1' → Calls Try.prog 45 #[.pointer (some ⟨rb, 0, none⟩), qv x y] w1' fun f w2 => f = .returned (.tuple #[.int .i64 a, .int .i64 er]) ∧ Stepped w w2 tb rb v L.length := by
  rcases bad_or (y := y) hx with hbad | ⟨p, hp, rfl, rfl⟩
  · refine ⟨0, 11, (del_bad w hx hbad).mono ?_⟩
    rintro _ w1 ⟨rfl, hb1⟩
    refine ⟨rfl, Chg.of_below hb1, fun w1' hb1' => (delR_bad w1' hx hbad).mono ?_⟩
    rintro _ w2 ⟨rfl, hb2⟩
    have h1 := hb1.trans (hb1'.mono hb1.size)
    exact ⟨rfl, Stepped.same hD (h1.trans (hb2.mono h1.size))⟩
  · obtain ⟨n1, n2⟩ := hD.ne
    have hw := hD.tr.wf
    have hdel := del_any p w hD.tr hp
    rcases hD.same.look hw p with ⟨g1, g4⟩ | ⟨i, v0, g1, g2, g3, g4⟩
    · rw [g4] at hdel
      refine ⟨0, 3, hdel.mono ?_⟩
      rintro _ w1 ⟨rfl, hT1, hc1⟩
      refine ⟨rfl, hc1, fun w1' hb1' => ?_⟩
      have hR1 : RefAt w1' rb v L := (hD.ref.chg (fun e => n1 e.symm) (fun b hb => (n2 b hb).1) hc1).below hb1'
      have hc1' : Chg (fun b => b = tb) w w1' := hc1.trans (Chg.of_below hb1')
      have hT1' := hT1.grow hb1'
      rw [show delT t p = t by unfold delT; rw [g4]; rfl] at hT1'
      refine (delR_none p w1' hR1 hp g1).mono ?_
      rintro _ w2 ⟨rfl, hb2⟩
      exact ⟨rfl, ⟨v, t, L, ⟨hT1'.grow hb2, hR1.below hb2, hD.same, hD.ris⟩, Nat.le_succ _, .inl rfl⟩, (hc1'.mono fun b hb => .inl hb).trans (Chg.of_below hb2)⟩
    · rw [g4] at hdel
      refine ⟨v0, 0, hdel.mono ?_⟩
      rintro _ w1 ⟨rfl, hT1, hc1⟩
      refine ⟨rfl, hc1, fun w1' hb1' => ?_⟩
      have hR1 : RefAt w1' rb v L := (hD.ref.chg (fun e => n1 e.symm) (fun b hb => (n2 b hb).1) hc1).below hb1'
      have hc1' : Chg (fun b => b = tb) w w1' := hc1.trans (Chg.of_below hb1')
      have hT1' := hT1.grow hb1'
      rw [show delT t p = hang t p none by unfold delT; rw [g4]; rfl] at hT1'
      refine (delR_some p w1' hR1 hp g1 g2 g3 hlen).mono ?_
      rintro _ w2 ⟨rfl, ⟨v', hR2, hf⟩, hc2⟩
      exact ⟨rfl, ⟨v', _, _, ⟨hT1'.chgT (fun b hb => RefAt.noTree hR1 b (.inl hb)) n1 hc2, hR2, hD.same.del (H := top) top_ok hw hp hp.top, hD.ris.but _⟩, Nat.le_trans (List.length_filter_le _ _) (Nat.le_succ _), .inr fun b hb => Nat.le_trans hc1'.size (hf b hb)⟩, (hc1'.mono fun b hb => .inl hb).trans (hc2.mono fun b hb => .inr (.inl hb))⟩

theorem get_duo {w : World} {tb rb x : Nat} {y : Int} {v : Value} {t : Tr} {L : List (K × Int)} (hD : Duo w tb rb v t L) (hx : x < 4294967296) :
    ∃ a er : Int, Calls Try.prog 23 #[.pointer (some ⟨tb, 0, none⟩), qv x y] w fun e w1 => e = .returned (.tuple #[.int .i64 a, .int .i64 er]) ∧ Chg (fun b => b = tb) w w1 ∧
      ∀ w1', Below w1.heap.size w1 w1' → Calls Try.prog 46 #[.pointer (some ⟨rb, 0, none⟩), qv x y] w1' fun f w2 => f = .returned (.tuple #[.int .i64 a, .int .i64 er]) ∧ Stepped w w2 tb rb v L.length := by
  rcases bad_or (y := y) hx with hbad | ⟨p, hp, rfl, rfl⟩
  · refine ⟨0, 11, (get_bad w hx hbad).mono ?_⟩
    rintro _ w1 ⟨rfl, hb1⟩
    refine ⟨rfl, Chg.of_below hb1, fun w1' hb1' => (getR_bad w1' hx hbad).mono ?_⟩
    rintro _ w2 ⟨rfl, hb2⟩
    have h1 := hb1.trans (hb1'.mono hb1.size)
    exact ⟨rfl, Stepped.same hD (h1.trans (hb2.mono h1.size))⟩
  · have hget := get_any p w hD.tr hp
    have hlook := hD.same.look hD.tr.wf p
    have ho : (posL L p L.length = none ∧ lookT t p = none) ∨ ∃ i a, posL L p L.length = some i ∧ i < L.length ∧ L[i]? = some (p, a) ∧ lookT t p = some a := hlook
    obtain ⟨a, er, hv⟩ : ∃ a er : Int, getV (lookT t p) = .tuple #[.int .i64 a, .int .i64 er] := by
      cases lookT t p with
      | none => exact ⟨0, 3, rfl⟩
      | some a => exact ⟨a, 0, rfl⟩
    rw [hv] at hget
    refine ⟨a, er, hget.mono ?_⟩
    rintro _ w1 ⟨rfl, hb1⟩
    refine ⟨rfl, Chg.of_below hb1, fun w1' hb1' => ?_⟩
    have h1 := hb1.trans (hb1'.mono hb1.size)
    have hg2 := getR_any p w1' (hD.ref.below h1) hp _ ho
    rw [hv] at hg2
    refine hg2.mono ?_
    rintro _ w2 ⟨rfl, hb2⟩
    exact ⟨rfl, Stepped.same hD (h1.trans (hb2.mono h1.size))⟩
end Go.Proofs.Ytmnafocmbcgdiab
