/-
  What a script keeps: the list that was handed in last, the lists that were answered, and copies of these; each in memory of its own.
-/
import Derived.Test.YtenhofbhkchjoabDoorMgU
namespace Go.Proofs.YtenhofbhkchjoabDoor.Mg
open Go.ChangeShapes Go.WideShapes Go.ChangeAt Go.RowKit
set_option maxHeartbeats 400000
set_option maxRecDepth 100000

/-- Outside the blocks of S the world w' is as w was. -/
structure Chg (S : Nat → Prop) (w w' : World) : Prop where
  os : w'.os = w.os
  tape : w'.tape = w.tape
  output : w'.output = w.output
  size : w.heap.size ≤ w'.heap.size
  block : ∀ k, k < w.heap.size → ¬ S k → w'.heap[k]? = w.heap[k]?

theorem Chg.refl (S : Nat → Prop) (w : World) : Chg S w w := ⟨rfl, rfl, rfl, Nat.le_refl _, fun _ _ _ => rfl⟩
theorem Chg.of_below {S : Nat → Prop} {w w' : World} (h : Below w.heap.size w w') : Chg S w w' := ⟨h.os, h.tape, h.output, h.size, fun k hk _ => h.block k hk⟩
theorem Chg.of_grown {S : Nat → Prop} {w w' : World} {row : Option Nat} (h : w.grownBy w' row) (hr : ∀ k, some k = row → S k) : Chg S w w' := ⟨h.os, h.tape, h.output, h.size, fun k hk hn => h.block k hk fun e => hn (hr k e)⟩
theorem Chg.setCell {S : Nat → Prop} (w : World) (a : Addr) (v : Value) (h : S a.block) : Chg S w (w.setCell a v) :=
  ⟨rfl, rfl, rfl, by simp, fun k _ hn => heap_setCell_other w a k v fun e => hn (e ▸ h)⟩
theorem Chg.alloc {S : Nat → Prop} (w : World) (o : Obj) : Chg S w (w.alloc o) := ⟨rfl, rfl, rfl, by simp, fun k hk _ => Below.heap_alloc w o k hk⟩
theorem Chg.trans {S : Nat → Prop} {a b c : World} (h : Chg S a b) (g : Chg S b c) : Chg S a c :=
  ⟨g.os.trans h.os, g.tape.trans h.tape, g.output.trans h.output, Nat.le_trans h.size g.size, fun k hk hn => (g.block k (Nat.lt_of_lt_of_le hk h.size) hn).trans (h.block k hk hn)⟩
theorem Chg.below {S : Nat → Prop} {w w' : World} {B : Nat} (h : Chg S w w') (hB : B ≤ w.heap.size) (hS : ∀ k, S k → B ≤ k) : Below B w w' :=
  ⟨h.os, h.tape, h.output, h.size, fun k hk => h.block k (by omega) fun e => by have := hS k e; omega⟩

theorem owns_chg {S : Nat → Prop} {w w' : World} {B : Nat} {e : TypeId} {size : Nat} {v : Value} {n : Nat} {xs : List Value} (h : w.ownsRow B e size v n xs) (hc : Chg S w w') (hn : ∀ k, v.ownBlock = some k → ¬ S k) : w'.ownsRow B e size v n xs := by
  refine ⟨h.1, ?_⟩
  rcases h.2 with hn | ⟨g, cap, cur, rfl, hb, hgg, rest⟩
  · exact .inl hn
  · refine .inr ⟨g, cap, cur, rfl, hb, ?_, rest⟩
    rw [hc.block g (Array.getElem?_eq_some_iff.1 hgg).1 (hn g rfl)]
    exact hgg

theorem sees_chg {S : Nat → Prop} {w w' : World} {v : Value} {L : List (Nat × Int)} (h : Sees w v L) (hc : Chg S w w') (hn : ∀ k, v.ownBlock = some k → ¬ S k) : Sees w' v L := by
  obtain ⟨ao, cap, rfl, h1, h2, h3⟩ := h
  refine ⟨ao, cap, rfl, h1, h2, fun j hj => ?_⟩
  obtain ⟨g, off, rfl, hg, c0, c1⟩ := h3 j hj
  have e := hc.block g hg (hn g rfl)
  exact ⟨g, off, rfl, Nat.lt_of_lt_of_le hg hc.size, (World.cell?_of_block (a := ⟨g, off + j * 2, none⟩) e).trans c0, (World.cell?_of_block (a := ⟨g, off + j * 2 + 1, none⟩) e).trans c1⟩

/-- The value's block is there, and none of these. -/
def Off (w : World) (p : Nat) (vl vs vw v : Value) : Prop := ∀ k, v.ownBlock = some k → k < w.heap.size ∧ k ≠ p ∧ some k ≠ vl.ownBlock ∧ some k ≠ vs.ownBlock ∧ some k ≠ vw.ownBlock

/-- What the script keeps, in the world w: the variable at the block p, the three slices, their contents. -/
structure St (w : World) (B p : Nat) (vl vs vw : Value) (L : List (Nat × Int)) (KA KC : List (Value × List (Nat × Int))) : Prop where
  lo : B ≤ p
  row : w.heap[p]? = some (.cells #[vl, vs, vw] 42 (0, 0))
  ol : w.ownsRow B 31 2 vl L.length (cellsP L)
  os : w.ownsRow B 39 1 vs KA.length (KA.map Prod.fst)
  ow : w.ownsRow B 39 1 vw KC.length (KC.map Prod.fst)
  xl : ∀ k, vl.ownBlock = some k → k ≠ p ∧ some k ≠ vs.ownBlock ∧ some k ≠ vw.ownBlock
  xs : ∀ k, vs.ownBlock = some k → k ≠ p ∧ some k ≠ vw.ownBlock
  xw : ∀ k, vw.ownBlock = some k → k ≠ p
  kept : ∀ r, r ∈ KA ∨ r ∈ KC → Sees w r.1 r.2 ∧ Off w p vl vs vw r.1

section
variable {w w' : World} {B p : Nat} {vl vs vw : Value} {L : List (Nat × Int)} {KA KC : List (Value × List (Nat × Int))}

theorem St.lt (h : St w B p vl vs vw L KA KC) : p < w.heap.size := (Array.getElem?_eq_some_iff.1 h.row).1

/-- The blocks that a script writes into. -/
def Mine (p : Nat) (vl vs vw : Value) (k : Nat) : Prop := k = p ∨ vl.ownBlock = some k ∨ vs.ownBlock = some k ∨ vw.ownBlock = some k

theorem St.mine (h : St w B p vl vs vw L KA KC) {k : Nat} (hk : Mine p vl vs vw k) : B ≤ k ∧ k < w.heap.size := by
  rcases hk with rfl | e | e | e
  · exact ⟨h.lo, h.lt⟩
  · exact h.ol.lt k e
  · exact h.os.lt k e
  · exact h.ow.lt k e

theorem St.below (h : St w B p vl vs vw L KA KC) (hb : Below w.heap.size w w') : St w' B p vl vs vw L KA KC := by
  have hc : Chg (fun _ => False) w w' := Chg.of_below hb
  refine ⟨h.lo, ?_, owns_chg h.ol hc (fun _ _ => id), owns_chg h.os hc (fun _ _ => id), owns_chg h.ow hc (fun _ _ => id), h.xl, h.xs, h.xw, fun r hr => ?_⟩
  · rw [hb.block p h.lt]; exact h.row
  · obtain ⟨h1, h2⟩ := h.kept r hr
    exact ⟨sees_chg h1 hc (fun _ _ => id), fun k hk => ⟨Nat.lt_of_lt_of_le (h2 k hk).1 hb.size, (h2 k hk).2⟩⟩

theorem Off.chg {v : Value} (h : Off w p vl vs vw v) (hs : w.heap.size ≤ w'.heap.size) : Off w' p vl vs vw v := fun k hk => ⟨Nat.lt_of_lt_of_le (h k hk).1 hs, (h k hk).2⟩

/-- What is new lies apart. -/
theorem St.off (h : St w B p vl vs vw L KA KC) {v : Value} {e : TypeId} {size n : Nat} {xs : List Value} (hv : w'.ownsRow w.heap.size e size v n xs) : Off w' p vl vs vw v := by
  intro k hk
  obtain ⟨h1, h2⟩ := hv.lt k hk
  refine ⟨h2, ?_, ?_, ?_, ?_⟩
  · have := h.lt; omega
  · intro e; have := (h.ol.lt k e.symm).2; omega
  · intro e; have := (h.os.lt k e.symm).2; omega
  · intro e; have := (h.ow.lt k e.symm).2; omega

/-- A list is kept. -/
theorem St.pushA (h : St w B p vl vs vw L KA KC) {g cap : Nat} {l : Value} {M : List (Nat × Int)} (hc : Chg (fun k => k = p ∨ vs.ownBlock = some k) w w')
    (hp : w'.heap[p]? = some (.cells #[vl, .slice (some ⟨g, 0, none⟩) (KA.length + 1) cap, vw] 42 (0, 0)))
    (hown : w'.ownsRow B 39 1 (.slice (some ⟨g, 0, none⟩) (KA.length + 1) cap) (KA.length + 1) (KA.map Prod.fst ++ [l])) (hat : vs.ownBlock = some g ∨ w.heap.size ≤ g)
    (hl : Sees w l M) (ho : Off w p vl vs vw l) : St w' B p vl (.slice (some ⟨g, 0, none⟩) (KA.length + 1) cap) vw L (KA ++ [(l, M)]) KC := by
  have hg : ∀ k, k < w.heap.size → some k ≠ vs.ownBlock → some k ≠ (Value.slice (some ⟨g, 0, none⟩) (KA.length + 1) cap).ownBlock := by
    intro k hk hn e
    obtain rfl : k = g := by simpa [Value.ownBlock] using e
    rcases hat with e | e
    · exact hn e.symm
    · omega
  have hn : ∀ v, Off w p vl vs vw v → ∀ k, v.ownBlock = some k → ¬ (k = p ∨ vs.ownBlock = some k) := fun v hv k hk e => by
    obtain ⟨_, a, _, b, _⟩ := hv k hk
    rcases e with e | e
    · exact a e
    · exact b e.symm
  have ho' : ∀ v, Off w p vl vs vw v → Off w' p vl (.slice (some ⟨g, 0, none⟩) (KA.length + 1) cap) vw v := fun v hv k hk => by
    obtain ⟨a, b, c, d, e⟩ := hv k hk
    exact ⟨Nat.lt_of_lt_of_le a hc.size, b, c, hg k a d, e⟩
  refine ⟨h.lo, hp, owns_chg h.ol hc fun k hk e => ?_, ?_, owns_chg h.ow hc fun k hk e => ?_, fun k hk => ?_, fun k hk => ?_, h.xw, fun r hr => ?_⟩
  · obtain ⟨a, b, _⟩ := h.xl k hk
    rcases e with e | e
    · exact a e
    · exact b e.symm
  · simpa using hown
  · rcases e with e | e
    · exact h.xw k hk e
    · exact (h.xs k e).2 hk.symm
  · obtain ⟨a, b, c⟩ := h.xl k hk
    exact ⟨a, hg k (h.ol.lt k hk).2 b, c⟩
  · obtain rfl : g = k := by simpa [Value.ownBlock] using hk
    rcases hat with e | e
    · exact h.xs g e
    · refine ⟨by have := h.lt; omega, fun e' => ?_⟩
      have := (h.ow.lt g e'.symm).2; omega
  · have : r = (l, M) ∨ (r ∈ KA ∨ r ∈ KC) := by
      rcases hr with hr | hr
      · rw [List.mem_append, List.mem_singleton] at hr
        rcases hr with hr | hr
        · exact .inr (.inl hr)
        · exact .inl hr
      · exact .inr (.inr hr)
    rcases this with rfl | hr
    · exact ⟨sees_chg hl hc (hn l ho), ho' l ho⟩
    · obtain ⟨h1, h2⟩ := h.kept r hr
      exact ⟨sees_chg h1 hc (hn _ h2), ho' _ h2⟩

/-- A copy is kept. -/
theorem St.pushC (h : St w B p vl vs vw L KA KC) {g cap : Nat} {l : Value} {M : List (Nat × Int)} (hc : Chg (fun k => k = p ∨ vw.ownBlock = some k) w w')
    (hp : w'.heap[p]? = some (.cells #[vl, vs, .slice (some ⟨g, 0, none⟩) (KC.length + 1) cap] 42 (0, 0)))
    (hown : w'.ownsRow B 39 1 (.slice (some ⟨g, 0, none⟩) (KC.length + 1) cap) (KC.length + 1) (KC.map Prod.fst ++ [l])) (hat : vw.ownBlock = some g ∨ w.heap.size ≤ g)
    (hl : Sees w l M) (ho : Off w p vl vs vw l) : St w' B p vl vs (.slice (some ⟨g, 0, none⟩) (KC.length + 1) cap) L KA (KC ++ [(l, M)]) := by
  have hg : ∀ k, k < w.heap.size → some k ≠ vw.ownBlock → some k ≠ (Value.slice (some ⟨g, 0, none⟩) (KC.length + 1) cap).ownBlock := by
    intro k hk hn e
    obtain rfl : k = g := by simpa [Value.ownBlock] using e
    rcases hat with e | e
    · exact hn e.symm
    · omega
  have hn : ∀ v, Off w p vl vs vw v → ∀ k, v.ownBlock = some k → ¬ (k = p ∨ vw.ownBlock = some k) := fun v hv k hk e => by
    obtain ⟨_, a, _, _, b⟩ := hv k hk
    rcases e with e | e
    · exact a e
    · exact b e.symm
  have ho' : ∀ v, Off w p vl vs vw v → Off w' p vl vs (.slice (some ⟨g, 0, none⟩) (KC.length + 1) cap) v := fun v hv k hk => by
    obtain ⟨a, b, c, d, e⟩ := hv k hk
    exact ⟨Nat.lt_of_lt_of_le a hc.size, b, c, d, hg k a e⟩
  refine ⟨h.lo, hp, owns_chg h.ol hc fun k hk e => ?_, owns_chg h.os hc fun k hk e => ?_, ?_, fun k hk => ?_, fun k hk => ?_, fun k hk => ?_, fun r hr => ?_⟩
  · obtain ⟨a, _, b⟩ := h.xl k hk
    rcases e with e | e
    · exact a e
    · exact b e.symm
  · obtain ⟨a, b⟩ := h.xs k hk
    rcases e with e | e
    · exact a e
    · exact b e.symm
  · simpa using hown
  · obtain ⟨a, b, c⟩ := h.xl k hk
    exact ⟨a, b, hg k (h.ol.lt k hk).2 c⟩
  · obtain ⟨a, b⟩ := h.xs k hk
    exact ⟨a, hg k (h.os.lt k hk).2 b⟩
  · obtain rfl : g = k := by simpa [Value.ownBlock] using hk
    rcases hat with e | e
    · exact h.xw g e
    · have := h.lt; omega
  · have : r = (l, M) ∨ (r ∈ KA ∨ r ∈ KC) := by
      rcases hr with hr | hr
      · exact .inr (.inl hr)
      · rw [List.mem_append, List.mem_singleton] at hr
        rcases hr with hr | hr
        · exact .inr (.inr hr)
        · exact .inl hr
    rcases this with rfl | hr
    · exact ⟨sees_chg hl hc (hn l ho), ho' l ho⟩
    · obtain ⟨h1, h2⟩ := h.kept r hr
      exact ⟨sees_chg h1 hc (hn _ h2), ho' _ h2⟩

/-- Another list is the last one. -/
theorem St.setLast (h : St w B p vl vs vw L KA KC) {v : Value} {D : List (Nat × Int)} (hv : w.ownsRow B 31 2 v D.length (cellsP D)) (ho : Off w p vl vs vw v) (hk : ∀ r, r ∈ KA ∨ r ∈ KC → ∀ k, r.1.ownBlock = some k → some k ≠ v.ownBlock) :
    St (w.setCell ⟨p, 0, none⟩ v) B p v vs vw D KA KC := by
  have hc : Chg (fun k => k = p) w (w.setCell ⟨p, 0, none⟩ v) := Chg.setCell w _ _ rfl
  have hsz : (w.setCell ⟨p, 0, none⟩ v).heap.size = w.heap.size := by simp
  refine ⟨h.lo, heap_setCell_same w p 0 _ 42 v h.row, owns_chg hv hc fun k hk => (ho k hk).2.1, owns_chg h.os hc fun k hk => (h.xs k hk).1, owns_chg h.ow hc fun k hk => h.xw k hk, fun k hk => ?_, h.xs, h.xw, fun r hr => ?_⟩
  · obtain ⟨_, a, _, b, c⟩ := ho k hk
    exact ⟨a, b, c⟩
  · obtain ⟨h1, h2⟩ := h.kept r hr
    refine ⟨sees_chg h1 hc fun k hk => (h2 k hk).2.1, fun k hk' => ?_⟩
    obtain ⟨a, b, _, d, e⟩ := h2 k hk'
    exact ⟨by rw [hsz]; exact a, b, hk r hr k hk', d, e⟩

/-- The last list is written into. -/
theorem St.write (h : St w B p vl vs vw L KA KC) {D : List (Nat × Int)} {g : Nat} (hg : vl.ownBlock = some g) (hc : Chg (fun k => k = g) w w') (hv : w'.ownsRow B 31 2 vl D.length (cellsP D)) :
    St w' B p vl vs vw D KA KC := by
  obtain ⟨a1, a2, a3⟩ := h.xl g hg
  refine ⟨h.lo, ?_, hv, owns_chg h.os hc fun k hk e => a2 (e ▸ hk.symm), owns_chg h.ow hc fun k hk e => a3 (e ▸ hk.symm), h.xl, h.xs, h.xw, fun r hr => ?_⟩
  · rw [hc.block p h.lt (fun e => a1 e.symm)]; exact h.row
  · obtain ⟨h1, h2⟩ := h.kept r hr
    exact ⟨sees_chg h1 hc fun k hk e => (h2 k hk).2.2.1 (e ▸ hg.symm), Off.chg h2 hc.size⟩
end
end Go.Proofs.YtenhofbhkchjoabDoor.Mg
