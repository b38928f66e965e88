/-
  The reference's Read: an area that is being read.
-/
import Derived.Test.YteoebmpfdcbbmacDoorNB
import Derived.Test.YteoebmpfdcbbmacDoorRN
import Derived.Test.YteoebmpfdcbbmacDoorRF
namespace Go.Proofs.YteoebmpfdcbbmacDoor
open Go.ChangeShapes Go.WideShapes Go.ChangeAt Go.RowKit Jn N
set_option maxHeartbeats 4000000
set_option maxRecDepth 100000

def arRow (st g : Nat) (vr : Value) (fin : Nat) : Obj := .cells #[.int .i64 (st : Int), .int .i64 (g : Int), vr, .int .i64 (fin : Int)] 81 (0, 0)
structure Rdg (w u : World) (rb ab g : Nat) (vr : Value) (recs : List (List Nat)) (fin : Nat) : Prop where
  be : Below w.heap.size w u
  rbl : w.heap.size ≤ rb
  abl : w.heap.size ≤ ab
  ne : rb ≠ ab
  rrow : u.heap[rb]? = some (arRow 0 0 (.slice none 0 0) 0)
  arow : u.heap[ab]? = some (arRow 3 g vr fin)
  own : ∃ Vs C, OwnS u w.heap.size vr Vs ∧ Vs.length = recs.length ∧ (∀ (i : Nat) x r, Vs[i]? = some x → recs[i]? = some r → Frz u C x r) ∧ ∀ k, C k → k < u.heap.size ∧ k ≠ ab ∧ k ≠ rb ∧ vr.ownBlock ≠ some k
theorem Rdg.below {w u u' : World} {rb ab g : Nat} {vr : Value} {recs : List (List Nat)} {fin : Nat} (h : Rdg w u rb ab g vr recs fin) (hb : Below u.heap.size u u') : Rdg w u' rb ab g vr recs fin := by
  obtain ⟨Vs, C, h1, h2, h3, h4⟩ := h.own
  exact ⟨h.be.trans (hb.mono h.be.size), h.rbl, h.abl, h.ne, below_keeps hb h.rrow (Array.getElem?_eq_some_iff.1 h.rrow).1, below_keeps hb h.arow (Array.getElem?_eq_some_iff.1 h.arow).1, Vs, C, h1.below hb, h2, fun i x r hx hr => (h3 i x r hx hr).keeps (T := fun _ => False) (Keeps.of hb) (fun _ _ e => e), fun k hk => ⟨Nat.lt_of_lt_of_le (h4 k hk).1 hb.size, (h4 k hk).2⟩⟩
theorem Rdg.sees {w u : World} {rb ab g : Nat} {vr : Value} {recs : List (List Nat)} {fin : Nat} (h : Rdg w u rb ab g vr recs fin) : SeesBB u vr recs := by
  obtain ⟨Vs, C, h1, h2, h3, h4⟩ := h.own
  exact own_seesS h1 h2 (fun i x r hx hr => (h3 i x r hx hr).1)
theorem ar_cellsR {u : World} {b st g fin : Nat} {vr : Value} (h : u.heap[b]? = some (arRow st g vr fin)) : u.cell? ⟨b, 0, none⟩ = some (.int .i64 (st : Int)) ∧ u.cell? ⟨b, 1, none⟩ = some (.int .i64 (g : Int)) ∧ u.cell? ⟨b, 2, none⟩ = some vr ∧ u.cell? ⟨b, 3, none⟩ = some (.int .i64 (fin : Int)) ∧ ∀ i, u.frozen? ⟨b, i, none⟩ = false := by
  unfold arRow at h
  exact ⟨by rw [cell_of_row _ _ _ _ _ _ h]; rfl, by rw [cell_of_row _ _ _ _ _ _ h]; rfl, by rw [cell_of_row _ _ _ _ _ _ h]; rfl, by rw [cell_of_row _ _ _ _ _ _ h]; rfl, fun i => frozen_of_row _ _ _ _ _ h⟩
/-- One record more is read. -/
theorem Rdg.add {w u W u6 : World} {rb ab g : Nat} {vr x : Value} {recs : List (List Nat)} {fin fin' : Nat} {r : List Nat} {g6 n6 cap6 : Nat} {Vs : List Value} {C : Nat → Prop} (h : Rdg w u rb ab g vr recs fin) (hV : OwnS u w.heap.size vr Vs) (hVl : Vs.length = recs.length) (hVf : ∀ (i : Nat) x r, Vs[i]? = some x → recs[i]? = some r → Frz u C x r) (hCa : ∀ k, C k → k < u.heap.size ∧ k ≠ ab ∧ k ≠ rb ∧ vr.ownBlock ≠ some k)
    (hb : Below u.heap.size u W) (hx : SeesB W x r) (hn : ∀ a n c, x = .slice (some a) n c → u.heap.size ≤ a.block ∧ a.block < W.heap.size) (ho : OwnS u6 w.heap.size (.slice (some ⟨g6, 0, none⟩) n6 cap6) (Vs ++ [x])) (hg : W.grownBy u6 vr.ownBlock) (hat : vr.ownBlock = some g6 ∨ W.heap.size ≤ g6) :
    Rdg w ((u6.setCell ⟨ab, 2, none⟩ (.slice (some ⟨g6, 0, none⟩) n6 cap6)).setCell ⟨ab, 3, none⟩ (.int .i64 (fin' : Int))) rb ab g (.slice (some ⟨g6, 0, none⟩) n6 cap6) (recs ++ [r]) fin' := by
  have hW := h.below hb
  have hsz := hb.size
  have hab := (Array.getElem?_eq_some_iff.1 h.arow).1
  have hrb := (Array.getElem?_eq_some_iff.1 h.rrow).1
  have har := hW.arow
  have hrr := hW.rrow
  have hlt := fun k hk => World.ownsRow.lt hV k hk
  unfold arRow at har hrr
  have na : vr.ownBlock ≠ some ab := (hV.below hb).ne_of har (by decide)
  have nr : vr.ownBlock ≠ some rb := (hV.below hb).ne_of hrr (by decide)
  have ga : g6 ≠ ab := fun e => by
    rcases hat with e' | e'
    · exact na (by rw [e', e])
    · omega
  have hk : Keeps (fun k => k = ab ∨ vr.ownBlock = some k) W ((u6.setCell ⟨ab, 2, none⟩ (.slice (some ⟨g6, 0, none⟩) n6 cap6)).setCell ⟨ab, 3, none⟩ (.int .i64 (fin' : Int))) := ((Keeps.grown hg (fun k e => .inr e)).set ⟨ab, 2, none⟩ (.inl rfl) _).set ⟨ab, 3, none⟩ (.inl rfl) _
  have hr6 : u6.heap[ab]? = _ := (hg.block ab (by omega) (fun e => na e.symm)).trans har
  have hr7 := set_cells (i := 3) (v := .int .i64 (fin' : Int)) (set_cells (i := 2) (v := .slice (some ⟨g6, 0, none⟩) n6 cap6) hr6)
  have hC : ∀ k, C k → ¬ (k = ab ∨ vr.ownBlock = some k) := fun k hc e => e.elim (hCa k hc).2.1 (hCa k hc).2.2.2
  have hz := hk.size
  refine ⟨hk.below hW.be hW.be.size (fun k hk' e => ?_), h.rbl, h.abl, h.ne, (hk.block rb (by omega) (fun e => e.elim h.ne nr)).trans hW.rrow, hr7, Vs ++ [x], fun k => C k ∨ ∃ a n c, x = .slice (some a) n c ∧ k = a.block, ho.keeps (((Keeps.refl (At1 ab) u6).set ⟨ab, 2, none⟩ rfl _).set ⟨ab, 3, none⟩ rfl _) (fun k hk' e => ?_), by simp [hVl], fun i y s hy hs => ?_, fun k hc => ?_⟩
  · rcases e with e | e
    · have := h.abl; omega
    · have := (hlt k e).1; omega
  · simp [Value.ownBlock] at hk'
    unfold At1 at e
    exact ga (hk'.trans e)
  · by_cases hi : i < Vs.length
    · rw [List.getElem?_append_left hi] at hy
      rw [List.getElem?_append_left (by omega)] at hs
      exact (((hVf i y s hy hs).keeps (T := fun _ => False) (Keeps.of hb) (fun _ _ e => e)).keeps hk hC).more (fun k hc => .inl hc)
    · rw [List.getElem?_append_right (by omega)] at hy hs
      rw [hVl] at hy
      rcases hj' : i - recs.length with _ | j
      · rw [hj'] at hy hs
        simp at hy hs
        subst hy hs
        refine ⟨hx.keeps hk (fun a n c e => ?_), fun a n c e => .inr ⟨a, n, c, e, rfl⟩⟩
        obtain ⟨hn1, hn2⟩ := hn a n c e
        rintro (e' | e')
        · omega
        · have := (hlt _ e').2; omega
      · rw [hj'] at hy; simp at hy
  · rcases hc with hc | ⟨a, n, c, e, rfl⟩
    · obtain ⟨a1, a2, a3, a4⟩ := hCa k hc
      refine ⟨by omega, a2, a3, fun e => ?_⟩
      simp [Value.ownBlock] at e
      rcases hat with e' | e'
      · exact a4 (by rw [e', e])
      · omega
    · obtain ⟨hn1, hn2⟩ := hn a n c e
      refine ⟨by omega, by omega, by omega, fun e' => ?_⟩
      simp [Value.ownBlock] at e'
      rcases hat with e2 | e2
      · have := (hlt _ e2).2; omega
      · omega
/-- What Read answers. -/
def ArC (w w' : World) (v : Value) (c : Ct) : Prop := ∃ vr, v = .agg #[.int .i64 (c.st : Int), .int .i64 (c.gen : Int), vr, .int .i64 (c.fin : Int)] ∧ SeesBB w' vr c.recs ∧ Below w.heap.size w w'
/-- The loop's mathematics: what is left to be read. -/
theorem rd_sum {g base fin : Nat} {L : List Nat} {recs : List (List Nat)} {met : Bool} (h : ¬ L.length < 12) (hf : fits g recs.length L = true) (hl : ¬ L.length < 12 + num L 0) (hc : crc ((L.drop 12).take (num L 0)) ≠ num L 4) : rd g base L recs fin met = ⟨1, 0, [], 0⟩ := by rw [rd, dif_neg h, if_neg (by rw [hf]; simp), if_neg hl, if_neg hc]
theorem rd_more {g base fin : Nat} {L : List Nat} {recs : List (List Nat)} {met : Bool} (h : ¬ L.length < 12) (hf : fits g recs.length L = true) (hl : ¬ L.length < 12 + num L 0) (hc : crc ((L.drop 12).take (num L 0)) = num L 4) : rd g base L recs fin met = rd g base (L.drop (12 + num L 0)) (recs ++ [(L.drop 12).take (num L 0)]) (fin + (12 + num L 0)) (met || fin + (12 + num L 0) == base) := by
  conv => lhs; rw [rd, dif_neg h, if_neg (by rw [hf]; simp), if_neg hl, if_pos hc]
/-- A frame's third number, from the bytes ahead of it. -/
theorem sel_bytes {g k : Nat} {L : List Nat} (hL : ∀ x ∈ L, x < 256) (h : 8 ≤ L.length) : sel g k (num L 0) (num L 4) = crc (w4 g ++ w4 k ++ L.take 8) := by
  unfold sel
  rw [w4_num hL 0 (by omega), w4_num hL 4 (by omega), List.drop_zero, List.append_assoc (w4 g ++ w4 k), ← List.take_add]
end Go.Proofs.YteoebmpfdcbbmacDoor
