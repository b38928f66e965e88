import Derived.Test.YtcboenmmkaochaaNB
import Derived.Laws.AppendOwnNone
namespace Go.Proofs.Ytcboenmmkaochaa.N
open Go.ChangeShapes Go.WideShapes Go.ChangeAt Go.RowKit
set_option maxHeartbeats 400000
set_option maxRecDepth 100000

def bs (L : List Nat) : List Value := L.map fun (x : Nat) => Value.int .u8 (x : Int)

/-- v is a list of bytes of the call's own, in a block not below base. -/
def OwnB (w : World) (base : Nat) (v : Value) (L : List Nat) : Prop := w.ownsRow base 5 1 v L.length (bs L)

theorem Try.info5 : (Try.prog.info? 5).map (fun i => (i.zero, i.size, i.bytes)) = some (some (.int .u8 0), 1, 1) := by kernel_rfl

theorem ownB_nil (w : World) (base : Nat) : OwnB w base (.slice none 0 0) [] := World.ownsRow_nil _ _ _ _

theorem OwnB.sees {w : World} {base : Nat} {v : Value} {L : List Nat} (h : OwnB w base v L) (hb : ∀ x ∈ L, x < 256) : SeesB w v L := by
  rcases h.2 with ⟨rfl, hn⟩ | ⟨g, cap, cur, rfl, hbg, hg, hnc, hcm, hcs, htake⟩
  · have : L = [] := List.eq_nil_of_length_eq_zero hn
    subst this
    exact sees_nil w
  · refine ⟨some ⟨g, 0, none⟩, cap, rfl, ⟨hnc, fun h => by cases h⟩, hcm, fun j hj => ⟨g, 0, rfl, (Array.getElem?_eq_some_iff.1 hg).1, ?_, hb _ (List.getElem_mem hj)⟩⟩
    rw [Nat.zero_add, World.ownsRow.cellAt h j (by omega)]
    simp [bs, hj]

theorem below_grown {w w' : World} (h : Below w.heap.size w w') (row : Option Nat) : w.grownBy w' row := ⟨h.os, h.tape, h.output, h.size, fun k hk _ => h.block k hk⟩

theorem OwnB.below {w w' : World} {base : Nat} {v : Value} {L : List Nat} (h : OwnB w base v L) (hb : Below w.heap.size w w') : OwnB w' base v L :=
  World.ownsRow.kept h (below_grown hb none) (by cases hv : v.ownBlock <;> simp)

theorem below_of_grown {base : Nat} {w w' : World} {v : Value} {L : List Nat} (h : OwnB w base v L) (hbase : base ≤ w.heap.size) (hg : w.grownBy w' v.ownBlock) : Below base w w' :=
  (Below.refl _ _).grown hg hbase (fun k hk => (World.ownsRow.lt h k hk).1)

theorem wpList_append_bytes {w : World} {ops : Array Oper} {rest : List Oper} {o : Oper} {a : Act} {Q : Exit → Act → World → Prop} (hgd : o.guard = none) (s x : Operand)
    (ho : o.op = .call { callee := .builtin .append, args := #[s, x], argTypes := #[23, 23] })
    (base : Nat) (v : Value) (M : List Nat) (hs : a.eval s = v) (hown : OwnB w base v M) (u : Value) (L : List Nat) (hx : a.eval x = u) (hu : SeesB w u L)
    (hbytes : M.length + L.length ≤ 140737488355328) (hbase : base ≤ w.heap.size)
    (h : ∀ v' w', OwnB w' base v' (M ++ L) → Below base w w' → wpList Try.prog ops Q rest (a.put o.dst v') w') : wpList Try.prog ops Q (o :: rest) a w := by
  obtain ⟨i0, hi0, hz0, hz1, hz2⟩ := info_parts Try.info5
  have hu0 := hu
  obtain ⟨ao, cap, rfl, h1, h2, h3⟩ := hu
  cases ao with
  | none =>
    have hL : L = [] := by
      cases L with
      | nil => rfl
      | cons y L => obtain ⟨_, _, hc, _⟩ := h3 0 (by simp); cases hc
    subst hL
    have := h1.2 rfl
    subst this
    refine wpList_append_own_none hgd s x 23 ho base 5 i0 1 Try.underlying23 hi0 v _ _ hs hown hx ?_
    exact h v w (by rw [List.append_nil]; exact hown) (Below.refl _ _)
  | some ad =>
    refine wpList_append_own w hgd s x 23 ho base 5 i0 (.int .u8 0) 1 1 Try.underlying23 hi0 hz0 hz1 hz2 rfl (by decide) v _ _ hs hown ad L.length cap (bs L) hx (by simp [bs]) ?_ ?_ ?_ (by omega) hbase ?_
    · intro j q hj
      have hjl : j < L.length := by
        have := (List.getElem?_eq_some_iff.1 hj).1; simpa [bs] using this
      obtain ⟨g, off, hc, hg, hcell, _⟩ := h3 j hjl
      simp at hc; subst hc
      have e : (⟨g, off, none⟩ : Addr).add j = ⟨g, off + j, none⟩ := by
        rcases Nat.eq_zero_or_pos j with rfl | h0
        · simp [Addr.add]
        · simp [Addr.add]; omega
      rw [e, hcell]
      simp [bs, hjl] at hj
      rw [hj]
    · intro q hq
      obtain ⟨y, _, rfl⟩ := List.mem_map.1 hq
      rfl
    · unfold maxLen; omega
    · intro v' w' ho' hg _
      exact h v' w' (by unfold OwnB; rw [List.length_append, show bs (M ++ L) = bs M ++ bs L by simp [bs]]; exact ho') (below_of_grown hown hbase hg)

theorem flat_take_le {Ls : List (List Nat)} {k : Nat} : (Ls.take k).flatten.length ≤ Ls.flatten.length := by
  conv => rhs; rw [← List.take_append_drop k Ls, List.flatten_append, List.length_append]
  omega

end Go.Proofs.Ytcboenmmkaochaa.N
