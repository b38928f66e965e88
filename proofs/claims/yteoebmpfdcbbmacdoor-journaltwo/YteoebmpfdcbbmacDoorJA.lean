/-
  Bytes in memory.
-/
import Derived.Test.YteoebmpfdcbbmacDoorJM
import Derived.Test.YteoebmpfdcbbmacDoorVLX
import Derived.Laws.AppendOwnNone
import Derived.Laws.CopyOwn
import Derived.Laws.MakeOwn
import Derived.Laws.OwnMore
import Derived.Deep.CutRange
import Derived.Deep.RegionWith
import Derived.Deep.RegionHeld3
import Derived.StillTailTactics
import Derived.WalkMore
namespace Go.Proofs.YteoebmpfdcbbmacDoor
open Go.ChangeShapes Go.WideShapes Go.ChangeAt Go.RowKit
set_option maxHeartbeats 400000
set_option maxRecDepth 100000

def lenOf : Value → Nat
  | .slice _ n _ => n
  | _ => 0

theorem hid {p : Prop} (h : p) : Hid p := h

theorem ret_int {k : IntKind} {a b : Int} (h : a = b) : Ending.returned (.int k a) = .returned (.int k b) := by rw [h]

theorem ret_bool {a b : Bool} (h : a = b) : Ending.returned (.bool a) = .returned (.bool b) := by rw [h]

/-- The slice value v shows, in the world w, the bytes L. -/
def SeesB (w : World) (v : Value) (L : List Nat) : Prop :=
  ∃ ao cap, v = .slice ao L.length cap ∧ (L.length ≤ cap ∧ (ao = none → cap = 0)) ∧ cap ≤ maxLen ∧
    ∀ j (h : j < L.length), ∃ g off, ao = some ⟨g, off, none⟩ ∧ g < w.heap.size ∧ w.cell? ⟨g, off + j, none⟩ = some (.int .u8 (L[j] : Int)) ∧ L[j] < 256

theorem SeesB.shape {w : World} {v : Value} {L : List Nat} (h : SeesB w v L) : ∃ ao n cap, v = .slice ao n cap ∧ Hid (n = L.length) ∧ n ≤ cap ∧ cap ≤ maxLen := by
  obtain ⟨ao, cap, hv, h1, h2, _⟩ := h
  exact ⟨ao, L.length, cap, hv, rfl, h1.1, h2⟩

theorem SeesB.at {w : World} {ao : Option Addr} {n cap : Nat} {L : List Nat} (h : SeesB w (.slice ao n cap) L) (j : Nat) (hj : j < n) : ∃ (g off p : Nat), ao = some ⟨g, off, none⟩ ∧ g < w.heap.size ∧ w.cell? ⟨g, off + j, none⟩ = some (.int .u8 (p : Int)) ∧ p < 256 ∧ Hid (L[j]? = some p) := by
  obtain ⟨ao', cap', hv, h1, h2, h3⟩ := h
  simp at hv
  obtain ⟨rfl, rfl, rfl⟩ := hv
  obtain ⟨g, off, a, b, c, d⟩ := h3 j hj
  exact ⟨g, off, L[j], a, b, c, d, List.getElem?_eq_getElem hj⟩

theorem SeesB.below {w w' : World} {v : Value} {L : List Nat} (h : SeesB w v L) (hb : Below w.heap.size w w') : SeesB w' v L := by
  obtain ⟨ao, cap, hv, h1, h2, h3⟩ := h
  refine ⟨ao, cap, hv, h1, h2, fun j hj => ?_⟩
  obtain ⟨g, off, ha, hg, c0, c1⟩ := h3 j hj
  exact ⟨g, off, ha, Nat.lt_of_lt_of_le hg hb.size, (hb.cell (p := ⟨g, _, none⟩) hg).trans c0, c1⟩

theorem SeesB.bytes {w : World} {v : Value} {L : List Nat} (h : SeesB w v L) : ∀ x ∈ L, x < 256 := by
  obtain ⟨ao, cap, hv, h1, h2, h3⟩ := h
  intro x hx
  obtain ⟨j, hj, rfl⟩ := List.mem_iff_getElem.1 hx
  obtain ⟨_, _, _, _, _, h⟩ := h3 j hj
  exact h

theorem sees_nil (w : World) : SeesB w (.slice none 0 0) [] := ⟨none, 0, rfl, ⟨by simp, fun _ => rfl⟩, by unfold maxLen; omega, fun j h => absurd h (by simp)⟩

theorem below_drew {B : Nat} {a w : World} (h : Below B a w) : Below B a w.drew := ⟨h.os, h.tape, h.output, h.size, h.block⟩

theorem SeesB.back {w : World} {g off n cap : Nat} {L : List Nat} (h : SeesB w (.slice (some ⟨g, off, none⟩) n cap) L) (m : Nat) (hm : m ≤ n) :
    SeesB w (.slice (if cap = m then some ⟨g, off, none⟩ else some ⟨g, off + m, none⟩) (n - m) (cap - m)) (L.drop m) := by
  obtain ⟨ao', cap', hv, h1, h2, h3⟩ := h
  simp at hv
  obtain ⟨rfl, rfl, rfl⟩ := hv
  refine ⟨_, cap - m, by rw [List.length_drop], ⟨by rw [List.length_drop]; omega, fun h => by split at h <;> cases h⟩, by omega, fun j hj => ?_⟩
  rw [List.length_drop] at hj
  obtain ⟨g', off', ha, hg, hc, hb⟩ := h3 (m + j) (by omega)
  simp at ha
  obtain ⟨rfl, rfl⟩ := ha
  refine ⟨g, off + m, by rw [if_neg (by omega)], hg, ?_, ?_⟩
  · rw [List.getElem_drop, Nat.add_assoc]; exact hc
  · rw [List.getElem_drop]; exact hb

/-- A cut 'x[m:]': its value is kept a letter. -/
theorem SeesB.low {w : World} {ao : Option Addr} {n cap : Nat} {L : List Nat} (h : SeesB w (.slice ao n cap) L) (m : Nat) (i : Int) (hi : i = m) (hm : m ≤ n) :
    ∃ ao', Hid (SeesB w (.slice ao' (n - m) (cap - m)) (L.drop m)) ∧ ∀ u : World, (Instr.sliceAt 22 (.slice ao n cap) (some (.int .i64 i)) none none).run Tryd.prog u = .ok (.slice ao' (n - m) (cap - m)) u := by
  subst hi
  have hlen : n = L.length := by obtain ⟨_, _, hv, _⟩ := h; simp at hv; exact hv.2.1
  refine ⟨if cap = m then ao else ao.map (·.add m), ?_, fun u => ?_⟩
  · cases ao with
    | none =>
      have hn : n = 0 := by
        rcases Nat.eq_zero_or_pos n with h0 | h0
        · exact h0
        · obtain ⟨_, _, _, hc, _⟩ := h.at 0 h0; cases hc
      have h2 := h
      obtain ⟨_, _, hv, h1, h3, _⟩ := h
      simp at hv
      obtain ⟨rfl, _, rfl⟩ := hv
      have hL : L.drop m = [] := List.drop_eq_nil_of_le (by omega)
      unfold Hid; rw [hL]
      exact ⟨_, cap - m, by rw [show n - m = 0 by omega]; rfl, ⟨by simp, fun h => by have := h1.2 rfl; omega⟩, by omega, fun j hj => absurd hj (by simp)⟩
    | some a =>
      rcases Nat.eq_zero_or_pos n with h0 | h0
      · obtain ⟨_, _, hv, h1, h3, _⟩ := h
        simp at hv
        obtain ⟨rfl, _, rfl⟩ := hv
        have hL : L.drop m = [] := List.drop_eq_nil_of_le (by omega)
        unfold Hid; rw [hL]
        exact ⟨_, cap - m, by rw [show n - m = 0 by omega]; rfl, ⟨by simp, fun h => by split at h <;> cases h⟩, by omega, fun j hj => absurd hj (by simp)⟩
      · obtain ⟨g, off, _, hc, _⟩ := h.at 0 h0
        simp at hc
        subst hc
        have := h.back m hm
        have ea : (⟨g, off, none⟩ : Addr).add m = ⟨g, off + m, none⟩ := by
          rcases Nat.eq_zero_or_pos m with rfl | h0
          · simp [Addr.add]
          · simp [Addr.add]; omega
        unfold Hid
        rw [Option.map_some, ea]
        exact this
  · have hu : Tryd.prog.underlying 22 = some (.slice (Tryd.prog.elem 22)) := by kernel_rfl
    have hsz : (sizeOf (Tryd.prog.elem 22)).run Tryd.prog u = .ok 1 u := by kernel_rfl
    rw [run_sliceAt_slice (h := hu), run_slice_l (ht := hu) (h0 := by omega) (h1 := by omega), hsz]
    simp [Result.andThen, sliced]

/-- The slice value v shows the lists Ls. -/
def SeesBB (w : World) (v : Value) (Ls : List (List Nat)) : Prop :=
  ∃ ao cap, v = .slice ao Ls.length cap ∧ Ls.length ≤ cap ∧ cap ≤ maxLen ∧
    ∀ j (h : j < Ls.length), ∃ g off u, ao = some ⟨g, off, none⟩ ∧ g < w.heap.size ∧ w.cell? ⟨g, off + j, none⟩ = some u ∧ SeesB w u Ls[j]

theorem SeesBB.shape {w : World} {v : Value} {L : List (List Nat)} (h : SeesBB w v L) : ∃ ao n cap, v = .slice ao n cap ∧ Hid (n = L.length) ∧ n ≤ cap ∧ cap ≤ maxLen := by
  obtain ⟨ao, cap, hv, h1, h2, _⟩ := h
  exact ⟨ao, L.length, cap, hv, rfl, h1, h2⟩

theorem SeesBB.at {w : World} {ao : Option Addr} {n cap : Nat} {L : List (List Nat)} (h : SeesBB w (.slice ao n cap) L) (j : Nat) (hj : j < n) : ∃ (g off : Nat) (u : Value) (l : List Nat), ao = some ⟨g, off, none⟩ ∧ g < w.heap.size ∧ w.cell? ⟨g, off + j, none⟩ = some u ∧ SeesB w u l ∧ Hid (L[j]? = some l) := by
  obtain ⟨ao', cap', hv, h1, h2, h3⟩ := h
  simp at hv
  obtain ⟨rfl, rfl, rfl⟩ := hv
  obtain ⟨g, off, u, a, b, c, d⟩ := h3 j hj
  exact ⟨g, off, u, L[j], a, b, c, d, List.getElem?_eq_getElem hj⟩

theorem SeesBB.below {w w' : World} {v : Value} {L : List (List Nat)} (h : SeesBB w v L) (hb : Below w.heap.size w w') : SeesBB w' v L := by
  obtain ⟨ao, cap, hv, h1, h2, h3⟩ := h
  refine ⟨ao, cap, hv, h1, h2, fun j hj => ?_⟩
  obtain ⟨g, off, u, ha, hg, c0, c1⟩ := h3 j hj
  exact ⟨g, off, u, ha, Nat.lt_of_lt_of_le hg hb.size, (hb.cell (p := ⟨g, _, none⟩) hg).trans c0, c1.below hb⟩

/-- A cut 'x[:m]': its address is kept a letter. -/
theorem SeesB.high {w : World} {ao : Option Addr} {n cap : Nat} {L : List Nat} (h : SeesB w (.slice ao n cap) L) (m : Nat) (i : Int) (hi : i = m) (hm : m ≤ n) :
    ∃ ao', Hid (SeesB w (.slice ao' m cap) (L.take m)) ∧ ∀ u : World, (Instr.sliceAt 22 (.slice ao n cap) none (some (.int .i64 i)) none).run Tryd.prog u = .ok (.slice ao' m cap) u := by
  subst hi
  have h0 := h
  obtain ⟨ao1, cap1, hv, h1, h2, h3⟩ := h
  simp at hv
  obtain ⟨rfl, hlen, rfl⟩ := hv
  refine ⟨ao, ?_, fun u => ?_⟩
  · refine ⟨ao, cap, by rw [List.length_take]; congr 1; omega, ⟨by rw [List.length_take]; omega, h1.2⟩, h2, fun j hj => ?_⟩
    rw [List.length_take] at hj
    obtain ⟨g, off, ha, hg, hc, hb⟩ := h3 j (by omega)
    exact ⟨g, off, ha, hg, by rw [List.getElem_take]; exact hc, by rw [List.getElem_take]; exact hb⟩
  · have hu : Tryd.prog.underlying 22 = some (.slice (Tryd.prog.elem 22)) := by kernel_rfl
    have hsz : (sizeOf (Tryd.prog.elem 22)).run Tryd.prog u = .ok 1 u := by kernel_rfl
    rw [run_sliceAt_slice (h := hu), run_slice_h (ht := hu) (h0 := by omega) (h2 := by omega), hsz]
    simp [Result.andThen, sliced]
    intro _
    cases ao <;> simp [Addr.add]

theorem SeesB.lowS {w : World} {ao : Option Addr} {n cap : Nat} {L : List Nat} (h : SeesB w (.slice ao n cap) L) (m : Nat) (hm : m ≤ n) :
    SeesB w (.slice (if cap = m then ao else ao.map (·.add m)) (n - m) (cap - m)) (L.drop m) := by
  have hlen : n = L.length := by obtain ⟨_, _, hv, _⟩ := h; simp at hv; exact hv.2.1
  cases ao with
  | none =>
    have hn : n = 0 := by
      rcases Nat.eq_zero_or_pos n with h0 | h0
      · exact h0
      · obtain ⟨_, _, _, hc, _⟩ := h.at 0 h0; cases hc
    obtain ⟨_, _, hv, h1, h3, _⟩ := h
    simp at hv
    obtain ⟨rfl, _, rfl⟩ := hv
    have hL : L.drop m = [] := List.drop_eq_nil_of_le (by omega)
    rw [hL]
    exact ⟨_, cap - m, by rw [show n - m = 0 by omega]; rfl, ⟨by simp, fun h => by have := h1.2 rfl; omega⟩, by omega, fun j hj => absurd hj (by simp)⟩
  | some a =>
    rcases Nat.eq_zero_or_pos n with h0 | h0
    · obtain ⟨_, _, hv, h1, h3, _⟩ := h
      simp at hv
      obtain ⟨rfl, _, rfl⟩ := hv
      have hL : L.drop m = [] := List.drop_eq_nil_of_le (by omega)
      rw [hL]
      exact ⟨_, cap - m, by rw [show n - m = 0 by omega]; rfl, ⟨by simp, fun h => by split at h <;> cases h⟩, by omega, fun j hj => absurd hj (by simp)⟩
    · obtain ⟨g, off, _, hc, _⟩ := h.at 0 h0
      simp at hc
      subst hc
      have := h.back m hm
      have ea : (⟨g, off, none⟩ : Addr).add m = ⟨g, off + m, none⟩ := by
        rcases Nat.eq_zero_or_pos m with rfl | h0
        · simp [Addr.add]
        · simp [Addr.add]; omega
      rw [Option.map_some, ea]
      exact this

/-- A cut 'x[a:b]': its value is kept a letter. -/
theorem SeesB.mid {w : World} {ao : Option Addr} {n cap : Nat} {L : List Nat} (h : SeesB w (.slice ao n cap) L) (a b : Nat) (i k : Int) (hi : i = a) (hk : k = b) (hab : a ≤ b) (hb : b ≤ n) :
    ∃ ao', Hid (SeesB w (.slice ao' (b - a) (cap - a)) ((L.take b).drop a)) ∧ ∀ u : World, (Instr.sliceAt 22 (.slice ao n cap) (some (.int .i64 i)) (some (.int .i64 k)) none).run Tryd.prog u = .ok (.slice ao' (b - a) (cap - a)) u := by
  subst hi hk
  have hT : SeesB w (.slice ao b cap) (L.take b) := by
    obtain ⟨ao1, cap1, hv, h1, h2, h3⟩ := h
    simp at hv
    obtain ⟨rfl, hlen, rfl⟩ := hv
    refine ⟨ao, cap, by rw [List.length_take]; congr 1; omega, ⟨by rw [List.length_take]; omega, h1.2⟩, h2, fun j hj => ?_⟩
    rw [List.length_take] at hj
    obtain ⟨g, off, ha, hg, hc, hb⟩ := h3 j (by omega)
    exact ⟨g, off, ha, hg, by rw [List.getElem_take]; exact hc, by rw [List.getElem_take]; exact hb⟩
  have hcap : n ≤ cap := by obtain ⟨_, _, hv, h1, _⟩ := h; simp at hv; obtain ⟨rfl, rfl, rfl⟩ := hv; exact h1.1
  refine ⟨_, hT.lowS a hab, fun u => ?_⟩
  have hu : Tryd.prog.underlying 22 = some (.slice (Tryd.prog.elem 22)) := by kernel_rfl
  have hsz : (sizeOf (Tryd.prog.elem 22)).run Tryd.prog u = .ok 1 u := by kernel_rfl
  rw [run_sliceAt_slice (h := hu), run_slice_lh (ht := hu) (h0 := by omega) (h1 := by omega) (h2 := by omega), hsz]
  simp [Result.andThen, sliced]

theorem SeesB.takeS {w : World} {ao : Option Addr} {n cap : Nat} {L : List Nat} (h : SeesB w (.slice ao n cap) L) (b : Nat) (hb : b ≤ n) : SeesB w (.slice ao b cap) (L.take b) := by
  obtain ⟨ao1, cap1, hv, h1, h2, h3⟩ := h
  simp at hv
  obtain ⟨rfl, hlen, rfl⟩ := hv
  refine ⟨ao, cap, by rw [List.length_take]; congr 1; omega, ⟨by rw [List.length_take]; omega, h1.2⟩, h2, fun j hj => ?_⟩
  rw [List.length_take] at hj
  obtain ⟨g, off, ha, hg, hc, hb⟩ := h3 j (by omega)
  exact ⟨g, off, ha, hg, by rw [List.getElem_take]; exact hc, by rw [List.getElem_take]; exact hb⟩

def bs (L : List Nat) : List Value := L.map fun (x : Nat) => Value.int .u8 (x : Int)

/-- v is a list of bytes of the call's own, in a block not below base. -/
def OwnB (w : World) (base : Nat) (v : Value) (L : List Nat) : Prop := w.ownsRow base 5 1 v L.length (bs L)

theorem Tryd.info5 : (Tryd.prog.info? 5).map (fun i => (i.zero, i.size, i.bytes)) = some (some (.int .u8 0), 1, 1) := by kernel_rfl

theorem ownB_nil (w : World) (base : Nat) : OwnB w base (.slice none 0 0) [] := World.ownsRow_nil _ _ _ _

theorem OwnB.sees {w : World} {base : Nat} {v : Value} {L : List Nat} (h : OwnB w base v L) (hb : ∀ x ∈ L, x < 256) : SeesB w v L := by
  rcases h.2 with ⟨rfl, hn⟩ | ⟨g, cap, cur, rfl, hbg, hg, hnc, hcm, hcs, htake⟩
  · have : L = [] := List.eq_nil_of_length_eq_zero hn
    subst this
    exact sees_nil w
  · refine ⟨some ⟨g, 0, none⟩, cap, rfl, ⟨hnc, fun h => by cases h⟩, hcm, fun j hj => ⟨g, 0, rfl, (Array.getElem?_eq_some_iff.1 hg).1, ?_, hb _ (List.getElem_mem hj)⟩⟩
    rw [Nat.zero_add, World.ownsRow.cellAt h j (by omega)]
    simp [bs, hj]

theorem below_grown {w w' : World} (h : Below w.heap.size w w') (row : Option Nat) : w.grownBy w' row := ⟨h.os, h.tape, h.output, h.size, fun k hk _ => h.block k hk⟩

theorem OwnB.below {w w' : World} {base : Nat} {v : Value} {L : List Nat} (h : OwnB w base v L) (hb : Below w.heap.size w w') : OwnB w' base v L :=
  World.ownsRow.kept h (below_grown hb none) (by cases hv : v.ownBlock <;> simp)

theorem below_of_grown {base : Nat} {w w' : World} {v : Value} {L : List Nat} (h : OwnB w base v L) (hbase : base ≤ w.heap.size) (hg : w.grownBy w' v.ownBlock) : Below base w w' :=
  (Below.refl _ _).grown hg hbase (fun k hk => (World.ownsRow.lt h k hk).1)

theorem wpList_append_bytes {w : World} {ops : Array Oper} {rest : List Oper} {o : Oper} {a : Act} {Q : Exit → Act → World → Prop} (hgd : o.guard = none) (s x : Operand)
    (ho : o.op = .call { callee := .builtin .append, args := #[s, x], argTypes := #[22, 22] })
    (base : Nat) (v : Value) (M : List Nat) (hs : a.eval s = v) (hown : OwnB w base v M) (u : Value) (L : List Nat) (hx : a.eval x = u) (hu : SeesB w u L)
    (hbytes : M.length + L.length ≤ 140737488355328) (hbase : base ≤ w.heap.size)
    (h : ∀ v' w', OwnB w' base v' (M ++ L) → Below base w w' → wpList Tryd.prog ops Q rest (a.put o.dst v') w') : wpList Tryd.prog ops Q (o :: rest) a w := by
  obtain ⟨i0, hi0, hz0, hz1, hz2⟩ := info_parts Tryd.info5
  have hu0 := hu
  obtain ⟨ao, cap, rfl, h1, h2, h3⟩ := hu
  cases ao with
  | none =>
    have hL : L = [] := by
      cases L with
      | nil => rfl
      | cons y L => obtain ⟨_, _, hc, _⟩ := h3 0 (by simp); cases hc
    subst hL
    have := h1.2 rfl
    subst this
    refine wpList_append_own_none hgd s x 22 ho base 5 i0 1 Tryd.underlying22 hi0 v _ _ hs hown hx ?_
    exact h v w (by rw [List.append_nil]; exact hown) (Below.refl _ _)
  | some ad =>
    refine wpList_append_own w hgd s x 22 ho base 5 i0 (.int .u8 0) 1 1 Tryd.underlying22 hi0 hz0 hz1 hz2 rfl (by decide) v _ _ hs hown ad L.length cap (bs L) hx (by simp [bs]) ?_ ?_ ?_ (by omega) hbase ?_
    · intro j q hj
      have hjl : j < L.length := by
        have := (List.getElem?_eq_some_iff.1 hj).1; simpa [bs] using this
      obtain ⟨g, off, hc, hg, hcell, _⟩ := h3 j hjl
      simp at hc; subst hc
      have e : (⟨g, off, none⟩ : Addr).add j = ⟨g, off + j, none⟩ := by
        rcases Nat.eq_zero_or_pos j with rfl | h0
        · simp [Addr.add]
        · simp [Addr.add]; omega
      rw [e, hcell]
      simp [bs, hjl] at hj
      rw [hj]
    · intro q hq
      obtain ⟨y, _, rfl⟩ := List.mem_map.1 hq
      rfl
    · unfold maxLen; omega
    · intro v' w' ho' hg _
      exact h v' w' (by unfold OwnB; rw [List.length_append, show bs (M ++ L) = bs M ++ bs L by simp [bs]]; exact ho') (below_of_grown hown hbase hg)

theorem OwnB.alloc {w : World} {base : Nat} {v : Value} {L : List Nat} (h : OwnB w base v L) (o : Obj) : OwnB (w.alloc o) base v L :=
  h.below ((Below.refl _ _).alloc (Nat.le_refl _) _)

theorem OwnB.mono {w : World} {b b' : Nat} {v : Value} {L : List Nat} (h : OwnB w b v L) (hb : b' ≤ b) : OwnB w b' v L := by
  refine ⟨h.1, ?_⟩
  rcases h.2 with h | ⟨g, cap, cur, h1, h2, h3⟩
  · exact .inl h
  · exact .inr ⟨g, cap, cur, h1, by omega, h3⟩

theorem SeesB.src {w : World} {ao : Option Addr} {n cap : Nat} {L : List Nat} (h : SeesB w (.slice ao n cap) L) (hpos : 0 < (bs L).length) : ∃ ad, ao = some ad ∧ ∀ j v, (bs L)[j]? = some v → w.cell? (ad.add j) = some v := by
  have hL : 0 < L.length := by simpa [bs] using hpos
  have hn : n = L.length := by obtain ⟨_, _, hv, _⟩ := h; simp at hv; exact hv.2.1
  obtain ⟨g, off, p, ha, _⟩ := h.at 0 (by omega)
  refine ⟨_, ha, fun j v hv => ?_⟩
  have hj : j < L.length := by have := (List.getElem?_eq_some_iff.1 hv).1; simpa [bs] using this
  obtain ⟨g', off', p', ha', _, hc, _, HP⟩ := h.at j (by omega)
  rw [ha] at ha'
  simp at ha'
  obtain ⟨rfl, rfl⟩ := ha'
  rw [Addr.add_mid, hc]
  have e : (bs L)[j]? = some (.int .u8 (p' : Int)) := by unfold bs; rw [List.getElem?_map, HP.out]; rfl
  rw [← e, hv]

/-- A byte of a list of the call's own is written. -/
theorem OwnB.put {w : World} {base g n cap : Nat} {C : List Nat} (h : OwnB w base (.slice (some ⟨g, 0, none⟩) n cap) C) (i x : Nat) :
    OwnB (w.setCell ⟨g, i, none⟩ (.int .u8 (x : Int))) base (.slice (some ⟨g, 0, none⟩) n cap) (C.set i x) ∧ Below base w (w.setCell ⟨g, i, none⟩ (.int .u8 (x : Int))) := by
  rcases h.2 with ⟨h1, _⟩ | ⟨g', cap', cur, h1, hb, hg, hnc, hcm, hcs, ht⟩
  · cases h1
  · simp at h1
    obtain ⟨rfl, hn, rfl⟩ := h1
    have h2 := heap_setCell_same w g i cur 5 (.int .u8 (x : Int)) hg
    refine ⟨⟨by simp [bs], .inr ⟨g, cap, _, by rw [List.length_set, hn], hb, h2, by rw [List.length_set]; exact hnc, hcm, by simpa using hcs, ?_⟩⟩, (Below.refl _ _).setCell (p := ⟨g, i, none⟩) hb _⟩
    rw [List.length_set]
    simp only [Array.toList_setIfInBounds, List.take_set]
    rw [ht]
    simp [bs, List.map_set]

theorem OwnB.grip {w : World} {base : Nat} {v : Value} {C : List Nat} (h : OwnB w base v C) (hne : C ≠ []) : ∃ g n cap, v = .slice (some ⟨g, 0, none⟩) n cap ∧ Hid (n = C.length) ∧ base ≤ g ∧ n ≤ cap ∧ cap ≤ maxLen ∧ (∀ j, w.frozen? ⟨g, j, none⟩ = false) := by
  rcases h.2 with ⟨rfl, hn⟩ | ⟨g, cap, cur, rfl, hb, hg, hnc, hcm, hcs, ht⟩
  · exact absurd (List.eq_nil_of_length_eq_zero hn) hne
  · exact ⟨g, _, cap, rfl, rfl, hb, hnc, hcm, fun j => frozen_of_row _ _ _ _ _ hg⟩

theorem take_snoc {α : Type} {L : List α} {j : Nat} {x : α} (h : L[j]? = some x) : L.take (j + 1) = L.take j ++ [x] := by
  rw [List.take_add_one, h]; rfl
theorem below_drewN {B : Nat} {a w : World} (h : Below B a w) (n : Nat) : Below B a (w.drewN n) := ⟨h.os, h.tape, h.output, h.size, h.block⟩
theorem below_keeps {B k : Nat} {w w' : World} {o : Obj} (h : Below B w w') (hk : w.heap[k]? = some o) (hlt : k < B) : w'.heap[k]? = some o := (h.block k hlt).trans hk

/-- A world behind calls that made memory and wrote none of the elder. -/
structure Beh (w : World) where
  wd : World
  ok : Below w.heap.size w wd

instance (w : World) : Nonempty (Beh w) := ⟨⟨w, Below.refl _ _⟩⟩

theorem Beh.two {w : World} {b : Nat} {x y : Value} {t : TypeId} (h : w.heap[b]? = some (.cells #[x, y] t)) : (∀ u : Beh w, u.wd.cell? ⟨b, 0, none⟩ = some x) ∧ (∀ u : Beh w, u.wd.cell? ⟨b, 1, none⟩ = some y) := by
  have hlt := (Array.getElem?_eq_some_iff.1 h).1
  refine ⟨fun u => ?_, fun u => ?_⟩
  · rw [cell_of_row _ _ _ _ _ _ (below_keeps u.ok h hlt)]; rfl
  · rw [cell_of_row _ _ _ _ _ _ (below_keeps u.ok h hlt)]; rfl

theorem Calls.beh {P : Program} {f : FuncId} {args : Array Value} {w : World} {u : Beh w} {v : Value}
    (h : Calls P f args u.wd fun e w' => e = .returned v ∧ Below u.wd.heap.size u.wd w') : Calls P f args u.wd fun e w'' => e = .returned v ∧ ∃ u' : Beh w, w'' = u'.wd :=
  h.mono fun _ w' ⟨he, hb⟩ => ⟨he, ⟨w', u.ok.trans (hb.mono u.ok.size)⟩, rfl⟩

theorem wp_region_beh {P : Program} {id : Nat} {Q : Exit → Act → World → Prop} {a : Act} {w : World} {l : List Oper} (hm : P.follows .mixedOrders = true) (hB : Region.lexB .any l.toArray = true)
    (h : wpQuiet P l.toArray (fun w' => ∃ u : Beh w, w' = u.wd) (fun a' => ∀ w', (∃ u : Beh w, w' = u.wd) → Q .normal a' w') l a) : (Code.region id l.toArray true).wp P Q a w :=
  wp_region_quiet (C := fun w' => ∃ u : Beh w, w' = u.wd) hm hB ⟨⟨_, below_drewN (Below.refl _ _) 1⟩, rfl⟩ (by simpa using h)

/-- All but the blocks of S are as they were. -/
structure Keeps (S : Nat → Prop) (w w' : World) : Prop where
  os : w'.os = w.os
  tape : w'.tape = w.tape
  output : w'.output = w.output
  size : w.heap.size ≤ w'.heap.size
  block : ∀ k, k < w.heap.size → ¬ S k → w'.heap[k]? = w.heap[k]?

theorem Keeps.refl (S : Nat → Prop) (w : World) : Keeps S w w := ⟨rfl, rfl, rfl, Nat.le_refl _, fun _ _ _ => rfl⟩
theorem Keeps.trans {S : Nat → Prop} {a b c : World} (h : Keeps S a b) (h' : Keeps S b c) : Keeps S a c := ⟨h'.os.trans h.os, h'.tape.trans h.tape, h'.output.trans h.output, Nat.le_trans h.size h'.size, fun k hk hn => (h'.block k (Nat.lt_of_lt_of_le hk h.size) hn).trans (h.block k hk hn)⟩
theorem Keeps.mono {S S' : Nat → Prop} {a b : World} (h : Keeps S a b) (hs : ∀ k, k < a.heap.size → S k → S' k) : Keeps S' a b := ⟨h.os, h.tape, h.output, h.size, fun k hk hn => h.block k hk fun hk' => hn (hs k hk hk')⟩
theorem Keeps.of {S : Nat → Prop} {a b : World} (h : Below a.heap.size a b) : Keeps S a b := ⟨h.os, h.tape, h.output, h.size, fun k hk _ => h.block k hk⟩
theorem Keeps.grown {S : Nat → Prop} {a b : World} {r : Option Nat} (h : a.grownBy b r) (hr : ∀ k, r = some k → S k) : Keeps S a b := ⟨h.os, h.tape, h.output, h.size, fun k hk hn => h.block k hk fun e => hn (hr k e.symm)⟩
theorem Keeps.set {S : Nat → Prop} {a b : World} (h : Keeps S a b) (p : Addr) (hp : S p.block) (v : Value) : Keeps S a (b.setCell p v) :=
  ⟨h.os, h.tape, h.output, by simpa [World.setCell] using h.size, fun k hk hn => by
    have : p.block ≠ k := fun e => hn (e ▸ hp)
    rw [show (b.setCell p v).heap[k]? = b.heap[k]? by simp [World.setCell, Array.getElem?_modify, this]]
    exact h.block k hk hn⟩

theorem set_cells {w : World} {b i : Nat} {cs : Array Value} {v : Value} {t : TypeId} (h : w.heap[b]? = some (.cells cs t (0, 0))) : (w.setCell ⟨b, i, none⟩ v).heap[b]? = some (.cells (cs.setIfInBounds i v) t (0, 0)) := by
  simp only [World.setCell, Array.getElem?_modify, if_true, h, Option.map_some]
  rfl

theorem OwnB.keeps {S : Nat → Prop} {w w' : World} {B : Nat} {v : Value} {L : List Nat} (h : OwnB w B v L) (hb : Keeps S w w') (hn : ∀ k, v.ownBlock = some k → ¬ S k) : OwnB w' B v L := by
  refine ⟨h.1, ?_⟩
  rcases h.2 with hn | ⟨g, cap, cur, rfl, hbb, hg, rest⟩
  · exact .inl hn
  · exact .inr ⟨g, cap, cur, rfl, hbb, (hb.block g (Array.getElem?_eq_some_iff.1 hg).1 (hn g rfl)).trans hg, rest⟩

/-- The slice lies in none of the blocks of S. -/
def Apart (S : Nat → Prop) (v : Value) : Prop := ∀ a n c, v = .slice (some a) n c → ¬ S a.block
theorem SeesB.keeps {S : Nat → Prop} {w w' : World} {v : Value} {L : List Nat} (h : SeesB w v L) (hb : Keeps S w w') (hn : Apart S v) : SeesB w' v L := by
  obtain ⟨ao, cap, hv, h1, h2, h3⟩ := h
  refine ⟨ao, cap, hv, h1, h2, fun j hj => ?_⟩
  obtain ⟨g, off, ha, hg, c0, c1⟩ := h3 j hj
  subst ha
  have hk := hb.block g hg (hn _ _ _ hv)
  exact ⟨g, off, rfl, Nat.lt_of_lt_of_le hg hb.size, (World.cell?_of_block (w := w) (a := ⟨g, off + j, none⟩) hk).trans c0, c1⟩
end Go.Proofs.YteoebmpfdcbbmacDoor
