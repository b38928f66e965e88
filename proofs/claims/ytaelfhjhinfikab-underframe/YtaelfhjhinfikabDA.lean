/-
  Bytes and packets in memory.
-/
import Derived.Test.YtaelfhjhinfikabVLX
import Derived.Test.YtaelfhjhinfikabXM1
import Derived.Laws.AppendOwnNone
import Derived.Laws.CopyOwn
import Derived.Laws.MakeOwn
import Derived.Laws.OwnMore
import Derived.Deep.CutRange
import Derived.Deep.RegionWith
import Derived.Deep.RegionHeld3
import Derived.Deep.RegionLaw
import Derived.Deep.AppendLies
import Derived.StillTailTactics
import Derived.WalkMore
namespace Go.Proofs.Ytaelfhjhinfikab
open Go.ChangeShapes Go.WideShapes Go.ChangeAt Go.RowKit Me
set_option maxHeartbeats 400000
set_option maxRecDepth 100000

theorem hid {p : Prop} (h : p) : Hid p := h
theorem ret_int {k : IntKind} {a b : Int} (h : a = b) : Ending.returned (.int k a) = .returned (.int k b) := by rw [h]
theorem ret_bool {a b : Bool} (h : a = b) : Ending.returned (.bool a) = .returned (.bool b) := by rw [h]
theorem int_lt {a b : Nat} (h : a < b) : (a : Int) < (b : Int) := by omega
theorem int_nlt {a b : Nat} (h : ¬ a < b) : ¬ (a : Int) < (b : Int) := by omega
theorem below_drewN {B : Nat} {a w : World} (h : Below B a w) (n : Nat) : Below B a (w.drewN n) := ⟨h.os, h.tape, h.output, h.size, h.block⟩
theorem below_drew {B : Nat} {a w : World} (h : Below B a w) : Below B a w.drew := ⟨h.os, h.tape, h.output, h.size, h.block⟩
theorem below_keeps {B k : Nat} {w w' : World} {o : Obj} (h : Below B w w') (hk : w.heap[k]? = some o) (hlt : k < B) : w'.heap[k]? = some o := (h.block k hlt).trans hk
theorem take_snoc {α : Type} {L : List α} {j : Nat} {x : α} (h : L[j]? = some x) : L.take (j + 1) = L.take j ++ [x] := by
  rw [List.take_add_one, h]; rfl

/-- A world behind calls that made memory and wrote none of the elder. -/
structure Beh (w : World) where
  wd : World
  ok : Below w.heap.size w wd
instance (w : World) : Nonempty (Beh w) := ⟨⟨w, Below.refl _ _⟩⟩
theorem Calls.beh {P : Program} {f : FuncId} {args : Array Value} {w : World} {u : Beh w} {v : Value}
    (h : Calls P f args u.wd fun e w' => e = .returned v ∧ Below u.wd.heap.size u.wd w') : Calls P f args u.wd fun e w'' => e = .returned v ∧ ∃ u' : Beh w, w'' = u'.wd :=
  h.mono fun _ w' ⟨he, hb⟩ => ⟨he, ⟨w', u.ok.trans (hb.mono u.ok.size)⟩, rfl⟩
theorem wp_region_beh {P : Program} {id : Nat} {Q : Exit → Act → World → Prop} {a : Act} {w : World} {l : List Oper} (hm : P.follows .mixedOrders = true) (hB : Region.lexB .any l.toArray = true)
    (h : wpQuiet P l.toArray (fun w' => ∃ u : Beh w, w' = u.wd) (fun a' => ∀ w', (∃ u : Beh w, w' = u.wd) → Q .normal a' w') l a) : (Code.region id l.toArray true).wp P Q a w :=
  wp_region_quiet (C := fun w' => ∃ u : Beh w, w' = u.wd) hm hB ⟨⟨_, below_drewN (Below.refl _ _) 1⟩, rfl⟩ (by simpa using h)

theorem wpList_append_run {P : Program} (w : World) {ops : Array Oper} {rest : List Oper} {o : Oper} {a : Act} {Q : Exit → Act → World → Prop} (hgd : o.guard = none) (d s : Operand) (t t' : TypeId)
    (ho : o.op = .call { callee := .builtin .append, args := #[d, s], argTypes := #[t, t'] }) (v u : Value) (hd : a.eval d = v) (hs : a.eval s = u) {v' : Value} {w' : World}
    (hr : (Builtin.append_ #[t, t'] o.type #[v, u]).run P w = .ok v' w') (h : wpList P ops Q rest (a.put o.dst v') w') : wpList P ops Q (o :: rest) a w :=
  wpList_plain hgd fun _ hK => by
    unfold Oper.wp execOp
    simp only [ho, resolve, invoke, builtin, Sem.run_bind, Sem.run_pure, Result.andThen_ok, List.map_toArray, List.map_cons, List.map_nil, hd, hs, hr]
    exact hK _ _ h
theorem step_append_run {P : Program} {ops : Array Oper} {o : Oper} {a : Act} {w : World} {K : Act → World → Prop} {Q : Exit → Act → World → Prop} {E : Prop}
    (hg : o.guard = none) (s x : Operand) (t t' : TypeId) (hop : o.op = Op.call { callee := Callee.builtin Builtin.append, args := #[s, x], argTypes := #[t, t'] }) (v u : Value) (hs : a.eval s = v) (hx : a.eval x = u) {v' : Value} {w' : World}
    (hr : (Builtin.append_ #[t, t'] o.type #[v, u]).run P w = .ok v' w') (hK : K (a.put o.dst v') w') :
    if Region.wanted o (yielded ops a.tmps) = true then Oper.wp P o a w K Q else E := by
  have hw : Region.wanted o (yielded ops a.tmps) = true := by simp [Region.wanted, hg]
  rw [if_pos hw]
  unfold Oper.wp
  simp [execOp, hop, resolve, invoke, builtin, hs, hx, hr, Result.andThen]
  exact hK

theorem Me.Keeps.then {S S' : Nat → Prop} {a b c : World} (h : Keeps S a b) (h' : Keeps S' b c) (hs : ∀ k, S' k → S k ∨ a.heap.size ≤ k) : Keeps S a c :=
  ⟨h'.os.trans h.os, h'.tape.trans h.tape, h'.output.trans h.output, Nat.le_trans h.size h'.size, fun k hk hn => (h'.block k (Nat.lt_of_lt_of_le hk h.size) fun e => by
    rcases hs k e with e | e
    · exact hn e
    · omega).trans (h.block k hk hn)⟩
theorem Me.Keeps.drew {S : Nat → Prop} {a b : World} (h : Keeps S a b) : Keeps S a b.drew := ⟨h.os, h.tape, h.output, h.size, h.block⟩
theorem Me.Keeps.below' {S : Nat → Prop} {a b : World} (h : Keeps S a b) {B : Nat} {a0 : World} (h0 : Below B a0 a) (hs : ∀ k, S k → B ≤ k) (hB : B ≤ a0.heap.size) : Below B a0 b :=
  ⟨h.os.trans h0.os, h.tape.trans h0.tape, h.output.trans h0.output, Nat.le_trans h0.size h.size, fun k hk => (h.block k (Nat.lt_of_lt_of_le hk (Nat.le_trans hB h0.size)) fun e => by have := hs k e; omega).trans (h0.block k hk)⟩

/-! ### bytes -/
/-- The slice value v shows, in the world w, the bytes L; it lies in a block of K. -/
def SeesB (K : Nat → Prop) (w : World) (v : Value) (L : List Nat) : Prop :=
  ∃ ao cap, v = .slice ao L.length cap ∧ (L.length ≤ cap ∧ (ao = none → cap = 0)) ∧ cap ≤ maxLen ∧
    ∀ j (h : j < L.length), ∃ g off, ao = some ⟨g, off, none⟩ ∧ (g < w.heap.size ∧ K g) ∧ w.cell? ⟨g, off + j, none⟩ = some (.int .u8 (L[j] : Int)) ∧ L[j] < 256

section
variable {K K' : Nat → Prop} {w w' : World} {v : Value} {L : List Nat}
theorem SeesB.shape (h : SeesB K w v L) : ∃ ao n cap, v = .slice ao n cap ∧ Hid (n = L.length) ∧ n ≤ cap ∧ cap ≤ maxLen := by
  obtain ⟨ao, cap, hv, h1, h2, _⟩ := h
  exact ⟨ao, L.length, cap, hv, rfl, h1.1, h2⟩
theorem SeesB.at {ao : Option Addr} {n cap : Nat} (h : SeesB K w (.slice ao n cap) L) (j : Nat) (hj : j < n) : ∃ (g off p : Nat), ao = some ⟨g, off, none⟩ ∧ g < w.heap.size ∧ w.cell? ⟨g, off + j, none⟩ = some (.int .u8 (p : Int)) ∧ p < 256 ∧ Hid (L[j]? = some p) := by
  obtain ⟨ao', cap', hv, h1, h2, h3⟩ := h
  simp at hv
  obtain ⟨rfl, rfl, rfl⟩ := hv
  obtain ⟨g, off, a, b, c, d⟩ := h3 j hj
  exact ⟨g, off, L[j], a, b.1, c, d, List.getElem?_eq_getElem hj⟩
theorem SeesB.keeps {S : Nat → Prop} (h : SeesB K w v L) (hk : Keeps S w w') (hn : ∀ k, K k → ¬ S k) : SeesB K w' v L := by
  obtain ⟨ao, cap, hv, h1, h2, h3⟩ := h
  refine ⟨ao, cap, hv, h1, h2, fun j hj => ?_⟩
  obtain ⟨g, off, ha, hg, c0, c1⟩ := h3 j hj
  exact ⟨g, off, ha, ⟨Nat.lt_of_lt_of_le hg.1 hk.size, hg.2⟩, (World.cell?_of_block (w := w) (a := ⟨g, off + j, none⟩) (hk.block g hg.1 (hn g hg.2))).trans c0, c1⟩
theorem SeesB.below (h : SeesB K w v L) (hb : Below w.heap.size w w') : SeesB K w' v L := h.keeps (S := fun _ => False) (Keeps.of hb) fun _ _ e => e
theorem SeesB.weak (h : SeesB K w v L) (hw : ∀ k, k < w.heap.size → K k → K' k) : SeesB K' w v L := by
  obtain ⟨ao, cap, hv, h1, h2, h3⟩ := h
  refine ⟨ao, cap, hv, h1, h2, fun j hj => ?_⟩
  obtain ⟨g, off, ha, hg, c⟩ := h3 j hj
  exact ⟨g, off, ha, ⟨hg.1, hw g hg.1 hg.2⟩, c⟩
theorem SeesB.bytes (h : SeesB K w v L) : ∀ x ∈ L, x < 256 := by
  obtain ⟨ao, cap, hv, h1, h2, h3⟩ := h
  intro x hx
  obtain ⟨j, hj, rfl⟩ := List.mem_iff_getElem.1 hx
  obtain ⟨_, _, _, _, _, h⟩ := h3 j hj
  exact h
theorem seesB_nil (K : Nat → Prop) (w : World) : SeesB K w (.slice none 0 0) [] := ⟨none, 0, rfl, ⟨by simp, fun _ => rfl⟩, by unfold maxLen; omega, fun j h => absurd h (by simp)⟩
theorem SeesB.one (h : SeesB K w v L) : v.oneCell' = true := by
  obtain ⟨ao, cap, rfl, _⟩ := h
  rfl
end

def bs (L : List Nat) : List Value := L.map fun (x : Nat) => Value.int .u8 (x : Int)
/-- v is a list of bytes of one's own, in a block not below base. -/
def OwnB (w : World) (base : Nat) (v : Value) (L : List Nat) : Prop := w.ownsRow base 5 1 v L.length (bs L)
theorem infoB : (Try.prog.info? 5).map (fun i => (i.zero, i.size, i.bytes)) = some (some (.int .u8 0), 1, 1) := by kernel_rfl
theorem uB : Try.prog.underlying 39 = some (.slice 5) := by kernel_rfl
theorem ownB_nil (w : World) (base : Nat) : OwnB w base (.slice none 0 0) [] := World.ownsRow_nil _ _ _ _

section
variable {w w' : World} {B : Nat} {v : Value} {L : List Nat}
theorem OwnB.sees (h : OwnB w B v L) (hb : ∀ x ∈ L, x < 256) : SeesB (fun k => v.ownBlock = some k) w v L := by
  rcases h.2 with ⟨rfl, hn⟩ | ⟨g, cap, cur, rfl, hbg, hg, hnc, hcm, hcs, htake⟩
  · have : L = [] := List.eq_nil_of_length_eq_zero hn
    subst this
    exact seesB_nil _ w
  · refine ⟨some ⟨g, 0, none⟩, cap, rfl, ⟨hnc, fun h => by cases h⟩, hcm, fun j hj => ⟨g, 0, rfl, ⟨(Array.getElem?_eq_some_iff.1 hg).1, rfl⟩, ?_, hb _ (List.getElem_mem hj)⟩⟩
    rw [Nat.zero_add, World.ownsRow.cellAt h j (by omega)]
    simp [bs, hj]
theorem OwnB.keeps {S : Nat → Prop} (h : OwnB w B v L) (hk : Keeps S w w') (hn : ∀ k, v.ownBlock = some k → ¬ S k) : OwnB w' B v L := row_keeps h hk hn
theorem OwnB.below (h : OwnB w B v L) (hb : Below w.heap.size w w') : OwnB w' B v L := row_below h hb
theorem OwnB.low {B' : Nat} (h : OwnB w B v L) (hb : B' ≤ B) : OwnB w B' v L := row_low h hb
theorem OwnB.lt (h : OwnB w B v L) {g : Nat} (hg : v.ownBlock = some g) : B ≤ g ∧ g < w.heap.size := World.ownsRow.lt h g hg
theorem OwnB.kind (h : OwnB w B v L) {k : Nat} (hk : v.ownBlock = some k) : ∃ cs, w.heap[k]? = some (.cells cs 5 (0, 0)) := row_kind h hk
theorem OwnB.one (h : OwnB w B v L) : v.oneCell' = true := by
  rcases h.2 with ⟨rfl, _⟩ | ⟨g, cap, cur, rfl, _⟩ <;> rfl
theorem OwnB.shape (h : OwnB w B v L) : ∃ a n cap, v = .slice a n cap ∧ Hid (n = L.length) ∧ n ≤ cap ∧ cap ≤ maxLen := by
  obtain ⟨a, cap, e, h1, h2, -⟩ := row_len h
  exact ⟨a, _, cap, e, rfl, h1, h2⟩
/-- A byte is written. -/
theorem OwnB.put {g n cap : Nat} (h : OwnB w B (.slice (some ⟨g, 0, none⟩) n cap) L) (i x : Nat) :
    OwnB (w.setCell ⟨g, i, none⟩ (.int .u8 (x : Int))) B (.slice (some ⟨g, 0, none⟩) n cap) (L.set i x) := by
  rcases h.2 with ⟨h1, _⟩ | ⟨g', cap', cur, h1, hb, hg, hnc, hcm, hcs, ht⟩
  · cases h1
  · simp at h1
    obtain ⟨rfl, hn, rfl⟩ := h1
    have h2 := heap_setCell_same w g i cur 5 (.int .u8 (x : Int)) hg
    refine ⟨by simp [bs], .inr ⟨g, cap, _, by rw [List.length_set, hn], hb, h2, by rw [List.length_set]; exact hnc, hcm, by simpa using hcs, ?_⟩⟩
    rw [List.length_set]
    simp only [Array.toList_setIfInBounds, List.take_set]
    rw [ht]
    simp [bs, List.map_set]
theorem OwnB.grip (h : OwnB w B v L) (hne : L ≠ []) : ∃ g n cap, v = .slice (some ⟨g, 0, none⟩) n cap ∧ Hid (n = L.length) ∧ B ≤ g ∧ n ≤ cap ∧ cap ≤ maxLen ∧ (∀ j, w.frozen? ⟨g, j, none⟩ = false) := by
  rcases h.2 with ⟨rfl, hn⟩ | ⟨g, cap, cur, rfl, hb, hg, hnc, hcm, hcs, ht⟩
  · exact absurd (List.eq_nil_of_length_eq_zero hn) hne
  · exact ⟨g, _, cap, rfl, rfl, hb, hnc, hcm, fun j => frozen_of_row _ _ _ _ _ hg⟩
end

/-! ### packets -/
structure Pk where
  ad : Nat
  bs : List Nat
/-- A packet in memory. -/
structure En where
  ad : Nat
  bs : List Nat
  u : Value
def En.pk (e : En) : Pk := ⟨e.ad, e.bs⟩
def zE : En := ⟨0, [], .slice none 0 0⟩

/-- The slice value v shows the packets L; all of it in blocks of K. -/
def SeesS (K : Nat → Prop) (w : World) (v : Value) (L : List Pk) : Prop :=
  ∃ ao cap, v = .slice ao L.length cap ∧ (L.length ≤ cap ∧ (ao = none → cap = 0)) ∧ cap ≤ maxLen ∧
    ∀ j (h : j < L.length), ∃ g off u, ao = some ⟨g, off, none⟩ ∧ (g < w.heap.size ∧ K g) ∧ w.cell? ⟨g, off + j * 2, none⟩ = some (.int .u32 (L[j].ad : Int)) ∧ w.cell? ⟨g, off + j * 2 + 1, none⟩ = some u ∧ SeesB K w u L[j].bs ∧ L[j].ad < 4294967296

section
variable {K K' : Nat → Prop} {w w' : World} {v : Value} {L : List Pk}
theorem SeesS.shape (h : SeesS K w v L) : ∃ ao n cap, v = .slice ao n cap ∧ Hid (n = L.length) ∧ n ≤ cap ∧ cap ≤ maxLen := by
  obtain ⟨ao, cap, hv, h1, h2, _⟩ := h
  exact ⟨ao, L.length, cap, hv, rfl, h1.1, h2⟩
theorem SeesS.at {ao : Option Addr} {n cap : Nat} (h : SeesS K w (.slice ao n cap) L) (j : Nat) (hj : j < n) : ∃ (g off : Nat) (u : Value) (p : Pk), ao = some ⟨g, off, none⟩ ∧ (g < w.heap.size ∧ K g) ∧ w.cell? ⟨g, off + j * 2, none⟩ = some (.int .u32 (p.ad : Int)) ∧ w.cell? ⟨g, off + j * 2 + 1, none⟩ = some u ∧ SeesB K w u p.bs ∧ p.ad < 4294967296 ∧ Hid (L[j]? = some p) := by
  obtain ⟨ao', cap', hv, h1, h2, h3⟩ := h
  simp at hv
  obtain ⟨rfl, rfl, rfl⟩ := hv
  obtain ⟨g, off, u, a, b, c, d, e, f⟩ := h3 j hj
  exact ⟨g, off, u, L[j], a, b, c, d, e, f, List.getElem?_eq_getElem hj⟩
theorem SeesS.keeps {S : Nat → Prop} (h : SeesS K w v L) (hk : Keeps S w w') (hn : ∀ k, K k → ¬ S k) : SeesS K w' v L := by
  obtain ⟨ao, cap, hv, h1, h2, h3⟩ := h
  refine ⟨ao, cap, hv, h1, h2, fun j hj => ?_⟩
  obtain ⟨g, off, u, ha, hg, c0, c1, c2, c3⟩ := h3 j hj
  have hb := hk.block g hg.1 (hn g hg.2)
  exact ⟨g, off, u, ha, ⟨Nat.lt_of_lt_of_le hg.1 hk.size, hg.2⟩, (World.cell?_of_block (w := w) (a := ⟨g, off + j * 2, none⟩) hb).trans c0, (World.cell?_of_block (w := w) (a := ⟨g, off + j * 2 + 1, none⟩) hb).trans c1, c2.keeps hk hn, c3⟩
theorem SeesS.below (h : SeesS K w v L) (hb : Below w.heap.size w w') : SeesS K w' v L := h.keeps (S := fun _ => False) (Keeps.of hb) fun _ _ e => e
theorem SeesS.weak (h : SeesS K w v L) (hw : ∀ k, k < w.heap.size → K k → K' k) : SeesS K' w v L := by
  obtain ⟨ao, cap, hv, h1, h2, h3⟩ := h
  refine ⟨ao, cap, hv, h1, h2, fun j hj => ?_⟩
  obtain ⟨g, off, u, ha, hg, c0, c1, c2, c3⟩ := h3 j hj
  exact ⟨g, off, u, ha, ⟨hg.1, hw g hg.1 hg.2⟩, c0, c1, c2.weak hw, c3⟩
theorem seesS_nil (K : Nat → Prop) (w : World) : SeesS K w (.slice none 0 0) [] := ⟨none, 0, rfl, ⟨by simp, fun _ => rfl⟩, by unfold maxLen; omega, fun j h => absurd h (by simp)⟩
end

def ec (E : List En) : List Value := E.flatMap fun e => [.int .u32 (e.ad : Int), e.u]
theorem ec_len (L : List En) : (ec L).length = L.length * 2 := by
  induction L with
  | nil => rfl
  | cons p L ih => unfold ec at *; rw [List.flatMap_cons, List.length_append, ih, List.length_cons]; simp; omega
theorem ec_append (A C : List En) : ec (A ++ C) = ec A ++ ec C := by simp [ec]
theorem ec_cons (p : En) (L : List En) : ec (p :: L) = .int .u32 (p.ad : Int) :: p.u :: ec L := by simp [ec]
theorem ec_one {L : List En} (h : ∀ e ∈ L, e.u.oneCell' = true) : ∀ u ∈ ec L, u.oneCell' = true := by
  intro u hu
  obtain ⟨r, hr, h1⟩ := List.mem_flatMap.1 hu
  simp at h1
  rcases h1 with rfl | rfl
  · rfl
  · exact h r hr
theorem ec_at : ∀ (L : List En) (i : Nat) (r : En), L[i]? = some r → (ec L)[i * 2]? = some (.int .u32 (r.ad : Int)) ∧ (ec L)[i * 2 + 1]? = some r.u
  | r :: rs, 0, s, h => by
    simp at h; subst h
    exact ⟨rfl, rfl⟩
  | r :: rs, i + 1, s, h => by
    have := ec_at rs i s (by simpa using h)
    rw [ec_cons, show (i + 1) * 2 = i * 2 + 1 + 1 by omega]
    simpa using this
theorem ec_take (L : List En) (i : Nat) : ec (L.take i) = (ec L).take (i * 2) := by
  induction L generalizing i with
  | nil => simp [ec]
  | cons p L ih =>
    cases i with
    | zero => simp [ec]
    | succ i => rw [List.take_succ_cons, ec_cons, ec_cons, ih, show (i + 1) * 2 = i * 2 + 1 + 1 by omega]; simp
theorem ec_drop (L : List En) (i : Nat) : ec (L.drop i) = (ec L).drop (i * 2) := by
  induction L generalizing i with
  | nil => simp [ec]
  | cons p L ih =>
    cases i with
    | zero => simp
    | succ i => rw [List.drop_succ_cons, ec_cons, ih, show (i + 1) * 2 = i * 2 + 1 + 1 by omega]; simp
theorem ec_set (L : List En) (i : Nat) (e : En) : ec (L.set i e) = ((ec L).set (i * 2) (.int .u32 (e.ad : Int))).set (i * 2 + 1) e.u := by
  induction L generalizing i with
  | nil => simp [ec]
  | cons p L ih =>
    cases i with
    | zero => simp [ec]
    | succ i => rw [List.set_cons_succ, ec_cons, ec_cons, ih, show (i + 1) * 2 = i * 2 + 1 + 1 by omega]; simp
theorem ec_zeros (n : Nat) : ec (List.replicate n zE) = (List.replicate n [Value.int .u32 0, .slice none 0 0]).flatten := by
  induction n with
  | zero => rfl
  | succ n ih => rw [List.replicate_succ, ec_cons, ih, List.replicate_succ, List.flatten_cons]; rfl

/-- v is an own list of packets, each with bytes of its own. -/
structure Fl (w : World) (v : Value) (E : List En) : Prop where
  row : w.ownsRow 0 41 2 v E.length (ec E)
  own : ∀ e ∈ E, OwnB w 0 e.u e.bs
  ok : ∀ e ∈ E, e.ad < 4294967296 ∧ e.bs.length ≤ 65535 ∧ ∀ x ∈ e.bs, x < 256
  dis : E.Pairwise fun a b => ∀ k, a.u.ownBlock = some k → b.u.ownBlock ≠ some k

/-- Its blocks. -/
def fpF (v : Value) (E : List En) (k : Nat) : Prop := v.ownBlock = some k ∨ ∃ e ∈ E, e.u.ownBlock = some k

section
variable {w w' : World} {v : Value} {E : List En}
theorem Fl.nil (w : World) : Fl w (.slice none 0 0) [] := ⟨World.ownsRow_nil _ _ _ _, (fun _ h => by cases h), (fun _ h => by cases h), List.Pairwise.nil⟩
theorem Fl.lt (h : Fl w v E) {k : Nat} (hk : fpF v E k) : k < w.heap.size := by
  rcases hk with hk | ⟨e, he, hk⟩
  · exact (World.ownsRow.lt h.row k hk).2
  · exact ((h.own e he).lt hk).2
theorem Fl.ne (h : Fl w v E) {k : Nat} (hk : v.ownBlock = some k) : ∀ e ∈ E, e.u.ownBlock ≠ some k := fun e he => row_ne h.row (h.own e he) (by decide) hk
theorem Fl.kinds (h : Fl w v E) {k : Nat} (hk : fpF v E k) : ∃ cs t, w.heap[k]? = some (.cells cs t (0, 0)) ∧ (t = 41 ∨ t = 5) := by
  rcases hk with hk | ⟨e, he, hk⟩
  · obtain ⟨cs, h1⟩ := row_kind h.row hk
    exact ⟨cs, _, h1, .inl rfl⟩
  · obtain ⟨cs, h1⟩ := (h.own e he).kind hk
    exact ⟨cs, _, h1, .inr rfl⟩
theorem Fl.keeps {S : Nat → Prop} (h : Fl w v E) (hk : Keeps S w w') (hn : ∀ k, fpF v E k → ¬ S k) : Fl w' v E :=
  ⟨row_keeps h.row hk fun k e => hn k (.inl e), fun e he => (h.own e he).keeps hk fun k hk => hn k (.inr ⟨e, he, hk⟩), h.ok, h.dis⟩
theorem Fl.below (h : Fl w v E) (hb : Below w.heap.size w w') : Fl w' v E := h.keeps (S := fun _ => False) (Keeps.of hb) fun _ _ e => e
theorem Fl.shape (h : Fl w v E) : ∃ a n cap, v = .slice a n cap ∧ Hid (n = E.length) ∧ n ≤ cap ∧ cap ≤ maxLen ∧ (a = none → n = 0 ∧ cap = 0) := by
  obtain ⟨a, cap, e, h1, h2, h3, -⟩ := row_len h.row
  exact ⟨a, _, cap, e, rfl, h1, h2, h3⟩
theorem Fl.at {a : Option Addr} {n cap : Nat} (h : Fl w (.slice a n cap) E) {i : Nat} {e : En} (hi : E[i]? = some e) :
    ∃ g, a = some ⟨g, 0, none⟩ ∧ g < w.heap.size ∧ ∀ u : World, u.heap[g]? = w.heap[g]? → u.cell? ⟨g, i * 2, none⟩ = some (.int .u32 (e.ad : Int)) ∧ u.cell? ⟨g, i * 2 + 1, none⟩ = some e.u ∧ ∀ j, u.frozen? ⟨g, j, none⟩ = false := by
  have hil := (List.getElem?_eq_some_iff.1 hi).1
  rcases h.row.2 with ⟨h0, h1⟩ | ⟨g, cap', cur, h0, hb, hg, h1, h2, h3, h4⟩
  · omega
  · simp only [Value.slice.injEq] at h0
    obtain ⟨rfl, rfl, rfl⟩ := h0
    refine ⟨g, rfl, (Array.getElem?_eq_some_iff.1 hg).1, fun u hu => ?_⟩
    rw [hg] at hu
    obtain ⟨e1, e2⟩ := ec_at _ i _ hi
    rw [← h4, List.getElem?_take, if_pos (by omega)] at e1 e2
    refine ⟨?_, ?_, fun j => frozen_of_row _ _ _ _ _ hu⟩
    · rw [cell_of_row _ _ _ _ _ _ hu]; simpa using e1
    · rw [cell_of_row _ _ _ _ _ _ hu]; simpa using e2
theorem Fl.mem (_h : Fl w v E) {i : Nat} {e : En} (hi : E[i]? = some e) : e ∈ E := List.mem_of_getElem? hi
theorem Fl.sees (h : Fl w v E) : SeesS (fpF v E) w v (E.map En.pk) := by
  obtain ⟨a, cap, rfl, h1, h2, h3, -⟩ := row_len h.row
  refine ⟨a, cap, by rw [List.length_map], ⟨by rw [List.length_map]; exact h1, fun e => (h3 e).2⟩, h2, fun j hj => ?_⟩
  rw [List.length_map] at hj
  obtain ⟨g, rfl, hg, hc⟩ := h.at (List.getElem?_eq_getElem hj)
  obtain ⟨c0, c1, -⟩ := hc w rfl
  have hm := List.getElem_mem hj
  refine ⟨g, 0, E[j].u, rfl, ⟨hg, .inl rfl⟩, ?_, ?_, ?_, ?_⟩
  · rw [List.getElem_map, Nat.zero_add]; exact c0
  · rw [Nat.zero_add]; exact c1
  · rw [List.getElem_map]
    exact ((h.own _ hm).sees (h.ok _ hm).2.2).weak fun k _ hk => .inr ⟨_, hm, hk⟩
  · rw [List.getElem_map]; exact (h.ok _ hm).1
/-- Two packets of different places lie in different blocks. -/
theorem Fl.apart (h : Fl w v E) {i j : Nat} {a b : En} (hi : E[i]? = some a) (hj : E[j]? = some b) (hij : i ≠ j) {k : Nat} (hk : a.u.ownBlock = some k) : b.u.ownBlock ≠ some k := by
  obtain ⟨h1, rfl⟩ := List.getElem?_eq_some_iff.1 hi
  obtain ⟨h2, rfl⟩ := List.getElem?_eq_some_iff.1 hj
  rcases Nat.lt_or_gt_of_ne hij with hl | hl
  · exact List.pairwise_iff_getElem.1 h.dis i j h1 h2 hl k hk
  · exact fun e => List.pairwise_iff_getElem.1 h.dis j i h2 h1 hl k e hk
end
end Go.Proofs.Ytaelfhjhinfikab
