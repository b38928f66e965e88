/-
  The map of what is held: keys of four fields, pointers.
-/
import Derived.Test.YtdoeebbcieiimaaAsA
import Derived.DeepKeys5
import Derived.MapViews
import Derived.Maps.OwnSet
import Derived.Maps.OwnOps
import Derived.Maps.Ext
namespace Go.Proofs.Ytdoeebbcieiimaa
open Go.ChangeShapes Go.WideShapes Go.ChangeAt Go.RowKit Go.Maps Go.WideMaps
set_option maxHeartbeats 2000000
set_option maxRecDepth 100000

theorem u86 : Try.prog.underlying 86 = some (.map 90 94) := Try.underlying86
theorem kLaidOut : laidOutB Try.prog = true := by kernel_rfl
theorem row90 : (90 : TypeId) < Try.prog.types.size := of_decide_eq_true (by kernel_rfl)
theorem deep90 : Try.prog.keyTypeAt (Try.prog.types.size + 1) 90 = true := by kernel_rfl
theorem wide90 : (match Try.prog.underlying 90 with | some (.array _ _) | some (.struct _) => true | _ => false) = true := by rw [Try.underlying90]
theorem kLaw : KeyLaw Try.prog 90 := deep_law_laid kLaidOut (m := 3) (by omega) row90 (by kernel_rfl) wide90
theorem kKeyed : Keyed Try.prog 90 := Keyed.of_law kLaw

/-- What all pieces of a datagram have in common. -/
structure Key where
  src : Nat
  dst : Nat
  proto : Nat
  id : Nat
  deriving DecidableEq

structure Key.Ok (k : Key) : Prop where
  src : k.src < 4294967296
  dst : k.dst < 4294967296
  proto : k.proto < 256
  id : k.id < 65536

def keyV (k : Key) : Value := .agg #[.int .u32 (k.src : Int), .int .u32 (k.dst : Int), .int .u8 (k.proto : Int), .int .u16 (k.id : Int)]

theorem keyV_inj {a b : Key} (h : keyV a = keyV b) : a = b := by
  simp [keyV] at h
  obtain ⟨h1, h2, h3, h4⟩ := h
  cases a; cases b
  simp only [Key.mk.injEq]
  simp only at h1 h2 h3 h4
  omega

theorem key_some (k : Key) (hk : k.Ok) : ∃ l, keyOf Try.prog 90 (keyV k) = some l := by
  have w1 : (Lit.int .u32 (k.src : Int)).wf = true := by
    have := hk.src
    show (decide (IntKind.u32.min ≤ (k.src : Int)) && decide ((k.src : Int) ≤ IntKind.u32.max)) = true
    rw [show IntKind.u32.min = 0 from by decide +kernel, show IntKind.u32.max = 4294967295 from by decide +kernel]
    simp; omega
  have w2 : (Lit.int .u32 (k.dst : Int)).wf = true := by
    have := hk.dst
    show (decide (IntKind.u32.min ≤ (k.dst : Int)) && decide ((k.dst : Int) ≤ IntKind.u32.max)) = true
    rw [show IntKind.u32.min = 0 from by decide +kernel, show IntKind.u32.max = 4294967295 from by decide +kernel]
    simp; omega
  have w3 : (Lit.int .u8 (k.proto : Int)).wf = true := by
    have := hk.proto
    show (decide (IntKind.u8.min ≤ (k.proto : Int)) && decide ((k.proto : Int) ≤ IntKind.u8.max)) = true
    rw [show IntKind.u8.min = 0 from by decide +kernel, show IntKind.u8.max = 255 from by decide +kernel]
    simp; omega
  have w4 : (Lit.int .u16 (k.id : Int)).wf = true := by
    have := hk.id
    show (decide (IntKind.u16.min ≤ (k.id : Int)) && decide ((k.id : Int) ≤ IntKind.u16.max)) = true
    rw [show IntKind.u16.min = 0 from by decide +kernel, show IntKind.u16.max = 65535 from by decide +kernel]
    simp; omega
  have hcell : Try.prog.cellsOf 90 = 4 := by kernel_rfl
  have hf : (keyV k).formed Try.prog 90 = true := by simp [keyV, Value.formed, Try.underlying90, hcell]
  have u25 : Try.prog.underlying 25 = some (.int .u32) := by kernel_rfl
  have u5' : Try.prog.underlying 5 = some (.int .u8) := by kernel_rfl
  have u23 : Try.prog.underlying 23 = some (.int .u16) := by kernel_rfl
  have c25 : Try.prog.cellsOf 25 = 1 := by kernel_rfl
  have c5 : Try.prog.cellsOf 5 = 1 := by kernel_rfl
  have c23 : Try.prog.cellsOf 23 = 1 := by kernel_rfl
  have ht : DataW.Trod (H := Unit) (fun _ => ()) Try.prog default 0 (fun _ => true) true 90 (keyV k) (.agg [.lit (.int .u32 (k.src : Int)), .lit (.int .u32 (k.dst : Int)), .lit (.int .u8 (k.proto : Int)), .lit (.int .u16 (k.id : Int))]) [] := by
    refine ⟨3, ?_⟩
    simp [DataW.trod, keyV, Value.cells, Try.underlying90, hcell, u25, u5', u23, c25, c5, c23, w1, w2, w3, w4]
  exact ⟨_, (keyOf_asKey deep90 wide90 hf ht).1⟩

/-- What a key reads as. -/
noncomputable def keyL (k : Key) : Lit := (keyOf Try.prog 90 (keyV k)).getD (.bool false)
theorem keyL_spec {k : Key} (hk : k.Ok) : keyOf Try.prog 90 (keyV k) = some (keyL k) := by
  obtain ⟨l, hl⟩ := key_some k hk
  unfold keyL; rw [hl]; rfl

theorem keyL_inj {a b : Key} (ha : a.Ok) (hb : b.Ok) (h : keyL a = keyL b) : a = b := by
  have h1 := keyL_spec ha
  have h2 := keyL_spec hb
  rw [h] at h1
  exact keyV_inj (kKeyed.inj h1 h2)

/-- How an element of the map is read: the block that it points to. -/
def ptrR : Value → Option (DataW Nat × List MemPlace)
  | .pointer (some ⟨b, 0, none⟩) => some (.held b, [])
  | .pointer none => some (.nil, [])
  | _ => none

theorem ptrR_held {v : Value} {b : Nat} {ps : List MemPlace} (h : ptrR v = some (.held b, ps)) : v = .pointer (some ⟨b, 0, none⟩) := by
  unfold ptrR at h
  split at h
  · simp at h; rw [h.1]
  · simp at h
  · cases h

theorem ptrR_nil {v : Value} {ps : List MemPlace} (h : ptrR v = some (.nil, ps)) : v = .pointer none := by
  unfold ptrR at h
  split at h
  · simp at h
  · rfl
  · cases h

/-- The map at block bm: which keys it has, and the blocks that they lead to; it has c entries. -/
def MapK (w : World) (bm : Nat) (f : Key → Option Nat) (c : Nat) : Prop :=
  ∃ D : DataW Nat, w.ownsMap Try.prog 90 ptrR bm c D ∧ Maps.size D = c ∧
    ∀ k : Key, k.Ok → Maps.has D (keyL k) = (f k).isSome ∧ D.atKey (keyL k) .nil = match f k with | some b => .held b | none => .nil

theorem ownK_tight {w : World} {bm n : Nat} {D : DataW Nat} (h : w.ownsMap Try.prog 90 ptrR bm n D) : w.ownsMap Try.prog 90 ptrR bm (Maps.size D) D := by
  obtain ⟨es, clock, hb, F, hs, hD⟩ := h
  refine ⟨es, clock, hb, F, ?_, hD⟩
  rw [hD]
  show es.size ≤ (List.foldr DataW.insert [] _).length
  rw [length_sorted]
  simp

theorem MapK.made (w : World) : MapK (w.alloc (.map #[] 0)) w.heap.size (fun _ => none) 0 :=
  ⟨.map [], World.ownsMap_made w _ _ _, rfl, fun _ _ => ⟨rfl, rfl⟩⟩

theorem MapK.lt {w : World} {bm c : Nat} {f : Key → Option Nat} (h : MapK w bm f c) : bm < w.heap.size := by
  obtain ⟨D, h1, _⟩ := h
  exact h1.lt

theorem MapK.kept {w w' : World} {bm c : Nat} {f : Key → Option Nat} (h : MapK w bm f c) (hb : w'.heap[bm]? = w.heap[bm]?) : MapK w' bm f c := by
  obtain ⟨D, ⟨es, clock, h0, F, hs, hD⟩, h2, h3⟩ := h
  exact ⟨D, ⟨es, clock, hb.trans h0, F, hs, hD⟩, h2, h3⟩

def putK (f : Key → Option Nat) (k : Key) (b : Nat) : Key → Option Nat := fun x => if x = k then some b else f x
def delK (f : Key → Option Nat) (k : Key) : Key → Option Nat := fun x => if x = k then none else f x

theorem MapK.store {w : World} {bm c : Nat} {f : Key → Option Nat} (h : MapK w bm f c) (hc : c < 1000000) {k : Key} (hk : k.Ok) (b : Nat) :
    ∃ w', (Instr.mapUpdate 86 (.map (some bm)) (keyV k) (.pointer (some ⟨b, 0, none⟩))).run Try.prog w = .ok () w' ∧ MapK w' bm (putK f k b) (if (f k).isSome then c else c + 1) ∧ w.mapTurned w' bm := by
  obtain ⟨D, h1, h2, h3⟩ := h
  obtain ⟨w', hr, ho, ht⟩ := h1.store kKeyed u86 (by unfold maxLen; omega) (keyL_spec hk) (show ptrR (.pointer (some ⟨b, 0, none⟩)) = some (.held b, []) from rfl)
  have htd := h1.tidy kKeyed
  have hsz : Maps.size (D.put (keyL k) (.held b)) = if (f k).isSome then c else c + 1 := by
    rw [size_put htd, (h3 k hk).1, h2]
  refine ⟨w', hr, ⟨_, by rw [← hsz]; exact ownK_tight ho, hsz, fun y hy => ?_⟩, ht⟩
  by_cases hxy : y = k
  · subst hxy
    exact ⟨by rw [has_put_same h1.isMap (kKeyed.key (keyL_spec hy))]; simp [putK], by rw [atKey_put_same h1.isMap (kKeyed.key (keyL_spec hy))]; simp [putK]⟩
  · have hne : keyL y ≠ keyL k := fun e => hxy (keyL_inj hy hk e)
    refine ⟨by rw [has_put_other hne, (h3 y hy).1]; simp [putK, hxy], by rw [atKey_put_other hne, (h3 y hy).2]; simp [putK, hxy]⟩

theorem MapK.drop {w : World} {bm c : Nat} {f : Key → Option Nat} (h : MapK w bm f c) {k : Key} (hk : k.Ok) (hf : (f k).isSome = true) (ty : TypeId) :
    ∃ w', (Builtin.delete_ #[86, 90] ty #[.map (some bm), keyV k]).run Try.prog w = .ok (.tuple #[]) w' ∧ MapK w' bm (delK f k) (c - 1) ∧ w.mapTurned w' bm := by
  obtain ⟨D, h1, h2, h3⟩ := h
  obtain ⟨w', hr, ho, ht⟩ := h1.drop kKeyed u86 (keyL_spec hk) ty
  have hsz : Maps.size (D.del (keyL k)) = c - 1 := by
    have := size_del (k := keyL k) (h1.tidy kKeyed)
    rw [(h3 k hk).1, hf, h2] at this
    simp at this
    omega
  refine ⟨w', hr, ⟨_, by rw [← hsz]; exact ownK_tight ho, hsz, fun y hy => ?_⟩, ht⟩
  by_cases hxy : y = k
  · subst hxy
    exact ⟨by rw [has_del_same]; simp [delK], by rw [atKey_del_same]; simp [delK]⟩
  · have hne : keyL y ≠ keyL k := fun e => hxy (keyL_inj hy hk e)
    refine ⟨by rw [has_del_other hne, (h3 y hy).1]; simp [delK, hxy], by rw [atKey_del_other hne, (h3 y hy).2]; simp [delK, hxy]⟩

theorem zero94 (w : World) : (zeroValue 94).run Try.prog w = .ok (.pointer none) w := by kernel_rfl

def ptrV : Option Nat → Value
  | some b => .pointer (some ⟨b, 0, none⟩)
  | none => .pointer none

theorem MapK.look {w : World} {bm c : Nat} {f : Key → Option Nat} (h : MapK w bm f c) {k : Key} (hk : k.Ok) :
    (Instr.lookup 86 (.map (some bm)) (keyV k) true).run Try.prog w = .ok (.tuple #[ptrV (f k), .bool (f k).isSome]) w := by
  obtain ⟨D, h1, _, h3⟩ := h
  obtain ⟨v, ps, hr, hv⟩ := h1.look_ok kKeyed u86 (zero94 w) (show ptrR (.pointer none) = some (.nil, []) from rfl) (keyL_spec hk)
  rw [(h3 k hk).1] at hr
  rw [(h3 k hk).2] at hv
  rw [hr]
  cases hf : f k with
  | none => rw [hf] at hv; rw [ptrR_nil hv]; rfl
  | some b => rw [hf] at hv; rw [ptrR_held hv]; rfl

theorem MapK.len {w : World} {bm c : Nat} {f : Key → Option Nat} (h : MapK w bm f c) (ty : TypeId) : (Builtin.len_ #[86] ty #[.map (some bm)]).run Try.prog w = .ok (.int .i64 (c : Int)) w := by
  obtain ⟨D, h1, h2, _⟩ := h
  rw [h1.len u86 ty, h2]
end Go.Proofs.Ytdoeebbcieiimaa
