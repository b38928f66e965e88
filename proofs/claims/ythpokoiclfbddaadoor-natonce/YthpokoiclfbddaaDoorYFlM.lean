import Derived.Test.YthpokoiclfbddaaDoorRows
import Derived.WalkKit
import Derived.ProofKit
import Derived.OpenShut
import Derived.Test.YthpokoiclfbddaaDoorYXM1
import Derived.DeepKeys5
import Derived.MapViews
import Derived.Maps.OwnSet
import Derived.Maps.OwnOps
import Derived.Maps.RangeWalk
namespace Go.Proofs.YthpokoiclfbddaaDoor.Mq
open Go.Proofs.YthpokoiclfbddaaDoor Go.Proofs.YthpokoiclfbddaaDoor.Me Go.ChangeShapes Go.WideShapes Go.ChangeAt Go.RowKit Go.Maps Go.WideMaps
set_option maxHeartbeats 2000000
set_option maxRecDepth 100000

/-- A kind of map: its types, how keys and entries lie in it. -/
structure Sg (κ ε : Type) where
  kT : TypeId
  eT : TypeId
  mT : TypeId
  kV : κ → Value
  kL : κ → Lit
  kOk : κ → Prop
  eV : ε → Value
  eD : ε → DataW Unit
  R : Value → Option (DataW Unit × List MemPlace)
  z : ε
  law : Keyed Tryd.prog kT
  um : Tryd.prog.underlying mT = some (.map kT eT)
  zero : ∀ w, (zeroValue eT).run Tryd.prog w = .ok (eV z) w
  key : ∀ k, kOk k → keyOf Tryd.prog kT (kV k) = some (kL k)
  linj : ∀ a b, kOk a → kOk b → kL a = kL b → a = b
  read : ∀ e, R (eV e) = some (eD e, [])
  held : ∀ v e ps, R v = some (eD e, ps) → v = eV e
  einv : ∀ v y, R v = some y → ∃ e, v = eV e

variable {κ ε : Type} {G : Sg κ ε}

theorem tight {k : TypeId} {R : Value → Option (DataW Unit × List MemPlace)} {w : World} {bm n : Nat} {D : DataW Unit} (h : w.ownsMap Tryd.prog k R bm n D) : w.ownsMap Tryd.prog k R bm (Maps.size D) D := by
  obtain ⟨es, clock, hb, F, hs, hD⟩ := h
  refine ⟨es, clock, hb, F, ?_, hD⟩
  rw [hD]
  show es.size ≤ (List.foldr DataW.insert [] _).length
  rw [length_sorted]
  simp

/-- What a datum says of each key. -/
def Says (G : Sg κ ε) (D : DataW Unit) (f : κ → Option ε) : Prop :=
  ∀ k, G.kOk k → Maps.has D (G.kL k) = (f k).isSome ∧ D.atKey (G.kL k) (G.eD G.z) = G.eD ((f k).getD G.z)
/-- It has no keys but such. -/
def Cl (G : Sg κ ε) (D : DataW Unit) : Prop := ∀ kl, Maps.has D kl = true → ∃ k, G.kOk k ∧ kl = G.kL k
def MapG (G : Sg κ ε) (w : World) (bm : Nat) (f : κ → Option ε) (c : Nat) : Prop :=
  ∃ D : DataW Unit, w.ownsMap Tryd.prog G.kT G.R bm c D ∧ Maps.size D = c ∧ Says G D f ∧ Cl G D

theorem MapG.made (G : Sg κ ε) (w : World) : MapG G (w.alloc (.map #[] 0)) w.heap.size (fun _ => none) 0 :=
  ⟨.map [], World.ownsMap_made w _ _ _, rfl, fun _ _ => ⟨rfl, rfl⟩, fun kl h => by cases h⟩
theorem MapG.lt {w : World} {bm c : Nat} {f : κ → Option ε} (h : MapG G w bm f c) : bm < w.heap.size := by
  obtain ⟨D, h1, _⟩ := h
  exact h1.lt
theorem MapG.kept {w w' : World} {bm c : Nat} {f : κ → Option ε} (h : MapG G w bm f c) (hb : w'.heap[bm]? = w.heap[bm]?) : MapG G w' bm f c := by
  obtain ⟨D, ⟨es, clock, h0, F, hs, hD⟩, h2, h3⟩ := h
  exact ⟨D, ⟨es, clock, hb.trans h0, F, hs, hD⟩, h2, h3⟩
theorem MapG.congr {w : World} {bm c c' : Nat} {f g : κ → Option ε} (h : MapG G w bm f c) (hc : c = c') (hg : ∀ x, f x = g x) : MapG G w bm g c' := by
  have : f = g := funext hg
  rw [← hc, ← this]; exact h
theorem MapG.store [DecidableEq κ] {w : World} {bm c : Nat} {f : κ → Option ε} (h : MapG G w bm f c) (hc : c < 1000000) {k : κ} (hk : G.kOk k) (e : ε) :
    ∃ w', (Instr.mapUpdate G.mT (.map (some bm)) (G.kV k) (G.eV e)).run Tryd.prog w = .ok () w' ∧ MapG G w' bm (fun y => if y = k then some e else f y) (if (f k).isSome then c else c + 1) ∧ w.mapTurned w' bm := by
  obtain ⟨D, h1, h2, h3, h4⟩ := h
  obtain ⟨w', hr, ho, ht⟩ := h1.store G.law G.um (by unfold maxLen; omega) (G.key k hk) (G.read e)
  have htd := h1.tidy G.law
  have hsz : Maps.size (D.put (G.kL k) (G.eD e)) = if (f k).isSome then c else c + 1 := by
    rw [size_put htd, (h3 k hk).1, h2]
  have hcl : Cl G (D.put (G.kL k) (G.eD e)) := fun kl hkl => by
    by_cases hkk : kl = G.kL k
    · exact ⟨k, hk, hkk⟩
    · rw [has_put_other hkk] at hkl
      exact h4 kl hkl
  refine ⟨w', hr, ⟨_, by rw [← hsz]; exact tight ho, hsz, fun y hy => ?_, hcl⟩, ht⟩
  by_cases hxy : y = k
  · subst hxy
    exact ⟨by rw [has_put_same h1.isMap (G.law.key (G.key y hy))]; simp, by rw [atKey_put_same h1.isMap (G.law.key (G.key y hy))]; simp⟩
  · have hne : G.kL y ≠ G.kL k := fun e => hxy (G.linj y k hy hk e)
    refine ⟨by rw [has_put_other hne, (h3 y hy).1]; simp [hxy], by rw [atKey_put_other hne, (h3 y hy).2]; simp [hxy]⟩
theorem MapG.drop [DecidableEq κ] {w : World} {bm c : Nat} {f : κ → Option ε} (h : MapG G w bm f c) {k : κ} (hk : G.kOk k) (ty : TypeId) :
    ∃ w', (Builtin.delete_ #[G.mT, G.kT] ty #[.map (some bm), G.kV k]).run Tryd.prog w = .ok (.tuple #[]) w' ∧ MapG G w' bm (fun y => if y = k then none else f y) (if (f k).isSome then c - 1 else c) ∧ w.mapTurned w' bm := by
  obtain ⟨D, h1, h2, h3, h4⟩ := h
  obtain ⟨w', hr, ho, ht⟩ := h1.drop G.law G.um (G.key k hk) ty
  have hsz : Maps.size (D.del (G.kL k)) = if (f k).isSome then c - 1 else c := by
    have := size_del (k := G.kL k) (h1.tidy G.law)
    rw [(h3 k hk).1, h2] at this
    cases hf : (f k).isSome with
    | false => rw [hf] at this; simp at this; simp; omega
    | true => rw [hf] at this; simp at this; simp; omega
  have hcl : Cl G (D.del (G.kL k)) := fun kl hkl => by
    by_cases hkk : kl = G.kL k
    · exact ⟨k, hk, hkk⟩
    · rw [has_del_other hkk] at hkl
      exact h4 kl hkl
  refine ⟨w', hr, ⟨_, by rw [← hsz]; exact tight ho, hsz, fun y hy => ?_, hcl⟩, ht⟩
  by_cases hxy : y = k
  · subst hxy
    exact ⟨by rw [has_del_same]; simp, by rw [atKey_del_same]; simp⟩
  · have hne : G.kL y ≠ G.kL k := fun e => hxy (G.linj y k hy hk e)
    refine ⟨by rw [has_del_other hne, (h3 y hy).1]; simp [hxy], by rw [atKey_del_other hne, (h3 y hy).2]; simp [hxy]⟩
theorem MapG.look {w : World} {bm c : Nat} {f : κ → Option ε} (h : MapG G w bm f c) {k : κ} (hk : G.kOk k) :
    (Instr.lookup G.mT (.map (some bm)) (G.kV k) true).run Tryd.prog w = .ok (.tuple #[G.eV ((f k).getD G.z), .bool (f k).isSome]) w := by
  obtain ⟨D, h1, _, h3, _⟩ := h
  obtain ⟨v, ps, hr, hv⟩ := h1.look_ok G.law G.um (G.zero w) (G.read G.z) (G.key k hk)
  rw [(h3 k hk).1] at hr
  rw [(h3 k hk).2] at hv
  rw [hr, G.held _ _ _ hv]
theorem MapG.look1 {w : World} {bm c : Nat} {f : κ → Option ε} (h : MapG G w bm f c) {k : κ} (hk : G.kOk k) :
    (Instr.lookup G.mT (.map (some bm)) (G.kV k) false).run Tryd.prog w = .ok (G.eV ((f k).getD G.z)) w := by
  obtain ⟨D, h1, _, h3, _⟩ := h
  obtain ⟨v, ps, hr, hv⟩ := h1.lookup G.law G.um (G.zero w) (G.read G.z) (G.key k hk)
  rw [(h3 k hk).2] at hv
  rw [hr, G.held _ _ _ hv]
theorem MapG.len {w : World} {bm c : Nat} {f : κ → Option ε} (h : MapG G w bm f c) (ty : TypeId) : (Builtin.len_ #[G.mT] ty #[.map (some bm)]).run Tryd.prog w = .ok (.int .i64 (c : Int)) w := by
  obtain ⟨D, h1, h2, _, _⟩ := h
  rw [h1.len G.um ty, h2]


/-- What has been met of a range: the entries by their keys, in the order in which they came. -/
structure Met (G : Sg κ ε) (f : κ → Option ε) (D : DataW Unit) (left : Lit → Bool) (L : List (κ × ε)) : Prop where
  nd : (L.map Prod.fst).Nodup
  mem : ∀ p ∈ L, G.kOk p.1 ∧ f p.1 = some p.2 ∧ left (G.kL p.1) = false
  all : ∀ k e, G.kOk k → f k = some e → left (G.kL k) = false → (k, e) ∈ L
  has : ∀ kl, left kl = true → Maps.has D kl = true

theorem Met.start {f : κ → Option ε} {D : DataW Unit} (hD : Says G D f) : Met G f D (Maps.has D) [] :=
  ⟨List.nodup_nil, fun p hp => absurd hp (by simp), fun k e hk he h => (by
    rw [(hD k hk).1, he] at h
    cases h), fun _ h => h⟩
/-- An entry is met: the map has it. -/
theorem Met.entry (hki : ∀ v kl, keyOf Tryd.prog G.kT v = some kl → ∃ k, G.kOk k ∧ v = G.kV k ∧ kl = G.kL k) (hdi : ∀ a b, G.eD a = G.eD b → a = b) {f : κ → Option ε} {D : DataW Unit} {left : Lit → Bool} {L : List (κ × ε)} (h : Met G f D left L) (hD : Says G D f) {x : κ} {c : ε} {kl : Lit} {y : DataW Unit × List MemPlace} (hk : keyOf Tryd.prog G.kT (G.kV x) = some kl) (hl : left kl = true) (hy : G.R (G.eV c) = some y) (hat : ∀ zd, D.atKey kl zd = y.1) :
    ∃ k, G.kOk k ∧ G.kV x = G.kV k ∧ kl = G.kL k ∧ f k = some c := by
  obtain ⟨k, hok, ev, rfl⟩ := hki _ _ hk
  obtain ⟨h1, h2⟩ := hD k hok
  rw [h.has _ hl] at h1
  cases hf : f k with
  | none => rw [hf] at h1; cases h1
  | some e =>
    rw [hf, hat] at h2
    rw [G.read] at hy
    obtain rfl := Option.some.inj hy
    exact ⟨k, hok, ev, rfl, hf.trans (congrArg some (hdi _ _ h2).symm)⟩
theorem Met.step {f : κ → Option ε} {D : DataW Unit} {left : Lit → Bool} {L : List (κ × ε)} (h : Met G f D left L) {k : κ} {e : ε} (hk : G.kOk k) (he : f k = some e) (hl : left (G.kL k) = true) : Met G f D (fun z => left z && !z.sameKey (G.kL k)) (L ++ [(k, e)]) := by
  have hself : (G.kL k).sameKey (G.kL k) = true := WideAt.sameKey_self (G.law.key (G.key k hk))
  refine ⟨?_, ?_, ?_, ?_⟩
  · rw [List.map_append, List.nodup_append]
    refine ⟨h.nd, by simp, fun a ha b hb e1 => ?_⟩
    obtain ⟨q, hq, rfl⟩ := List.mem_map.1 ha
    simp only [List.map_cons, List.map_nil, List.mem_singleton] at hb
    have h1 := (h.mem q hq).2.2
    rw [e1, hb, hl] at h1
    cases h1
  · intro q hq
    rcases List.mem_append.1 hq with hq | hq
    · have := h.mem q hq
      exact ⟨this.1, this.2.1, by rw [this.2.2]; rfl⟩
    · rw [List.mem_singleton] at hq
      subst hq
      exact ⟨hk, he, by simp only; rw [hself]; simp⟩
  · intro k' e' hk' he' hf
    simp only [Bool.and_eq_false_iff, Bool.not_eq_false'] at hf
    rcases hf with hf | hf
    · exact List.mem_append_left _ (h.all k' e' hk' he' hf)
    · have := G.linj _ _ hk' hk (WideAt.sameKey_eq hf)
      subst this
      rw [he] at he'
      cases he'
      simp
  · intro kl hkk
    simp only [Bool.and_eq_true] at hkk
    exact h.has kl hkk.1
/-- All have been met. -/
theorem Met.end {f : κ → Option ε} {D : DataW Unit} {left : Lit → Bool} {L : List (κ × ε)} (h : Met G f D left L) (hl : ∀ kl, left kl = false) : ∀ k e, G.kOk k → ((k, e) ∈ L ↔ f k = some e) := fun k e hk =>
  ⟨fun hp => (h.mem _ hp).2.1, fun hf => h.all k e hk hf (hl _)⟩
end Go.Proofs.YthpokoiclfbddaaDoor.Mq
