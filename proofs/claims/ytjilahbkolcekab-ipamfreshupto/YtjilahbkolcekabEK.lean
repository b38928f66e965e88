/-
  ipam: List: what the range collects.
-/
import Derived.Test.YtjilahbkolcekabEJ
import Derived.Laws.MakeOwn
namespace Go.Proofs.Ytjilahbkolcekab
open Go.ChangeShapes Go.WideShapes Go.ChangeAt Go.RowKit Go.Maps Tri
set_option maxHeartbeats 4000000
set_option maxRecDepth 100000

/-- What has been met of a range over the pods. -/
structure Met (s : Ist) (D : DataW Unit) (left : Lit → Bool) (L : List Pod) : Prop where
  nd : (L.map Pod.ad).Nodup
  mem : ∀ p ∈ L, p ∈ s.S ∧ left (.int .u32 (p.ad : Int)) = false
  all : ∀ p ∈ s.S, left (.int .u32 (p.ad : Int)) = false → p ∈ L
  has : ∀ kl, left kl = true → Maps.has D kl = true

theorem Met.start {s : Ist} {D : DataW Unit} (hok : s.Ok) (hD : ∀ x : Nat, x < 4294967296 → Maps.has D (.int .u32 (x : Int)) = (s.byA x).isSome ∧ D.atKey (.int .u32 (x : Int)) (podD zPod) = podD ((s.byA x).getD zPod)) : Met s D (Maps.has D) [] :=
  ⟨List.nodup_nil, fun p hp => absurd hp (by simp), fun p hp h => absurd h (by
    have h1 := hok.ar p hp
    have h2 := hok.be
    rw [(hD p.ad (by omega)).1, hok.byA_mem hp]
    simp), fun _ h => h⟩

/-- An entry is met: it is a pod. -/
theorem Met.pod {s : Ist} {D : DataW Unit} {left : Lit → Bool} {L : List Pod} (h : Met s D left L) (hD : ∀ x : Nat, x < 4294967296 → Maps.has D (.int .u32 (x : Int)) = (s.byA x).isSome ∧ D.atKey (.int .u32 (x : Int)) (podD zPod) = podD ((s.byA x).getD zPod))
    {x : Int} {c : ByteArray × Int} {kl : Lit} {y : DataW Unit × List MemPlace} (hk : keyOf Try.prog 23 (.int .u32 x) = some kl) (hl : left kl = true) (hy : podR (.agg #[.string c.1, .int .u32 c.2]) = some y) (hat : ∀ zd, D.atKey kl zd = y.1) :
    ∃ p ∈ s.S, c.1 = p.nm ∧ c.2 = (p.ad : Int) ∧ kl = .int .u32 (p.ad : Int) := by
  obtain ⟨x', e1, e2, hwf⟩ := Maps.keyOf_int_inv uAd hk
  cases e1
  subst e2
  have hx : 0 ≤ x ∧ x ≤ 4294967295 := by
    have e1 : IntKind.u32.min = 0 := by decide
    have e2 : IntKind.u32.max = 4294967295 := by decide
    have := hwf
    simp [Lit.wf] at this
    omega
  obtain ⟨a, rfl⟩ : ∃ a : Nat, x = (a : Int) := ⟨x.toNat, by omega⟩
  obtain ⟨h1, h2⟩ := hD a (by omega)
  rw [h.has _ hl] at h1
  cases hf : s.byA a with
  | none => rw [hf] at h1; cases h1
  | some p =>
    obtain ⟨hp1, hp2⟩ := byA_some hf
    rw [hf, hat] at h2
    have h3 : podR (.agg #[.string c.1, .int .u32 c.2]) = some (podD p, y.2) := by rw [hy]; congr 1; exact Prod.ext h2 rfl
    have h4 := podR_held h3
    unfold podV at h4
    simp only [Value.agg.injEq, Array.mk.injEq, List.cons.injEq, Value.string.injEq, Value.int.injEq, true_and, and_true] at h4
    exact ⟨p, hp1, h4.1, h4.2, by rw [hp2]⟩

theorem Met.step {s : Ist} {D : DataW Unit} {left : Lit → Bool} {L : List Pod} (h : Met s D left L) (hok : s.Ok) {p : Pod} (hp : p ∈ s.S) (hl : left (.int .u32 (p.ad : Int)) = true) : Met s D (fun z => left z && !z.sameKey (.int .u32 (p.ad : Int))) (L ++ [p]) := by
  have hsk : ∀ q : Pod, (Lit.int .u32 (q.ad : Int)).sameKey (.int .u32 (p.ad : Int)) = decide (q.ad = p.ad) := fun q => by
    by_cases e : q.ad = p.ad
    · rw [e, WideAt.sameKey_self (a := .int .u32 (p.ad : Int)) trivial]; simp
    · have : (Lit.int .u32 (q.ad : Int)).sameKey (.int .u32 (p.ad : Int)) = false := by
        cases hq : (Lit.int .u32 (q.ad : Int)).sameKey (.int .u32 (p.ad : Int)) with
        | false => rfl
        | true => exact absurd (WideAt.sameKey_eq hq) (u32_ne e)
      rw [this]; simp [e]
  refine ⟨?_, ?_, ?_, ?_⟩
  · rw [List.map_append, List.nodup_append]
    refine ⟨h.nd, by simp, fun a ha b hb e => ?_⟩
    obtain ⟨q, hq, rfl⟩ := List.mem_map.1 ha
    simp only [List.map_cons, List.map_nil, List.mem_singleton] at hb
    have h1 := (h.mem q hq).2
    rw [e, hb, hl] at h1
    cases h1
  · intro q hq
    rcases List.mem_append.1 hq with hq | hq
    · have := h.mem q hq
      exact ⟨this.1, by rw [this.2]; rfl⟩
    · rw [List.mem_singleton] at hq
      subst hq
      exact ⟨hp, by rw [hsk]; simp⟩
  · intro q hq hf
    rw [hsk] at hf
    simp only [Bool.and_eq_false_iff, Bool.not_eq_false', decide_eq_true_eq] at hf
    rcases hf with hf | hf
    · exact List.mem_append_left _ (h.all q hq hf)
    · have := nod_inj hok.an hq hp hf
      subst this
      simp
  · intro kl hk
    simp only [Bool.and_eq_true] at hk
    exact h.has kl hk.1

theorem nodup_of_map {L : List Pod} (h : (L.map Pod.ad).Nodup) : L.Nodup := by
  rw [List.Nodup, List.pairwise_map] at h
  exact h.imp fun hne e => hne (by rw [e])

theorem perm_of {A B : List Pod} (hA : A.Nodup) (hB : B.Nodup) (h : ∀ p, p ∈ A ↔ p ∈ B) : A.Perm B := by
  induction A generalizing B with
  | nil =>
    cases B with
    | nil => exact List.Perm.refl _
    | cons b B => exact absurd ((h b).2 List.mem_cons_self) (by simp)
  | cons a A ih =>
    rw [List.nodup_cons] at hA
    have ha : a ∈ B := (h a).1 List.mem_cons_self
    have h1 := List.perm_cons_erase ha
    refine (List.Perm.cons a (ih hA.2 (hB.erase a) fun p => ?_)).trans h1.symm
    rw [hB.mem_erase_iff]
    constructor
    · intro hp
      exact ⟨fun e => hA.1 (e ▸ hp), (h p).1 (List.mem_cons_of_mem _ hp)⟩
    · rintro ⟨h2, h3⟩
      rcases List.mem_cons.1 ((h p).2 h3) with h4 | h4
      · exact absurd h4 h2
      · exact h4

theorem Met.end {s : Ist} {D : DataW Unit} {left : Lit → Bool} {L : List Pod} (h : Met s D left L) (hok : s.Ok) (hl : ∀ kl, left kl = false) : L.Perm s.S :=
  perm_of (nodup_of_map h.nd) (nodup_of_map hok.an) fun p => ⟨fun hp => (h.mem p hp).1, fun hp => h.all p hp (hl _)⟩
end Go.Proofs.Ytjilahbkolcekab
