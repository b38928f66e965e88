/-
  Trie.Get.
-/
import Derived.Test.YtmnafocmbcgdiabVZ
namespace Go.Proofs.Ytmnafocmbcgdiab
open Go.ChangeShapes Go.WideShapes Go.ChangeAt Go.RowKit Go.Shelf Tri N
attribute [local go_sem] Oper.semAt_some
set_option maxHeartbeats 4000000
set_option maxRecDepth 100000

namespace Tri
/-- A prefix's value, looked up on its address's way. -/
def lookT : Tr → K → Option Int
  | .nil, _ => none
  | .node k u l r, p => if hasK k p.x then (if k = p then u.or (if side p.x k.n = 0 then lookT l p else lookT r p) else (if side p.x k.n = 0 then lookT l p else lookT r p)) else none

theorem lookT_mem {t : Tr} {p : K} {v : Int} (h : lookT t p = some v) : (p, v) ∈ ents t := by
  induction t with
  | nil => cases h
  | node k u l r il ir =>
    have hc : (if side p.x k.n = 0 then lookT l p else lookT r p) = some v → (p, v) ∈ ents (.node k u l r) := fun h => by
      rw [ents, List.mem_append, List.mem_append]
      split at h
      · exact .inr (.inl (il h))
      · exact .inr (.inr (ir h))
    rw [lookT] at h
    split at h
    · split at h
      · rename_i e
        cases u with
        | none => exact hc h
        | some a =>
          have : a = v := by simpa using h
          rw [ents, List.mem_append]
          exact .inl (mem_own.2 ⟨e.symm, by rw [this]⟩)
      · exact hc h
    · cases h

theorem lookT_of {lo hi : Nat} {t : Tr} (hW : WF lo hi t) {p : K} {v : Int} (h : (p, v) ∈ ents t) : lookT t p = some v := by
  induction t generalizing lo hi with
  | nil => simp [ents] at h
  | node k u l r il ir =>
    have hW' := hW
    obtain ⟨ak, b, c, d, f, g⟩ := hW
    have hin := ents_in (t := .node k u l r) (lo := k.x) (hi := k.x + k.s) ⟨ak, Nat.le_refl _, Nat.le_refl _, d, f, g⟩ _ h
    have hps := p.s_pos
    have h2 := h2_le k
    have hks := k.s_pos
    have i1 : k.x ≤ p.x := hin.2.1
    have i2 : p.x + p.s ≤ k.x + k.s := hin.2.2
    have hk : hasK k p.x = true := by unfold hasK; simp; omega
    rw [lookT, if_pos hk]
    rw [ents, List.mem_append, List.mem_append, mem_own] at h
    have n32 : ∀ x : Nat, x + p.s ≤ k.x + 2 * k.h → k.x ≤ x → k.n < 32 := fun x h1 h3 => by
      rcases Nat.lt_or_ge k.n 32 with h | h
      · exact h
      · have := (s_last (q := k) (by have := ak.1; omega)).2
        omega
    rcases h with h | h | h
    · rw [if_pos h.1.symm, h.2]; rfl
    · have e1 := ents_in d _ h
      have e2 : p.x + p.s ≤ k.x + k.h := e1.2.2
      have hn := n32 p.x (by omega) i1
      have hne : k ≠ p := fun e => by rw [← e] at e2; omega
      have sd := side_of ak hn i1 (by omega)
      rw [if_pos (by omega)] at sd
      rw [if_neg hne, if_pos sd]
      exact il d h
    · have e1 := ents_in f _ h
      have e2 : k.x + k.h ≤ p.x := e1.2.1
      have e3 : p.x + p.s ≤ k.x + 2 * k.h := e1.2.2
      have hn := n32 p.x e3 i1
      have hne : k ≠ p := fun e => by rw [← e] at e2 e3; omega
      have sd := side_of ak hn i1 (by omega)
      rw [if_neg (by omega)] at sd
      rw [if_neg hne, if_neg (by omega)]
      exact ir f h
end Tri

def MT.isK (p : K) : MT → Option Int
  | .nil => none
  | .node _ _ k u _ _ => if k = p then u else none

/-- The first one on the way that is p and has a value. -/
def firstK (p : K) : List MT → Option Int
  | [] => none
  | q :: L => (q.isK p).or (firstK p L)

theorem firstK_path (m : MT) (p : K) : firstK p (path m p.x) = lookT m.tr p := by
  induction m with
  | nil => rfl
  | node b c k u l r il ir =>
    simp only [path, MT.tr, lookT]
    cases hk : hasK k p.x with
    | false => rfl
    | true =>
      simp only [if_true, firstK, MT.isK]
      have e : firstK p (if side p.x k.n = 0 then path l p.x else path r p.x) = if side p.x k.n = 0 then lookT l.tr p else lookT r.tr p := by
        split
        · exact il
        · exact ir
      rw [e]
      split
      · rfl
      · exact Option.none_or

/-- Behind so many rounds that all went on. -/
def NoneTo (p : K) (L : List MT) (k : Nat) : Prop := ∀ i q, i < k → L[i]? = some q → q.isK p = none

theorem firstK_at {p : K} {L : List MT} {k : Nat} {q : MT} {v : Int} (hn : NoneTo p L k) (hq : L[k]? = some q) (hv : q.isK p = some v) : firstK p L = some v := by
  induction L generalizing k with
  | nil => cases hq
  | cons x L ih =>
    cases k with
    | zero =>
      obtain rfl : x = q := by simpa using hq
      rw [firstK, hv]; rfl
    | succ k =>
      have h0 := hn 0 x (by omega) rfl
      rw [firstK, h0, Option.none_or]
      exact ih (k := k) (fun i y hi hy => hn (i + 1) y (by omega) (by simpa using hy)) (by simpa using hq)

theorem firstK_none {p : K} {L : List MT} (hn : NoneTo p L L.length) : firstK p L = none := by
  induction L with
  | nil => rfl
  | cons x L ih =>
    have h0 := hn 0 x (by simp) rfl
    rw [firstK, h0, Option.none_or]
    exact ih (fun i y hi hy => hn (i + 1) y (by simpa using hi) (by simpa using hy))

/-- What Get answers. -/
def getV (o : Option Int) : Value :=
  match o with
  | none => .tuple #[.int .i64 0, .int .i64 3]
  | some v => .tuple #[.int .i64 v, .int .i64 0]
end Go.Proofs.Ytmnafocmbcgdiab
