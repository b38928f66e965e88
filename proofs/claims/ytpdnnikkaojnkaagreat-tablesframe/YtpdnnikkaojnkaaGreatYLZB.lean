import Derived.Test.YtpdnnikkaojnkaaGreatYLS1
namespace Go.Proofs.YtpdnnikkaojnkaaGreat.Rt
open Go.Proofs.YtpdnnikkaojnkaaGreat Go.ChangeShapes Go.WideShapes Go.ChangeAt Go.RowKit Go.Maps Tri N
set_option maxHeartbeats 2000000
set_option maxRecDepth 100000
section
variable {H : Type} {enc : TypeId × Value -> H} {W : World}
end
theorem srt_nod {α κ : Type} {key : α -> κ} {num : α -> Nat} {S L : List α} (h : SrtK num S L) (hk : ∀ x y, key x = key y -> num x = num y) : Nod key S := by
 have h1 : (S.map num).Pairwise (· < ·) := h.1
 unfold Nod
 rw [List.nodup_iff_pairwise_ne, List.pairwise_map]
 exact (List.pairwise_map.1 h1).imp fun hlt e => by have := hk _ _ e; omega
theorem lk_same {α κ : Type} [DecidableEq κ] {key : α -> κ} {S L : List α} (hL : Nod key L) (h : ∀ e, e ∈ S ↔ e ∈ L) (k : κ) : lk key S k = lk key L k := by
 cases h1 : lk key S k with
 | none =>
  refine (lk_isNone fun e he => ?_).symm
  exact lk_none h1 e ((h e).2 he)
 | some e =>
  obtain ⟨h2, h3⟩ := lk_some h1
  exact ((lk_iff hL).2 ⟨(h e).1 h2, h3⟩).symm
end Go.Proofs.YtpdnnikkaojnkaaGreat.Rt
