/-
  take.
-/
import Derived.Test.YteoebmpfdcbbmacDoorJI
import Derived.Test.YteoebmpfdcbbmacDoorVLG
import Derived.Deep.AppendLies
import Derived.Deep.RegionLaw
namespace Go.Proofs.YteoebmpfdcbbmacDoor
open Go.ChangeShapes Go.WideShapes Go.ChangeAt Go.RowKit Jn N
set_option maxHeartbeats 4000000
set_option maxRecDepth 100000

theorem OwnB.cut {w : World} {B g n cap : Nat} {L : List Nat} (h : OwnB w B (.slice (some ⟨g, 0, none⟩) n cap) L) (m : Nat) (hm : m ≤ n) : OwnB w B (.slice (some ⟨g, 0, none⟩) m cap) (L.take m) := by
  rcases h.2 with ⟨h1, _⟩ | ⟨g', cap', cur, h1, hb, hg, hnc, hcm, hcs, ht⟩
  · cases h1
  · simp at h1
    obtain ⟨rfl, hn, rfl⟩ := h1
    have hl : (L.take m).length = m := by rw [List.length_take]; omega
    refine ⟨by simp [bs], .inr ⟨g, cap, cur, by rw [hl], hb, hg, by rw [hl]; omega, hcm, hcs, ?_⟩⟩
    rw [hl]
    have e : bs (L.take m) = (bs L).take m := by simp [bs, List.map_take]
    rw [e, ← ht, List.take_take]
    congr 1
    omega

theorem OwnB.lenB {w : World} {B g n cap : Nat} {L : List Nat} (h : OwnB w B (.slice (some ⟨g, 0, none⟩) n cap) L) : n = L.length ∧ n ≤ cap ∧ cap ≤ maxLen ∧ g < w.heap.size := by
  rcases h.2 with ⟨h1, _⟩ | ⟨g', cap', cur, h1, hb, hg, hnc, hcm, hcs, ht⟩
  · cases h1
  · simp at h1
    obtain ⟨rfl, hn, rfl⟩ := h1
    exact ⟨hn, by omega, hcm, (Array.getElem?_eq_some_iff.1 hg).1⟩

theorem OwnB.ne_of {w : World} {B g n cap q : Nat} {L : List Nat} {cs : Array Value} {T : TypeId} (h : OwnB w B (.slice (some ⟨g, 0, none⟩) n cap) L) (hq : w.heap[q]? = some (.cells cs T (0, 0))) (hT : T ≠ 5) : g ≠ q := by
  rintro rfl
  rcases h.2 with ⟨h1, _⟩ | ⟨g', cap', cur, h1, hb, hg, hnc, hcm, hcs, ht⟩
  · cases h1
  · simp at h1
    obtain ⟨rfl, hn, rfl⟩ := h1
    rw [hq] at hg
    simp at hg
    exact hT hg.2

/-- Bytes are laid behind the front of an own list. -/
theorem append_front (w : World) (ty : TypeId) (g n cap pl : Nat) (L P : List Nat) (pa : Option Addr) (pn pc : Nat) (h : OwnB w 0 (.slice (some ⟨g, 0, none⟩) n cap) L) (hpl : pl ≤ n) (hP : SeesB w (.slice pa pn pc) P) (hp : 0 < P.length) (hbig : pl + P.length ≤ 140737488355328) :
    ∃ g' c' w', (Builtin.append_ #[22, 22] ty #[.slice (some ⟨g, 0, none⟩) pl cap, .slice pa pn pc]).run Tryd.prog w = .ok (.slice (some ⟨g', 0, none⟩) (pl + pn) c') w' ∧ OwnB w' 0 (.slice (some ⟨g', 0, none⟩) (pl + pn) c') (L.take pl ++ P) ∧ Keeps (At1 g) w w' ∧ (g' = g ∨ g' = w.heap.size) := by
  obtain ⟨i0, hi0, hz0, hz1, hz2⟩ := info_parts Tryd.info5
  have hc := h.cut pl hpl
  have hl : (L.take pl).length = pl := by rw [List.length_take]; have := h.lenB; omega
  obtain ⟨ad, hpa, hsrc⟩ := hP.src (by simpa [bs] using hp)
  have hpn : pn = P.length := by obtain ⟨_, _, hv, _⟩ := hP; simp at hv; exact hv.2.1
  subst hpa
  unfold OwnB at hc
  rw [hl] at hc
  obtain ⟨g', c', w', hr, h2, h3, h4, -⟩ := run_append_lies (P := Tryd.prog) w 22 ty 0 5 i0 (.int .u8 0) 1 1 Tryd.underlying22 hi0 hz0 hz1 hz2 rfl (by decide) _ pl _ hc ad pn pc (bs P) (by simp [bs, hpn]) hsrc (fun v hv => by obtain ⟨y, _, rfl⟩ := List.mem_map.1 hv; rfl) (by omega) (by unfold maxLen; omega) (by omega) (Nat.zero_le _) _ rfl
  refine ⟨g', c', w', hr, ?_, ⟨h3.os, h3.tape, h3.output, h3.size, fun k hk hn => h3.block k hk fun e => hn (by simp [Value.ownBlock] at e; exact e.symm ▸ rfl)⟩, ?_⟩
  · unfold OwnB
    rw [List.length_append, hl, hpn, show bs (L.take pl ++ P) = bs (L.take pl) ++ bs P by simp [bs]]
    rw [hpn] at h2
    exact h2
  · rcases h4 with h4 | h4
    · simp [Value.ownBlock] at h4; exact .inl h4.symm
    · exact .inr h4
end Go.Proofs.YteoebmpfdcbbmacDoor
