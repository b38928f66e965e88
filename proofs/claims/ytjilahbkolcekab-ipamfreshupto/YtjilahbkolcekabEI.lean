/-
  The reference: Del.
-/
import Derived.Test.YtjilahbkolcekabEH
namespace Go.Proofs.Ytjilahbkolcekab
open Go.ChangeShapes Go.WideShapes Go.ChangeAt Go.RowKit Go.Maps Tri
set_option maxHeartbeats 4000000
set_option maxRecDepth 100000

/-- What a call leaves that changes the reference. -/
structure RTurn (w w' : World) (rb : Nat) (vp : Value) (s' : Ist) (vp' : Value) : Prop where
  ref : RfAt w' rb vp' s'
  new : NwB vp vp' w.heap.size
  keeps : Keeps (fpR rb vp) w w'

/-- The list is stored. -/
theorem RfAt.store {w u : World} {rb : Nat} {vp v' : Value} {s s' : Ist} (h : RfAt w rb vp s) (hb : s'.b = s.b) (hz : s'.z = s.z) (hl : s'.l = s.l) (hk : Keeps (fun k => vp.ownBlock = some k) w u) (ho : OwnD u 0 v' s'.S) (hn : NwB vp v' w.heap.size) (hok : s'.Ok) :
    RTurn w (u.setCell ⟨rb, 2, none⟩ v') rb vp s' v' := by
  have hr : u.heap[rb]? = some (.cells (rcells s.b s.z s.l vp) 89 (0, 0)) := (hk.block rb (h.lt (.inl rfl)) h.ne).trans h.row
  have hks : Keeps (fun k => k = rb) u (u.setCell ⟨rb, 2, none⟩ v') := Keeps.set (S := fun k => k = rb) (Keeps.refl _ _) ⟨rb, 2, none⟩ rfl _
  have hne : v'.ownBlock ≠ some rb := fun e => by
    obtain ⟨cs, h1⟩ := ho.kind e
    rw [hr] at h1
    simp at h1
  refine ⟨⟨?_, ho.keeps hks fun k hk1 e => hne (by rw [hk1, e]), hok⟩, hn, (hk.mono fun k _ e => .inr e).trans (hks.mono fun k _ e => .inl e)⟩
  rw [set_cells hr, hb, hz, hl]; rfl

theorem delR_any (w : World) (rb : Nat) (vp : Value) (s : Ist) (n : ByteArray) (h : RfAt w rb vp s) :
    Calls Try.prog 30 #[.pointer (some ⟨rb, 0, none⟩), .string n] w fun e w' => e = .returned (.tuple #[.int .u32 ((s.delR n).1 : Int), .int .i64 (s.delR n).2.1]) ∧ ∃ vp', RTurn w w' rb vp (s.delR n).2.2 vp' := by
  obtain ⟨-, -, c2, -, f2, -⟩ := h.cells
  have HR := hid h
  have HA := hid (at_any w rb vp s n h)
  obtain ⟨D, HD⟩ : ∃ D, Hid (D = s.delR n) := ⟨_, rfl⟩
  rw [← HD.out]
  obtain ⟨av, nv, cv, rfl, HN, hnc, hcap, hnil⟩ := h.own.shape
  have HO := hid h.own
  have hle : nv ≤ 1024 := by have := h.ok.le; have := HN.out; omega
  clear h hnil
  go_enter Try.func30, Try.ntmps30
  go_wp2_with fail
  refine HA.out.mono ?_
  rintro _ _ ⟨⟨v, rfl, hv⟩, ew⟩
  obtain rfl := ew.symm
  clear ew HA
  rcases hv with ⟨hf, rfl⟩ | ⟨j, p, hf, hj, rfl⟩
  · have HE : Hid (D = (0, 3, s)) := by unfold Hid; rw [HD.out]; unfold Ist.delR; rw [hf]
    clear hf HD
    go_wp2_with fail
    go_ret2
    rw [HE.out]
    exact ⟨rfl, _, HR.out, fun g hg => .inl hg, Keeps.refl _ _⟩
  · have HE : Hid (D = (p.ad, 0, s.del n)) := by unfold Hid; rw [HD.out]; unfold Ist.delR; rw [hf]
    obtain ⟨g, rfl, hg, hcl⟩ := HO.out.at hj
    obtain ⟨d0, d1, -, -⟩ := hcl w rfl
    have hjl : j < nv := by have := (List.getElem?_eq_some_iff.1 hj).1; have := HN.out; omega
    have HJL : Hid (j < s.S.length) := by have := HN.out; unfold Hid; omega
    have hj1 : (j : Int) < (nv : Int) := int_lt hjl
    have hj2 : ¬ (j : Int) < 0 := by omega
    have hpn := (byN_some hf).2
    have HFE : Hid ((s.del n).S = s.S.eraseIdx j) := filter_erase HR.out.ok.nn hj hpn
    obtain ⟨A, hA1, HAA⟩ : ∃ A : Addr, (if cv = j + 1 then some (⟨g, 0, none⟩ : Addr) else some ⟨g, (j + 1) * 2, none⟩) = some A ∧ (j + 1 < nv → A = ⟨g, (j + 1) * 2, none⟩) := by
      by_cases e : cv = j + 1
      · exact ⟨_, if_pos e, fun h => by omega⟩
      · exact ⟨_, if_neg e, fun _ => rfl⟩
    have hdr : Below w.heap.size w w.drew := below_drewN (Below.refl _ _) 1
    obtain ⟨w2, hap, ho2, hg2, hs2⟩ := erase_run w.drew 49 0 g nv cv j s.S A (HO.out.below hdr) HJL.out HN.out HAA
    have HAP := hid hap
    have HK2 : Hid (Keeps (fun k => Value.ownBlock (.slice (some ⟨g, 0, none⟩) nv cv) = some k) w w2) := (Keeps.of hdr).trans (Keeps.grown hg2 fun k e => e)
    have HTU := hid (HR.out.store (s' := s.del n) (v' := .slice (some ⟨g, 0, none⟩) (j + (nv - (j + 1))) cv) rfl rfl rfl HK2.out (by rw [HFE.out]; exact ho2) (fun g1 e => .inl e) (HR.out.ok.del n))
    have hr2 : w2.heap[rb]? = some (.cells (rcells s.b s.z s.l (.slice (some ⟨g, 0, none⟩) nv cv)) 89 (0, 0)) := (HK2.out.block rb (HR.out.lt (.inl rfl)) HR.out.ne).trans HR.out.row
    have e2 : ∃ v, w2.cell? ⟨rb, 2, none⟩ = some v := ⟨_, by rw [cell_of_row _ _ _ _ _ _ hr2]; rfl⟩
    obtain ⟨v2, e2⟩ := e2
    have e3 : w2.frozen? ⟨rb, 2, none⟩ = false := frozen_of_row _ _ _ _ _ hr2
    have hw1 : IntKind.i64.wrap ((j : Int) + 1) = (j : Int) + 1 := by rw [IntKind.wrap_i64]; omega
    have hw2 : ((j : Int) + 1).toNat = j + 1 := by omega
    have hw3 : (j : Int) + 1 ≤ (nv : Int) := by omega
    have hw4 : (0 : Int) ≤ (j : Int) + 1 := by omega
    have hw5 : j ≤ cv := by omega
    clear hcl hg d0 hf hj hpn HO hdr hap ho2 hg2 hs2 HAA HK2 hr2 HD HFE
    generalize p.ad = q at *
    go_upto_region 5 with fail
    go_region_law (first | (refine step_append_run rfl _ _ _ _ rfl _ _ rfl rfl HAP.out ?_) | fail)
    all_goals (
      go_wp2_with fail
      go_ret2
      rw [HE.out]
      exact ⟨rfl, _, HTU.out⟩)
end Go.Proofs.Ytjilahbkolcekab
