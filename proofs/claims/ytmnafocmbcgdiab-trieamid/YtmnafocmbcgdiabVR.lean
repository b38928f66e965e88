/-
  trie.holding: the nodes on the way to an address, one by one.
-/
import Derived.Test.YtmnafocmbcgdiabVQ
import Derived.Deep.LoopGhost
namespace Go.Proofs.Ytmnafocmbcgdiab
open Go.ChangeShapes Go.WideShapes Go.ChangeAt Go.RowKit Go.Shelf Tri N
attribute [local go_sem] Oper.semAt_some
set_option maxHeartbeats 4000000
set_option maxRecDepth 100000

/-- The nodes on the way to an address. -/
def path : MT → Nat → List MT
  | .nil, _ => []
  | .node b c k u l r, a => if hasK k a then .node b c k u l r :: (if side a k.n = 0 then path l a else path r a) else []

theorem wp_region_beh {P : Program} {id : Nat} {Q : Exit → Act → World → Prop} {a : Act} {w : World} {l : List Oper} (hm : P.follows .mixedOrders = true) (hB : Region.lexB .any l.toArray = true)
    (h : wpQuiet P l.toArray (fun w' => ∃ u : Beh w, w' = u.wd) (fun a' => ∀ w', (∃ u : Beh w, w' = u.wd) → Q .normal a' w') l a) : (Code.region id l.toArray true).wp P Q a w :=
  wp_region_quiet (C := fun w' => ∃ u : Beh w, w' = u.wd) hm hB ⟨⟨_, below_drewN (Below.refl _ _) 1⟩, rfl⟩ (by simpa using h)

/-- What the iterator reads. -/
structure HdF (X : Nat → Prop) (tbx abx : Nat) (m : MT) (a : Nat) (W : World) : Prop where
  tb : W.heap[tbx]? = some (.cells #[m.ptr] 48)
  ab : W.heap[abx]? = some (.cells #[.int .u32 (a : Int)] 29)
  ls : Lies W X m

theorem holding_gives (n : Nat) (hn : 2 ≤ n) (X : Nat → Prop) (tbx abx : Nat) (m : MT) (a : Nat) {lo hi : Nat} (hwf : WF lo hi m.tr) :
    Gives Fence.wide n Try.prog 39 #[.pointer (some ⟨tbx, 0, none⟩), .pointer (some ⟨abx, 0, none⟩)] (fun q : MT => #[q.ptr]) (path m a) (fun _ W => HdF X tbx abx m a W) := by
  intro l J W hJ hJF hY h0
  obtain ⟨mp, hmp⟩ := ptr_is m
  have hF0 := hJF _ _ h0
  have t0 : W.cell? ⟨tbx, 0, none⟩ = some (.pointer mp) := by rw [← hmp, cell_of_row _ _ _ _ _ _ hF0.tb]; rfl
  refine callsIn_of_wp Try.func39 rfl trivial ?_ rfl
  refine wpIn_wide.2 ?_
  simp only [Try.ntmps39, List.size_toArray, List.length_cons, List.length_nil, Nat.reduceAdd, Nat.reduceSub, Array.replicate_succ, Array.replicate_zero, List.push_toArray, List.append_toArray, List.nil_append, List.cons_append]
  have HJ : Hid (∀ k A B, J k A → Below A.heap.size A B → J k B) := fun k A B h hb => hJ k A B none h ⟨hb.os, hb.tape, hb.output, hb.size, fun j hj _ => hb.block j hj⟩ (fun r e => by cases e)
  have HREL : Hid (∃ q : MT, Value.pointer mp = q.ptr ∧ (path m a).length = (path q a).length ∧ (path m a).drop ((path m a).length - (path m a).length) = path q a ∧ (∃ lo hi, WF lo hi q.tr) ∧ (∀ W', Lies W' X m → Lies W' X q) ∧ J ((path m a).length - (path m a).length) W) :=
    ⟨m, hmp.symm, rfl, by simp, ⟨lo, hi, hwf⟩, fun _ h => h, by simpa using h0⟩
  have HJF := hid hJF
  have HY := hid hY
  clear hJ hJF hY hwf h0 hmp hF0
  go_upto_region 1 with fail
  clear t0
  obtain ⟨N, hN⟩ : ∃ N, N = (path m a).length := ⟨_, rfl⟩
  rw [← hN] at HREL
  have HN := hid hN
  clear hN
  go_loopg [4] N (fun gk p wr => Hid (∃ q : MT, p = q.ptr ∧ gk = (path q a).length ∧ (path m a).drop (N - gk) = path q a ∧ (∃ lo hi, WF lo hi q.tr) ∧ (∀ W', Lies W' X m → Lies W' X q) ∧ J (N - gk) wr))
  case atStart => exact HREL.out
  case round =>
    obtain ⟨q, rfl, hgk, hdr, ⟨lo', hi', hq⟩, hsub, hJq⟩ := hrel.out
    have hFx := HJF.out _ _ hJq
    clear hrel HREL
    cases q with
    | nil =>
      have hl : gk = 0 := hgk
      subst hl
      have HJ1 : Hid (∀ t : Beh wr, J (path m a).length t.wd) := fun t => by have h := HJ.out _ _ _ hJq t.ok; rw [Nat.sub_zero, HN.out] at h; exact h
      clear hgk hdr hq hsub hJq hFx HY HJF HJ
      simp only [MT.ptr]
      go_upto_region 1 with fail
      refine wp_region_beh (by kernel_rfl) (by kernel_rfl) ?_
      repeat (go_big_quiet_step (fail))
      refine wpQuiet_nil ?_
      rintro _ ⟨t, rfl⟩
      go_wp2_with fail
      go_end0
      exact ⟨⟨_, rfl⟩, HJ1.out t⟩
    | node b c k u l r =>
      obtain ⟨ok, _, _, wl, wr', _⟩ := hq
      obtain ⟨_, hrow, _, hLl, hLr⟩ := hsub _ hFx.ls
      have hlt := (Array.getElem?_eq_some_iff.1 hrow).1
      have hltA := (Array.getElem?_eq_some_iff.1 hFx.ab).1
      have n0 : ∀ t : Beh wr, t.wd.cell? ⟨b, 0, none⟩ = some (.int .u32 (k.x : Int)) := fun t => by rw [cell_of_row _ _ _ _ _ _ (below_keeps t.ok hrow hlt)]; rfl
      have n1 : ∀ t : Beh wr, t.wd.cell? ⟨b, 1, none⟩ = some (.int .i64 (k.n : Int)) := fun t => by rw [cell_of_row _ _ _ _ _ _ (below_keeps t.ok hrow hlt)]; rfl
      have a0 : ∀ t : Beh wr, t.wd.cell? ⟨abx, 0, none⟩ = some (.int .u32 (a : Int)) := fun t => by rw [cell_of_row _ _ _ _ _ _ (below_keeps t.ok hFx.ab hltA)]; rfl
      have HC : ∀ t : Beh wr, Hid (Calls Try.prog 40 #[pv k, .int .u32 (a : Int)] t.wd fun e w'' => e = .returned (.bool (hasK k a)) ∧ ∃ t' : Beh wr, w'' = t'.wd) := fun t => Calls.beh (contains_ok a _ ok)
      unfold pv at HC
      cases hk : hasK k a with
      | false =>
        have hp : path (.node b c k u l r) a = [] := by rw [path, hk]; rfl
        have hl : gk = 0 := by rw [hgk, hp]; rfl
        subst hl
        have HJ1 : Hid (∀ t : Beh wr, J (path m a).length t.wd) := fun t => by have h := HJ.out _ _ _ hJq t.ok; rw [Nat.sub_zero, HN.out] at h; exact h
        rw [hk] at HC
        clear hgk hdr hsub hJq hFx HY HJF HJ hk hp wl wr' hrow hLl hLr
        simp only [MT.ptr]
        go_upto_region 1 with fail
        refine wp_region_beh (by kernel_rfl) (by kernel_rfl) ?_
        repeat (go_big_quiet_step (first | (go_at_call 40; exact (HC _).out)))
        refine wpQuiet_nil ?_
        rintro _ ⟨t, rfl⟩
        go_wp2_with fail
        go_end0
        exact ⟨⟨_, rfl⟩, HJ1.out t⟩
      | true =>
        obtain ⟨ch, hch⟩ : ∃ ch : MT, ch = if side a k.n = 0 then l else r := ⟨_, rfl⟩
        have hp : path (.node b c k u l r) a = .node b c k u l r :: path ch a := by rw [path, hk, hch]; simp only [if_true]; split <;> rfl
        rw [hk] at HC
        have hgk2 : gk = (path ch a).length + 1 := by rw [hgk, hp]; rfl
        have hat : (path m a)[N - gk]? = some (.node b c k u l r) := by
          have := congrArg (fun L => L[0]?) hdr
          rw [hp] at this
          simpa using this
        have hle : gk ≤ N := by
          have := congrArg List.length hdr
          rw [List.length_drop, ← HN.out, ← hgk] at this
          omega
        have hdr2 : (path m a).drop (N - (path ch a).length) = path ch a := by
          have e : N - (path ch a).length = (N - gk) + 1 := by omega
          rw [e, ← List.drop_drop, hdr, hp]; rfl
        have HNX : Hid (∀ wz, J (N - gk + 1) wz → ∃ q : MT, ch.ptr = q.ptr ∧ gk - 1 = (path q a).length ∧ (path m a).drop (N - (gk - 1)) = path q a ∧ (∃ lo hi, WF lo hi q.tr) ∧ (∀ W', Lies W' X m → Lies W' X q) ∧ J (N - (gk - 1)) wz) := fun wz hz => by
          have e1 : gk - 1 = (path ch a).length := by omega
          have e2 : N - (gk - 1) = N - gk + 1 := by omega
          refine ⟨ch, rfl, e1, by rw [e1]; exact hdr2, ?_, fun W' hW' => ?_, by rw [e2]; exact hz⟩
          · rw [hch]; split
            · exact ⟨_, _, wl⟩
            · exact ⟨_, _, wr'⟩
          · have h := hsub W' hW'
            rw [hch]; split
            · exact h.2.2.2.1
            · exact h.2.2.2.2
        have HJ1 : Hid (∀ t : Beh wr, J (N - gk) t.wd) := fun t => HJ.out _ _ _ hJq t.ok
        have HAT := hid hat
        have HPOS : Hid (gk - 1 < gk) := by unfold Hid; omega
        have HSUB := hid hsub
        have HOK := hid ok
        have HCH := hid hch
        clear hgk hdr hsub hJq hFx hk hp wl wr' hrow hLl hLr hgk2 hat hle hdr2 hlt hltA ok hch
        simp only [MT.ptr]
        go_upto_region 1 with fail
        refine wp_region_beh (by kernel_rfl) (by kernel_rfl) ?_
        repeat (go_big_quiet_step (first | (go_at_call 40; exact (HC _).out)))
        refine wpQuiet_nil ?_
        rintro _ ⟨t, rfl⟩
        have hJt := HJ1.out t
        clear n0 n1 a0 HC HJ1
        obtain ⟨fn, tmps, assign, body, hy, hR⟩ := HY.out _ _ t.wd hJt HAT.out
        simp only [MT.ptr] at hy
        go_upto_region 3 with fail
        refine (wpIn_wide (n := n)).1 ?_
        gi_wp2
        refine ⟨fun _ => by omega, hR.mono ?_⟩
        rintro _ W3 ⟨rfl, hJ3⟩
        have HJ3 := hid hJ3
        have hF3 := HJF.out _ _ hJ3
        obtain ⟨_, hrow, _, _, _⟩ := HSUB.out _ hF3.ls
        have n1 : W3.cell? ⟨b, 1, none⟩ = some (.int .i64 (k.n : Int)) := by rw [cell_of_row _ _ _ _ _ _ hrow]; rfl
        have a0 : W3.cell? ⟨abx, 0, none⟩ = some (.int .u32 (a : Int)) := by rw [cell_of_row _ _ _ _ _ _ hF3.ab]; rfl
        have hs2 := side_lt a k.n
        clear hJ3 hy hR hJt HY HJF HSUB
        gi_wp2
        by_cases hs : side a k.n = 0
        · skip
          have HCE : Hid (ch.ptr = l.ptr) := by unfold Hid; rw [HCH.out, if_pos hs]
          obtain ⟨cp, hcp⟩ := ptr_is l
          have n3 : W3.cell? ⟨b, 3, none⟩ = some (.pointer cp) := by rw [← hcp, cell_of_row _ _ _ _ _ _ hrow]; rfl
          have HH := fun u => hid (half_any a k.n u HOK.out.1)
          rw [show side a k.n = 0 from hs] at HH
          have HCP := hid hcp
          clear hs hs2 hrow hcp hF3
          go_upto_region 2 with fail
          refine wp_region_still_tail 12 (by kernel_rfl) (by kernel_rfl) ?_
          simp only [List.take_succ_cons, List.take_zero, List.drop_succ_cons, List.drop_zero]
          iterate 7 still_step
          still_call (HH _).out
          iterate 4 still_step
          refine wpStill_nil ?_
          go_wp2_with fail
          go_roundg (gk - 1)
          case measure => exact HPOS.out
          case rel =>
            have h := HNX.out W3.drew (HJ.out _ _ _ HJ3.out ⟨rfl, rfl, rfl, Nat.le_refl _, fun _ _ => rfl⟩)
            rw [HCE.out, HCP.out] at h
            exact h
        · skip
          have HCE : Hid (ch.ptr = r.ptr) := by unfold Hid; rw [HCH.out, if_neg hs]
          obtain ⟨cp, hcp⟩ := ptr_is r
          have n3 : W3.cell? ⟨b, 4, none⟩ = some (.pointer cp) := by rw [← hcp, cell_of_row _ _ _ _ _ _ hrow]; rfl
          have HH := fun u => hid (half_any a k.n u HOK.out.1)
          rw [show side a k.n = 1 from by omega] at HH
          have HCP := hid hcp
          clear hs hs2 hrow hcp hF3
          go_upto_region 2 with fail
          refine wp_region_still_tail 12 (by kernel_rfl) (by kernel_rfl) ?_
          simp only [List.take_succ_cons, List.take_zero, List.drop_succ_cons, List.drop_zero]
          iterate 7 still_step
          still_call (HH _).out
          iterate 4 still_step
          refine wpStill_nil ?_
          go_wp2_with fail
          go_roundg (gk - 1)
          case measure => exact HPOS.out
          case rel =>
            have h := HNX.out W3.drew (HJ.out _ _ _ HJ3.out ⟨rfl, rfl, rfl, Nat.le_refl _, fun _ _ => rfl⟩)
            rw [HCE.out, HCP.out] at h
            exact h
end Go.Proofs.Ytmnafocmbcgdiab
