/-
  What lies inside a prefix; trie.highest.
-/
import Derived.Test.YtmnafocmbcgdiabXB
import Derived.Test.YtmnafocmbcgdiabWD
namespace Go.Proofs.Ytmnafocmbcgdiab
open Go.ChangeShapes Go.WideShapes Go.ChangeAt Go.RowKit Go.Shelf Tri N
set_option maxHeartbeats 4000000
set_option maxRecDepth 100000

def inP (p : K) (e : K × Int) : Bool := decide (p.n ≤ e.1.n) && hasK p e.1.x

def MT.ent : MT → Option (K × Int)
  | .node _ _ k (some v) _ _ => some (k, v)
  | _ => none

theorem pre_ents (m : MT) : (pre m).filterMap MT.ent = ents m.tr := by
  induction m with
  | nil => rfl
  | node b c k u l r il ir =>
    rw [pre, MT.tr, ents]
    cases u with
    | none => rw [List.filterMap_cons_none rfl, List.filterMap_append, il, ir]; rfl
    | some v => simp only [List.filterMap_cons, MT.ent, List.filterMap_append, il, ir]; rfl

def hiT : MT → K → MT
  | .nil, _ => .nil
  | .node b c k u l r, p => if k.n < p.n then (if side p.x k.n = 0 then hiT l p else hiT r p) else if hasK p k.x = true then .node b c k u l r else .nil

theorem inP_ins {p : K} {e : K × Int} (hp : p.Ok) (he : e.1.Ok) : inP p e = true ↔ Ins e.1 p := by
  unfold inP hasK
  simp only [Bool.and_eq_true, decide_eq_true_eq]
  constructor
  · rintro ⟨h1, h2, h3⟩
    rcases nest he hp h1 with h | h | h
    · exact h
    · have := e.1.s_pos; omega
    · omega
  · intro h
    have := e.1.s_pos
    have h1 := h.1
    have h2 := h.2
    exact ⟨ins_len he hp h, h1, by omega⟩

theorem filter_none {L : List (K × Int)} {p : K} (h : ∀ e ∈ L, inP p e ≠ true) : L.filter (inP p) = [] := List.filter_eq_nil_iff.2 h
theorem filter_all {L : List (K × Int)} {p : K} (h : ∀ e ∈ L, inP p e = true) : L.filter (inP p) = L := List.filter_eq_self.2 h

theorem hiT_ents {lo hi : Nat} {p : K} (hp : p.Ok) : ∀ (m : MT) (_ : WF lo hi m.tr), ents (hiT m p).tr = (ents m.tr).filter (inP p) := by
  intro m
  induction m generalizing lo hi with
  | nil => intro _; rfl
  | node b c k u l r il ir =>
    intro hW
    have hW0 : WF k.x (k.x + k.s) (.node k u l.tr r.tr) := ⟨hW.1, Nat.le_refl _, Nat.le_refl _, hW.2.2.2⟩
    obtain ⟨ok, _, _, hl, hr, hne⟩ := hW
    have hall := ents_in hW0
    have h2 := h2_le k
    have far : (k.x + k.s ≤ p.x ∨ p.x + p.s ≤ k.x) → ∀ e ∈ ents (Tr.node k u l.tr r.tr), inP p e ≠ true := fun h e he hi => by
      have h1 := hall e he
      have h3 := (inP_ins hp h1.1).1 hi
      have h4 := h3.1
      have h5 := h3.2
      have := e.1.s_pos
      omega
    rw [hiT]
    by_cases hk : k.n < p.n
    · rw [if_pos hk]
      have hown : (own k u).filter (inP p) = [] := by
        refine filter_none fun e he hi => ?_
        rw [mem_own] at he
        unfold inP at hi
        rw [he.1] at hi
        simp at hi
        omega
      rw [MT.tr, ents, List.filter_append, List.filter_append, hown, List.nil_append]
      rcases nest hp ok (by omega) with hin | h | h
      · have hpk := p.s_pos
        have h32 : k.n < 32 := by have := hp.1; omega
        have sd := side_of ok h32 (a := p.x) hin.1 (by have := hin.2; omega)
        have hlf := halves hp ok hin (fun e => by rw [e] at hk; omega)
        by_cases hs : side p.x k.n = 0
        · rw [if_pos hs, il hl]
          have : (ents r.tr).filter (inP p) = [] := by
            refine filter_none fun e he hi => ?_
            have h1 := ents_in hr e he
            have h3 := (inP_ins hp h1.1).1 hi
            have h4 := h3.1
            have h5 := h3.2
            have := e.1.s_pos
            rw [hs] at sd
            have hlt : p.x < k.x + k.h := by
              rcases Nat.lt_or_ge p.x (k.x + k.h) with h | h
              · exact h
              · rw [if_neg (by omega)] at sd; cases sd
            rcases hlf.2 with h6 | h6 <;> omega
          rw [this, List.append_nil]
        · rw [if_neg hs, ir hr]
          have : (ents l.tr).filter (inP p) = [] := by
            refine filter_none fun e he hi => ?_
            have h1 := ents_in hl e he
            have h3 := (inP_ins hp h1.1).1 hi
            have h4 := h3.1
            have h5 := h3.2
            have := e.1.s_pos
            have hge : k.x + k.h ≤ p.x := by
              rcases Nat.lt_or_ge p.x (k.x + k.h) with h | h
              · rw [if_pos h] at sd; exact absurd sd hs
              · exact h
            rcases hlf.2 with h6 | h6 <;> omega
          rw [this, List.nil_append]
      · have f := far (.inr h)
        have fl : (ents l.tr).filter (inP p) = [] := filter_none fun e he => f e (by rw [ents]; simp [he])
        have fr : (ents r.tr).filter (inP p) = [] := filter_none fun e he => f e (by rw [ents]; simp [he])
        rw [fl, fr]
        split
        · rw [il hl, fl]; rfl
        · rw [ir hr, fr]; rfl
      · have f := far (.inl h)
        have fl : (ents l.tr).filter (inP p) = [] := filter_none fun e he => f e (by rw [ents]; simp [he])
        have fr : (ents r.tr).filter (inP p) = [] := filter_none fun e he => f e (by rw [ents]; simp [he])
        rw [fl, fr]
        split
        · rw [il hl, fl]; rfl
        · rw [ir hr, fr]; rfl
    · rw [if_neg hk]
      have hks := k.s_pos
      rcases nest ok hp (by omega) with hin | h | h
      · have hh : hasK p k.x = true := by
          unfold hasK
          have h1 := hin.1
          have h3 := hin.2
          simp
          omega
        rw [if_pos hh, MT.tr]
        refine (filter_all fun e he => ?_).symm
        have h1 := hall e he
        exact (inP_ins hp h1.1).2 (Ins.trans ⟨h1.2.1, h1.2.2⟩ hin)
      · have hh : ¬ hasK p k.x = true := by
          unfold hasK
          simp
          omega
        rw [if_neg hh]; exact (filter_none (far (.inl h))).symm
      · have hh : ¬ hasK p k.x = true := by
          unfold hasK
          simp
          omega
        rw [if_neg hh]; exact (filter_none (far (.inr h))).symm

theorem hiT_lies {p : K} : ∀ (m : MT) {W : World} {X : Nat → Prop}, Lies W X m → Lies W X (hiT m p) := by
  intro m
  induction m with
  | nil => intro W X h; exact h
  | node b c k u l r il ir =>
    intro W X h
    rw [hiT]
    split
    · split
      · exact il h.2.2.2.1
      · exact ir h.2.2.2.2
    · split
      · exact h
      · trivial

theorem hiT_nodes {p : K} : ∀ m : MT, nodes (hiT m p).tr ≤ nodes m.tr := by
  intro m
  induction m with
  | nil => exact Nat.le_refl _
  | node b c k u l r il ir =>
    rw [hiT, MT.tr, nodes]
    split
    · split <;> omega
    · split
      · exact Nat.le_refl _
      · exact Nat.zero_le _

theorem highest_any {X : Nat → Prop} (m : MT) (p : K) (w : World) {lo hi : Nat} (hL : Lies w X m) (hW : WF lo hi m.tr) (hp : p.Ok) :
    Calls Try.prog 43 #[m.ptr, pv p] w fun e w' => e = .returned (hiT m p).ptr ∧ Below w.heap.size w w' := by
  obtain ⟨wa, hwa⟩ : ∃ wa, wa = w.alloc (.cells #[.int .u32 (p.x : Int), .int .i64 (p.n : Int)] 31) := ⟨_, rfl⟩
  have hb0 : Below w.heap.size w wa := by rw [hwa]; exact (Below.refl _ _).alloc (Nat.le_refl _) _
  have r1 : wa.heap[w.heap.size]? = some (.cells #[.int .u32 (p.x : Int), .int .i64 (p.n : Int)] 31) := by rw [hwa]; exact heap_alloc_new w _
  have HS : Hid (wa.heap.size = w.heap.size + 1) := by unfold Hid; rw [hwa]; simp
  have HWA := hid hwa
  have HB0 := hid hb0
  have R1 := hid r1
  have HLA := hid (hL.below hb0)
  have HP := hid hp
  obtain ⟨mp, hmp⟩ := ptr_is m
  have HREL : Hid (∃ q : MT, Value.pointer mp = q.ptr ∧ nodes m.tr = nodes q.tr ∧ hiT q p = hiT m p ∧ (∃ lo hi, WF lo hi q.tr) ∧ (∀ W', Lies W' X m → Lies W' X q) ∧ Below wa.heap.size wa wa) :=
    ⟨m, hmp.symm, rfl, rfl, ⟨lo, hi, hW⟩, fun _ h => h, Below.refl _ _⟩
  rw [hmp]
  unfold pv
  clear hwa r1 hb0 hL hW hp hmp
  go_enter Try.func43, Try.ntmps43
  go_upto_region 1 with fail
  rw [← HWA.out]
  go_upto_region 2 with fail
  obtain ⟨N0, HN0⟩ : ∃ N0, Hid (N0 = nodes m.tr) := ⟨_, rfl⟩
  rw [← HN0.out] at HREL
  go_loopg [5] N0 (fun gk v wr => Hid (∃ q : MT, v = q.ptr ∧ gk = nodes q.tr ∧ hiT q p = hiT m p ∧ (∃ lo hi, WF lo hi q.tr) ∧ (∀ W', Lies W' X m → Lies W' X q) ∧ Below wa.heap.size wa wr))
  case atStart => exact HREL.out
  case round =>
    obtain ⟨q, rfl, hgk, hq, ⟨lo', hi', hqw⟩, hsub, hb⟩ := hrel.out
    clear hrel HREL
    have HBR := hid hb
    have r2 := below_keeps hb R1.out (by have := HS.out; omega)
    obtain ⟨q0, q1⟩ := Beh.two r2
    cases q with
    | nil =>
      have HRT : Hid ((hiT m p).ptr = .pointer none) := by unfold Hid; rw [← hq]; rfl
      clear hgk hq hqw hsub hb r2
      simp only [MT.ptr]
      go_upto_region 2 with fail
      refine wp_region_beh (by kernel_rfl) (by kernel_rfl) ?_
      repeat (go_big_quiet_step (fail))
      refine wpQuiet_nil ?_
      rintro _ ⟨t, rfl⟩
      have HB1 : Hid (Below w.heap.size w t.wd) := HB0.out.trans ((HBR.out.trans (t.ok.mono HBR.out.size)).mono HB0.out.size)
      have r3 := below_keeps t.ok (below_keeps HBR.out R1.out (by have := HS.out; omega)) (by have := HBR.out.size; have := HS.out; omega)
      obtain ⟨q0, q1⟩ := Beh.two r3
      clear r3
      go_upto_region 4 with fail
      refine wp_region_beh (by kernel_rfl) (by kernel_rfl) ?_
      repeat (go_big_quiet_step (fail))
      refine wpQuiet_nil ?_
      rintro _ ⟨t2, rfl⟩
      have HB2 : Hid (Below w.heap.size w t2.wd) := HB1.out.trans (t2.ok.mono HB1.out.size)
      clear q0 q1
      go_wp2_with fail
      go_ret
      exact ⟨by rw [HRT.out]; rfl, HB2.out⟩
    | node b c k u l r =>
      obtain ⟨ok, _, _, wl, wr', _⟩ := hqw
      have hls := hsub _ (HLA.out.below hb)
      obtain ⟨_, hrow, _, _, _⟩ := hls
      have hlt := (Array.getElem?_eq_some_iff.1 hrow).1
      have n0 : ∀ t : Beh wr, t.wd.cell? ⟨b, 0, none⟩ = some (.int .u32 (k.x : Int)) := fun t => by rw [cell_of_row _ _ _ _ _ _ (below_keeps t.ok hrow hlt)]; rfl
      have n1 : ∀ t : Beh wr, t.wd.cell? ⟨b, 1, none⟩ = some (.int .i64 (k.n : Int)) := fun t => by rw [cell_of_row _ _ _ _ _ _ (below_keeps t.ok hrow hlt)]; rfl
      have HOK := hid ok
      by_cases hk : k.n < p.n
      · have b1 : (k.n : Int) < (p.n : Int) := by omega
        obtain ⟨ch, hch⟩ : ∃ ch : MT, ch = if side p.x k.n = 0 then l else r := ⟨_, rfl⟩
        have HNX : Hid (∀ wz, Below wa.heap.size wa wz → ∃ q : MT, ch.ptr = q.ptr ∧ nodes ch.tr = nodes q.tr ∧ hiT q p = hiT m p ∧ (∃ lo hi, WF lo hi q.tr) ∧ (∀ W', Lies W' X m → Lies W' X q) ∧ Below wa.heap.size wa wz) := fun wz hz => by
          refine ⟨ch, rfl, rfl, ?_, ?_, fun W' hW' => ?_, hz⟩
          · rw [← hq, hiT, if_pos hk, hch]; split <;> rfl
          · rw [hch]; split
            · exact ⟨_, _, wl⟩
            · exact ⟨_, _, wr'⟩
          · have h := hsub W' hW'
            rw [hch]; split
            · exact h.2.2.2.1
            · exact h.2.2.2.2
        have HPOS : Hid (nodes ch.tr < gk) := by
          unfold Hid
          rw [hgk, MT.tr, nodes, hch]
          split <;> omega
        have hs2 := side_lt p.x k.n
        have HROW := hid hrow
        have HCH := hid hch
        clear hgk hq wl wr' hsub hrow hlt ok hk hch hb r2
        simp only [MT.ptr]
        go_upto_region 2 with fail
        refine wp_region_beh (by kernel_rfl) (by kernel_rfl) ?_
        repeat (go_big_quiet_step (fail))
        refine wpQuiet_nil ?_
        rintro _ ⟨t, rfl⟩
        have hrow := below_keeps t.ok HROW.out (Array.getElem?_eq_some_iff.1 HROW.out).1
        have r3 := below_keeps t.ok (below_keeps HBR.out R1.out (by have := HS.out; omega)) (by have := HBR.out.size; have := HS.out; omega)
        have x0 : t.wd.cell? ⟨w.heap.size, 0, none⟩ = some (.int .u32 (p.x : Int)) := by rw [cell_of_row _ _ _ _ _ _ r3]; rfl
        have n1 : t.wd.cell? ⟨b, 1, none⟩ = some (.int .i64 (k.n : Int)) := by rw [cell_of_row _ _ _ _ _ _ hrow]; rfl
        have HB1 : Hid (Below wa.heap.size wa t.wd) := HBR.out.trans (t.ok.mono HBR.out.size)
        by_cases hs : side p.x k.n = 0
        · have HCE : Hid (ch.ptr = l.ptr) := by unfold Hid; rw [HCH.out, if_pos hs]
          obtain ⟨cp, hcp⟩ := ptr_is l
          have n3 : t.wd.cell? ⟨b, 3, none⟩ = some (.pointer cp) := by rw [← hcp, cell_of_row _ _ _ _ _ _ hrow]; rfl
          have HH := fun u => hid (half_any p.x k.n u HOK.out.1)
          rw [show side p.x k.n = 0 from hs] at HH
          have HCP := hid hcp
          clear hs hs2 hrow hcp r3 q0 q1 n0
          go_upto_region 3 with fail
          refine wp_region_still_tail 13 (by kernel_rfl) (by kernel_rfl) ?_
          simp only [List.take_succ_cons, List.take_zero, List.drop_succ_cons, List.drop_zero]
          iterate 8 still_step
          still_call (HH _).out
          iterate 4 still_step
          refine wpStill_nil ?_
          go_wp2_with fail
          go_roundg (nodes ch.tr)
          case measure => exact HPOS.out
          case rel =>
            have h := HNX.out t.wd.drew ⟨HB1.out.os, HB1.out.tape, HB1.out.output, HB1.out.size, HB1.out.block⟩
            rw [HCE.out, HCP.out] at h
            exact h
        · have HCE : Hid (ch.ptr = r.ptr) := by unfold Hid; rw [HCH.out, if_neg hs]
          obtain ⟨cp, hcp⟩ := ptr_is r
          have n3 : t.wd.cell? ⟨b, 4, none⟩ = some (.pointer cp) := by rw [← hcp, cell_of_row _ _ _ _ _ _ hrow]; rfl
          have HH := fun u => hid (half_any p.x k.n u HOK.out.1)
          rw [show side p.x k.n = 1 from by omega] at HH
          have HCP := hid hcp
          clear hs hs2 hrow hcp r3 q0 q1 n0
          go_upto_region 3 with fail
          refine wp_region_still_tail 13 (by kernel_rfl) (by kernel_rfl) ?_
          simp only [List.take_succ_cons, List.take_zero, List.drop_succ_cons, List.drop_zero]
          iterate 8 still_step
          still_call (HH _).out
          iterate 4 still_step
          refine wpStill_nil ?_
          go_wp2_with fail
          go_roundg (nodes ch.tr)
          case measure => exact HPOS.out
          case rel =>
            have h := HNX.out t.wd.drew ⟨HB1.out.os, HB1.out.tape, HB1.out.output, HB1.out.size, HB1.out.block⟩
            rw [HCE.out, HCP.out] at h
            exact h
      · have b1 : ¬ (k.n : Int) < (p.n : Int) := by omega
        have HROW := hid hrow
        have HRT : Hid ((hiT m p).ptr = if hasK p k.x = true then .pointer (some ⟨b, 0, none⟩) else .pointer none) := by
          unfold Hid
          rw [← hq, hiT, if_neg hk]
          split <;> rfl
        clear hgk hq wl wr' hsub hrow hlt ok hk hb r2
        simp only [MT.ptr]
        go_upto_region 2 with fail
        refine wp_region_beh (by kernel_rfl) (by kernel_rfl) ?_
        repeat (go_big_quiet_step (fail))
        refine wpQuiet_nil ?_
        rintro _ ⟨t, rfl⟩
        have HB1 : Hid (Below w.heap.size w t.wd) := HB0.out.trans ((HBR.out.trans (t.ok.mono HBR.out.size)).mono HB0.out.size)
        have hrow := below_keeps t.ok HROW.out (Array.getElem?_eq_some_iff.1 HROW.out).1
        have hlt := (Array.getElem?_eq_some_iff.1 hrow).1
        have r3 := below_keeps t.ok (below_keeps HBR.out R1.out (by have := HS.out; omega)) (by have := HBR.out.size; have := HS.out; omega)
        clear q0 q1 n0 n1
        obtain ⟨q0, q1⟩ := Beh.two r3
        have n0 : ∀ s : Beh t.wd, s.wd.cell? ⟨b, 0, none⟩ = some (.int .u32 (k.x : Int)) := fun s => by rw [cell_of_row _ _ _ _ _ _ (below_keeps s.ok hrow hlt)]; rfl
        have HC : ∀ s : Beh t.wd, Hid (Calls Try.prog 40 #[pv p, .int .u32 (k.x : Int)] s.wd fun e w'' => e = .returned (.bool (hasK p k.x)) ∧ ∃ s' : Beh t.wd, w'' = s'.wd) := fun s => Calls.beh (contains_ok k.x _ HP.out)
        unfold pv at HC
        cases hh : hasK p k.x with
        | true =>
          rw [hh] at HC HRT
          clear hrow hlt r3 hh
          go_upto_region 4 with fail
          refine wp_region_beh (by kernel_rfl) (by kernel_rfl) ?_
          repeat (go_big_quiet_step (first | (go_at_call 40; exact (HC _).out)))
          refine wpQuiet_nil ?_
          rintro _ ⟨t2, rfl⟩
          have HB2 : Hid (Below w.heap.size w t2.wd) := HB1.out.trans (t2.ok.mono HB1.out.size)
          clear q0 q1 n0 HC
          go_wp2_with fail
          go_ret
          exact ⟨by rw [HRT.out]; rfl, HB2.out⟩
        | false =>
          rw [hh] at HC HRT
          clear hrow hlt r3 hh
          go_upto_region 4 with fail
          refine wp_region_beh (by kernel_rfl) (by kernel_rfl) ?_
          repeat (go_big_quiet_step (first | (go_at_call 40; exact (HC _).out)))
          refine wpQuiet_nil ?_
          rintro _ ⟨t2, rfl⟩
          have HB2 : Hid (Below w.heap.size w t2.wd) := HB1.out.trans (t2.ok.mono HB1.out.size)
          clear q0 q1 n0 HC
          go_wp2_with fail
          go_ret
          exact ⟨by rw [HRT.out]; rfl, HB2.out⟩
end Go.Proofs.Ytmnafocmbcgdiab
