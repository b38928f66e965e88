/-
  PoolPlays.
-/
import Derived.Test.YtahoileampdnkaaHI
import Derived.Test.YtahoileampdnkaaMM
namespace Go.Proofs.Ytahoileampdnkaa
open Go.ChangeShapes Go.WideShapes Go.ChangeAt Go.RowKit Ru N Tri
set_option maxHeartbeats 4000000
set_option maxRecDepth 100000

theorem wrap_nat63 {a : Nat} (h : a ≤ 9223372036854775807) : wrap64 (a : Int) = (a : Int) := by unfold wrap64; omega
theorem tdiv_two (a : Nat) : (a : Int).tdiv 2 = ((a / 2 : Nat) : Int) := rfl

theorem plays_walk (q1 q2 : Sp) (v : Value) (S : List Stp) (w : World) (h1 : q1.Ok w) (h2 : q2.Ok w) (hv : SeesO w v S) (hC : ∀ p ∈ S, p.a < 4294967296) (_ : S.length * 32 ≤ 140737488351232) :
    Calls Try.prog 8 #[.agg q1.cells, .agg q2.cells, v] w fun e w' => e = .returned (.bool true) ∧ Below w.heap.size w w' := by
  obtain ⟨x, y, s, lo, hi, kv, L⟩ := q1
  obtain ⟨x2, y2, s2, lo2, hi2, kv2, L2⟩ := q2
  obtain ⟨ak, nk, ck0, hkv, HNK, hk1, hk2⟩ := h1.kv.shape
  obtain ⟨ak2, nk2, ck2, hkv2, HNK2, hk12, hk22⟩ := h2.kv.shape
  simp only at hkv hkv2
  subst hkv hkv2
  obtain ⟨ac, cc0, rfl, hc1, hc2, hsc⟩ := hv
  obtain ⟨ns, HNS⟩ : ∃ ns, Hid (ns = S.length) := ⟨_, rfl⟩
  rw [← HNS.out] at hc1 ⊢
  obtain ⟨qa, HQA⟩ : ∃ qa : Sp, Hid (qa = ⟨x, y, s, lo, hi, .slice ak nk ck0, L⟩) := ⟨_, rfl⟩
  obtain ⟨qb, HQB⟩ : ∃ qb : Sp, Hid (qb = ⟨x2, y2, s2, lo2, hi2, .slice ak2 nk2 ck2, L2⟩) := ⟨_, rfl⟩
  obtain ⟨w1, HW1⟩ : ∃ w1, Hid (w1 = (w.alloc (.cells #[.int .u32 (x : Int), .int .i64 y, .int .i64 s, .int .u32 (lo : Int), .int .u32 (hi : Int), .slice ak nk ck0] 28)).alloc (.cells #[.int .u32 (x2 : Int), .int .i64 y2, .int .i64 s2, .int .u32 (lo2 : Int), .int .u32 (hi2 : Int), .slice ak2 nk2 ck2] 28)) := ⟨_, rfl⟩
  have hb1 : Below w.heap.size w w1 := by rw [HW1.out]; exact ((Below.refl _ _).alloc (Nat.le_refl _) _).alloc (by simp) _
  have r1 : w1.heap[w.heap.size]? = some (.cells #[.int .u32 (x : Int), .int .i64 y, .int .i64 s, .int .u32 (lo : Int), .int .u32 (hi : Int), .slice ak nk ck0] 28 (0, 0)) := by rw [HW1.out, Below.heap_alloc _ _ _ (by simp)]; exact heap_alloc_new w _
  have r2 : w1.heap[w.heap.size + 1]? = some (.cells #[.int .u32 (x2 : Int), .int .i64 y2, .int .i64 s2, .int .u32 (lo2 : Int), .int .u32 (hi2 : Int), .slice ak2 nk2 ck2] 28 (0, 0)) := by
    have h := heap_alloc_new (w.alloc (.cells #[.int .u32 (x : Int), .int .i64 y, .int .i64 s, .int .u32 (lo : Int), .int .u32 (hi : Int), .slice ak nk ck0] 28)) (.cells #[.int .u32 (x2 : Int), .int .i64 y2, .int .i64 s2, .int .u32 (lo2 : Int), .int .u32 (hi2 : Int), .slice ak2 nk2 ck2] 28)
    rw [World.size_alloc] at h
    rw [HW1.out]; exact h
  obtain ⟨sa, HSA⟩ : ∃ sa, Hid (sa = w.heap.size) := ⟨_, rfl⟩
  obtain ⟨sc, HSC⟩ : ∃ sc, Hid (sc = w.heap.size + 1) := ⟨_, rfl⟩
  rw [← HSA.out] at r1
  rw [← HSC.out] at r2
  have HCA : Hid (∀ u : World, Below w1.heap.size w1 u → u.cell? ⟨sa, 0, none⟩ = some (.int .u32 (x : Int)) ∧ u.cell? ⟨sa, 1, none⟩ = some (.int .i64 y) ∧ u.cell? ⟨sa, 2, none⟩ = some (.int .i64 s) ∧ u.cell? ⟨sa, 3, none⟩ = some (.int .u32 (lo : Int)) ∧ u.cell? ⟨sa, 4, none⟩ = some (.int .u32 (hi : Int)) ∧ u.cell? ⟨sa, 5, none⟩ = some (.slice ak nk ck0)) := fun u hu => by
    have hr := below_keeps hu r1 (Array.getElem?_eq_some_iff.1 r1).1
    refine ⟨?_, ?_, ?_, ?_, ?_, ?_⟩ <;> (rw [cell_of_row _ _ _ _ _ _ hr]; rfl)
  have HCB : Hid (∀ u : World, Below w1.heap.size w1 u → u.cell? ⟨sc, 0, none⟩ = some (.int .u32 (x2 : Int)) ∧ u.cell? ⟨sc, 1, none⟩ = some (.int .i64 y2) ∧ u.cell? ⟨sc, 2, none⟩ = some (.int .i64 s2) ∧ u.cell? ⟨sc, 3, none⟩ = some (.int .u32 (lo2 : Int)) ∧ u.cell? ⟨sc, 4, none⟩ = some (.int .u32 (hi2 : Int)) ∧ u.cell? ⟨sc, 5, none⟩ = some (.slice ak2 nk2 ck2)) := fun u hu => by
    have hr := below_keeps hu r2 (Array.getElem?_eq_some_iff.1 r2).1
    refine ⟨?_, ?_, ?_, ?_, ?_, ?_⟩ <;> (rw [cell_of_row _ _ _ _ _ _ hr]; rfl)
  have HB1 := hid hb1
  have HV := hid hsc
  have HCC := hid hC
  have HOA : Hid (∀ u : World, Below w1.heap.size w1 u → Sp.Ok u ⟨x, y, s, lo, hi, .slice ak nk ck0, L⟩) := fun u hu => (h1.below HB1.out).below hu
  have HOB : Hid (∀ u : World, Below w1.heap.size w1 u → Sp.Ok u ⟨x2, y2, s2, lo2, hi2, .slice ak2 nk2 ck2, L2⟩) := fun u hu => (h2.below HB1.out).below hu
  have HOK1 := hid h1
  obtain ⟨ea, HEA⟩ : ∃ ea, Hid (ea = newE x y s lo hi L) := ⟨_, rfl⟩
  obtain ⟨eb, HEB⟩ : ∃ eb, Hid (eb = newE x2 y2 s2 lo2 hi2 L2) := ⟨_, rfl⟩
  have HMA : ∀ u : World, Below w1.heap.size w1 u → Hid (Calls Try.prog 10 #[.agg #[.int .u32 (x : Int), .int .i64 y, .int .i64 s, .int .u32 (lo : Int), .int .u32 (hi : Int), .slice ak nk ck0]] u fun e w' => ∃ pv, e = .returned (.tuple #[.pointer pv, .int .i64 ea]) ∧ Hid (NwP qa u pv w')) := fun u hu => by
    rw [HEA.out, HQA.out]; exact hid ((made_any ⟨x, y, s, lo, hi, .slice ak nk ck0, L⟩ u (HOA.out u hu)).mono fun e w' h => NwP.of (q := ⟨x, y, s, lo, hi, .slice ak nk ck0, L⟩) h)
  have HRA : ∀ u : World, Below w1.heap.size w1 u → Hid (Calls Try.prog 22 #[.agg #[.int .u32 (x : Int), .int .i64 y], .int .i64 s, .int .u32 (lo : Int), .int .u32 (hi : Int), .slice ak nk ck0] u fun e w' => ∃ pv, e = .returned (.tuple #[.pointer pv, .int .i64 ea]) ∧ Hid (NwR qa u pv w')) := fun u hu => by
    have h := HOA.out u hu
    rw [HEA.out, HQA.out]; exact hid ((newR_any x lo hi y s _ L u h.x h.lo h.hi h.kv h.ls).mono fun e w' h => NwR.of (q := ⟨x, y, s, lo, hi, .slice ak nk ck0, L⟩) h)
  have HMB : ∀ u : World, Below w1.heap.size w1 u → Hid (Calls Try.prog 10 #[.agg #[.int .u32 (x2 : Int), .int .i64 y2, .int .i64 s2, .int .u32 (lo2 : Int), .int .u32 (hi2 : Int), .slice ak2 nk2 ck2]] u fun e w' => ∃ pv, e = .returned (.tuple #[.pointer pv, .int .i64 eb]) ∧ Hid (NwP qb u pv w')) := fun u hu => by
    rw [HEB.out, HQB.out]; exact hid ((made_any ⟨x2, y2, s2, lo2, hi2, .slice ak2 nk2 ck2, L2⟩ u (HOB.out u hu)).mono fun e w' h => NwP.of (q := ⟨x2, y2, s2, lo2, hi2, .slice ak2 nk2 ck2, L2⟩) h)
  have HRB : ∀ u : World, Below w1.heap.size w1 u → Hid (Calls Try.prog 22 #[.agg #[.int .u32 (x2 : Int), .int .i64 y2], .int .i64 s2, .int .u32 (lo2 : Int), .int .u32 (hi2 : Int), .slice ak2 nk2 ck2] u fun e w' => ∃ pv, e = .returned (.tuple #[.pointer pv, .int .i64 eb]) ∧ Hid (NwR qb u pv w')) := fun u hu => by
    have h := HOB.out u hu
    rw [HEB.out, HQB.out]; exact hid ((newR_any x2 lo2 hi2 y2 s2 _ L2 u h.x h.lo h.hi h.kv h.ls).mono fun e w' h => NwR.of (q := ⟨x2, y2, s2, lo2, hi2, .slice ak2 nk2 ck2, L2⟩) h)
  have HFA : Hid (qa.x < 4294967296 ∧ qa.lo < 4294967296 ∧ qa.hi < 4294967296 ∧ ∀ p ∈ qa.L, p.1 < 4294967296) := by unfold Hid; rw [HQA.out]; exact ⟨h1.x, h1.lo, h1.hi, h1.ls⟩
  have HFB : Hid (qb.x < 4294967296 ∧ qb.lo < 4294967296 ∧ qb.hi < 4294967296 ∧ ∀ p ∈ qb.L, p.1 < 4294967296) := by unfold Hid; rw [HQB.out]; exact ⟨h2.x, h2.lo, h2.hi, h2.ls⟩
  have HBE := hid (begun_any w1)
  have HBG := hid h1.big
  unfold Sp.cells
  simp only
  unfold maxLen at hc2
  clear h1 h2 hsc hC hb1 r1 r2 hk1 hk2 hk12 hk22
  go_enter Try.func8, Try.ntmps8
  go_upto_region 1 with fail
  rw [← HW1.out, ← HSC.out, ← HSA.out]
  go_wp2_with fail
  refine HBE.out.mono ?_
  rintro _ w2 ⟨rfl, hb2⟩
  have HB2 := hid hb2
  obtain ⟨c0, c1, c2, c3, c4, c5⟩ := HCA.out w2 hb2
  obtain ⟨vi, w3, hap, how, hgr⟩ := append_pref w2 26 w2.heap.size (.slice none 0 0) (.slice ak nk ck0) [] L ⟨rfl, .inl ⟨rfl, rfl⟩⟩ (HOA.out w2 hb2).kv (Nat.le_refl _) (by have h : L.length * 16 ≤ 140737488351232 := HBG.out; simp; omega)
  rw [List.nil_append] at how
  have hb3 : Below w2.heap.size w2 w3 := ⟨hgr.os, hgr.tape, hgr.output, hgr.size, fun k hk => hgr.block k hk (by simp [Value.ownBlock])⟩
  have HAP := hid hap
  have HOW := hid how
  have HB3 : Hid (Below w1.heap.size w1 w3) := HB2.out.trans (hb3.mono HB2.out.size)
  obtain ⟨ai, ci, hvi, hci1, hci2⟩ := how.shape
  obtain ⟨ni, HNI⟩ : ∃ ni, Hid (ni = L.length) := ⟨_, rfl⟩
  rw [← HNI.out] at hvi hci1
  subst hvi
  unfold maxLen at hci2
  have HNA : Hid (Calls Try.prog 21 #[.agg #[.int .u32 (x : Int), .int .i64 y], .int .i64 s, .int .u32 (lo : Int), .int .u32 (hi : Int), .slice ai ni ci] w3 fun e w' => ∃ pv, e = .returned (.tuple #[.pointer pv, .int .i64 ea]) ∧ Hid (NwP qa w3 pv w')) := by
    have h := HOA.out w3 HB3.out
    rw [HEA.out, HQA.out]
    exact (new_any x lo hi y s _ L w3 h.x h.lo h.hi HOW.out.sees h.ls).mono fun e w' h => NwP.of (q := ⟨x, y, s, lo, hi, .slice ak nk ck0, L⟩) h
  clear hb2 HBE hap how hgr hb3 c0 c1 c2 c3 c4
  go_upto_region 5 with (at_builtin; refine wpList_append_run _ rfl _ _ 26 26 rfl _ _ rfl rfl HAP.out ?_)
  clear c5
  obtain ⟨c0, c1, c2, c3, c4, c5⟩ := HCA.out w3 HB3.out
  go_wp2_with fail
  refine HNA.out.mono ?_
  rintro _ w4 ⟨pv, rfl, HP4⟩
  have HB4 : Hid (Below w1.heap.size w1 w4) := HB3.out.trans (HP4.out.be.mono HB3.out.size)
  clear c0 c1 c2 c3 c4 c5 HNA
  obtain ⟨c0, c1, c2, c3, c4, c5⟩ := HCA.out w4 HB4.out
  have HR4 := HRA w4 HB4.out
  go_upto_region 6 with fail
  go_wp2_with fail
  refine HR4.out.mono ?_
  rintro _ w5 ⟨rv, rfl, HP5⟩
  have HB5 : Hid (Below w1.heap.size w1 w5) := HB4.out.trans (HP5.out.be.mono HB4.out.size)
  clear c0 c1 c2 c3 c4 c5 HR4
  obtain ⟨c0, c1, c2, c3, c4, c5⟩ := HCB.out w5 HB5.out
  have HM5 := HMB w5 HB5.out
  go_upto_region 7 with fail
  go_wp2_with fail
  refine HM5.out.mono ?_
  rintro _ w6 ⟨qv, rfl, HP6⟩
  have HB6 : Hid (Below w1.heap.size w1 w6) := HB5.out.trans (HP6.out.be.mono HB5.out.size)
  clear c0 c1 c2 c3 c4 c5 HM5
  obtain ⟨c0, c1, c2, c3, c4, c5⟩ := HCB.out w6 HB6.out
  have HR6 := HRB w6 HB6.out
  go_upto_region 8 with fail
  go_wp2_with fail
  refine HR6.out.mono ?_
  rintro _ w7 ⟨sv, rfl, HP7⟩
  have HB7 : Hid (Below w1.heap.size w1 w7) := HB6.out.trans (HP7.out.be.mono HB6.out.size)
  clear c0 c1 c2 c3 c4 c5 HR6 HMB HRB
  have HST : Hid (St3 w1 qa qb qa pv rv qv sv none none w7) := by
    have h0 : St3 w1 qa qb qa none none none none none none w3 := St3.empty HB3.out
    have h1 : St3 w1 qa qb qa none none none none pv rv w5 := h0.fresh HFA.out.1 HFA.out.2.1 HFA.out.2.2.1 HFA.out.2.2.2 HP4.out HP5.out
    have h2 : St3 w1 qa qa qb pv rv none none none none w5 := by
      obtain ⟨F1, F2, F3, a1, a2, a3, a4, a5, a6, a7, a8⟩ := h1.swap13
      exact ⟨F1, fun _ => False, fun _ => False, a1, .inl ⟨rfl, rfl, fun _ h => h⟩, .inl ⟨rfl, rfl, fun _ h => h⟩, fun _ _ h => h, fun _ _ h => h, fun _ h => h.elim, fun k hk => a7 k (by rcases hk with h | h | h; exact .inl h; exact h.elim; exact h.elim), a8⟩
    have h3 : St3 w1 qa qa qb pv rv none none qv sv w7 := h2.fresh HFB.out.1 HFB.out.2.1 HFB.out.2.2.1 HFB.out.2.2.2 HP6.out HP7.out
    obtain ⟨F1, F2, F3, a1, a2, a3, a4, a5, a6, a7, a8⟩ := h3
    exact ⟨F1, F3, fun _ => False, a1, a3, .inl ⟨rfl, rfl, fun _ h => h⟩, a5, fun _ _ h => h, fun _ _ h => h, fun k hk => a7 k (by rcases hk with h | h | h; exact .inl h; exact .inr (.inr h); exact h.elim), a8⟩
  have HRW : Hid (∀ j, j < ni → ∃ (gi : Nat) (cs : Array Value), ai = some ⟨gi, 0, none⟩ ∧ w1.heap.size ≤ gi ∧ w7.heap[gi]? = some (.cells cs 25 (0, 0)) ∧ ni * 2 ≤ cs.size) := fun j hj => by
    have hb37 : Below w3.heap.size w3 w7 := by
      have a := HP4.out.be
      have b := a.trans (HP5.out.be.mono a.size)
      have c := b.trans (HP6.out.be.mono b.size)
      exact c.trans (HP7.out.be.mono c.size)
    rcases (HOW.out.below hb37).2 with ⟨_, h0⟩ | ⟨g, cap, cur, h0, hbb, hg, h3, h4, h5, h6⟩
    · have := HNI.out; omega
    · simp only [Value.slice.injEq] at h0
      obtain ⟨rfl, -, rfl⟩ := h0
      exact ⟨g, _, rfl, Nat.le_trans HB2.out.size hbb, hg, by have := HNI.out; simp at *; omega⟩
  clear HP4 HP5 HP6 HP7 HAP HB4 HB5 HB6
  go_upto_region 9 with fail
  go_cut [95] from 74 (fun c wx => c = .bool false ∧ wx = w7)
  case first =>
    obtain ⟨n1, n2, -⟩ := HST.out.nils
    cases pv with
    | none =>
      obtain rfl := n1.1 rfl
      cases qv with
      | none =>
        obtain rfl := n2.1 rfl
        go_wp2_with fail
        go_meet
        exact ⟨rfl, rfl⟩
      | some qq =>
        cases sv with
        | none => exact absurd (n2.2 rfl) (by simp)
        | some ss =>
          go_wp2_with fail
          go_meet
          exact ⟨rfl, rfl⟩
    | some pp =>
      cases rv with
      | none => exact absurd (n1.2 rfl) (by simp)
      | some rr =>
        cases qv with
        | none =>
          obtain rfl := n2.1 rfl
          go_wp2_with fail
          go_meet
          exact ⟨rfl, rfl⟩
        | some qq =>
          cases sv with
          | none => exact absurd (n2.2 rfl) (by simp)
          | some ss =>
            go_wp2_with fail
            go_meet
            exact ⟨rfl, rfl⟩
  case rest =>
    obtain ⟨rfl, hwc⟩ := hcut
    subst hwc
    go_upto_region 12 with fail
    go_loopw [17] (fun i wr => ∃ j : Nat, i = .int .i64 (j : Int) ∧ j ≤ ni ∧ Hid (St3 w1 qa qb qa pv rv qv sv none none wr) ∧ Hid (∀ j, j < ni → ∃ (gi : Nat) (cs : Array Value), ai = some ⟨gi, 0, none⟩ ∧ w1.heap.size ≤ gi ∧ wr.heap[gi]? = some (.cells cs 25 (0, 0)) ∧ ni * 2 ≤ cs.size)) (fun i _ => ni - (intOf i).toNat)
    case atStart => exact ⟨0, rfl, Nat.zero_le _, HST, HRW⟩
    case round =>
      clear HST HRW
      obtain ⟨j, rfl, hj, HST, HRW⟩ := hrel
      by_cases hjn : j < ni
      · obtain ⟨gi, cs, hai, hg0, hgi, hsz⟩ := HRW.out j hjn
        subst hai
        have e0 : j * 2 < cs.size := by omega
        have e1 : j * 2 + 1 < cs.size := by omega
        have d0 : wr.cell? ⟨gi, j * 2, none⟩ = some cs[j * 2] := by rw [cell_of_row _ _ _ _ _ _ hgi]; exact Array.getElem?_eq_getElem e0
        have d1 : wr.cell? ⟨gi, j * 2 + 1, none⟩ = some cs[j * 2 + 1] := by rw [cell_of_row _ _ _ _ _ _ hgi]; exact Array.getElem?_eq_getElem e1
        have f0 : wr.frozen? ⟨gi, j * 2, none⟩ = false := frozen_of_row _ _ _ _ _ hgi
        have f1 : wr.frozen? ⟨gi, j * 2 + 1, none⟩ = false := frozen_of_row _ _ _ _ _ hgi
        have hkk : Keeps (fun k => k = gi) wr ((wr.setCell ⟨gi, j * 2, none⟩ (.int .u32 1)).setCell ⟨gi, j * 2 + 1, none⟩ (.int .i64 77)) := Keeps.set (S := fun k => k = gi) (Keeps.set (S := fun k => k = gi) (Keeps.refl _ _) ⟨gi, _, none⟩ rfl _) ⟨gi, _, none⟩ rfl _
        have HST2 := hid (HST.out.write hgi hg0 hkk)
        have hrw2 := set_cells (i := j * 2 + 1) (v := .int .i64 77) (set_cells (i := j * 2) (v := .int .u32 1) hgi)
        have HRW2 : Hid (∀ j', j' < ni → ∃ (g : Nat) (cs : Array Value), some (⟨gi, 0, none⟩ : Addr) = some ⟨g, 0, none⟩ ∧ w1.heap.size ≤ g ∧ ((wr.setCell ⟨gi, j * 2, none⟩ (.int .u32 1)).setCell ⟨gi, j * 2 + 1, none⟩ (.int .i64 77)).heap[g]? = some (.cells cs 25 (0, 0)) ∧ ni * 2 ≤ cs.size) := fun _ _ => ⟨gi, _, rfl, hg0, hrw2, by simpa using hsz⟩
        have b1 : (j : Int) < (ni : Int) := int_lt hjn
        generalize cs[j * 2] = z0 at d0
        generalize cs[j * 2 + 1] = z1 at d1
        clear hkk hrw2 hgi hsz e0 e1 hg0
        go_wp2_with fail
        go_roundw
        case rel => exact ⟨j + 1, by go_num, hjn, HST2, HRW2⟩
        case measure => simp [intOf]; omega
      · have b1 : ¬ (j : Int) < (ni : Int) := int_nlt hjn
        clear HRW
        go_upto_region 18 with fail
        go_loopw [7, 18, 19, 20] (fun ok xv yv i wr => ∃ (j : Nat) (xa ya : Option Addr), ok = .bool true ∧ xv = .pointer xa ∧ yv = .pointer ya ∧ i = .int .i64 (j : Int) ∧ j ≤ ns ∧ Hid (St3 w1 qa qb qa pv rv qv sv xa ya wr)) (fun _ _ _ i _ => ns - (intOf i).toNat)
        case atStart => exact ⟨0, none, none, rfl, rfl, rfl, rfl, Nat.zero_le _, HST⟩
        case round =>
          clear HST
          obtain ⟨j, xa, ya, rfl, rfl, rfl, rfl, hj, HST⟩ := hrel
          by_cases hjn : j < ns
          · skip
            have hjl : j < S.length := by have := HNS.out; omega
            obtain ⟨g, off, e, hg, d0, d1, d2, d3⟩ := HV.out j hjl
            have hbw : Below w.heap.size w wr := HB1.out.trans (HST.out.be.mono HB1.out.size)
            rw [← hbw.cell (p := ⟨g, _, none⟩) hg] at d0 d1 d2 d3
            have hoa := HCC.out S[j] (List.getElem_mem hjl)
            generalize S[j] = o at *
            obtain ⟨okk, oo, oa, ol⟩ := o
            simp only at d0 d1 d2 d3 hoa
            have HOAA := hid hoa
            subst e
            obtain ⟨ob, HOBB⟩ : ∃ ob, Hid (ob = wr.heap.size) := ⟨_, rfl⟩
            obtain ⟨w4, HW4⟩ : ∃ w4, Hid (w4 = wr.alloc (.cells #[.int .i64 okk, .int .i64 oo, .int .u32 (oa : Int), .int .i64 ol] 46)) := ⟨_, rfl⟩
            have hb4 : Below wr.heap.size wr w4 := by rw [HW4.out]; exact (Below.refl _ _).alloc (Nat.le_refl _) _
            have RO4 : Hid (w4.heap[ob]? = some (.cells #[.int .i64 okk, .int .i64 oo, .int .u32 (oa : Int), .int .i64 ol] 46 (0, 0))) := by unfold Hid; rw [HW4.out, HOBB.out]; exact heap_alloc_new wr _
            have HST4 := hid (HST.out.below hb4)
            have HOC : Hid (∀ u : World, u.heap[ob]? = some (.cells #[.int .i64 okk, .int .i64 oo, .int .u32 (oa : Int), .int .i64 ol] 46 (0, 0)) → u.cell? ⟨ob, 0, none⟩ = some (.int .i64 okk) ∧ u.cell? ⟨ob, 1, none⟩ = some (.int .i64 oo) ∧ u.cell? ⟨ob, 2, none⟩ = some (.int .u32 (oa : Int)) ∧ u.cell? ⟨ob, 3, none⟩ = some (.int .i64 ol)) := fun u hr => by
              refine ⟨?_, ?_, ?_, ?_⟩ <;> (rw [cell_of_row _ _ _ _ _ _ hr]; rfl)
            obtain ⟨h2, HH2⟩ : ∃ h2, Hid (h2 = ns / 2) := ⟨_, hid rfl⟩
            have t2 : (ns : Int).tdiv 2 = (h2 : Int) := by rw [HH2.out]; exact tdiv_two ns
            have hh2 : h2 ≤ 9223372036854775807 := by rw [HH2.out]; omega
            have t3 : wrap64 (h2 : Int) = (h2 : Int) := wrap_nat63 hh2
            have b2 : (j : Int) < (ns : Int) := int_lt hjn
            clear hh2 hg hbw hoa hb4 hjl HST
            go_upto_region 21 with fail
            rw [← HW4.out, ← HOBB.out]
            clear d0 d1 d2 d3
            obtain ⟨-, f1, -, -⟩ := HOC.out w4 RO4.out
            by_cases hon : oo = 0
            · subst hon
              cases rv with
              | none =>
                skip
                as_aux_lemma =>
                  have HSA1 := HST4
                  have ROA := RO4
                  as_aux_lemma =>
                    obtain ⟨c0, c1, c2, c3, c4, c5⟩ := HCA.out w4 HSA1.out.be
                    have HMAA := HMA w4 HSA1.out.be
                    go_upto_region 25 with fail
                    go_wp2_with fail
                    refine HMAA.out.mono ?_
                    rintro _ wb ⟨pz, rfl, HPZ⟩
                    have HSB1 := hid (HSA1.out.below HPZ.out.be)
                    have ROB := hid (below_keeps HPZ.out.be ROA.out (Array.getElem?_eq_some_iff.1 ROA.out).1)
                    clear c0 c1 c2 c3 c4 c5 HMAA
                    by_cases hhalf : j = h2
                    · have g5 : ((j : Int) == (h2 : Int)) = true := by simp [hhalf]
                      have g6 : (j : Int) = (h2 : Int) := by rw [hhalf]
                      obtain ⟨c0, c1, c2, c3, c4, c5⟩ := HCA.out wb HSB1.out.be
                      have HMB1 := HMA wb HSB1.out.be
                      go_upto_region 27 with fail
                      clear g5 g6 t2 t3
                      go_wp2_with fail
                      refine HMB1.out.mono ?_
                      rintro _ we ⟨xz, rfl, HXZ⟩
                      have HBE1 : Hid (Below w1.heap.size w1 we) := HSB1.out.be.trans (HXZ.out.be.mono HSB1.out.be.size)
                      clear c0 c1 c2 c3 c4 c5 HMB1
                      obtain ⟨c0, c1, c2, c3, c4, c5⟩ := HCA.out we HBE1.out
                      have HRE := HRA we HBE1.out
                      go_upto_region 28 with fail
                      go_wp2_with fail
                      refine HRE.out.mono ?_
                      rintro _ wf ⟨yz, rfl, HYZ⟩
                      have HSC3 := hid (HSB1.out.fresh HFA.out.1 HFA.out.2.1 HFA.out.2.2.1 HFA.out.2.2.2 HXZ.out HYZ.out)
                      have ROC := hid (below_keeps HYZ.out.be (below_keeps HXZ.out.be ROB.out (Array.getElem?_eq_some_iff.1 ROB.out).1) (Array.getElem?_eq_some_iff.1 (below_keeps HXZ.out.be ROB.out (Array.getElem?_eq_some_iff.1 ROB.out).1)).1)
                      clear c0 c1 c2 c3 c4 c5 HRE
                      obtain ⟨-, -, n3⟩ := HSC3.out.nils
                      cases xz with
                      | none =>
                        obtain rfl := n3.1 rfl
                        go_wp2_with fail
                        go_roundw
                        case rel => exact ⟨j + 1, none, none, rfl, rfl, rfl, by go_num, hjn, HSC3⟩
                        case measure => simp [intOf]; omega
                      | some xx =>
                        cases yz with
                        | none => exact absurd (n3.2 rfl) (by simp)
                        | some yy =>
                          obtain ⟨xb, yb, ex, ey, hcall⟩ := HSC3.out.swap13.play (by simp) ⟨okk, 0, oa, ol⟩ HOAA.out
                          simp only [Option.some.injEq] at ex ey
                          subst ex ey
                          have HCALL := hid hcall
                          unfold Stp.cells at HCALL
                          simp only at HCALL
                          obtain ⟨g0, g1, g2, g3⟩ := HOC.out wf ROC.out
                          clear hcall
                          go_wp2_with fail
                          refine HCALL.out.mono ?_
                          rintro _ wd ⟨rfl, HD⟩
                          have HSD := hid HD.out.1.swap13
                          clear g0 g1 g2 g3 HCALL
                          go_wp2_with fail
                          go_roundw
                          case rel => exact ⟨j + 1, _, _, rfl, rfl, rfl, by go_num, hjn, HSD⟩
                          case measure => simp [intOf]; omega
                    · have g6 : ¬ (j : Int) = (h2 : Int) := fun e => hhalf (Int.ofNat.inj e)
                      have g5 : ((j : Int) == (h2 : Int)) = false := by simp only [beq_eq_false_iff_ne]; exact g6
                      obtain ⟨-, -, n3⟩ := HSB1.out.nils
                      go_upto_region 30 with fail
                      clear g5 g6 t2 t3
                      cases ya with
                      | none =>
                        go_wp2_with fail
                        go_roundw
                        case rel => exact ⟨j + 1, xa, none, rfl, rfl, rfl, by go_num, hjn, HSB1⟩
                        case measure => simp [intOf]; omega
                      | some yy =>
                        obtain ⟨xb, yb, ex, ey, hcall⟩ := HSB1.out.swap13.play (by simp) ⟨okk, 0, oa, ol⟩ HOAA.out
                        simp only [Option.some.injEq] at ey
                        subst ex ey
                        have HCALL := hid hcall
                        unfold Stp.cells at HCALL
                        simp only at HCALL
                        obtain ⟨g0, g1, g2, g3⟩ := HOC.out wb ROB.out
                        clear hcall
                        go_wp2_with fail
                        refine HCALL.out.mono ?_
                        rintro _ wd ⟨rfl, HD⟩
                        have HSD := hid HD.out.1.swap13
                        clear g0 g1 g2 g3 HCALL
                        go_wp2_with fail
                        go_roundw
                        case rel => exact ⟨j + 1, _, _, rfl, rfl, rfl, by go_num, hjn, HSD⟩
                        case measure => simp [intOf]; omega
              | some rr =>
                skip
                as_aux_lemma =>
                  obtain ⟨pb, rb, ex, ey, hcall⟩ := HST4.out.play (by simp) ⟨okk, 0, oa, ol⟩ HOAA.out
                  simp only [Option.some.injEq] at ey
                  subst ex ey
                  have HCALL := hid hcall
                  unfold Stp.cells at HCALL
                  simp only at HCALL
                  obtain ⟨g0, g1, g2, g3⟩ := HOC.out w4 RO4.out
                  clear hcall
                  go_wp2_with fail
                  refine HCALL.out.mono ?_
                  rintro _ wa ⟨rfl, HD⟩
                  have HSA1 := hid HD.out.1
                  have ROA := hid (HD.out.2 _ _ RO4.out)
                  clear g0 g1 g2 g3 HCALL
                  as_aux_lemma =>
                    obtain ⟨c0, c1, c2, c3, c4, c5⟩ := HCA.out wa HSA1.out.be
                    have HMAA := HMA wa HSA1.out.be
                    go_upto_region 25 with fail
                    go_wp2_with fail
                    refine HMAA.out.mono ?_
                    rintro _ wb ⟨pz, rfl, HPZ⟩
                    have HSB1 := hid (HSA1.out.below HPZ.out.be)
                    have ROB := hid (below_keeps HPZ.out.be ROA.out (Array.getElem?_eq_some_iff.1 ROA.out).1)
                    clear c0 c1 c2 c3 c4 c5 HMAA
                    by_cases hhalf : j = h2
                    · have g5 : ((j : Int) == (h2 : Int)) = true := by simp [hhalf]
                      have g6 : (j : Int) = (h2 : Int) := by rw [hhalf]
                      obtain ⟨c0, c1, c2, c3, c4, c5⟩ := HCA.out wb HSB1.out.be
                      have HMB1 := HMA wb HSB1.out.be
                      go_upto_region 27 with fail
                      clear g5 g6 t2 t3
                      go_wp2_with fail
                      refine HMB1.out.mono ?_
                      rintro _ we ⟨xz, rfl, HXZ⟩
                      have HBE1 : Hid (Below w1.heap.size w1 we) := HSB1.out.be.trans (HXZ.out.be.mono HSB1.out.be.size)
                      clear c0 c1 c2 c3 c4 c5 HMB1
                      obtain ⟨c0, c1, c2, c3, c4, c5⟩ := HCA.out we HBE1.out
                      have HRE := HRA we HBE1.out
                      go_upto_region 28 with fail
                      go_wp2_with fail
                      refine HRE.out.mono ?_
                      rintro _ wf ⟨yz, rfl, HYZ⟩
                      have HSC3 := hid (HSB1.out.fresh HFA.out.1 HFA.out.2.1 HFA.out.2.2.1 HFA.out.2.2.2 HXZ.out HYZ.out)
                      have ROC := hid (below_keeps HYZ.out.be (below_keeps HXZ.out.be ROB.out (Array.getElem?_eq_some_iff.1 ROB.out).1) (Array.getElem?_eq_some_iff.1 (below_keeps HXZ.out.be ROB.out (Array.getElem?_eq_some_iff.1 ROB.out).1)).1)
                      clear c0 c1 c2 c3 c4 c5 HRE
                      obtain ⟨-, -, n3⟩ := HSC3.out.nils
                      cases xz with
                      | none =>
                        obtain rfl := n3.1 rfl
                        go_wp2_with fail
                        go_roundw
                        case rel => exact ⟨j + 1, none, none, rfl, rfl, rfl, by go_num, hjn, HSC3⟩
                        case measure => simp [intOf]; omega
                      | some xx =>
                        cases yz with
                        | none => exact absurd (n3.2 rfl) (by simp)
                        | some yy =>
                          obtain ⟨xb, yb, ex, ey, hcall⟩ := HSC3.out.swap13.play (by simp) ⟨okk, 0, oa, ol⟩ HOAA.out
                          simp only [Option.some.injEq] at ex ey
                          subst ex ey
                          have HCALL := hid hcall
                          unfold Stp.cells at HCALL
                          simp only at HCALL
                          obtain ⟨g0, g1, g2, g3⟩ := HOC.out wf ROC.out
                          clear hcall
                          go_wp2_with fail
                          refine HCALL.out.mono ?_
                          rintro _ wd ⟨rfl, HD⟩
                          have HSD := hid HD.out.1.swap13
                          clear g0 g1 g2 g3 HCALL
                          go_wp2_with fail
                          go_roundw
                          case rel => exact ⟨j + 1, _, _, rfl, rfl, rfl, by go_num, hjn, HSD⟩
                          case measure => simp [intOf]; omega
                    · have g6 : ¬ (j : Int) = (h2 : Int) := fun e => hhalf (Int.ofNat.inj e)
                      have g5 : ((j : Int) == (h2 : Int)) = false := by simp only [beq_eq_false_iff_ne]; exact g6
                      obtain ⟨-, -, n3⟩ := HSB1.out.nils
                      go_upto_region 30 with fail
                      clear g5 g6 t2 t3
                      cases ya with
                      | none =>
                        go_wp2_with fail
                        go_roundw
                        case rel => exact ⟨j + 1, xa, none, rfl, rfl, rfl, by go_num, hjn, HSB1⟩
                        case measure => simp [intOf]; omega
                      | some yy =>
                        obtain ⟨xb, yb, ex, ey, hcall⟩ := HSB1.out.swap13.play (by simp) ⟨okk, 0, oa, ol⟩ HOAA.out
                        simp only [Option.some.injEq] at ey
                        subst ex ey
                        have HCALL := hid hcall
                        unfold Stp.cells at HCALL
                        simp only at HCALL
                        obtain ⟨g0, g1, g2, g3⟩ := HOC.out wb ROB.out
                        clear hcall
                        go_wp2_with fail
                        refine HCALL.out.mono ?_
                        rintro _ wd ⟨rfl, HD⟩
                        have HSD := hid HD.out.1.swap13
                        clear g0 g1 g2 g3 HCALL
                        go_wp2_with fail
                        go_roundw
                        case rel => exact ⟨j + 1, _, _, rfl, rfl, rfl, by go_num, hjn, HSD⟩
                        case measure => simp [intOf]; omega
            · have o1 : (oo == 0) = false := by simp [hon]
              have o2 : (oo != 0) = true := by simp [hon]
              cases sv with
              | none =>
                skip
                as_aux_lemma =>
                  have HSA1 := HST4
                  have ROA := RO4
                  as_aux_lemma =>
                    obtain ⟨c0, c1, c2, c3, c4, c5⟩ := HCA.out w4 HSA1.out.be
                    have HMAA := HMA w4 HSA1.out.be
                    go_upto_region 25 with fail
                    go_wp2_with fail
                    refine HMAA.out.mono ?_
                    rintro _ wb ⟨pz, rfl, HPZ⟩
                    have HSB1 := hid (HSA1.out.below HPZ.out.be)
                    have ROB := hid (below_keeps HPZ.out.be ROA.out (Array.getElem?_eq_some_iff.1 ROA.out).1)
                    clear c0 c1 c2 c3 c4 c5 HMAA
                    by_cases hhalf : j = h2
                    · have g5 : ((j : Int) == (h2 : Int)) = true := by simp [hhalf]
                      have g6 : (j : Int) = (h2 : Int) := by rw [hhalf]
                      obtain ⟨c0, c1, c2, c3, c4, c5⟩ := HCA.out wb HSB1.out.be
                      have HMB1 := HMA wb HSB1.out.be
                      go_upto_region 27 with fail
                      clear g5 g6 t2 t3
                      go_wp2_with fail
                      refine HMB1.out.mono ?_
                      rintro _ we ⟨xz, rfl, HXZ⟩
                      have HBE1 : Hid (Below w1.heap.size w1 we) := HSB1.out.be.trans (HXZ.out.be.mono HSB1.out.be.size)
                      clear c0 c1 c2 c3 c4 c5 HMB1
                      obtain ⟨c0, c1, c2, c3, c4, c5⟩ := HCA.out we HBE1.out
                      have HRE := HRA we HBE1.out
                      go_upto_region 28 with fail
                      go_wp2_with fail
                      refine HRE.out.mono ?_
                      rintro _ wf ⟨yz, rfl, HYZ⟩
                      have HSC3 := hid (HSB1.out.fresh HFA.out.1 HFA.out.2.1 HFA.out.2.2.1 HFA.out.2.2.2 HXZ.out HYZ.out)
                      have ROC := hid (below_keeps HYZ.out.be (below_keeps HXZ.out.be ROB.out (Array.getElem?_eq_some_iff.1 ROB.out).1) (Array.getElem?_eq_some_iff.1 (below_keeps HXZ.out.be ROB.out (Array.getElem?_eq_some_iff.1 ROB.out).1)).1)
                      clear c0 c1 c2 c3 c4 c5 HRE
                      obtain ⟨-, -, n3⟩ := HSC3.out.nils
                      cases xz with
                      | none =>
                        obtain rfl := n3.1 rfl
                        go_wp2_with fail
                        go_roundw
                        case rel => exact ⟨j + 1, none, none, rfl, rfl, rfl, by go_num, hjn, HSC3⟩
                        case measure => simp [intOf]; omega
                      | some xx =>
                        cases yz with
                        | none => exact absurd (n3.2 rfl) (by simp)
                        | some yy =>
                          obtain ⟨xb, yb, ex, ey, hcall⟩ := HSC3.out.swap13.play (by simp) ⟨okk, oo, oa, ol⟩ HOAA.out
                          simp only [Option.some.injEq] at ex ey
                          subst ex ey
                          have HCALL := hid hcall
                          unfold Stp.cells at HCALL
                          simp only at HCALL
                          obtain ⟨g0, g1, g2, g3⟩ := HOC.out wf ROC.out
                          clear hcall
                          go_wp2_with fail
                          refine HCALL.out.mono ?_
                          rintro _ wd ⟨rfl, HD⟩
                          have HSD := hid HD.out.1.swap13
                          clear g0 g1 g2 g3 HCALL
                          go_wp2_with fail
                          go_roundw
                          case rel => exact ⟨j + 1, _, _, rfl, rfl, rfl, by go_num, hjn, HSD⟩
                          case measure => simp [intOf]; omega
                    · have g6 : ¬ (j : Int) = (h2 : Int) := fun e => hhalf (Int.ofNat.inj e)
                      have g5 : ((j : Int) == (h2 : Int)) = false := by simp only [beq_eq_false_iff_ne]; exact g6
                      obtain ⟨-, -, n3⟩ := HSB1.out.nils
                      go_upto_region 30 with fail
                      clear g5 g6 t2 t3
                      cases ya with
                      | none =>
                        go_wp2_with fail
                        go_roundw
                        case rel => exact ⟨j + 1, xa, none, rfl, rfl, rfl, by go_num, hjn, HSB1⟩
                        case measure => simp [intOf]; omega
                      | some yy =>
                        obtain ⟨xb, yb, ex, ey, hcall⟩ := HSB1.out.swap13.play (by simp) ⟨okk, oo, oa, ol⟩ HOAA.out
                        simp only [Option.some.injEq] at ey
                        subst ex ey
                        have HCALL := hid hcall
                        unfold Stp.cells at HCALL
                        simp only at HCALL
                        obtain ⟨g0, g1, g2, g3⟩ := HOC.out wb ROB.out
                        clear hcall
                        go_wp2_with fail
                        refine HCALL.out.mono ?_
                        rintro _ wd ⟨rfl, HD⟩
                        have HSD := hid HD.out.1.swap13
                        clear g0 g1 g2 g3 HCALL
                        go_wp2_with fail
                        go_roundw
                        case rel => exact ⟨j + 1, _, _, rfl, rfl, rfl, by go_num, hjn, HSD⟩
                        case measure => simp [intOf]; omega
              | some ss =>
                skip
                as_aux_lemma =>
                  obtain ⟨pb, rb, ex, ey, hcall⟩ := HST4.out.swap12.play (by simp) ⟨okk, oo, oa, ol⟩ HOAA.out
                  simp only [Option.some.injEq] at ey
                  subst ex ey
                  have HCALL := hid hcall
                  unfold Stp.cells at HCALL
                  simp only at HCALL
                  obtain ⟨g0, g1, g2, g3⟩ := HOC.out w4 RO4.out
                  clear hcall
                  go_wp2_with fail
                  refine HCALL.out.mono ?_
                  rintro _ wa ⟨rfl, HD⟩
                  have HSA1 := hid HD.out.1.swap12
                  have ROA := hid (HD.out.2 _ _ RO4.out)
                  clear g0 g1 g2 g3 HCALL
                  as_aux_lemma =>
                    obtain ⟨c0, c1, c2, c3, c4, c5⟩ := HCA.out wa HSA1.out.be
                    have HMAA := HMA wa HSA1.out.be
                    go_upto_region 25 with fail
                    go_wp2_with fail
                    refine HMAA.out.mono ?_
                    rintro _ wb ⟨pz, rfl, HPZ⟩
                    have HSB1 := hid (HSA1.out.below HPZ.out.be)
                    have ROB := hid (below_keeps HPZ.out.be ROA.out (Array.getElem?_eq_some_iff.1 ROA.out).1)
                    clear c0 c1 c2 c3 c4 c5 HMAA
                    by_cases hhalf : j = h2
                    · have g5 : ((j : Int) == (h2 : Int)) = true := by simp [hhalf]
                      have g6 : (j : Int) = (h2 : Int) := by rw [hhalf]
                      obtain ⟨c0, c1, c2, c3, c4, c5⟩ := HCA.out wb HSB1.out.be
                      have HMB1 := HMA wb HSB1.out.be
                      go_upto_region 27 with fail
                      clear g5 g6 t2 t3
                      go_wp2_with fail
                      refine HMB1.out.mono ?_
                      rintro _ we ⟨xz, rfl, HXZ⟩
                      have HBE1 : Hid (Below w1.heap.size w1 we) := HSB1.out.be.trans (HXZ.out.be.mono HSB1.out.be.size)
                      clear c0 c1 c2 c3 c4 c5 HMB1
                      obtain ⟨c0, c1, c2, c3, c4, c5⟩ := HCA.out we HBE1.out
                      have HRE := HRA we HBE1.out
                      go_upto_region 28 with fail
                      go_wp2_with fail
                      refine HRE.out.mono ?_
                      rintro _ wf ⟨yz, rfl, HYZ⟩
                      have HSC3 := hid (HSB1.out.fresh HFA.out.1 HFA.out.2.1 HFA.out.2.2.1 HFA.out.2.2.2 HXZ.out HYZ.out)
                      have ROC := hid (below_keeps HYZ.out.be (below_keeps HXZ.out.be ROB.out (Array.getElem?_eq_some_iff.1 ROB.out).1) (Array.getElem?_eq_some_iff.1 (below_keeps HXZ.out.be ROB.out (Array.getElem?_eq_some_iff.1 ROB.out).1)).1)
                      clear c0 c1 c2 c3 c4 c5 HRE
                      obtain ⟨-, -, n3⟩ := HSC3.out.nils
                      cases xz with
                      | none =>
                        obtain rfl := n3.1 rfl
                        go_wp2_with fail
                        go_roundw
                        case rel => exact ⟨j + 1, none, none, rfl, rfl, rfl, by go_num, hjn, HSC3⟩
                        case measure => simp [intOf]; omega
                      | some xx =>
                        cases yz with
                        | none => exact absurd (n3.2 rfl) (by simp)
                        | some yy =>
                          obtain ⟨xb, yb, ex, ey, hcall⟩ := HSC3.out.swap13.play (by simp) ⟨okk, oo, oa, ol⟩ HOAA.out
                          simp only [Option.some.injEq] at ex ey
                          subst ex ey
                          have HCALL := hid hcall
                          unfold Stp.cells at HCALL
                          simp only at HCALL
                          obtain ⟨g0, g1, g2, g3⟩ := HOC.out wf ROC.out
                          clear hcall
                          go_wp2_with fail
                          refine HCALL.out.mono ?_
                          rintro _ wd ⟨rfl, HD⟩
                          have HSD := hid HD.out.1.swap13
                          clear g0 g1 g2 g3 HCALL
                          go_wp2_with fail
                          go_roundw
                          case rel => exact ⟨j + 1, _, _, rfl, rfl, rfl, by go_num, hjn, HSD⟩
                          case measure => simp [intOf]; omega
                    · have g6 : ¬ (j : Int) = (h2 : Int) := fun e => hhalf (Int.ofNat.inj e)
                      have g5 : ((j : Int) == (h2 : Int)) = false := by simp only [beq_eq_false_iff_ne]; exact g6
                      obtain ⟨-, -, n3⟩ := HSB1.out.nils
                      go_upto_region 30 with fail
                      clear g5 g6 t2 t3
                      cases ya with
                      | none =>
                        go_wp2_with fail
                        go_roundw
                        case rel => exact ⟨j + 1, xa, none, rfl, rfl, rfl, by go_num, hjn, HSB1⟩
                        case measure => simp [intOf]; omega
                      | some yy =>
                        obtain ⟨xb, yb, ex, ey, hcall⟩ := HSB1.out.swap13.play (by simp) ⟨okk, oo, oa, ol⟩ HOAA.out
                        simp only [Option.some.injEq] at ey
                        subst ex ey
                        have HCALL := hid hcall
                        unfold Stp.cells at HCALL
                        simp only at HCALL
                        obtain ⟨g0, g1, g2, g3⟩ := HOC.out wb ROB.out
                        clear hcall
                        go_wp2_with fail
                        refine HCALL.out.mono ?_
                        rintro _ wd ⟨rfl, HD⟩
                        have HSD := hid HD.out.1.swap13
                        clear g0 g1 g2 g3 HCALL
                        go_wp2_with fail
                        go_roundw
                        case rel => exact ⟨j + 1, _, _, rfl, rfl, rfl, by go_num, hjn, HSD⟩
                        case measure => simp [intOf]; omega
          · have b2 : ¬ (j : Int) < (ns : Int) := int_nlt hjn
            have HBF : Hid (Below w.heap.size w wr) := HB1.out.trans (HST.out.be.mono HB1.out.size)
            go_wp2_with fail
            go_ret
            exact ⟨rfl, HBF.out⟩
end Go.Proofs.Ytahoileampdnkaa
