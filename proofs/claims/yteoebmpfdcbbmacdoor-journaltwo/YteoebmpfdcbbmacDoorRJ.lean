/-
  The reference's Crash.
-/
import Derived.Test.YteoebmpfdcbbmacDoorRI
namespace Go.Proofs.YteoebmpfdcbbmacDoor
open Go.ChangeShapes Go.WideShapes Go.ChangeAt Go.RowKit Jn N
set_option maxHeartbeats 16000000
set_option maxRecDepth 100000

def dkRow (xa xb : Value) : Obj := .cells #[xa, xb] 24 (0, 0)
/-- A disk that is being made. -/
structure CrR (u wr : World) (rb db : Nat) (xa xb : Value) (D : Dk) : Prop where
  be : Below u.heap.size u wr
  rbl : u.heap.size ≤ rb
  dbl : u.heap.size ≤ db
  ne : rb ≠ db
  rrow : wr.heap[rb]? = some (dkRow (.slice none 0 0) (.slice none 0 0))
  drow : wr.heap[db]? = some (dkRow xa xb)
  a : OwnB wr u.heap.size xa D.1
  b : OwnB wr u.heap.size xb D.2
theorem CrR.below {u wr wr' : World} {rb db : Nat} {xa xb : Value} {D : Dk} (h : CrR u wr rb db xa xb D) (hb : Below wr.heap.size wr wr') : CrR u wr' rb db xa xb D :=
  ⟨h.be.trans (hb.mono h.be.size), h.rbl, h.dbl, h.ne, below_keeps hb h.rrow (Array.getElem?_eq_some_iff.1 h.rrow).1, below_keeps hb h.drow (Array.getElem?_eq_some_iff.1 h.drow).1, h.a.below hb, h.b.below hb⟩
theorem CrR.keepO {u wr wr' : World} {rb db : Nat} {xa xb x : Value} {D : Dk} {L : List Nat} (h : CrR u wr rb db xa xb D) (hx : OwnB wr u.heap.size x L) (hk : Keeps (At1 db) wr wr') : OwnB wr' u.heap.size x L := by
  have hr := h.drow
  unfold dkRow at hr
  exact hx.keeps hk (fun k hk' e => row_ne hx hr (by decide) (by unfold At1 at e; rw [hk', e]))
theorem CrR.setA {u wr : World} {rb db : Nat} {xa xb x : Value} {D : Dk} {L : List Nat} (h : CrR u wr rb db xa xb D) (hx : OwnB wr u.heap.size x L) : CrR u (wr.setCell ⟨db, 0, none⟩ x) rb db x xb (L, D.2) := by
  have hk : Keeps (At1 db) wr (wr.setCell ⟨db, 0, none⟩ x) := (Keeps.refl (At1 db) wr).set ⟨db, 0, none⟩ rfl _
  have hr := h.drow
  unfold dkRow at hr
  exact ⟨hk.below h.be h.be.size (fun k hk e => by unfold At1 at e; have := h.dbl; omega), h.rbl, h.dbl, h.ne, (hk.block rb (Array.getElem?_eq_some_iff.1 h.rrow).1 h.ne).trans h.rrow, set_cells hr, h.keepO hx hk, h.keepO h.b hk⟩
theorem CrR.setB {u wr : World} {rb db : Nat} {xa xb x : Value} {D : Dk} {L : List Nat} (h : CrR u wr rb db xa xb D) (hx : OwnB wr u.heap.size x L) : CrR u (wr.setCell ⟨db, 1, none⟩ x) rb db xa x (D.1, L) := by
  have hk : Keeps (At1 db) wr (wr.setCell ⟨db, 1, none⟩ x) := (Keeps.refl (At1 db) wr).set ⟨db, 1, none⟩ rfl _
  have hr := h.drow
  unfold dkRow at hr
  exact ⟨hk.below h.be h.be.size (fun k hk e => by unfold At1 at e; have := h.dbl; omega), h.rbl, h.dbl, h.ne, (hk.block rb (Array.getElem?_eq_some_iff.1 h.rrow).1 h.ne).trans h.rrow, set_cells hr, h.keepO h.a hk, h.keepO hx hk⟩
theorem dk_cells {u : World} {b : Nat} {xa xb : Value} (h : u.heap[b]? = some (dkRow xa xb)) : u.cell? ⟨b, 0, none⟩ = some xa ∧ u.cell? ⟨b, 1, none⟩ = some xb ∧ ∀ i, u.frozen? ⟨b, i, none⟩ = false := by
  unfold dkRow at h
  exact ⟨by rw [cell_of_row _ _ _ _ _ _ h]; rfl, by rw [cell_of_row _ _ _ _ _ _ h]; rfl, fun i => frozen_of_row _ _ _ _ _ h⟩
theorem OwnB.sl {w : World} {B : Nat} {v : Value} {L : List Nat} (h : OwnB w B v L) : ∃ a n c, v = .slice a n c ∧ n = L.length ∧ n ≤ c ∧ c ≤ 9223372036854775807 := by
  obtain ⟨a, c, e, h1, h2⟩ := row_shape h
  exact ⟨a, _, c, e, rfl, h1, h2⟩

theorem crashR_any (B : Nat) (p : Nat) (l : Lg) (keep : Int) (u : World) (h : RefAt B u p l) (hok : l.Ok) (hkp : keep < 9223372036854775808) :
    Calls Tryd.prog 34 #[.pointer (some ⟨p, 0, none⟩), .int .i64 keep] u fun e w' => ∃ xa xb, e = .returned (.agg #[xa, xb]) ∧ (∃ a n c, xa = .slice a n c) ∧ (∃ a n c, xb = .slice a n c) ∧ OwnB w' u.heap.size xa (crash (l.a, l.b) keep.toNat l.ws).1 ∧ OwnB w' u.heap.size xb (crash (l.a, l.b) keep.toNat l.ws).2 ∧ Below u.heap.size u w' := by
  obtain ⟨C, va, vb, vw, X, h⟩ := h
  obtain ⟨u1, hu1⟩ : ∃ u1, u1 = u.alloc (.cells #[.slice none 0 0, .slice none 0 0] 24) := ⟨_, rfl⟩
  have hb1 : Below u.heap.size u u1 := by rw [hu1]; exact (Below.refl _ _).alloc (Nat.le_refl _) _
  have hr1 : u1.heap[u.heap.size]? = some (dkRow (.slice none 0 0) (.slice none 0 0)) := by rw [hu1]; exact heap_alloc_new u _
  have h1 := h.below hb1
  obtain ⟨c0, c1, -, -, -, -, -, -⟩ := rf_cells h1.row
  have hp := (Array.getElem?_eq_some_iff.1 h1.row).1
  obtain ⟨aa, na, ca, hva, -, -, -⟩ := h.a.1.shape
  obtain ⟨ab, nb, cb, hvb, -, -, -⟩ := h.b.1.shape
  subst hva hvb
  obtain ⟨aw, cw, hvw, hcw1, hcw2⟩ := row_shape h.w
  obtain ⟨n, hn⟩ : ∃ n, n = X.length := ⟨_, rfl⟩
  rw [← hn] at hvw hcw1
  subst hvw
  have HCO := hid (copiedR_any _ _ l.a l.b u1 h1.a.1 h1.b.1 (by have := hok.la; omega) (by have := hok.lb; omega))
  have HX := hid h
  have HNW : Hid (n = l.ws.length) := by unfold Hid; rw [← h.wr, List.length_map, hn]
  have HU1 := hid hu1
  have HB1 := hid hb1
  have HR1 := hid hr1
  have HOK := hid hok
  obtain ⟨D9, HD9⟩ : ∃ D9, Hid (D9 = crash (l.a, l.b) keep.toNat l.ws) := ⟨_, rfl⟩
  rw [← HD9.out]
  obtain ⟨rb, hrb⟩ : ∃ rb, rb = u.heap.size := ⟨_, rfl⟩
  have HRBX := hid hrb
  clear h hn hu1 hb1 hr1 h1 hok hrb
  go_enter Tryd.func34, Tryd.ntmps34
  go_upto_region 1 with fail
  rw [← HU1.out, ← HRBX.out]
  go_wp2_with fail
  refine HCO.out.mono ?_
  rintro _ u2 ⟨xa, xb, rfl, ⟨a2, n2, k2, rfl⟩, ⟨a3, n3, k3, rfl⟩, hoa, hob, hb2⟩
  obtain ⟨u3, hu3⟩ : ∃ u3, u3 = u2.alloc (.cells #[.slice a2 n2 k2, .slice a3 n3 k3] 24) := ⟨_, rfl⟩
  have hb3 : Below u2.heap.size u2 u3 := by rw [hu3]; exact (Below.refl _ _).alloc (Nat.le_refl _) _
  have hr3 : u3.heap[u2.heap.size]? = some (dkRow (.slice a2 n2 k2) (.slice a3 n3 k3)) := by rw [hu3]; exact heap_alloc_new u2 _
  obtain ⟨db, hdb⟩ : ∃ db, db = u2.heap.size := ⟨_, rfl⟩
  have HC0 : Hid (CrR u u3 rb db (.slice a2 n2 k2) (.slice a3 n3 k3) (l.a, l.b)) := by
    have s1 := HB1.out.size
    have s2 := hb2.size
    have hb13 : Below u1.heap.size u1 u3 := hb2.trans (hb3.mono hb2.size)
    have hl1 := (Array.getElem?_eq_some_iff.1 HR1.out).1
    have e1 := HRBX.out
    refine ⟨HB1.out.trans (hb13.mono HB1.out.size), by omega, by omega, by omega, ?_, by rw [hdb]; exact hr3, (hoa.mono s1).below hb3, (hob.mono s1).below hb3⟩
    rw [e1]
    exact below_keeps hb13 HR1.out hl1
  have HU3 := hid hu3
  have HDB := hid hdb
  clear hoa hob hb2 hu3 hb3 hr3 hdb c0 c1 HCO HU1 HRBX HR1
  go_upto_region 2 with fail
  rw [← HU3.out, ← HDB.out]
  go_wp2_with fail
  go_loopw [1, 6, 7, 8] (fun kp i _ _ wr => ∃ (z : Int) (k : Nat) (D : Dk) (xa xb : Value), kp = .int .i64 z ∧ z < 9223372036854775808 ∧ i = .int .i64 (k : Int) ∧ k ≤ n ∧ Hid (D9 = crash D z.toNat (l.ws.drop k)) ∧ Hid (0 < z → okW D (l.ws.drop k)) ∧ Hid (D.1.length ≤ 1048576 ∧ D.2.length ≤ 1048576 ∧ (∀ y ∈ D.1, y < 256) ∧ ∀ y ∈ D.2, y < 256) ∧ Hid (CrR u wr rb db xa xb D)) (fun _ i _ _ _ => n - (intOf i).toNat)
  case atStart => exact ⟨keep, 0, (l.a, l.b), _, _, rfl, hkp, rfl, Nat.zero_le _, HD9, fun _ => HOK.out.ws, ⟨HOK.out.la, HOK.out.lb, HOK.out.ba, HOK.out.bb⟩, HC0⟩
  case round =>
    obtain ⟨z, k, D, xa, xb, rfl, hz, rfl, hk, HDD, HOW, HLN, HC⟩ := hrel
    clear HC0 HD9 HOK
    obtain ⟨ya, na', ca', rfl, hna, hya1, hya2⟩ := HC.out.a.sl
    obtain ⟨yb, nb', cb', rfl, hnb, hyb1, hyb2⟩ := HC.out.b.sl
    have HNA2 := hid hna
    have HNB2 := hid hnb
    clear hna hnb
    have hXw := HX.out.below HC.out.be
    obtain ⟨-, -, c2, -, -, -, -, -⟩ := rf_cells hXw.row
    have hpw := (Array.getElem?_eq_some_iff.1 hXw.row).1
    obtain ⟨e0, e1, ef⟩ := dk_cells HC.out.drow
    have hdl := (Array.getElem?_eq_some_iff.1 HC.out.drow).1
    by_cases hgo : k < n ∧ 0 < z
    · obtain ⟨hlt, hz0⟩ := hgo
      obtain ⟨g, x, rfl, hg, hx, hw, hf, q0, q1, q2⟩ := hXw.at hlt
      obtain ⟨ax, nx, cx, hxv, HNX, hx1, hx2⟩ := hf.1.shape
      have hdrop : l.ws.drop k = x.wr :: l.ws.drop (k + 1) := by rw [← List.getElem_cons_drop (List.getElem?_eq_some_iff.1 hw).1, (List.getElem?_eq_some_iff.1 hw).2]
      have hok := HOW.out hz0
      rw [hdrop] at hok
      obtain ⟨o1, o2, o3, o4, o5, o6⟩ := hok
      have hDD := HDD.out
      rw [hdrop, crash, if_neg (by omega)] at hDD
      obtain ⟨xar, xpl, xv, xbs⟩ := x
      simp only [Wv.wr] at *
      subst hxv
      have hnx : nx = xbs.length := HNX.out
      have hmin : min z.toNat xbs.length = (if (nx : Int) > z then z.toNat else nx) := by split <;> omega
      obtain ⟨m, hm⟩ : ∃ m, m = min z.toNat xbs.length := ⟨_, rfl⟩
      have hmn : m ≤ nx := by omega
      have HMA : Hid (z < (nx : Int) → (m : Int) = z) := fun h => by omega
      have HMB : Hid (¬ z < (nx : Int) → m = nx) := fun h => by omega
      have HNEXT : Hid (D9 = crash (put1 D ⟨xar, xpl, xbs⟩ m) (z - (m : Int)).toNat (l.ws.drop (k + 1))) := by unfold Hid; rw [hDD, ← hm]; congr 1; omega
      have HOW2 : Hid (0 < z - (m : Int) → okW (put1 D ⟨xar, xpl, xbs⟩ m) (l.ws.drop (k + 1))) := fun h0 => by
        have e : m = xbs.length := by omega
        rw [e]; exact o6
      have HLN2 : Hid ((put1 D ⟨xar, xpl, xbs⟩ m).1.length ≤ 1048576 ∧ (put1 D ⟨xar, xpl, xbs⟩ m).2.length ≤ 1048576 ∧ (∀ y ∈ (put1 D ⟨xar, xpl, xbs⟩ m).1, y < 256) ∧ ∀ y ∈ (put1 D ⟨xar, xpl, xbs⟩ m).2, y < 256) := by
        have h1 := put_len HLN.out.1 HLN.out.2.1 (x := ⟨xar, xpl, xbs⟩) o4 m
        have h2 := put_bytes HLN.out.2.2.1 HLN.out.2.2.2 (x := ⟨xar, xpl, xbs⟩) o5 m
        exact ⟨h1.1, h1.2, h2.1, h2.2⟩
      obtain ⟨wb, HWB⟩ : ∃ wb, Hid (wb = wr.alloc (.cells #[.int .i64 (xar : Int), .int .i64 (xpl : Int), .slice ax nx cx] 89)) := ⟨_, rfl⟩
      have hbb : Below wr.heap.size wr wb := by rw [HWB.out]; exact (Below.refl _ _).alloc (Nat.le_refl _) _
      have hrb : wb.heap[wr.heap.size]? = some (.cells #[.int .i64 (xar : Int), .int .i64 (xpl : Int), .slice ax nx cx] 89 (0, 0)) := by rw [HWB.out]; exact heap_alloc_new wr _
      have HCB := hid (HC.out.below hbb)
      have hsx := hf.1.below hbb
      have z0 : wb.cell? ⟨wr.heap.size, 0, none⟩ = some (.int .i64 (xar : Int)) := by rw [cell_of_row _ _ _ _ _ _ hrb]; rfl
      have z1 : wb.cell? ⟨wr.heap.size, 1, none⟩ = some (.int .i64 (xpl : Int)) := by rw [cell_of_row _ _ _ _ _ _ hrb]; rfl
      have z2 : wb.cell? ⟨wr.heap.size, 2, none⟩ = some (.slice ax nx cx) := by rw [cell_of_row _ _ _ _ _ _ hrb]; rfl
      have hbl := (Array.getElem?_eq_some_iff.1 hrb).1
      obtain ⟨bx, hbx⟩ : ∃ bx, bx = wr.heap.size := ⟨_, rfl⟩
      have HBX := hid hbx
      rw [← hbx] at z0 z1 z2 hbl
      obtain ⟨f0, f1, ff⟩ := dk_cells HCB.out.drow
      have hdlb := (Array.getElem?_eq_some_iff.1 HCB.out.drow).1
      have HST := hid (hsx.takeS m hmn)
      have hmc : m ≤ cx := by omega
      have HPL : Hid (xpl ≤ (area D xar).length) := o2
      have har : xar < 2 := o1
      have hpl : xpl + nx ≤ 1048576 := by rw [hnx]; exact o4
      clear hx hw hf HNX hdrop HOW hDD hmin hm o1 o2 o3 o4 o5 o6 hbb hrb hsx hbx hnx HDD hXw
      by_cases h0 : xar = 0
      · have q9 : ((xar : Int) == 0) = true := by simp [h0]
        have hPL : xpl ≤ na' := by have h1 := HPL.out; unfold area at h1; rw [if_pos h0] at h1; rw [HNA2.out]; exact h1
        have hsA := HCB.out.a.sees HLN.out.2.2.1
        have HSA := hid (hsA.takeS xpl hPL)
        have hPC : xpl ≤ ca' := by omega
        have hPUT : put1 D ⟨xar, xpl, xbs⟩ m = (D.1.take xpl ++ xbs.take m, D.2) := by unfold put1; rw [if_pos h0]
        rw [hPUT] at HNEXT HOW2 HLN2
        have HJ := hid (fun (u' : World) (hu' : Below wb.heap.size wb u') => join_s _ _ _ _ u' (HSA.out.below hu') (HST.out.below hu') (by have h1 := HLN.out; rw [List.length_take, List.length_take]; omega))
        clear hsA h0 hPUT
        by_cases hgt : (nx : Int) > z
        · obtain rfl : m = z.toNat := by have := HMA.out hgt; omega
          have r1 : (0 : Int) ≤ z := by omega
          have r2 : z ≤ (cx : Int) := by omega
          have r3 : ¬ z < 0 := by omega
          have r4 : z ≤ (nx : Int) := by omega
          have q3 : z < (nx : Int) := hgt
          go_upto_region 6 with fail
          rw [← HWB.out, ← HBX.out]
          go_upto_region 11 with fail
          refine wp_region_still_tail 9 (by kernel_rfl) (by kernel_rfl) ?_
          simp only [List.take_succ_cons, List.take_zero, List.drop_succ_cons, List.drop_zero]
          iterate 9 still_step
          refine wpStill_nil ?_
          go_wp2_with fail
          refine (HJ.out _ (below_drew (Below.refl _ _))).mono ?_
          rintro _ wj ⟨ja, jm, jc, rfl, -, hoj, hbj⟩
          have hbj' : Below wb.heap.size wb wj := ⟨hbj.os, hbj.tape, hbj.output, hbj.size, hbj.block⟩
          have hCj := HCB.out.below hbj'
          have hoj' : OwnB wj u.heap.size (.slice ja jm jc) (D.1.take xpl ++ xbs.take z.toNat) := hoj.mono HCB.out.be.size
          have HSET := hid (hCj.setA hoj')
          obtain ⟨j0, j1, jf⟩ := dk_cells hCj.drow
          have hdj := (Array.getElem?_eq_some_iff.1 hCj.drow).1
          clear hoj hbj hbj' hCj hoj'
          go_wp2_with fail
          go_roundw
          case rel => exact ⟨z - (z.toNat : Int), k + 1, _, _, _, by rw [show z - (z.toNat : Int) = 0 by omega], by omega, by go_num, by omega, HNEXT, HOW2, HLN2, HSET⟩
          case measure => simp [intOf]; omega
        · obtain rfl : m = nx := HMB.out hgt
          have q3 : ¬ z < (m : Int) := hgt
          go_upto_region 6 with fail
          rw [← HWB.out, ← HBX.out]
          go_upto_region 11 with fail
          refine wp_region_still_tail 9 (by kernel_rfl) (by kernel_rfl) ?_
          simp only [List.take_succ_cons, List.take_zero, List.drop_succ_cons, List.drop_zero]
          iterate 9 still_step
          refine wpStill_nil ?_
          go_wp2_with fail
          refine (HJ.out _ (below_drew (Below.refl _ _))).mono ?_
          rintro _ wj ⟨ja, jm, jc, rfl, -, hoj, hbj⟩
          have hbj' : Below wb.heap.size wb wj := ⟨hbj.os, hbj.tape, hbj.output, hbj.size, hbj.block⟩
          have hCj := HCB.out.below hbj'
          have hoj' : OwnB wj u.heap.size (.slice ja jm jc) (D.1.take xpl ++ xbs.take m) := hoj.mono HCB.out.be.size
          have HSET := hid (hCj.setA hoj')
          obtain ⟨j0, j1, jf⟩ := dk_cells hCj.drow
          have hdj := (Array.getElem?_eq_some_iff.1 hCj.drow).1
          clear hoj hbj hbj' hCj hoj'
          go_wp2_with fail
          go_roundw
          case rel => exact ⟨z - (m : Int), k + 1, _, _, _, rfl, by omega, by go_num, by omega, HNEXT, HOW2, HLN2, HSET⟩
          case measure => simp [intOf]; omega
      · have q9 : ((xar : Int) == 0) = false := by simp; omega
        have hPL : xpl ≤ nb' := by have h1 := HPL.out; unfold area at h1; rw [if_neg h0] at h1; rw [HNB2.out]; exact h1
        have hsA := HCB.out.b.sees HLN.out.2.2.2
        have HSA := hid (hsA.takeS xpl hPL)
        have hPC : xpl ≤ cb' := by omega
        have hPUT : put1 D ⟨xar, xpl, xbs⟩ m = (D.1, D.2.take xpl ++ xbs.take m) := by unfold put1; rw [if_neg h0]
        rw [hPUT] at HNEXT HOW2 HLN2
        have HJ := hid (fun (u' : World) (hu' : Below wb.heap.size wb u') => join_s _ _ _ _ u' (HSA.out.below hu') (HST.out.below hu') (by have h1 := HLN.out; rw [List.length_take, List.length_take]; omega))
        clear hsA h0 hPUT
        by_cases hgt : (nx : Int) > z
        · obtain rfl : m = z.toNat := by have := HMA.out hgt; omega
          have r1 : (0 : Int) ≤ z := by omega
          have r2 : z ≤ (cx : Int) := by omega
          have r3 : ¬ z < 0 := by omega
          have r4 : z ≤ (nx : Int) := by omega
          have q3 : z < (nx : Int) := hgt
          go_upto_region 6 with fail
          rw [← HWB.out, ← HBX.out]
          go_upto_region 12 with fail
          refine wp_region_still_tail 9 (by kernel_rfl) (by kernel_rfl) ?_
          simp only [List.take_succ_cons, List.take_zero, List.drop_succ_cons, List.drop_zero]
          iterate 9 still_step
          refine wpStill_nil ?_
          go_wp2_with fail
          refine (HJ.out _ (below_drew (Below.refl _ _))).mono ?_
          rintro _ wj ⟨ja, jm, jc, rfl, -, hoj, hbj⟩
          have hbj' : Below wb.heap.size wb wj := ⟨hbj.os, hbj.tape, hbj.output, hbj.size, hbj.block⟩
          have hCj := HCB.out.below hbj'
          have hoj' : OwnB wj u.heap.size (.slice ja jm jc) (D.2.take xpl ++ xbs.take z.toNat) := hoj.mono HCB.out.be.size
          have HSET := hid (hCj.setB hoj')
          obtain ⟨j0, j1, jf⟩ := dk_cells hCj.drow
          have hdj := (Array.getElem?_eq_some_iff.1 hCj.drow).1
          clear hoj hbj hbj' hCj hoj'
          go_wp2_with fail
          go_roundw
          case rel => exact ⟨z - (z.toNat : Int), k + 1, _, _, _, by rw [show z - (z.toNat : Int) = 0 by omega], by omega, by go_num, by omega, HNEXT, HOW2, HLN2, HSET⟩
          case measure => simp [intOf]; omega
        · obtain rfl : m = nx := HMB.out hgt
          have q3 : ¬ z < (m : Int) := hgt
          go_upto_region 6 with fail
          rw [← HWB.out, ← HBX.out]
          go_upto_region 12 with fail
          refine wp_region_still_tail 9 (by kernel_rfl) (by kernel_rfl) ?_
          simp only [List.take_succ_cons, List.take_zero, List.drop_succ_cons, List.drop_zero]
          iterate 9 still_step
          refine wpStill_nil ?_
          go_wp2_with fail
          refine (HJ.out _ (below_drew (Below.refl _ _))).mono ?_
          rintro _ wj ⟨ja, jm, jc, rfl, -, hoj, hbj⟩
          have hbj' : Below wb.heap.size wb wj := ⟨hbj.os, hbj.tape, hbj.output, hbj.size, hbj.block⟩
          have hCj := HCB.out.below hbj'
          have hoj' : OwnB wj u.heap.size (.slice ja jm jc) (D.2.take xpl ++ xbs.take m) := hoj.mono HCB.out.be.size
          have HSET := hid (hCj.setB hoj')
          obtain ⟨j0, j1, jf⟩ := dk_cells hCj.drow
          have hdj := (Array.getElem?_eq_some_iff.1 hCj.drow).1
          clear hoj hbj hbj' hCj hoj'
          go_wp2_with fail
          go_roundw
          case rel => exact ⟨z - (m : Int), k + 1, _, _, _, rfl, by omega, by go_num, by omega, HNEXT, HOW2, HLN2, HSET⟩
          case measure => simp [intOf]; omega
    · have HEND : Hid (D9 = D) := by
        unfold Hid
        rw [HDD.out]
        by_cases hz0 : 0 < z
        · have hkn : ¬ k < n := fun h => hgo ⟨h, hz0⟩
          rw [List.drop_eq_nil_of_le (by have := HNW.out; omega)]
          simp [crash]
        · rw [show z.toNat = 0 by omega]
          cases l.ws.drop k <;> simp [crash]
      obtain ⟨g0, g1, gf⟩ := dk_cells HC.out.rrow
      have hrl := (Array.getElem?_eq_some_iff.1 HC.out.rrow).1
      have HFIN : Hid (OwnB ((wr.setCell ⟨rb, 0, none⟩ (.slice ya na' ca')).setCell ⟨rb, 1, none⟩ (.slice yb nb' cb')) u.heap.size (.slice ya na' ca') D9.1 ∧ OwnB ((wr.setCell ⟨rb, 0, none⟩ (.slice ya na' ca')).setCell ⟨rb, 1, none⟩ (.slice yb nb' cb')) u.heap.size (.slice yb nb' cb') D9.2 ∧ Below u.heap.size u ((wr.setCell ⟨rb, 0, none⟩ (.slice ya na' ca')).setCell ⟨rb, 1, none⟩ (.slice yb nb' cb'))) := by
        have hk : Keeps (At1 rb) wr ((wr.setCell ⟨rb, 0, none⟩ (.slice ya na' ca')).setCell ⟨rb, 1, none⟩ (.slice yb nb' cb')) := ((Keeps.refl (At1 rb) wr).set ⟨rb, 0, none⟩ rfl _).set ⟨rb, 1, none⟩ rfl _
        have hr := HC.out.rrow
        unfold dkRow at hr
        rw [HEND.out]
        exact ⟨HC.out.a.keeps hk (fun k hk' e => row_ne HC.out.a hr (by decide) (by unfold At1 at e; rw [hk', e])), HC.out.b.keeps hk (fun k hk' e => row_ne HC.out.b hr (by decide) (by unfold At1 at e; rw [hk', e])), hk.below HC.out.be HC.out.be.size (fun k hk e => by unfold At1 at e; have := HC.out.rbl; omega)⟩
      have hrF := set_cells (i := 1) (v := .slice yb nb' cb') (set_cells (i := 0) (v := .slice ya na' ca') (by have hr := HC.out.rrow; unfold dkRow at hr; exact hr))
      have j0 : ((wr.setCell ⟨rb, 0, none⟩ (.slice ya na' ca')).setCell ⟨rb, 1, none⟩ (.slice yb nb' cb')).cell? ⟨rb, 0, none⟩ = some (.slice ya na' ca') := by rw [cell_of_row _ _ _ _ _ _ hrF]; rfl
      have j1 : ((wr.setCell ⟨rb, 0, none⟩ (.slice ya na' ca')).setCell ⟨rb, 1, none⟩ (.slice yb nb' cb')).cell? ⟨rb, 1, none⟩ = some (.slice yb nb' cb') := by rw [cell_of_row _ _ _ _ _ _ hrF]; rfl
      clear hrF HDD HOW HEND hXw
      by_cases hlt : k < n
      · have q3 : ¬ 0 < z := fun h => hgo ⟨hlt, h⟩
        go_wp2_with fail
        refine bodyPost_ret (v := .agg #[.slice ya na' ca', .slice yb nb' cb']) (by simp [results, Tryd.results34, go_sem, j0, j1]) rfl ⟨_, _, rfl, ⟨_, _, _, rfl⟩, ⟨_, _, _, rfl⟩, HFIN.out⟩
      · go_wp2_with fail
        refine bodyPost_ret (v := .agg #[.slice ya na' ca', .slice yb nb' cb']) (by simp [results, Tryd.results34, go_sem, j0, j1]) rfl ⟨_, _, rfl, ⟨_, _, _, rfl⟩, ⟨_, _, _, rfl⟩, HFIN.out⟩
end Go.Proofs.YteoebmpfdcbbmacDoor
