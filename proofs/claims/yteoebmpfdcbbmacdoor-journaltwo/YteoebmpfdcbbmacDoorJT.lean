/-
  Crash.
-/
import Derived.Test.YteoebmpfdcbbmacDoorJS
namespace Go.Proofs.YteoebmpfdcbbmacDoor
open Go.ChangeShapes Go.WideShapes Go.ChangeAt Go.RowKit Jn N
set_option maxHeartbeats 4000000
set_option maxRecDepth 100000

/-- A disk that was handed out. -/
structure Disk2 (w w' : World) (ga na ca gb nb cb : Nat) (d : Dk) : Prop where
  be : Below w.heap.size w w'
  la : w.heap.size ≤ ga
  lb : w.heap.size ≤ gb
  ne : ga ≠ gb
  a : OwnB w' 0 (.slice (some ⟨ga, 0, none⟩) na ca) d.1
  b : OwnB w' 0 (.slice (some ⟨gb, 0, none⟩) nb cb) d.2

/-- A disk that is being made: rb the answer's block, lb the areas'. -/
structure CrX (w : World) (rb lb : Nat) (d : Dk) (u : World) : Prop where
  be : Below w.heap.size w u
  rbl : w.heap.size ≤ rb
  lbl : w.heap.size ≤ lb
  ne : rb ≠ lb
  res : u.heap[rb]? = some (.cells #[.slice none 0 0, .slice none 0 0] 24 (0, 0))
  ar : ∃ ga na ca gb nb cb, ArX u lb 65 #[] d ga na ca gb nb cb ∧ w.heap.size ≤ ga ∧ w.heap.size ≤ gb
theorem CrX.below {w u u' : World} {rb lb : Nat} {d : Dk} (h : CrX w rb lb d u) (hb : Below u.heap.size u u') : CrX w rb lb d u' := by
  obtain ⟨ga, na, ca, gb, nb, cb, q1, q2, q3⟩ := h.ar
  exact ⟨h.be.trans (hb.mono h.be.size), h.rbl, h.lbl, h.ne, below_keeps hb h.res (Array.getElem?_eq_some_iff.1 h.res).1, ga, na, ca, gb, nb, cb, q1.keeps (S := fun _ => False) (Keeps.of hb) id id id, q2, q3⟩

theorem Blk.own {w : World} {g n : Nat} {X : List Nat} (h : Blk w g 5 X) (hn : n = X.length) (hm : X.length ≤ 1099511627776) : OwnB w 0 (.slice (some ⟨g, 0, none⟩) n n) X := by
  subst hn
  refine ⟨by simp [bs], .inr ⟨g, X.length, (bs X).toArray, rfl, Nat.zero_le _, h, Nat.le_refl _, by unfold maxLen; omega, by simp [bs], ?_⟩⟩
  rw [Nat.mul_one, List.take_of_length_le (by simp [bs])]

theorem crash_zero (d : Dk) (ws : List Wr) : crash d 0 ws = d := by cases ws <;> simp [crash]

theorem crash_any (S : Nat → Prop) (p : Nat) (l : Lg) (keep : Int) (w : World) (h : LogAt w S p l) (hok : l.Ok) (hl : l.ws.length ≤ 3000000000000) (hkp : keep < 9223372036854775808) :
    Calls Tryd.prog 25 #[.pointer (some ⟨p, 0, none⟩), .int .i64 keep] w fun e w' => ∃ ga na ca gb nb cb, e = .returned (.agg #[.slice (some ⟨ga, 0, none⟩) na ca, .slice (some ⟨gb, 0, none⟩) nb cb]) ∧ Disk2 w w' ga na ca gb nb cb (crash (l.a, l.b) keep.toNat l.ws) := by
  obtain ⟨ga0, na0, ca0, gb0, nb0, cb0, vw, X, h⟩ := h
  have HL := hid h
  have HOK := hid hok
  obtain ⟨aw, n, cw, rfl, HN, hn1, hn2⟩ := h.ws.shape
  obtain ⟨c0, c1, c2, -, -, -, -, -, -⟩ := lg_cells h.row
  have hplt := h.lt p h.sp
  have HXL : Hid (X.length = l.ws.length) := by unfold Hid; rw [← h.wr, List.length_map]
  have hnn : n ≤ 3000000000000 := by have := HXL.out; have := HN.out; omega
  obtain ⟨R, HR⟩ : ∃ R, Hid (R = crash (l.a, l.b) keep.toNat l.ws) := ⟨_, rfl⟩
  rw [← HR.out]
  obtain ⟨rb, HRB⟩ : ∃ rb, Hid (rb = w.heap.size) := ⟨_, rfl⟩
  obtain ⟨w1, HW1⟩ : ∃ w1, Hid (w1 = w.alloc (.cells #[.slice none 0 0, .slice none 0 0] 24)) := ⟨_, rfl⟩
  have hb1 : Below w.heap.size w w1 := by rw [HW1.out]; exact (Below.refl _ _).alloc (Nat.le_refl _) _
  have hr1 : w1.heap[rb]? = some (.cells #[.slice none 0 0, .slice none 0 0] 24 (0, 0)) := by rw [HW1.out, HRB.out]; exact heap_alloc_new w _
  have hs1 : w1.heap.size = w.heap.size + 1 := by rw [HW1.out]; simp
  have HOW := hid (own_any (.slice (some ⟨ga0, 0, none⟩) na0 ca0) (.slice (some ⟨gb0, 0, none⟩) nb0 cb0) l.a l.b w1 ((h.a.sees hok.ba).below hb1) ((h.b.sees hok.bb).below hb1) (by have := hok.la; omega) (by have := hok.lb; omega))
  obtain ⟨z0, z1, -, -, -, -, -, -, -⟩ := lg_cells (h.below hb1).row
  have HB1 := hid hb1
  have R1 := hid hr1
  have hla := hok.la
  have hlb := hok.lb
  clear h hok hl c0 c1 c2 hb1 hr1
  go_enter Tryd.func25, Tryd.ntmps25
  go_upto_region 1 with fail
  rw [← HW1.out, ← HRB.out]
  go_wp2_with fail
  refine HOW.out.mono ?_
  rintro _ w2 ⟨ga, gb, rfl, hOW⟩
  obtain ⟨lb, HLB⟩ : ∃ lb, Hid (lb = w2.heap.size) := ⟨_, rfl⟩
  obtain ⟨w3, HW3⟩ : ∃ w3, Hid (w3 = w2.alloc (.cells #[.slice (some ⟨ga, 0, none⟩) l.a.length l.a.length, .slice (some ⟨gb, 0, none⟩) l.b.length l.b.length] 65)) := ⟨_, rfl⟩
  have hb3 : Below w2.heap.size w2 w3 := by rw [HW3.out]; exact (Below.refl _ _).alloc (Nat.le_refl _) _
  have hs12 := hOW.be.size
  have HC3 : Hid (CrX w rb lb (l.a, l.b) w3) := by
    refine ⟨(HB1.out.trans (hOW.be.mono HB1.out.size)).trans (hb3.mono (by omega)), by rw [HRB.out]; exact Nat.le_refl _, by rw [HLB.out]; omega, by rw [HRB.out, HLB.out]; omega, below_keeps hb3 (below_keeps hOW.be R1.out (by rw [HRB.out]; omega)) (by rw [HRB.out]; omega), ga, _, _, gb, _, _, ⟨?_, (hOW.a.below hb3 hOW.a.lt).own rfl (by show l.a.length ≤ _; omega), (hOW.b.below hb3 hOW.b.lt).own rfl (by show l.b.length ≤ _; omega), hOW.ne⟩, by have := hOW.la; omega, by have := hOW.lb; omega⟩
    rw [HLB.out, HW3.out]
    exact heap_alloc_new w2 _
  obtain ⟨-, -, y2, -, -, -, -, -, -⟩ := lg_cells (HL.out.below HC3.out.be).row
  clear hOW hb3 hs12 z0 z1
  go_upto_region 2 with fail
  rw [← HW3.out, ← HLB.out]
  clear HW3 HLB HW1 HB1 R1 HOW
  go_wp2_with fail
  go_loopw [1, 7, 8, 19] (fun kp _ _ i wr => ∃ (k : Nat) (kk : Int) (d : Dk), i = .int .i64 (k : Int) ∧ k ≤ n ∧ kp = .int .i64 kk ∧ Hid (CrX w rb lb d wr) ∧ Hid (R = crash d kk.toNat (l.ws.drop k) ∧ kk < 9223372036854775808 ∧ (0 < kk → okW d (l.ws.drop k)))) (fun _ _ _ i _ => n - (intOf i).toNat)
  case atStart => exact ⟨0, keep, (l.a, l.b), rfl, Nat.zero_le _, rfl, HC3, HR.out, hkp, fun _ => HOK.out.ws⟩
  case round =>
    obtain ⟨k, kk, d, rfl, hk, rfl, HC, HD0⟩ := hrel
    clear y2
    have hL := HL.out.below HC.out.be
    by_cases hlt : k < n
    · obtain ⟨x, hx⟩ : ∃ x, X[k]? = some x := ⟨_, List.getElem?_eq_getElem (by have := HN.out; omega)⟩
      have hxm := List.mem_of_getElem? hx
      have hwk : l.ws[k]? = some x.wr := by rw [← HL.out.wr, List.getElem?_map, hx]; rfl
      obtain ⟨gw, rfl, hgw, hcells⟩ := hL.ws.at hx
      obtain ⟨c0, c1, c2⟩ := hcells wr rfl
      have hdrop : l.ws.drop k = x.wr :: l.ws.drop (k + 1) := by rw [List.drop_eq_getElem_cons (List.getElem?_eq_some_iff.1 hwk).1, (List.getElem?_eq_some_iff.1 hwk).2]
      have hkb := HD0.out.2.1
      have HOKX := hid HD0.out.2.2
      rw [hdrop] at HOKX
      have HD1 := hid HD0.out.1
      rw [hdrop] at HD1
      obtain ⟨W, HW⟩ : ∃ W, Hid (W = wr.alloc (.cells #[.int .i64 (x.ar : Int), .int .i64 (x.pl : Int), x.v] 101)) := ⟨_, rfl⟩
      have hbW : Below wr.heap.size wr W := by rw [HW.out]; exact (Below.refl _ _).alloc (Nat.le_refl _) _
      have hrW : W.heap[wr.heap.size]? = some (.cells #[.int .i64 (x.ar : Int), .int .i64 (x.pl : Int), x.v] 101 (0, 0)) := by rw [HW.out]; exact heap_alloc_new wr _
      have HCW := hid (HC.out.below hbW)
      obtain ⟨-, hsv0⟩ := And.intro trivial ((hL.by_ x hxm).1.below hbW)
      obtain ⟨ax, nx, cx, hxv, HNX, -, hcx⟩ := hsv0.shape
      obtain ⟨xar, xpl, xv, xbs⟩ := x
      simp only at hxv c0 c1 c2 HW hrW HNX hsv0
      subst hxv
      have hsv : SeesB W (.slice ax nx cx) xbs := hsv0
      have z0 : W.cell? ⟨wr.heap.size, 0, none⟩ = some (.int .i64 (xar : Int)) := by rw [cell_of_row _ _ _ _ _ _ hrW]; rfl
      have z1 : W.cell? ⟨wr.heap.size, 1, none⟩ = some (.int .i64 (xpl : Int)) := by rw [cell_of_row _ _ _ _ _ _ hrW]; rfl
      have z2 : W.cell? ⟨wr.heap.size, 2, none⟩ = some (.slice ax nx cx) := by rw [cell_of_row _ _ _ _ _ _ hrW]; rfl
      unfold maxLen at hcx
      clear hsv0 hbW hrW hcells hxm hx
      by_cases hpos : kk ≤ 0
      · have HD : Hid (d = R) := by
          unfold Hid; rw [HD1.out, show kk.toNat = 0 by omega, crash_zero]
        clear hwk hdrop HD0 HD1 hL hsv HC
        go_upto_region 5 with fail
        rw [← HW.out]
        obtain ⟨ga, na, ca, gb, nb, cb, q1, q2, q3⟩ := HCW.out.ar
        obtain ⟨y0, y1, -, -⟩ := ar_cells q1.row
        have hlbl := (Array.getElem?_eq_some_iff.1 q1.row).1
        have HDK := hid (disk_any (.slice (some ⟨ga, 0, none⟩) na ca) (.slice (some ⟨gb, 0, none⟩) nb cb) W ⟨_, _, _, rfl⟩ ⟨_, _, _, rfl⟩)
        have Q1 := hid q1
        clear q1
        go_wp2_with fail
        refine HDK.out.mono ?_
        rintro _ wz ⟨rfl, hbz⟩
        have HCz := hid (HCW.out.below hbz)
        obtain ⟨k0, k1, k2, k3⟩ := ar_cells HCz.out.res
        have Q1z : Hid (ArX wz lb 65 #[] R ga na ca gb nb cb) := by
          have h1 := Q1.out.keeps (S := fun _ => False) (Keeps.of hbz) id id id
          rw [HD.out] at h1
          exact h1
        clear y0 y1 hbz
        go_wp2_with fail
        obtain ⟨hU, hkU⟩ := ar_put (C := #[.slice none 0 0, .slice none 0 0]) rfl HCz.out.res (.slice (some ⟨ga, 0, none⟩) na ca) (.slice (some ⟨gb, 0, none⟩) nb cb)
        generalize ((wz.setCell ⟨rb, 0, none⟩ (.slice (some ⟨ga, 0, none⟩) na ca)).setCell ⟨rb, 1, none⟩ (.slice (some ⟨gb, 0, none⟩) nb cb)) = U at *
        obtain ⟨j0, j1, -, -⟩ := ar_cells hU
        have nra : ga ≠ rb := Q1z.out.a.ne_of HCz.out.res (by decide)
        have nrb : gb ≠ rb := Q1z.out.b.ne_of HCz.out.res (by decide)
        refine bodyPost_ret (v := .agg #[.slice (some ⟨ga, 0, none⟩) na ca, .slice (some ⟨gb, 0, none⟩) nb cb]) (by simp [results, Tryd.results25, go_sem, j0, j1]) rfl ⟨ga, na, ca, gb, nb, cb, rfl, ?_⟩
        exact ⟨hkU.below HCz.out.be HCz.out.be.size (fun k hk e => by unfold At1 at e; have := HCz.out.rbl; omega), q2, q3, Q1z.out.ne, Q1z.out.a.keeps hkU (fun k e1 e2 => by simp [Value.ownBlock] at e1; unfold At1 at e2; omega), Q1z.out.b.keeps hkU (fun k e1 e2 => by simp [Value.ownBlock] at e1; unfold At1 at e2; omega)⟩
      · obtain ⟨K, hK⟩ : ∃ K : Nat, kk = (K : Int) := ⟨kk.toNat, by omega⟩
        subst hK
        have hK0 : 0 < K := by omega
        have hKb : K ≤ 9223372036854775807 := by omega
        have HD2 : Hid (R = crash (put1 d ⟨xar, xpl, xbs⟩ (min K nx)) (K - min K nx) (l.ws.drop (k + 1))) := by
          unfold Hid
          rw [HD1.out, show ((K : Int)).toNat = K by omega, crash, if_neg (by omega), HNX.out]
          rfl
        obtain ⟨o1, o2, o3, o4, o5, o6⟩ := HOKX.out (by omega)
        have O6 := hid o6
        have hx0 : 0 < nx := by rw [HNX.out]; exact o3
        clear o5 o6 HOKX
        obtain ⟨ga, na, ca, gb, nb, cb, q1, q2, q3⟩ := HCW.out.ar
        clear hwk hdrop HD0 HD1 hL HC
        by_cases hmin : K ≤ nx
        · have m1 : min K nx = K := by omega
          rw [m1, Nat.sub_self] at HD2
          have g1 : ¬ (nx : Int) < (K : Int) := by omega
          have g2 : (K : Int) ≤ (nx : Int) := by omega
          clear m1
          go_upto_region 5 with fail
          rw [← HW.out]
          have HTK := hid (take_ar lb _ _ _ ga na ca gb nb cb (Wv.wr ⟨xar, xpl, .slice ax nx cx, xbs⟩) (.slice ax nx cx) K W q1 (by decide) o1 o2 hsv (by omega) (by show K ≤ xbs.length; have := HNX.out; omega) (by show xpl + K ≤ _; have h4 : xpl + xbs.length ≤ 1048576 := o4; have := HNX.out; omega))
          simp only [Wv.wr] at HTK
          have HNXT : Hid (∀ w', (∃ ga'' na'' ca'' gb'' nb'' cb'', ArX w' lb 65 #[] (put1 d ⟨xar, xpl, xbs⟩ K) ga'' na'' ca'' gb'' nb'' cb'' ∧ (ga'' = ga ∨ (W.heap.size ≤ ga'' ∧ ga'' < w'.heap.size)) ∧ (gb'' = gb ∨ (W.heap.size ≤ gb'' ∧ gb'' < w'.heap.size))) → Keeps (fun k => k = lb ∨ k = ga ∨ k = gb) W w' → CrX w rb lb (put1 d ⟨xar, xpl, xbs⟩ K) w') := by
            rintro w' ⟨ga'', na'', ca'', gb'', nb'', cb'', r1, r2, r3⟩ hk'
            have hsz := HCW.out.be.size
            refine ⟨hk'.below HCW.out.be hsz (fun k hk e => by have := HCW.out.lbl; rcases e with e | e | e <;> omega), HCW.out.rbl, HCW.out.lbl, HCW.out.ne, ?_, ⟨ga'', na'', ca'', gb'', nb'', cb'', r1, by rcases r2 with r2 | r2 <;> omega, by rcases r3 with r3 | r3 <;> omega⟩⟩
            refine (hk'.block rb (Array.getElem?_eq_some_iff.1 HCW.out.res).1 (fun e => ?_)).trans HCW.out.res
            have n1 : ga ≠ rb := q1.a.ne_of HCW.out.res (by decide)
            have n2 : gb ≠ rb := q1.b.ne_of HCW.out.res (by decide)
            have n3 := HCW.out.ne
            rcases e with e | e | e <;> omega
          have HON : Hid (R = crash (put1 d ⟨xar, xpl, xbs⟩ K) (0 : Int).toNat (l.ws.drop (k + 1)) ∧ (0 : Int) < 9223372036854775808 ∧ ((0 : Int) < 0 → okW (put1 d ⟨xar, xpl, xbs⟩ K) (l.ws.drop (k + 1)))) := ⟨by rw [HD2.out]; rfl, by omega, fun e => by omega⟩
          clear q1 q2 q3 hsv o1 o2 o3 o4 g2 hkb hpos HD2
          go_wp2_with fail
          refine HTK.out.mono ?_
          rintro _ w' ⟨rfl, hex, hkk⟩
          have HN2 := hid (HNXT.out w' hex hkk)
          clear hex hkk
          go_wp2_with fail
          go_roundw
          case rel => exact ⟨k + 1, _, _, by go_num, by omega, rfl, HN2, HON⟩
          case measure => simp [intOf]; omega
        · have m1 : min K nx = nx := by omega
          rw [m1] at HD2
          have g1 : (nx : Int) < (K : Int) := by omega
          have g2 : ¬ (K : Int) ≤ (nx : Int) := by omega
          clear m1
          go_upto_region 5 with fail
          rw [← HW.out]
          have HTK := hid (take_ar lb _ _ _ ga na ca gb nb cb (Wv.wr ⟨xar, xpl, .slice ax nx cx, xbs⟩) (.slice ax nx cx) nx W q1 (by decide) o1 o2 hsv (by omega) (by show nx ≤ xbs.length; have := HNX.out; omega) (by show xpl + nx ≤ _; have h4 : xpl + xbs.length ≤ 1048576 := o4; have := HNX.out; omega))
          simp only [Wv.wr] at HTK
          have HNXT : Hid (∀ w', (∃ ga'' na'' ca'' gb'' nb'' cb'', ArX w' lb 65 #[] (put1 d ⟨xar, xpl, xbs⟩ nx) ga'' na'' ca'' gb'' nb'' cb'' ∧ (ga'' = ga ∨ (W.heap.size ≤ ga'' ∧ ga'' < w'.heap.size)) ∧ (gb'' = gb ∨ (W.heap.size ≤ gb'' ∧ gb'' < w'.heap.size))) → Keeps (fun k => k = lb ∨ k = ga ∨ k = gb) W w' → CrX w rb lb (put1 d ⟨xar, xpl, xbs⟩ nx) w') := by
            rintro w' ⟨ga'', na'', ca'', gb'', nb'', cb'', r1, r2, r3⟩ hk'
            have hsz := HCW.out.be.size
            refine ⟨hk'.below HCW.out.be hsz (fun k hk e => by have := HCW.out.lbl; rcases e with e | e | e <;> omega), HCW.out.rbl, HCW.out.lbl, HCW.out.ne, ?_, ⟨ga'', na'', ca'', gb'', nb'', cb'', r1, by rcases r2 with r2 | r2 <;> omega, by rcases r3 with r3 | r3 <;> omega⟩⟩
            refine (hk'.block rb (Array.getElem?_eq_some_iff.1 HCW.out.res).1 (fun e => ?_)).trans HCW.out.res
            have n1 : ga ≠ rb := q1.a.ne_of HCW.out.res (by decide)
            have n2 : gb ≠ rb := q1.b.ne_of HCW.out.res (by decide)
            have n3 := HCW.out.ne
            rcases e with e | e | e <;> omega
          have HON : Hid (R = crash (put1 d ⟨xar, xpl, xbs⟩ nx) ((K : Int) - (nx : Int)).toNat (l.ws.drop (k + 1)) ∧ (K : Int) - (nx : Int) < 9223372036854775808 ∧ (0 < (K : Int) - (nx : Int) → okW (put1 d ⟨xar, xpl, xbs⟩ nx) (l.ws.drop (k + 1)))) := ⟨by rw [HD2.out]; congr 1; omega, by omega, fun _ => by have h6 := O6.out; simp only [Wv.wr] at h6; rw [← HNX.out] at h6; exact h6⟩
          clear q1 q2 q3 hsv o1 o2 o3 o4 g2 hkb hpos HD2
          go_wp2_with fail
          refine HTK.out.mono ?_
          rintro _ w' ⟨rfl, hex, hkk⟩
          have HN2 := hid (HNXT.out w' hex hkk)
          clear hex hkk
          go_wp2_with fail
          go_roundw
          case rel => exact ⟨k + 1, _, _, by go_num, by omega, rfl, HN2, HON⟩
          case measure => simp [intOf]; omega
    · have HD : Hid (d = R) := by
        unfold Hid
        rw [HD0.out.1, List.drop_of_length_le (by have := HXL.out; have := HN.out; omega)]
        rfl
      clear hL HD0
      obtain ⟨ga, na, ca, gb, nb, cb, q1, q2, q3⟩ := HC.out.ar
      obtain ⟨y0, y1, -, -⟩ := ar_cells q1.row
      have hlbl := (Array.getElem?_eq_some_iff.1 q1.row).1
      have HDK := hid (disk_any (.slice (some ⟨ga, 0, none⟩) na ca) (.slice (some ⟨gb, 0, none⟩) nb cb) wr ⟨_, _, _, rfl⟩ ⟨_, _, _, rfl⟩)
      have Q1 := hid q1
      clear q1
      go_wp2_with fail
      refine HDK.out.mono ?_
      rintro _ wz ⟨rfl, hbz⟩
      have HCz := hid (HC.out.below hbz)
      obtain ⟨k0, k1, k2, k3⟩ := ar_cells HCz.out.res
      have Q1z : Hid (ArX wz lb 65 #[] R ga na ca gb nb cb) := by
        have h1 := Q1.out.keeps (S := fun _ => False) (Keeps.of hbz) id id id
        rw [HD.out] at h1
        exact h1
      clear y0 y1 hbz
      go_wp2_with fail
      obtain ⟨hU, hkU⟩ := ar_put (C := #[.slice none 0 0, .slice none 0 0]) rfl HCz.out.res (.slice (some ⟨ga, 0, none⟩) na ca) (.slice (some ⟨gb, 0, none⟩) nb cb)
      generalize ((wz.setCell ⟨rb, 0, none⟩ (.slice (some ⟨ga, 0, none⟩) na ca)).setCell ⟨rb, 1, none⟩ (.slice (some ⟨gb, 0, none⟩) nb cb)) = U at *
      obtain ⟨j0, j1, -, -⟩ := ar_cells hU
      have nra : ga ≠ rb := Q1z.out.a.ne_of HCz.out.res (by decide)
      have nrb : gb ≠ rb := Q1z.out.b.ne_of HCz.out.res (by decide)
      refine bodyPost_ret (v := .agg #[.slice (some ⟨ga, 0, none⟩) na ca, .slice (some ⟨gb, 0, none⟩) nb cb]) (by simp [results, Tryd.results25, go_sem, j0, j1]) rfl ⟨ga, na, ca, gb, nb, cb, rfl, ?_⟩
      exact ⟨hkU.below HCz.out.be HCz.out.be.size (fun k hk e => by unfold At1 at e; have := HCz.out.rbl; omega), q2, q3, Q1z.out.ne, Q1z.out.a.keeps hkU (fun k e1 e2 => by simp [Value.ownBlock] at e1; unfold At1 at e2; omega), Q1z.out.b.keeps hkU (fun k e1 e2 => by simp [Value.ownBlock] at e1; unfold At1 at e2; omega)⟩
end Go.Proofs.YteoebmpfdcbbmacDoor
