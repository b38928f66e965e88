/-
  Append.
-/
import Derived.Test.YteoebmpfdcbbmacDoorJP
namespace Go.Proofs.YteoebmpfdcbbmacDoor
open Go.ChangeShapes Go.WideShapes Go.ChangeAt Go.RowKit Jn N
set_option maxHeartbeats 4000000
set_option maxRecDepth 100000

/-- Append's error, and what it leaves. -/
def appE (l : Lg) (r : List Nat) : Nat := if 65536 < r.length then 2 else if 1048576 < l.size + (12 + r.length) then 4 else 0
def appL (l : Lg) (r : List Nat) : Lg := if appE l r = 0 then l.app r else l

/-- A journal behind a call on it. -/
structure Left (w w' : World) (S : Nat → Prop) (p : Nat) (l : Lg) : Prop where
  log : LogAt w' (NewS S w.heap.size w') p l
  ok : l.Ok
  kp : Keeps S w w'

theorem LogAt.grow {w' : World} {S : Nat → Prop} {p : Nat} {l : Lg} {B : Nat} (h : LogAt w' S p l) : LogAt w' (NewS S B w') p l := by
  obtain ⟨ga, na, ca, gb, nb, cb, vw, X, h⟩ := h
  exact ⟨ga, na, ca, gb, nb, cb, vw, X, h.row, h.a, h.b, h.ne, h.ws, h.wr, fun x hx => ⟨(h.by_ x hx).1, fun a n c e => ⟨.inl ((h.by_ x hx).2 a n c e).1, ((h.by_ x hx).2 a n c e).2⟩⟩, .inl h.sp, .inl h.sa, .inl h.sb, fun k hk => .inl (h.sw k hk), fun k hk => by
    rcases hk with hk | ⟨-, hk⟩
    · exact h.lt k hk
    · exact hk⟩

theorem LogX.reset {w U : World} {S : Nat → Prop} {p : Nat} {l l' : Lg} {ga na ca gb nb cb : Nat} {vw : Value} {X : List Wv} (h : LogX w S p l ga na ca gb nb cb vw X) (hk : Keeps (At1 p) w U) (hrow : U.heap[p]? = some (lgRow (.slice (some ⟨ga, 0, none⟩) na ca) (.slice (some ⟨gb, 0, none⟩) nb cb) vw (dirt l'.ws) l'.cur l'.gen l'.fr l'.size)) (ha : l'.a = l.a) (hb : l'.b = l.b) (hws : l'.ws = l.ws) (hS : ∀ k, S k → k < U.heap.size) : LogX U S p l' ga na ca gb nb cb vw X := by
  have npw : vw.ownBlock ≠ some p := h.ws.ne_of h.row (by decide)
  have npa : ga ≠ p := h.a.ne_of h.row (by decide)
  have npb : gb ≠ p := h.b.ne_of h.row (by decide)
  have qa : OwnB U 0 (.slice (some ⟨ga, 0, none⟩) na ca) l.a := h.a.keeps hk (fun k hk' e => by simp [Value.ownBlock] at hk'; unfold At1 at e; omega)
  have qb : OwnB U 0 (.slice (some ⟨gb, 0, none⟩) nb cb) l.b := h.b.keeps hk (fun k hk' e => by simp [Value.ownBlock] at hk'; unfold At1 at e; omega)
  have qw : OwnW U 0 vw X := h.ws.keeps hk (fun k hk' e => by unfold At1 at e; exact npw (e ▸ hk'))
  exact ⟨hrow, by rw [ha]; exact qa, by rw [hb]; exact qb, h.ne, qw, by rw [hws]; exact h.wr, fun x hx => ⟨(h.by_ x hx).1.keeps hk (fun a n c e hn => ((h.by_ x hx).2 a n c e).2.2.2.1 hn), (h.by_ x hx).2⟩, h.sp, h.sa, h.sb, h.sw, hS⟩
theorem splice_all {X F : List Nat} (h : F.length = X.length) : splice X 0 F = F := by simp [splice, h]

theorem append_any (S : Nat → Prop) (p : Nat) (l : Lg) (v : Value) (r : List Nat) (w : World) (h : LogAt w S p l) (hok : l.Ok) (hv : SeesB w v r) (hl : l.ws.length + 1 ≤ 3000000000000) (ht : TabN w) (h0 : ∀ k, S k → 0 < k) :
    Calls Tryd.prog 22 #[.pointer (some ⟨p, 0, none⟩), v] w fun e w' => e = .returned (.int .i64 ((appE l r : Nat) : Int)) ∧ Left w w' S p (appL l r) := by
  obtain ⟨ga, na, ca, gb, nb, cb, vw, X, h⟩ := h
  have HL := hid h
  have HV := hid hv
  have HT := hid ht
  have HOK := hid hok
  have H0 := hid h0
  obtain ⟨ao, rn, rc, rfl, HN, hn1, hn2⟩ := hv.shape
  unfold maxLen at hn2
  obtain ⟨c0, c1, c2, c3, c4, c5, c6, c7, cf⟩ := lg_cells h.row
  have hsz := hok.high
  have hlow := hok.low
  have hge := hok.gen
  have hplt := h.lt p h.sp
  have HXL : Hid (X.length = l.ws.length) := by unfold Hid; rw [← h.wr, List.length_map]
  have HSAME : Hid (∀ w' : World, Below w.heap.size w w' → Left w w' S p l) := fun w' hb => ⟨(show LogAt w' S p l from ⟨ga, na, ca, gb, nb, cb, vw, X, HL.out.below hb⟩).grow, HOK.out, Keeps.of hb⟩
  by_cases h1 : 65536 < rn
  · have HE : Hid (appE l r = 2 ∧ appL l r = l) := by
      have : appE l r = 2 := by unfold appE; rw [if_pos (by have := HN.out; omega)]
      exact ⟨this, by unfold appL; rw [this]; rfl⟩
    clear h hv ht hok h0 c0 c1 c2 c3 c4 c5 c6 c7 cf
    go_enter Tryd.func22, Tryd.ntmps22
    go_wp2_with fail
    go_ret
    rw [HE.out.1, HE.out.2]
    exact ⟨rfl, HSAME.out _ (Below.refl _ _)⟩
  · have HFR : ∀ u : Beh w, Hid (Calls Tryd.prog 49 #[.slice ao rn rc] u.wd fun e w' => e = .returned (.int .i64 ((12 + rn : Nat) : Int)) ∧ ∃ u' : Beh w, w' = u'.wd) := fun u => Calls.beh ((framed_any _ r u.wd (HV.out.below u.ok) (by have := HN.out; omega)).mono fun _ _ ⟨a, b⟩ => ⟨by rw [a, HN.out], by rw [b]; exact Below.refl _ _⟩)
    have k7 : ∀ u : Beh w, u.wd.cell? ⟨p, 7, none⟩ = some (.int .i64 (l.size : Int)) := fun u => (u.ok.cell (p := ⟨p, 7, none⟩) hplt).trans c7
    have e12 : ((12 + rn : Nat) : Int) = 12 + (rn : Int) := by omega
    rw [e12] at HFR
    by_cases h2 : 1048576 < l.size + (12 + rn)
    · have HE : Hid (appE l r = 4 ∧ appL l r = l) := by
        have : appE l r = 4 := by unfold appE; rw [if_neg (by have := HN.out; omega), if_pos (by have := HN.out; omega)]
        exact ⟨this, by unfold appL; rw [this]; rfl⟩
      have q1 : (1048576 : Int) < (l.size : Int) + (12 + (rn : Int)) := by omega
      have q2 : decide ((1048576 : Int) < (l.size : Int) + (12 + (rn : Int))) = true := by simpa using q1
      clear h hv ht hok h0 c0 c1 c2 c3 c4 c5 c6 c7 cf e12
      go_enter Tryd.func22, Tryd.ntmps22
      go_upto_region 3 with fail
      refine wp_region_beh (by kernel_rfl) (by kernel_rfl) ?_
      repeat (go_big_quiet_step ((go_at_call 49; exact (HFR _).out)))
      refine wpQuiet_nil ?_
      rintro _ ⟨t, rfl⟩
      have HB := hid t.ok
      go_wp2_with fail
      go_ret
      rw [HE.out.1, HE.out.2]
      exact ⟨rfl, HSAME.out _ HB.out⟩
    · have HE : Hid (appE l r = 0 ∧ appL l r = l.app r) := by
        have : appE l r = 0 := by unfold appE; rw [if_neg (by have := HN.out; omega), if_neg (by have := HN.out; omega)]
        exact ⟨this, by unfold appL; rw [if_pos this]⟩
      have q1 : ¬ (1048576 : Int) < (l.size : Int) + (12 + (rn : Int)) := by omega
      have q2 : decide ((1048576 : Int) < (l.size : Int) + (12 + (rn : Int))) = false := by simpa using q1
      clear h hv ht hok h0 c0 c1 c2 c3 c4 c5 c6 c7 cf
      go_enter Tryd.func22, Tryd.ntmps22
      go_upto_region 3 with fail
      refine wp_region_beh (by kernel_rfl) (by kernel_rfl) ?_
      repeat (go_big_quiet_step ((go_at_call 49; exact (HFR _).out)))
      refine wpQuiet_nil ?_
      rintro _ ⟨t, rfl⟩
      obtain ⟨w1, hw1⟩ : ∃ w1, w1 = t.wd := ⟨_, rfl⟩
      have HB1 : Hid (Below w.heap.size w w1) := by rw [hw1]; exact t.ok
      have HF1 : Hid (Calls Tryd.prog 49 #[.slice ao rn rc] w1 fun e w' => e = .returned (.int .i64 (12 + (rn : Int))) ∧ w' = w1) := (framed_any _ r w1 (HV.out.below HB1.out) (by have := HN.out; omega)).mono fun _ _ ⟨a, b⟩ => ⟨by rw [a, ← HN.out, e12], b⟩
      rw [← hw1]
      clear hw1 HFR k7 t
      have hmk := make_bytes (12 + rn) (by omega) w1
      rw [e12] at hmk
      obtain ⟨w2, HW2⟩ : ∃ w2, Hid (w2 = w1.alloc (.cells (bs (List.replicate (12 + rn) 0)).toArray 5)) := ⟨_, rfl⟩
      rw [← HW2.out] at hmk
      have hb12 : Below w1.heap.size w1 w2 := by rw [HW2.out]; exact (Below.refl _ _).alloc (Nat.le_refl _) _
      have hX2 : Blk w2 w1.heap.size 5 (List.replicate (12 + rn) 0) := by rw [HW2.out]; exact heap_alloc_new w1 _
      have HB2 : Hid (Below w.heap.size w w2) := HB1.out.trans (hb12.mono HB1.out.size)
      have hs1 := HB1.out.size
      obtain ⟨gv, HGV⟩ : ∃ gv, Hid (gv = w1.heap.size) := ⟨_, rfl⟩
      have hz0 : 0 < w.heap.size := HT.out.2
      have HPF : Hid (∀ u, Below w2.heap.size w2 u → Calls Tryd.prog 50 #[.slice (some ⟨gv, 0, none⟩) (12 + rn) (12 + rn), .int .u32 (l.gen : Int), .int .u32 (l.fr : Int), .slice ao rn rc] u fun e w' => e = .returned (.tuple #[]) ∧ Blk w' gv 5 (frame l.gen l.fr r) ∧ Keeps (At1 gv) u w') := fun u hu => by
        have hbu := HB2.out.trans (hu.mono HB2.out.size)
        refine (putFrame_any gv 0 (12 + rn) (12 + rn) l.gen l.fr 5 (List.replicate (12 + rn) 0) r _ u (by rw [HGV.out]; exact hX2.below hu hX2.lt) (HV.out.below hbu) (HV.out.apart_new (by rw [HGV.out]; omega)) (by rw [HGV.out]; omega) (HT.out.below hbu hz0) (by have := HN.out; omega) (Nat.le_refl _) (by omega) (by simp) hge (by omega) (by have := HN.out; omega)).mono ?_
        · rintro e w' ⟨rfl, q1, q2⟩
          rw [splice_all (by rw [frame_len, List.length_replicate, HN.out])] at q1
          exact ⟨rfl, q1, q2⟩
      have hpl1 : p < w2.heap.size := Nat.lt_of_lt_of_le hplt HB2.out.size
      obtain ⟨-, -, -, -, -, d5, d6, d7, -⟩ := lg_cells (HL.out.below HB2.out).row
      go_wp2_with fail
      refine HF1.out.mono ?_
      rintro _ wx ⟨rfl, rfl⟩
      go_upto_region 6 with fail
      refine wp_region_still_tail 10 (by kernel_rfl) (by kernel_rfl) ?_
      simp only [List.take_succ_cons, List.take_zero, List.drop_succ_cons, List.drop_zero]
      iterate 10 still_step
      refine wpStill_nil ?_
      rw [← HGV.out]
      go_wp2_with fail
      refine (HPF.out _ (below_drew (Below.refl _ _))).mono ?_
      rintro _ w3 ⟨rfl, hb3, hk3⟩
      have hk3' : Keeps (At1 gv) w2 w3 := ⟨hk3.os, hk3.tape, hk3.output, hk3.size, hk3.block⟩
      have hgvw : w.heap.size ≤ gv := by rw [HGV.out]; exact hs1
      have hL3 := (HL.out.below HB2.out).keeps (hk3'.mono (fun k _ e hS => by unfold At1 at e; have := HL.out.lt k hS; omega))
      have hs3 := hk3'.size
      have hB3 : Below w.heap.size w w3 := hk3'.below HB2.out HB2.out.size (fun k hk e => by unfold At1 at e; omega)
      have hfl : (frame l.gen l.fr r).length = 12 + rn := by rw [frame_len, HN.out]
      have hS3 := hb3.sees (n := 12 + rn) hfl.symm (by omega) (frame_bytes HV.out.bytes)
      have HWR := hid (write_any S w.heap.size p gv (12 + rn) (12 + rn) l.size l ga na ca gb nb cb vw X _ w3 hL3 HL.out.lt (Nat.le_trans HB2.out.size hs3) hgvw hb3.lt hS3 (by have := HXL.out; omega) (by have := HOK.out.ws.le; omega) (by omega))
      obtain ⟨-, -, -, -, -, -, -, f7, -⟩ := lg_cells hL3.row
      have HB3 := hid hB3
      clear hb3 hk3 hk3' hL3 hB3 hfl hS3 d5 d6 d7
      go_wp2_with fail
      refine HWR.out.mono ?_
      rintro _ w4 ⟨rfl, ⟨vw', X', hL4, hX'⟩, hk4⟩
      obtain ⟨-, -, -, -, -, -, g6, -, gf⟩ := lg_cells hL4.row
      have hr4 := hL4.row
      have g6' : w4.cell? ⟨p, 6, none⟩ = some (.int .u32 (l.fr : Int)) := g6
      have HFIN : Hid (Left w (w4.setCell ⟨p, 6, none⟩ (.int .u32 ((l.fr : Int) + 1))) S p (l.app r)) := by
        have hkU : Keeps (At1 p) w4 (w4.setCell ⟨p, 6, none⟩ (.int .u32 ((l.fr : Int) + 1))) := (Keeps.refl (At1 p) w4).set ⟨p, 6, none⟩ rfl _
        have hsU : (w4.setCell ⟨p, 6, none⟩ (.int .u32 ((l.fr : Int) + 1))).heap.size = w4.heap.size := by simp [World.setCell]
        have hrU : (w4.setCell ⟨p, 6, none⟩ (.int .u32 ((l.fr : Int) + 1))).heap[p]? = some (lgRow (.slice (some ⟨ga, 0, none⟩) na ca) (.slice (some ⟨gb, 0, none⟩) nb cb) vw' (dirt (l.app r).ws) (l.app r).cur (l.app r).gen (l.app r).fr (l.app r).size) := by
          unfold lgRow at hr4 ⊢
          rw [set_cells hr4]
          show _ = some (Obj.cells #[_, _, _, _, _, _, .int .u32 ((l.fr + 1 : Nat) : Int), .int .i64 ((l.size + (12 + r.length) : Nat) : Int)] _ _)
          rw [← frame_len l.gen l.fr r]
          rfl
        have hN : ∀ k, NewS S w.heap.size w4 k ↔ NewS S w.heap.size (w4.setCell ⟨p, 6, none⟩ (.int .u32 ((l.fr : Int) + 1))) k := fun k => by unfold NewS; rw [hsU]
        have hL5 := hL4.reset (l' := l.app r) hkU hrU rfl rfl rfl (fun k hk => by rw [hsU]; exact hL4.lt k hk)
        refine ⟨⟨ga, na, ca, gb, nb, cb, vw', X', ?_⟩, HOK.out.app HV.out.bytes (by have := HN.out; omega), ?_⟩
        · rw [show NewS S w.heap.size (w4.setCell ⟨p, 6, none⟩ (.int .u32 ((l.fr : Int) + 1))) = NewS S w.heap.size w4 from funext fun k => propext (hN k).symm]
          exact hL5
        · exact ((Keeps.of HB3.out).trans (hk4.mono (fun k _ e => by
            rcases e with e | e
            · exact e ▸ HL.out.sp
            · exact HL.out.sw k e))).trans (hkU.mono (fun k _ e => by unfold At1 at e; exact e ▸ HL.out.sp))
      have hfr : l.fr < 4294967295 := by omega
      clear hL4 hX' hk4 g6 hr4
      go_wp2_with fail
      go_ret
      rw [HE.out.1, HE.out.2]
      exact ⟨rfl, HFIN.out⟩
end Go.Proofs.YteoebmpfdcbbmacDoor
