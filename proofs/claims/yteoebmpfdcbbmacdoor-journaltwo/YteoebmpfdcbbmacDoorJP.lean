/-
  write.
-/
import Derived.Test.YteoebmpfdcbbmacDoorJO
namespace Go.Proofs.YteoebmpfdcbbmacDoor
open Go.ChangeShapes Go.WideShapes Go.ChangeAt Go.RowKit Jn N
set_option maxHeartbeats 4000000
set_option maxRecDepth 100000

/-- The blocks of a journal, and those that were made since. -/
def NewS (S : Nat → Prop) (B : Nat) (w : World) (k : Nat) : Prop := S k ∨ (B ≤ k ∧ k < w.heap.size)

def Lg.push (l : Lg) (pl : Nat) (bs : List Nat) : Lg := { l with ws := l.ws ++ [⟨l.cur, pl, bs⟩], size := pl + bs.length }

theorem LogX.push {w w6 : World} {S : Nat → Prop} {B p gv nv cv pl n g6 cap6 : Nat} {l : Lg} {ga na ca gb nb cb : Nat} {vw : Value} {X : List Wv} {bs : List Nat} (h : LogX w S p l ga na ca gb nb cb vw X) (hB : ∀ k, S k → k < B) (_hBw : B ≤ w.heap.size) (hgv : B ≤ gv) (hgl : gv < w.heap.size) (hv : SeesB w (.slice (some ⟨gv, 0, none⟩) nv cv) bs) (hnv : nv = bs.length)
    (hk : Keeps (fun k => vw.ownBlock = some k) w w6) (ho : OwnW w6 0 (.slice (some ⟨g6, 0, none⟩) (n + 1) cap6) (X ++ [⟨l.cur, pl, .slice (some ⟨gv, 0, none⟩) nv cv, bs⟩])) (hat : vw.ownBlock = some g6 ∨ w.heap.size ≤ g6) (hg6 : g6 < w6.heap.size) :
    LogX (((w6.setCell ⟨p, 2, none⟩ (.slice (some ⟨g6, 0, none⟩) (n + 1) cap6)).setCell ⟨p, 3, none⟩ (.int .i64 ((dirt l.ws + nv : Nat) : Int))).setCell ⟨p, 7, none⟩ (.int .i64 ((pl + nv : Nat) : Int))) (NewS S B (((w6.setCell ⟨p, 2, none⟩ (.slice (some ⟨g6, 0, none⟩) (n + 1) cap6)).setCell ⟨p, 3, none⟩ (.int .i64 ((dirt l.ws + nv : Nat) : Int))).setCell ⟨p, 7, none⟩ (.int .i64 ((pl + nv : Nat) : Int)))) p (Lg.push l pl bs) ga na ca gb nb cb (.slice (some ⟨g6, 0, none⟩) (n + 1) cap6) (X ++ [⟨l.cur, pl, .slice (some ⟨gv, 0, none⟩) nv cv, bs⟩]) ∧ Keeps (fun k => k = p ∨ vw.ownBlock = some k) w (((w6.setCell ⟨p, 2, none⟩ (.slice (some ⟨g6, 0, none⟩) (n + 1) cap6)).setCell ⟨p, 3, none⟩ (.int .i64 ((dirt l.ws + nv : Nat) : Int))).setCell ⟨p, 7, none⟩ (.int .i64 ((pl + nv : Nat) : Int))) := by
  have hp := h.lt p h.sp
  have npw : vw.ownBlock ≠ some p := h.ws.ne_of h.row (by decide)
  have hr6 : w6.heap[p]? = some (lgRow (.slice (some ⟨ga, 0, none⟩) na ca) (.slice (some ⟨gb, 0, none⟩) nb cb) vw (dirt l.ws) l.cur l.gen l.fr l.size) := (hk.block p hp npw).trans h.row
  have hkU : Keeps (At1 p) w6 (((w6.setCell ⟨p, 2, none⟩ (.slice (some ⟨g6, 0, none⟩) (n + 1) cap6)).setCell ⟨p, 3, none⟩ (.int .i64 ((dirt l.ws + nv : Nat) : Int))).setCell ⟨p, 7, none⟩ (.int .i64 ((pl + nv : Nat) : Int))) := (((Keeps.refl (At1 p) w6).set ⟨p, 2, none⟩ rfl _).set ⟨p, 3, none⟩ rfl _).set ⟨p, 7, none⟩ rfl _
  have hrU : (((w6.setCell ⟨p, 2, none⟩ (.slice (some ⟨g6, 0, none⟩) (n + 1) cap6)).setCell ⟨p, 3, none⟩ (.int .i64 ((dirt l.ws + nv : Nat) : Int))).setCell ⟨p, 7, none⟩ (.int .i64 ((pl + nv : Nat) : Int))).heap[p]? = some (lgRow (.slice (some ⟨ga, 0, none⟩) na ca) (.slice (some ⟨gb, 0, none⟩) nb cb) (.slice (some ⟨g6, 0, none⟩) (n + 1) cap6) (dirt l.ws + nv) l.cur l.gen l.fr (pl + nv)) := by
    unfold lgRow at hr6 ⊢
    rw [set_cells (set_cells (set_cells hr6))]
    rfl
  generalize (((w6.setCell ⟨p, 2, none⟩ (.slice (some ⟨g6, 0, none⟩) (n + 1) cap6)).setCell ⟨p, 3, none⟩ (.int .i64 ((dirt l.ws + nv : Nat) : Int))).setCell ⟨p, 7, none⟩ (.int .i64 ((pl + nv : Nat) : Int))) = U at *
  have hkk : Keeps (fun k => k = p ∨ vw.ownBlock = some k) w U := (hk.mono (fun k _ e => .inr e)).trans (hkU.mono (fun k _ e => .inl e))
  refine ⟨?_, hkk⟩
  obtain ⟨ra, hra⟩ := h.a.row
  obtain ⟨rb, hrb⟩ := h.b.row
  have nga : vw.ownBlock ≠ some ga := h.ws.ne_of hra (by decide)
  have ngb : vw.ownBlock ≠ some gb := h.ws.ne_of hrb (by decide)
  have npa : ga ≠ p := h.a.ne_of h.row (by decide)
  have npb : gb ≠ p := h.b.ne_of h.row (by decide)
  have sz := hkk.size
  have sgv : ∀ k, S k → k ≠ gv := fun k hk e => by have := hB k hk; omega
  have g6v : g6 ≠ gv := by
    rcases hat with e | e
    · exact sgv _ (h.sw _ e)
    · omega
  refine ⟨?_, h.a.keeps hkk (fun k hk e => ?_), h.b.keeps hkk (fun k hk e => ?_), h.ne, ho.keeps hkU (fun k hk e => ?_), ?_, ?_, .inl h.sp, .inl h.sa, .inl h.sb, fun k hk => ?_, ?_⟩
  · show U.heap[p]? = some (lgRow _ _ _ (dirt (l.ws ++ [_])) l.cur l.gen l.fr (pl + bs.length))
    rw [dirt_append, hrU, hnv]
    simp [dirt]
  · simp [Value.ownBlock] at hk
    rcases e with e | e
    · omega
    · exact nga (hk ▸ e)
  · simp [Value.ownBlock] at hk
    rcases e with e | e
    · omega
    · exact ngb (hk ▸ e)
  · simp [Value.ownBlock] at hk
    unfold At1 at e
    rcases hat with e' | e'
    · exact npw (by rw [e', hk, e])
    · omega
  · show List.map Wv.wr (X ++ [_]) = l.ws ++ [_]
    rw [List.map_append, h.wr]
    rfl
  · intro x hx
    rcases List.mem_append.1 hx with hx | hx
    · obtain ⟨q1, q2⟩ := h.by_ x hx
      refine ⟨q1.keeps hkk (fun a n c e hn => ?_), fun a n c e => ?_⟩
      · obtain ⟨-, -, -, q, q'⟩ := q2 a n c e
        rcases hn with hn | hn
        · exact q hn
        · exact q' hn
      · obtain ⟨p1, p2, p3, p4, p5⟩ := q2 a n c e
        refine ⟨.inl p1, p2, p3, p4, fun e' => ?_⟩
        simp [Value.ownBlock] at e'
        rcases hat with e1 | e1
        · exact p5 (by rw [e1, e'])
        · have := h.lt _ p1
          omega
    · simp at hx
      subst hx
      refine ⟨hv.keeps hkk (fun a n c e hn => ?_), fun a n c e => ?_⟩
      · simp at e
        obtain ⟨rfl, -, -⟩ := e
        rcases hn with hn | hn
        · exact sgv p h.sp hn.symm
        · exact sgv _ (h.sw _ hn) rfl
      · simp at e
        obtain ⟨rfl, -, -⟩ := e
        exact ⟨.inr ⟨hgv, by show gv < _; omega⟩, (sgv ga h.sa).symm, (sgv gb h.sb).symm, (sgv p h.sp).symm, fun e' => by simp [Value.ownBlock] at e'; exact g6v e'⟩
  · simp [Value.ownBlock] at hk
    subst hk
    rcases hat with e' | e'
    · exact .inl (h.sw _ e')
    · exact .inr ⟨by omega, Nat.lt_of_lt_of_le hg6 hkU.size⟩
  · rintro k (hk | ⟨-, hk⟩)
    · exact Nat.lt_of_lt_of_le (h.lt k hk) sz
    · exact hk

theorem write_any (S : Nat → Prop) (B p gv nv cv pl : Nat) (l : Lg) (ga na ca gb nb cb : Nat) (vw : Value) (X : List Wv) (bs : List Nat) (w : World) (h : LogX w S p l ga na ca gb nb cb vw X) (hB : ∀ k, S k → k < B) (hBw : B ≤ w.heap.size) (hgv : B ≤ gv) (hgl : gv < w.heap.size) (hv : SeesB w (.slice (some ⟨gv, 0, none⟩) nv cv) bs) (hX : X.length + 1 ≤ 3000000000000) (hd : dirt l.ws ≤ 4611686018427387904) (hp : pl + nv ≤ 1099511627776) :
    Calls Tryd.prog 51 #[.pointer (some ⟨p, 0, none⟩), .int .i64 (pl : Int), .slice (some ⟨gv, 0, none⟩) nv cv] w fun e w' => e = .returned (.tuple #[]) ∧ (∃ vw' X', LogX w' (NewS S B w') p (Lg.push l pl bs) ga na ca gb nb cb vw' X' ∧ X'.length = X.length + 1) ∧ Keeps (fun k => k = p ∨ vw.ownBlock = some k) w w' := by
  have hnv : nv = bs.length := by obtain ⟨_, _, hv', _⟩ := hv; simp at hv'; exact hv'.2.1
  obtain ⟨aw, n, cw, rfl, HN, hn1, hn2⟩ := h.ws.shape
  obtain ⟨c0, c1, c2, c3, c4, c5, c6, c7, cf⟩ := lg_cells h.row
  obtain ⟨W, HW⟩ : ∃ W, Hid (W = (w.alloc (.cells #[.int .i64 (l.cur : Int), .int .i64 (pl : Int), .slice (some ⟨gv, 0, none⟩) nv cv] 101)).drew) := ⟨_, rfl⟩
  have hbW : Below w.heap.size w W := by
    rw [HW.out]
    have h0 := (Below.refl w.heap.size w).alloc (Nat.le_refl _) (.cells #[.int .i64 (l.cur : Int), .int .i64 (pl : Int), .slice (some ⟨gv, 0, none⟩) nv cv] 101)
    exact ⟨h0.os, h0.tape, h0.output, h0.size, h0.block⟩
  have HL := hid h
  have HLW := hid (h.below hbW)
  have HNEW : Hid (∀ (i : Nat) u, [Value.int .i64 (l.cur : Int), .int .i64 (pl : Int), .slice (some ⟨gv, 0, none⟩) nv cv][i]? = some u → W.cell? ((⟨w.heap.size, 0, none⟩ : Addr).add i) = some u) := by
    have h1 : W.heap[w.heap.size]? = some (.cells #[.int .i64 (l.cur : Int), .int .i64 (pl : Int), .slice (some ⟨gv, 0, none⟩) nv cv] 101 (0, 0)) := by rw [HW.out]; exact heap_alloc_new w _
    exact World.news_of_block h1
  have hsW : W.heap.size = w.heap.size + 1 := by rw [HW.out]; exact World.size_alloc _ _
  obtain ⟨i0, hi0, hz0, hz1, hz2⟩ := info_parts infoW
  have HI := hid hi0
  have hnn : n + 1 ≤ 3000000000000 := by have := HN.out; omega
  have hC3 : n + 1 ≤ maxLen := by unfold maxLen; omega
  have hC : (n + 1) * 40 ≤ 140737488355328 := by omega
  have HOWN : Hid (W.ownsRow 0 101 3 (.slice aw n cw) n (X.flatMap wc)) := by
    have := HLW.out.ws
    unfold OwnW at this
    rw [← HN.out] at this
    exact this
  have hpl1 := h.lt p h.sp
  have hpl2 : p < W.heap.size := by omega
  have npw : some p ≠ Value.ownBlock (.slice aw n cw) := Ne.symm (h.ws.ne_of h.row (by decide))
  have HFIN : Hid (∀ (w6 : World) (g6 cap6 : Nat), w6.ownsRow 0 101 3 (.slice (some ⟨g6, 0, none⟩) (n + 1) cap6) (n + 1) (X.flatMap wc ++ [.int .i64 (l.cur : Int), .int .i64 (pl : Int), .slice (some ⟨gv, 0, none⟩) nv cv]) → W.grownBy w6 (Value.ownBlock (.slice aw n cw)) → (Value.ownBlock (.slice aw n cw) = some g6 ∨ g6 = w.heap.size + 1) → g6 < w6.heap.size → (∃ vw' X', LogX (((w6.setCell ⟨p, 2, none⟩ (.slice (some ⟨g6, 0, none⟩) (n + 1) cap6)).setCell ⟨p, 3, none⟩ (.int .i64 ((dirt l.ws + nv : Nat) : Int))).setCell ⟨p, 7, none⟩ (.int .i64 ((pl + nv : Nat) : Int))) (NewS S B (((w6.setCell ⟨p, 2, none⟩ (.slice (some ⟨g6, 0, none⟩) (n + 1) cap6)).setCell ⟨p, 3, none⟩ (.int .i64 ((dirt l.ws + nv : Nat) : Int))).setCell ⟨p, 7, none⟩ (.int .i64 ((pl + nv : Nat) : Int)))) p (Lg.push l pl bs) ga na ca gb nb cb vw' X' ∧ X'.length = X.length + 1) ∧ Keeps (fun k => k = p ∨ Value.ownBlock (.slice aw n cw) = some k) w (((w6.setCell ⟨p, 2, none⟩ (.slice (some ⟨g6, 0, none⟩) (n + 1) cap6)).setCell ⟨p, 3, none⟩ (.int .i64 ((dirt l.ws + nv : Nat) : Int))).setCell ⟨p, 7, none⟩ (.int .i64 ((pl + nv : Nat) : Int)))) := by
    intro w6 g6 cap6 ho hgr hat hlt
    have hk : Keeps (fun k => Value.ownBlock (.slice aw n cw) = some k) w w6 := (Keeps.of hbW).trans (Keeps.grown hgr (fun k e => e))
    have ho' : OwnW w6 0 (.slice (some ⟨g6, 0, none⟩) (n + 1) cap6) (X ++ [⟨l.cur, pl, .slice (some ⟨gv, 0, none⟩) nv cv, bs⟩]) := by
      unfold OwnW
      rw [List.length_append, ← HN.out, List.flatMap_append]
      exact ho
    obtain ⟨r1, r2⟩ := HL.out.push hB hBw hgv hgl hv hnv hk ho' (hat.imp id (fun e => by omega)) hlt
    exact ⟨⟨_, _, r1, by simp⟩, r2⟩
  have HROW := hid (fun (w6 : World) (hgr : W.grownBy w6 (Value.ownBlock (.slice aw n cw))) => (hgr.block p hpl2 npw).trans HLW.out.row)
  have e1 : ((dirt l.ws + nv : Nat) : Int) = ((dirt l.ws : Nat) : Int) + (nv : Int) := by omega
  have e2 : ((pl + nv : Nat) : Int) = (pl : Int) + (nv : Int) := by omega
  rw [e1, e2] at HFIN
  obtain ⟨dd, HDD⟩ : ∃ dd, Hid (dd = dirt l.ws) := ⟨_, rfl⟩
  rw [← HDD.out] at c3 hd HFIN HROW
  clear h hv hi0 hB hBw hgv hgl e1 e2 HN c0 c1 c5 c6 c7 hnv
  go_enter Tryd.func51, Tryd.ntmps51
  go_upto_region 0 with fail
  go_region_law (first
    | (rw [← HW.out]; refine step_append_lies _ (by rfl) _ _ _ (by rfl) 0 101 i0 (.agg #[.int .i64 0, .int .i64 0, .slice none 0 0]) 3 40 (by kernel_rfl) HI.out hz0 hz1 hz2 rfl (by omega) (.slice aw n cw) n (X.flatMap wc) (by rfl) HOWN.out ⟨w.heap.size, 0, none⟩ 1 1 [.int .i64 (l.cur : Int), .int .i64 (pl : Int), .slice (some ⟨gv, 0, none⟩) nv cv] (by rfl) (by rfl) HNEW.out (by simp [Value.oneCell']) (by omega) hC3 hC (Nat.zero_le _) (w.heap.size + 1) hsW ?_; intro g6 cap6 w6 hown6 hgrow hat6 hlt6; obtain ⟨-, -, k2, k3, -, -, -, k7, kf⟩ := lg_cells (HROW.out w6 hgrow))
    | fail)
  all_goals (
    have HE := hid (HFIN.out w6 g6 cap6 hown6 hgrow hat6 hlt6)
    clear hown6 hgrow hat6 hlt6
    go_wp2_with fail
    exact bodyPost_end (results_none Tryd.results51 _ _ _) rfl ⟨rfl, HE.out.1, HE.out.2⟩)
end Go.Proofs.YteoebmpfdcbbmacDoor
