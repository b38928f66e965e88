/-
  A datagram that is held: its block and its lists; what is only read of it.
-/
import Derived.Test.YtdoeebbcieiimaaFH
namespace Go.Proofs.Ytdoeebbcieiimaa
open Go.ChangeShapes Go.WideShapes Go.ChangeAt Go.RowKit
set_option maxHeartbeats 2000000
set_option maxRecDepth 100000

def bls (L : List Bool) : List Value := L.map Value.bool
def OwnH (w : World) (base : Nat) (v : Value) (L : List Bool) : Prop := w.ownsRow base 4 1 v L.length (bls L)

theorem OwnH.shape {w : World} {base : Nat} {v : Value} {L : List Bool} (h : OwnH w base v L) : ∃ ao cap, v = .slice ao L.length cap ∧ L.length ≤ cap ∧ cap ≤ maxLen := by
  rcases h.2 with ⟨rfl, hn⟩ | ⟨g, cap, cur, rfl, _, _, h1, h2, _⟩
  · exact ⟨none, 0, by rw [hn], by omega, by unfold maxLen; omega⟩
  · exact ⟨some ⟨g, 0, none⟩, cap, rfl, h1, h2⟩

theorem OwnH.at {w : World} {base n cap : Nat} {ao : Option Addr} {L : List Bool} (h : OwnH w base (.slice ao n cap) L) (i : Nat) (hi : i < n) : ∃ g, ao = some ⟨g, 0, none⟩ ∧ g < w.heap.size ∧ w.cell? ⟨g, i, none⟩ = some (.bool (L.getD i false)) := by
  rcases h.2 with ⟨hv, hn⟩ | ⟨g, cap', cur, hv, _, hg, h1, h2, h3, h4⟩
  · simp at hv; omega
  · simp at hv
    obtain ⟨rfl, hn, rfl⟩ := hv
    refine ⟨g, rfl, (Array.getElem?_eq_some_iff.1 hg).1, ?_⟩
    rw [cell_of_row _ _ _ _ _ _ hg]
    have e : (cur.toList.take (L.length * 1))[i]? = (bls L)[i]? := by rw [h4]
    rw [List.getElem?_take_of_lt (by omega), Array.getElem?_toList] at e
    rw [e]
    have hl : i < L.length := by omega
    simp [bls, hl]

structure Dg where
  num : Int
  h : Hd
  len : Nat
  body : List Nat
  hv : List Bool
  cov : Nat

def dgCells (d : Dg) (vo vb vh : Value) : Array Value := #[.int .i64 d.num, .int .u8 (d.h.tos : Int), .int .u16 (d.h.id : Int), .bool d.h.df, .bool d.h.mf, .int .i64 d.h.off, .int .u8 (d.h.ttl : Int), .int .u8 (d.h.proto : Int), .int .u32 (d.h.src : Int), .int .u32 (d.h.dst : Int), vo, .int .i64 (d.len : Int), vb, vh, .int .i64 (d.cov : Int)]

structure DgAt (w : World) (b : Nat) (d : Dg) (vo vb vh : Value) : Prop where
  blk : w.heap[b]? = some (.cells (dgCells d vo vb vh) 97)
  opts : OwnB w 0 vo d.h.opts
  body : OwnB w 0 vb d.body
  hv : OwnH w 0 vh d.hv
  ob : ∀ x ∈ d.h.opts, x < 256
  bb : ∀ x ∈ d.body, x < 256
  ne : ∀ g, vo.ownBlock = some g → vb.ownBlock ≠ some g
  ol : d.h.opts.length ≤ 40
  bl : d.body.length ≤ 65535
  hl : d.hv.length ≤ 8192
  ll : d.len ≤ 65535
  cl : d.cov ≤ 65535
  hok : d.h.Ok

theorem DgAt.below {w w' : World} {b : Nat} {d : Dg} {vo vb vh : Value} (h : DgAt w b d vo vb vh) (hb : Below w.heap.size w w') : DgAt w' b d vo vb vh :=
  ⟨below_keeps hb h.blk (Array.getElem?_eq_some_iff.1 h.blk).1, h.opts.below hb, h.body.below hb, row_below h.hv hb, h.ob, h.bb, h.ne, h.ol, h.bl, h.hl, h.ll, h.cl, h.hok⟩

theorem DgAt.at {w : World} {b : Nat} {d : Dg} {vo vb vh : Value} (h : DgAt w b d vo vb vh) (i : Nat) (hi : i < 15) : w.cell? ⟨b, i, none⟩ = some ((dgCells d vo vb vh)[i]'hi) := by
  rw [cell_of_row w _ _ _ _ _ h.blk, Array.getElem?_eq_getElem hi]

def coversL (hv : List Bool) (k : Nat) : Bool := hv.getD (k / 8) false

theorem covers_any (b : Nat) (d : Dg) (vo vb vh : Value) (k : Nat) (w : World) (hd : DgAt w b d vo vb vh) (hk : k ≤ 1000000) :
    Calls Try.prog 92 #[.pointer (some ⟨b, 0, none⟩), .int .i64 (k : Int)] w fun e w' => e = .returned (.bool (coversL d.hv k)) ∧ w' = w := by
  obtain ⟨ao, cap, rfl, h1, h2⟩ := hd.hv.shape
  have hlen := hd.hl
  have c13 : w.cell? ⟨b, 13, none⟩ = some (.slice ao d.hv.length cap) := hd.at 13 (by omega)
  obtain ⟨q, hq⟩ : ∃ q, q = k / 8 := ⟨_, rfl⟩
  have eq : (k : Int) / 8 = (q : Int) := by omega
  have hq2 : q ≤ 1000000 := by omega
  have HR : Hid (coversL d.hv k = d.hv.getD q false) := by unfold Hid coversL; rw [hq]
  rw [HR.out]
  have HD := hid hd.hv
  by_cases hlt : q < d.hv.length
  · obtain ⟨g, rfl, hg, hc⟩ := HD.out.at q hlt
    generalize d.hv.getD q false = r at *
    generalize d.hv.length = n at *
    have b1 : (q : Int) < (n : Int) := by omega
    have b2 : (0 : Int) ≤ (q : Int) := by omega
    clear hq HR hd HD
    go_enter Try.func92, Try.ntmps92
    go_wp2_with fail
    go_ret
    exact ⟨rfl, rfl⟩
  · have HF : Hid (d.hv.getD q false = false) := by unfold Hid; rw [List.getD_eq_getElem?_getD, List.getElem?_eq_none (by omega)]; rfl
    generalize d.hv.getD q false = r at *
    generalize d.hv.length = n at *
    have b1 : ¬ (q : Int) < (n : Int) := by omega
    clear hq HR hd HD
    go_enter Try.func92, Try.ntmps92
    go_wp2_with fail
    go_ret
    exact ⟨ret_bool (by rw [HF.out]), rfl⟩

theorem endOf_any (h : Hd) (vo vb : Value) (B : List Nat) (w : World) (hvb : SeesB w vb B) (ho0 : 0 ≤ h.off) (ho1 : h.off ≤ 65535) (hlb : B.length ≤ 65535) :
    Calls Try.prog 64 #[.agg (pkCells h vo vb)] w fun e w' => e = .returned (.int .i64 (h.off + (B.length : Int))) ∧ Below w.heap.size w w' := by
  obtain ⟨w1, hw1⟩ : ∃ w1, w1 = w.alloc (.cells (pkCells h vo vb) 29) := ⟨_, rfl⟩
  have hb1 : Below w.heap.size w w1 := by rw [hw1]; exact (Below.refl _ _).alloc (Nat.le_refl _) _
  have hk1 : w1.heap[w.heap.size]? = some (.cells (pkCells h vo vb) 29) := by rw [hw1]; exact heap_alloc_new w _
  have c4 : w1.cell? ⟨w.heap.size, 4, none⟩ = some (.int .i64 h.off) := pk_at hk1 4 (by omega)
  have c10 : w1.cell? ⟨w.heap.size, 10, none⟩ = some vb := pk_at hk1 10 (by omega)
  obtain ⟨ab, nb, cb, rfl, HNB, _, _⟩ := hvb.shape
  have hnb : nb ≤ 65535 := by have := HNB.out; omega
  rw [← HNB.out]
  have HW1 := hid hw1
  have HB1 := hid hb1
  clear hw1 hb1 hk1 hvb hlb
  generalize h.off = off at *
  generalize pkCells h vo (.slice ab nb cb) = cs at *
  go_enter Try.func64, Try.ntmps64
  go_upto_region 1 with fail
  rw [← HW1.out]
  go_wp2_with fail
  go_ret
  exact ⟨rfl, HB1.out⟩

def lenW (d : Dg) (h : Hd) (nb : Nat) : Int := if h.mf then (d.len : Int) else h.off + (nb : Int)

theorem lengthWith_any (b : Nat) (d : Dg) (do_ db dh : Value) (h : Hd) (vo vb : Value) (B : List Nat) (w : World) (hd : DgAt w b d do_ db dh) (hvb : SeesB w vb B) (ho0 : 0 ≤ h.off) (ho1 : h.off ≤ 65535) (hlb : B.length ≤ 65535) :
    Calls Try.prog 66 #[.pointer (some ⟨b, 0, none⟩), .agg (pkCells h vo vb)] w fun e w' => e = .returned (.int .i64 (lenW d h B.length)) ∧ Below w.heap.size w w' := by
  obtain ⟨w1, hw1⟩ : ∃ w1, w1 = w.alloc (.cells (pkCells h vo vb) 29) := ⟨_, rfl⟩
  have hb1 : Below w.heap.size w w1 := by rw [hw1]; exact (Below.refl _ _).alloc (Nat.le_refl _) _
  have hk1 : w1.heap[w.heap.size]? = some (.cells (pkCells h vo vb) 29) := by rw [hw1]; exact heap_alloc_new w _
  have c3 : w1.cell? ⟨w.heap.size, 3, none⟩ = some (.bool h.mf) := pk_at hk1 3 (by omega)
  have HL := hid (pk_load hk1)
  have c11 : w1.cell? ⟨b, 11, none⟩ = some (.int .i64 (d.len : Int)) := (hd.below hb1).at 11 (by omega)
  have HE := hid (endOf_any h vo vb B w1 (hvb.below hb1) ho0 ho1 hlb)
  have HW1 := hid hw1
  have HB1 := hid hb1
  have HR : Hid (lenW d h B.length = if h.mf then (d.len : Int) else h.off + (B.length : Int)) := rfl
  rw [HR.out]
  clear hw1 hb1 hk1 hvb hlb hd HR
  generalize h.off + (B.length : Int) = e at *
  generalize (d.len : Int) = l at *
  generalize h.mf = mf at *
  generalize pkCells h vo vb = cs at *
  cases mf with
  | true =>
    go_enter Try.func66, Try.ntmps66
    go_upto_region 1 with fail
    rw [← HW1.out]
    go_wp2_with fail
    go_ret
    exact ⟨rfl, HB1.out⟩
  | false =>
    go_enter Try.func66, Try.ntmps66
    go_upto_region 1 with fail
    rw [← HW1.out]
    go_wp2_with (first | (refine wpList_ld 29 ⟨w.heap.size, 0, none⟩ (.tmp 3) rfl rfl HL.out rfl ?_) | fail)
    refine HE.out.mono ?_
    rintro _ w2 ⟨rfl, hb2⟩
    go_wp2_with fail
    go_ret
    exact ⟨rfl, HB1.out.trans (hb2.mono HB1.out.size)⟩

def clash (d : Dg) (h : Hd) (nb : Nat) : Bool :=
  if 0 < d.len then decide ((d.len : Int) < h.off + (nb : Int)) || (!h.mf && decide (h.off + (nb : Int) ≠ (d.len : Int))) else !h.mf && decide (h.off + (nb : Int) < (d.body.length : Int))

theorem contradicts_any (b : Nat) (d : Dg) (do_ db dh : Value) (h : Hd) (vo vb : Value) (B : List Nat) (w : World) (hd : DgAt w b d do_ db dh) (hvb : SeesB w vb B) (ho0 : 0 ≤ h.off) (ho1 : h.off ≤ 65535) (hlb : B.length ≤ 65535) :
    Calls Try.prog 38 #[.pointer (some ⟨b, 0, none⟩), .agg (pkCells h vo vb)] w fun e w' => e = .returned (.bool (clash d h B.length)) ∧ Below w.heap.size w w' := by
  obtain ⟨w1, hw1⟩ : ∃ w1, w1 = w.alloc (.cells (pkCells h vo vb) 29) := ⟨_, rfl⟩
  have hb1 : Below w.heap.size w w1 := by rw [hw1]; exact (Below.refl _ _).alloc (Nat.le_refl _) _
  have hs1 : w1.heap.size = w.heap.size + 1 := by rw [hw1]; simp
  have hk1 : w1.heap[w.heap.size]? = some (.cells (pkCells h vo vb) 29) := by rw [hw1]; exact heap_alloc_new w _
  have hku : ∀ u : Beh w1, u.wd.heap[w.heap.size]? = some (.cells (pkCells h vo vb) 29) := fun u => below_keeps u.ok hk1 (by omega)
  have c3 : ∀ u : Beh w1, u.wd.cell? ⟨w.heap.size, 3, none⟩ = some (.bool h.mf) := fun u => pk_at (hku u) 3 (by omega)
  have HQ : Hid (∀ x : World, (∃ u : Beh w1, x = u.wd) → (Instr.loadAt 29 (.pointer (some ⟨w.heap.size, 0, none⟩))).run Try.prog x = .ok (.agg (pkCells h vo vb)) x) := fun x hx => by obtain ⟨u, rfl⟩ := hx; exact pk_load (hku u)
  have HE : Hid (∀ u : Beh w1, Calls Try.prog 64 #[.agg (pkCells h vo vb)] u.wd fun e w' => e = .returned (.int .i64 (h.off + (B.length : Int))) ∧ ∃ u' : Beh w1, w' = u'.wd) := fun u => Calls.beh (endOf_any h vo vb B u.wd (hvb.below (hb1.trans (u.ok.mono hb1.size))) ho0 ho1 hlb)
  obtain ⟨ab, cb, rfl⟩ := hd.body.shape
  have HD := hid (hd.below hb1)
  have HW1 := hid hw1
  have HB1 := hid hb1
  obtain ⟨e, he⟩ : ∃ e, e = h.off + (B.length : Int) := ⟨_, rfl⟩
  rw [← he] at HE
  have he1 : 0 ≤ e := by omega
  have he2 : e ≤ 131070 := by omega
  obtain ⟨R, hR⟩ : ∃ R, R = clash d h B.length := ⟨_, rfl⟩
  have HR : Hid (R = if 0 < d.len then decide ((d.len : Int) < e) || (!h.mf && decide (e ≠ (d.len : Int))) else !h.mf && decide (e < (d.body.length : Int))) := by unfold Hid; rw [hR, he]; rfl
  rw [← hR]
  clear hw1 hb1 hs1 hk1 hku hvb hlb hd he hR ho0 ho1
  have HC : Hid (∀ u : Beh w1, u.wd.cell? ⟨b, 11, none⟩ = some (.int .i64 (d.len : Int)) ∧ u.wd.cell? ⟨b, 12, none⟩ = some (.slice ab d.body.length cb)) := fun u => ⟨(HD.out.below u.ok).at 11 (by omega), (HD.out.below u.ok).at 12 (by omega)⟩
  have hlen := HD.out.ll
  generalize h.mf = mf at *
  generalize pkCells h vo vb = cs at *
  generalize d.len = l at *
  generalize d.body.length = nb at *
  clear HD
  cases mf with
  | true =>
    by_cases hl : 0 < l
    · have hq0 : ((0 : Int) < (l : Int)) = True := by simp; omega
      by_cases hgt : (l : Int) < e
      · have HF : Hid (R = true) := by unfold Hid; rw [HR.out, if_pos hl]; simp [hgt]
        go_enter Try.func38, Try.ntmps38
        go_upto_region 1 with fail
        rw [← HW1.out]
        refine wp_region_beh (by kernel_rfl) (by kernel_rfl) ?_
        repeat (first
          | (refine wpQuiet_ld 29 ⟨w.heap.size, 0, none⟩ (.tmp 3) (by rfl) (by rfl) HQ.out (by rfl) ?_; simp only [Act.put, List.setIfInBounds_toArray, List.set_cons_zero, List.set_cons_succ])
          | (go_big_quiet_step (first | (go_at_call 64; exact HE.out _) | fail)))
        refine wpQuiet_nil ?_
        rintro _ ⟨u, rfl⟩
        obtain ⟨e11, e12⟩ := HC.out u
        go_wp2_with fail
        go_ret
        exact ⟨ret_bool (by rw [HF.out]), HB1.out.trans (u.ok.mono HB1.out.size)⟩
      · have HF : Hid (R = false) := by unfold Hid; rw [HR.out, if_pos hl]; simp [hgt]
        go_enter Try.func38, Try.ntmps38
        go_upto_region 1 with fail
        rw [← HW1.out]
        refine wp_region_beh (by kernel_rfl) (by kernel_rfl) ?_
        repeat (first
          | (refine wpQuiet_ld 29 ⟨w.heap.size, 0, none⟩ (.tmp 3) (by rfl) (by rfl) HQ.out (by rfl) ?_; simp only [Act.put, List.setIfInBounds_toArray, List.set_cons_zero, List.set_cons_succ])
          | (go_big_quiet_step (first | (go_at_call 64; exact HE.out _) | fail)))
        refine wpQuiet_nil ?_
        rintro _ ⟨u, rfl⟩
        obtain ⟨e11, e12⟩ := HC.out u
        go_wp2_with fail
        go_ret
        exact ⟨ret_bool (by rw [HF.out]), HB1.out.trans (u.ok.mono HB1.out.size)⟩
    · have hq0 : ((0 : Int) < (l : Int)) = False := by simp; omega
      have HF : Hid (R = false) := by unfold Hid; rw [HR.out, if_neg hl]; simp
      go_enter Try.func38, Try.ntmps38
      go_upto_region 1 with fail
      rw [← HW1.out]
      refine wp_region_beh (by kernel_rfl) (by kernel_rfl) ?_
      repeat (first
        | (refine wpQuiet_ld 29 ⟨w.heap.size, 0, none⟩ (.tmp 3) (by rfl) (by rfl) HQ.out (by rfl) ?_; simp only [Act.put, List.setIfInBounds_toArray, List.set_cons_zero, List.set_cons_succ])
        | (go_big_quiet_step (first | (go_at_call 64; exact HE.out _) | fail)))
      refine wpQuiet_nil ?_
      rintro _ ⟨u, rfl⟩
      obtain ⟨e11, e12⟩ := HC.out u
      go_wp2_with fail
      go_ret
      exact ⟨ret_bool (by rw [HF.out]), HB1.out.trans (u.ok.mono HB1.out.size)⟩
  | false =>
    by_cases hl : 0 < l
    · have hq0 : ((0 : Int) < (l : Int)) = True := by simp; omega
      by_cases hgt : (l : Int) < e
      · have HF : Hid (R = true) := by unfold Hid; rw [HR.out, if_pos hl]; simp [hgt]
        go_enter Try.func38, Try.ntmps38
        go_upto_region 1 with fail
        rw [← HW1.out]
        refine wp_region_beh (by kernel_rfl) (by kernel_rfl) ?_
        repeat (first
          | (refine wpQuiet_ld 29 ⟨w.heap.size, 0, none⟩ (.tmp 3) (by rfl) (by rfl) HQ.out (by rfl) ?_; simp only [Act.put, List.setIfInBounds_toArray, List.set_cons_zero, List.set_cons_succ])
          | (go_big_quiet_step (first | (go_at_call 64; exact HE.out _) | fail)))
        refine wpQuiet_nil ?_
        rintro _ ⟨u, rfl⟩
        obtain ⟨e11, e12⟩ := HC.out u
        go_wp2_with fail
        go_ret
        exact ⟨ret_bool (by rw [HF.out]), HB1.out.trans (u.ok.mono HB1.out.size)⟩
      · by_cases hne : e = (l : Int)
        · have hqn : (e != (l : Int)) = false := by simp [hne]
          have HF : Hid (R = false) := by unfold Hid; rw [HR.out, if_pos hl]; simp [hne]
          clear hne
          go_enter Try.func38, Try.ntmps38
          go_upto_region 1 with fail
          rw [← HW1.out]
          refine wp_region_beh (by kernel_rfl) (by kernel_rfl) ?_
          repeat (first
            | (refine wpQuiet_ld 29 ⟨w.heap.size, 0, none⟩ (.tmp 3) (by rfl) (by rfl) HQ.out (by rfl) ?_; simp only [Act.put, List.setIfInBounds_toArray, List.set_cons_zero, List.set_cons_succ])
            | (go_big_quiet_step (first | (go_at_call 64; exact HE.out _) | fail)))
          refine wpQuiet_nil ?_
          rintro _ ⟨u, rfl⟩
          obtain ⟨e11, e12⟩ := HC.out u
          go_wp2_with fail
          go_ret
          exact ⟨ret_bool (by rw [HF.out]), HB1.out.trans (u.ok.mono HB1.out.size)⟩
        · have hqn : (e != (l : Int)) = true := by simp [hne]
          have HF : Hid (R = true) := by unfold Hid; rw [HR.out, if_pos hl]; simp [hne]
          go_enter Try.func38, Try.ntmps38
          go_upto_region 1 with fail
          rw [← HW1.out]
          refine wp_region_beh (by kernel_rfl) (by kernel_rfl) ?_
          repeat (first
            | (refine wpQuiet_ld 29 ⟨w.heap.size, 0, none⟩ (.tmp 3) (by rfl) (by rfl) HQ.out (by rfl) ?_; simp only [Act.put, List.setIfInBounds_toArray, List.set_cons_zero, List.set_cons_succ])
            | (go_big_quiet_step (first | (go_at_call 64; exact HE.out _) | fail)))
          refine wpQuiet_nil ?_
          rintro _ ⟨u, rfl⟩
          obtain ⟨e11, e12⟩ := HC.out u
          go_wp2_with fail
          go_ret
          exact ⟨ret_bool (by rw [HF.out]), HB1.out.trans (u.ok.mono HB1.out.size)⟩
    · have hq0 : ((0 : Int) < (l : Int)) = False := by simp; omega
      have HF : Hid (R = decide (e < (nb : Int))) := by unfold Hid; rw [HR.out, if_neg hl]; simp
      go_enter Try.func38, Try.ntmps38
      go_upto_region 1 with fail
      rw [← HW1.out]
      refine wp_region_beh (by kernel_rfl) (by kernel_rfl) ?_
      repeat (first
        | (refine wpQuiet_ld 29 ⟨w.heap.size, 0, none⟩ (.tmp 3) (by rfl) (by rfl) HQ.out (by rfl) ?_; simp only [Act.put, List.setIfInBounds_toArray, List.set_cons_zero, List.set_cons_succ])
        | (go_big_quiet_step (first | (go_at_call 64; exact HE.out _) | fail)))
      refine wpQuiet_nil ?_
      rintro _ ⟨u, rfl⟩
      obtain ⟨e11, e12⟩ := HC.out u
      go_wp2_with fail
      go_ret
      exact ⟨ret_bool (by rw [HF.out]), HB1.out.trans (u.ok.mono HB1.out.size)⟩
end Go.Proofs.Ytdoeebbcieiimaa
