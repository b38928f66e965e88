import Derived.Test.YtjjmopmdiflffacI
namespace Go.Proofs.Ytjjmopmdiflffac
open Go.ChangeShapes Go.WideShapes Go.ChangeAt Go.RowKit
set_option maxHeartbeats 400000
set_option maxRecDepth 100000

def opL (k : Int) (vy vp : Value) (x y z : Nat) (h : Hd) (vo vb : Value) : List Value :=
  [.int .i64 k, vy, vp, .int .u16 (x : Int), .int .u16 (y : Int), .int .u16 (z : Int), .int .u8 (h.tos : Int), .int .u16 (h.id : Int), .bool h.df, .bool h.mf, .int .i64 h.off, .int .u8 (h.ttl : Int), .int .u8 (h.proto : Int), .int .u32 (h.src : Int), .int .u32 (h.dst : Int), vo, vb]

theorem blk_at {u : World} {n : Nat} {cs : List Value} {t : TypeId} (hb : u.heap[n]? = some (.cells cs.toArray t)) : u.rangeAt n 0 cs := fun j v hv => by
  rw [Nat.zero_add, cell_of_row u _ _ _ _ _ hb]; simpa using hv

theorem blk_new (w : World) (cs : List Value) (t : TypeId) : (w.alloc (.cells cs.toArray t)).heap[w.heap.size]? = some (.cells cs.toArray t) := heap_alloc_new w _

set_option maxHeartbeats 2000000 in
theorem numbers_adj (vy vp : Value) (x y z : Nat) (h : Hd) (vo vb : Value) (w : World) (hx : x < 65536) (hy : y < 65536) (hz : z < 65536) :
    Calls Try.prog 25 #[.agg (opL 2 vy vp x y z h vo vb).toArray] w fun e w' => e = .returned (.bool true) ∧ Below w.heap.size w w' := by
  have HB : Hid (Below w.heap.size w (w.alloc (.cells (opL 2 vy vp x y z h vo vb).toArray 45))) := (Below.refl _ _).alloc (Nat.le_refl _) _
  unfold opL at *
  go_enter Try.func25, Try.ntmps25
  go_wp2_with fail
  refine (adjust_code x y z _ hx hy hz).mono ?_
  rintro _ _ ⟨rfl, rfl⟩
  go_wp2_with fail
  refine (adjust_ref x y z _ hx hy hz).mono ?_
  rintro _ _ ⟨rfl, rfl⟩
  go_wp2_with fail
  go_ret
  exact ⟨ret_bool (by simp), HB.out⟩

set_option maxHeartbeats 2000000 in
theorem numbers_sum (vy vp : Value) (Ls : List (List Nat)) (x y z : Nat) (h : Hd) (vo vb : Value) (w : World) (hv : SeesBB w vp Ls) (hl : Ls.flatten.length ≤ 1099511627776) :
    Calls Try.prog 25 #[.agg (opL 1 vy vp x y z h vo vb).toArray] w fun e w' => e = .returned (.bool true) ∧ Below w.heap.size w w' := by
  have hb : Below w.heap.size w (w.alloc (.cells (opL 1 vy vp x y z h vo vb).toArray 45)) := (Below.refl _ _).alloc (Nat.le_refl _) _
  have HS := hid (sum_code vp Ls _ (hv.below hb) hl)
  have HC : Hid (∀ u, Below (w.alloc (.cells (opL 1 vy vp x y z h vo vb).toArray 45)).heap.size (w.alloc (.cells (opL 1 vy vp x y z h vo vb).toArray 45)) u → u.cell? ⟨w.heap.size, 2, none⟩ = some vp) := fun u hu =>
    blk_at (cs := opL 1 vy vp x y z h vo vb) (t := 45) (by rw [hu.block w.heap.size (by simp)]; exact blk_new _ _ _) 2 vp rfl
  have HV := hid hv
  have HB := hid hb
  have HL := hid hl
  have hlt := M.csum_lt Ls.flatten
  obtain ⟨ao, n, cap, rfl, HN, hn1, hn2⟩ := hv.shape
  generalize hs : M.csum Ls.flatten = s at *
  have HSE := hid hs
  unfold opL at *
  clear hv hb hl hs
  go_enter Try.func25, Try.ntmps25
  go_wp2_with fail
  refine HS.out.mono ?_
  rintro _ w2 ⟨rfl, hb2⟩
  have c2 := HC.out _ hb2
  have hb3 := HB.out.trans (hb2.mono HB.out.size)
  go_wp2_with fail
  refine (join_any _ Ls w2 (HV.out.below hb3) HL.out).mono ?_
  rintro _ w3 ⟨v3, rfl, hO3, hb4⟩
  have hs3 := hO3.sees (fun x hx => by
    obtain ⟨l, hl, hx⟩ := List.mem_flatten.1 hx
    exact HV.out.bytes l hl x hx)
  have HS3 := sum_ref _ _ _ (seesBB_one rfl _ _ hs3 28) (by simpa using HL.out)
  rw [show [Ls.flatten].flatten = Ls.flatten by simp, HSE.out] at HS3
  obtain ⟨a3, n3, cap3, rfl, _, _, _⟩ := hs3.shape
  have HS3 := hid HS3
  have hb5 := hb3.trans (hb4.mono hb3.size)
  have hb6 := hb5.alloc hb5.size (.cells #[.slice a3 n3 cap3] 28)
  clear hs3 hO3 c2 hb2 hb4 hb3 hb5
  go_wp2_with fail
  refine HS3.out.mono ?_
  rintro _ w4 ⟨rfl, hb7⟩
  go_wp2_with fail
  go_ret
  exact ⟨ret_bool (by simp), hb6.trans (hb7.mono hb6.size)⟩

set_option maxHeartbeats 2000000 in
theorem plays_num (k : Int) (hk : k = 1 ∨ k = 2) (vy vp : Value) (x y z : Nat) (h : Hd) (vo vb : Value) (w : World)
    (hn : ∀ u, Below w.heap.size w u → Calls Try.prog 25 #[.agg (opL k vy vp x y z h vo vb).toArray] u fun e w' => e = .returned (.bool true) ∧ Below u.heap.size u w') :
    Calls Try.prog 16 #[.agg (opL k vy vp x y z h vo vb).toArray] w fun e w' => e = .returned (.bool true) ∧ Below w.heap.size w w' := by
  have hb : Below w.heap.size w (w.alloc (.cells (opL k vy vp x y z h vo vb).toArray 45)) := (Below.refl _ _).alloc (Nat.le_refl _) _
  have HLD := hid (range_load58 (blk_at (blk_new w (opL k vy vp x y z h vo vb) 58)) rfl)
  have HNM := hid (hn _ hb)
  have HB := hid hb
  clear hn hb
  unfold opL at *
  rcases hk with rfl | rfl
  · go_enter Try.func16, Try.ntmps16
    go_wp2_with (first | (refine wpList_ld 45 ⟨w.heap.size, 0, none⟩ (.tmp 1) rfl rfl HLD.out rfl ?_) | fail)
    refine HNM.out.mono ?_
    rintro _ w2 ⟨rfl, hb2⟩
    go_wp2_with fail
    go_ret
    exact ⟨rfl, HB.out.trans (hb2.mono HB.out.size)⟩
  · go_enter Try.func16, Try.ntmps16
    go_wp2_with (first | (refine wpList_ld 45 ⟨w.heap.size, 0, none⟩ (.tmp 1) rfl rfl HLD.out rfl ?_) | fail)
    refine HNM.out.mono ?_
    rintro _ w2 ⟨rfl, hb2⟩
    go_wp2_with fail
    go_ret
    exact ⟨rfl, HB.out.trans (hb2.mono HB.out.size)⟩
end Go.Proofs.Ytjjmopmdiflffac
