import Derived.Test.YthmhiehglcfepaaGreatDoorYFwF
import Derived.Test.YthmhiehglcfepaaGreatDoorEM
import Derived.Test.YthmhiehglcfepaaGreatDoorEV
import Derived.Test.YthmhiehglcfepaaGreatDoorEW
import Derived.Test.YthmhiehglcfepaaGreatDoorYFwG
import Derived.Test.YthmhiehglcfepaaGreatDoorEL
import Derived.Test.YthmhiehglcfepaaGreatDoorYFlZV
import Derived.Test.YthmhiehglcfepaaGreatDoorES
import Derived.Test.YthmhiehglcfepaaGreatDoorEU
import Derived.Deep.Strs
import Derived.Deep.DeepHandedRow
import Derived.Lib.LaidTab
import Derived.Stop.LaidErr
namespace Go.Proofs.YthmhiehglcfepaaGreatDoor.Fl
open Go.Proofs.YthmhiehglcfepaaGreatDoor Go.ChangeShapes Go.WideShapes Go.ChangeAt Go.RowKit Go.Maps N
set_option maxHeartbeats 4000000
set_option maxRecDepth 100000

theorem rdH_ok {L : List Nat} (h : ∀ x ∈ L, x < 256) (k : Nat) : (rdH L k).Ok :=
  ⟨byt_lt h 1, w16_lt h 4, ⟨by show (-9223372036854775808 : Int) ≤ ((w16 L 6 % 8192 * 8 : Nat) : Int); omega, by show ((w16 L 6 % 8192 * 8 : Nat) : Int) ≤ 9223372036854775807; omega⟩, byt_lt h 8, byt_lt h 9, w32_lt h 12, w32_lt h 16⟩
theorem zeroH_ok : zeroH.Ok := ⟨by decide, by decide, by decide, by decide, by decide, by decide, by decide⟩
theorem readL_ok {L : List Nat} (h : ∀ x ∈ L, x < 256) (b : Bool) : (readL L b).1.Ok := by
  unfold readL
  split
  · exact rdH_ok (fun x hx => h x (List.mem_of_mem_take hx)) _
  · exact zeroH_ok
theorem readL_len (L : List Nat) (b : Bool) : (readL L b).2.1.length ≤ L.length := by
  unfold readL
  split
  · simp only [List.length_drop, List.length_take]; omega
  · exact Nat.zero_le _
theorem abt_ok {h : Hd} {B : List Nat} (hb : ∀ x ∈ B, x < 256) : (abt h B).1.Ok := by
  unfold abt
  split
  · exact zeroH_ok
  · split
    · exact readL_ok (msgC_ok hb).2.1 _
    · exact zeroH_ok
theorem abt_len {h : Hd} {B : List Nat} (hb : ∀ x ∈ B, x < 256) : (abt h B).2.1.length ≤ 65507 := by
  unfold abt
  split
  · exact Nat.zero_le _
  · split
    · exact Nat.le_trans (readL_len _ _) (msgC_ok hb).2.2
    · exact Nat.zero_le _
theorem isHdD : ∃ d, Tryz.prog.underlying 39 = some d ∧ d.isRow = true := ⟨_, Tryz.underlying39, rfl⟩
theorem load_hd {u : World} {b : Nat} {h : Hd} {vo : Value} {r : Nat × Nat} (hr : u.heap[b]? = some (.cells (hdCells h vo) 39 r)) : (Instr.loadAt 39 (.pointer (some ⟨b, 0, none⟩))).run Tryz.prog u = .ok (.agg (hdCells h vo)) u := by
  obtain ⟨d, hd1, hd2⟩ := isHdD
  exact load_at (cs := (hdCells h vo).toList) hr rfl hd1 hd2 (by kernel_rfl)
theorem fld_f0 (b : Nat) (u : World) : (Instr.fieldAt 44 (.pointer (some ⟨b, 0, none⟩)) 0).run Tryz.prog u = .ok (.pointer (some ⟨b, 0, none⟩)) u := by kernel_rfl

/-- The tuple of the packet that a fault quotes. -/
def quoT (h : Hd) (B : List Nat) : Option Tu :=
  if (abt h B).2.2 ≠ 0 then none else if 0 < (abt h B).1.off then none else if (abt h B).2.1.length < 8 then none else (contC (abt h B).1.proto (abt h B).2.1).map (tupC (abt h B).1)
theorem quoT_ok {h : Hd} {B : List Nat} (hb : ∀ x ∈ B, x < 256) (hb2 : ∀ x ∈ (abt h B).2.1, x < 256) {t : Tu} (ht : quoT h B = some t) : t.Ok := by
  unfold quoT at ht
  split at ht
  · cases ht
  · split at ht
    · cases ht
    · split at ht
      · cases ht
      · obtain ⟨c, hc, rfl⟩ := Option.map_eq_some_iff.1 ht
        exact tupC_ok (abt_ok hb) (contC_ok hb2 hc)
theorem abt_bytes {h : Hd} {B : List Nat} (hb : ∀ x ∈ B, x < 256) : ∀ x ∈ (abt h B).2.1, x < 256 := by
  unfold abt
  split
  · intro x hx; cases hx
  · split
    · intro x hx
      unfold readL at hx
      split at hx
      · exact (msgC_ok hb).2.1 x (List.mem_of_mem_take (List.mem_of_mem_drop hx))
      · cases hx
    · intro x hx; cases hx

theorem quoted_any (h : Hd) (vo vb : Value) (B : List Nat) (w : World) (hok : h.Ok) (hvo : SeesB w vo h.opts) (hvb : SeesB w vb B) (hlo : h.opts.length ≤ 140737488355328) (hlb : B.length ≤ 140737488355328) (htK : TabK w) :
    Calls Tryz.prog 72 #[.agg (pkCells h vo vb)] w fun e w' => e = .returned (.tuple #[.agg ((quoT h B).getD zTu).cells, .bool (quoT h B).isSome]) ∧ Below w.heap.size w w' := by
  obtain ⟨wa, HWA⟩ : ∃ wa, Hid (wa = w.alloc (.cells (pkCells h vo vb) 41)) := ⟨_, rfl⟩
  obtain ⟨w0, HW0⟩ : ∃ w0, Hid (w0 = wa.alloc (.cells #[.int .u32 0, .int .u32 0, .int .u8 0, .int .u16 0, .int .u16 0] 34)) := ⟨_, rfl⟩
  obtain ⟨g0, HG0⟩ : ∃ g, Hid (g = w.heap.size) := ⟨_, rfl⟩
  have sa : wa.heap.size = g0 + 1 := by rw [HWA.out, HG0.out]; simp
  have s0 : w0.heap.size = g0 + 2 := by rw [HW0.out, World.size_alloc, sa]
  have ba : Below w.heap.size w wa := by rw [HWA.out]; exact (Below.refl _ _).alloc (Nat.le_refl _) _
  have bb : Below wa.heap.size wa w0 := by rw [HW0.out]; exact (Below.refl _ _).alloc (Nat.le_refl _) _
  have ra : wa.heap[g0]? = some (.cells (pkCells h vo vb) 41 (0, 0)) := by rw [HWA.out, HG0.out]; exact heap_alloc_new w _
  have r1 : w0.heap[g0 + 1]? = some (.cells zTu.cells 34 (0, 0)) := by
    have := heap_alloc_new wa (.cells zTu.cells 34); rw [sa] at this; rw [HW0.out]; exact this
  have r0 := below_keeps bb ra (by omega)
  have hb0 : Below w.heap.size w w0 := ba.trans (bb.mono ba.size)
  have HB0 := hid hb0
  have HGW : Hid (w.heap.size ≤ g0) := by unfold Hid; rw [HG0.out]; exact Nat.le_refl _
  have HPL := hid (pk_load r0)
  have HBW : Hid (∀ u : World, Below w0.heap.size w0 u → u.heap[g0]? = some (.cells (pkCells h vo vb) 41 (0, 0)) ∧ u.heap[g0 + 1]? = some (.cells zTu.cells 34 (0, 0))) := fun u hu => ⟨below_keeps hu r0 (by omega), below_keeps hu r1 (by omega)⟩
  have HALLOC : Hid ((w.alloc (.cells (pkCells h vo vb) 41)).alloc (.cells #[.int .u32 0, .int .u32 0, .int .u8 0, .int .u16 0, .int .u16 0] 34) = w0) := by unfold Hid; rw [HW0.out, HWA.out]
  have HAB := hid (about_any h vo vb B w0 hok (hvo.below hb0) (hvb.below hb0) hlo hlb (htK.below hb0))
  have HQ : Hid (quoT h B = if (abt h B).2.2 ≠ 0 then none else if 0 < (abt h B).1.off then none else if (abt h B).2.1.length < 8 then none else (contC (abt h B).1.proto (abt h B).2.1).map (tupC (abt h B).1)) := rfl
  have HAO := hid (abt_ok (h := h) hvb.bytes)
  have HAL := hid (abt_len (h := h) hvb.bytes)
  generalize quoT h B = Q at *
  generalize abt h B = AB at *
  obtain ⟨AH, AL, AE⟩ := AB
  generalize pkCells h vo vb = pk at *
  clear hok hvo hvb hlo hlb htK sa s0 ba bb ra r0 r1 hb0 HWA HW0
  dsimp only at HAB HQ HAO HAL
  go_enter Tryz.func72, Tryz.ntmps72
  go_upto_region 1 with fail
  rw [HALLOC.out, ← HG0.out]
  go_wp2_with (first | (refine wpList_ld 41 ⟨g0, 0, none⟩ (.tmp 1) rfl rfl HPL.out rfl ?_) | fail)
  refine HAB.out.mono ?_
  rintro _ w1 ⟨a1, n1, c1, a2, n2, c2, rfl, ho1, hs1, hb1⟩
  obtain ⟨a9, n9, c9, e9, hn9, _⟩ := hs1.shape
  cases e9
  have HB1 := hid hb1
  have HS1 := hid hs1
  have HN9 : Hid (n2 = AL.length) := hn9
  clear hb1 hs1 ho1 hn9
  have HN1 : Hid ((w1.alloc (.cells #[.int .u8 0, .int .u16 0, .bool false, .bool false, .int .i64 0, .int .u8 0, .int .u8 0, .int .u32 0, .int .u32 0, .slice none 0 0] 39)).heap[w1.heap.size]? = some (.cells #[.int .u8 0, .int .u16 0, .bool false, .bool false, .int .i64 0, .int .u8 0, .int .u8 0, .int .u32 0, .int .u32 0, .slice none 0 0] 39 (0, 0))) := heap_alloc_new _ _
  go_upto_region 2 with (first | (refine wpList_st rfl 39 (.tmp 4) (.tmp 12) rfl w1.heap.size (hdCells AH (.slice a1 n1 c1)) rfl rfl _ #[.int .u8 0, .int .u16 0, .bool false, .bool false, .int .i64 0, .int .u8 0, .int .u8 0, .int .u32 0, .int .u32 0, .slice none 0 0] HN1.out (by kernel_rfl) rfl (hd_one _ _ _ _) ?_; intro w3 hw3 hbut3) | fail)
  obtain ⟨gx, HGX⟩ : ∃ g, Hid (g = w1.heap.size) := ⟨_, rfl⟩
  rw [← HGX.out] at hw3 hbut3 ⊢
  have hb2a : Below w0.heap.size w0 (w1.alloc (.cells #[.int .u8 0, .int .u16 0, .bool false, .bool false, .int .i64 0, .int .u8 0, .int .u8 0, .int .u32 0, .int .u32 0, .slice none 0 0] 39)) := HB1.out.trans ((Below.refl _ _).alloc HB1.out.size _)
  have hX0 : w0.heap.size ≤ gx := by rw [HGX.out]; exact HB1.out.size
  have hb13 : Below w1.heap.size w1 w3 := hbut3.below ((Below.refl _ _).alloc (Nat.le_refl _) _) (by simp) (by rw [HGX.out]; exact Nat.le_refl _)
  have HB3 := hid (hbut3.below hb2a hb2a.size hX0)
  have HS3 := hid (HS1.out.below hb13)
  have HX3 := hid hw3
  have HBW3 := hid (HB0.out.trans (HB3.out.mono HB0.out.size))
  have HZ3 := hid (HBW.out w3 HB3.out).2
  clear hb2a hX0 hb13 hbut3 HN1
  obtain ⟨k0, k1, k2, k3, k4, k5, k6, k7, k8, k9⟩ := hd_at hw3
  clear k0 k1 k2 k3 k5 k7 k8 k9 hw3
  have HK6 := hid k6
  clear k6
  by_cases hE : AE = 0
  · by_cases hO : 0 < AH.off
    · have HV : Hid (Q = none) := by unfold Hid; rw [HQ.out, if_neg (by simpa using hE), if_pos hO]
      have q1 : (AE != 0) = false := by simp [hE]
      go_wp2_with (first | (refine wpList_val (ex_build 34 _ #[] _ rfl rfl (build_ztu _)) rfl ?_) | (refine wpList_st rfl 34 (.tmp 2) (.tmp 27) rfl (g0 + 1) zTu.cells rfl rfl _ zTu.cells HZ3.out (by kernel_rfl) rfl zTu.one ?_; intro w6 hw6 hbut6) | fail)
      have hlv := lv_tu hw6
      refine bodyPost_ret (v := .tuple #[.agg zTu.cells, .bool false]) (by simp [results, Tryz.results72, asAddr, hlv]) rfl ?_
      rw [HV.out]
      exact ⟨rfl, hbut6.below HBW3.out HBW3.out.size (by have := HGW.out; omega)⟩
    · by_cases hL : AL.length < 8
      · have HV : Hid (Q = none) := by unfold Hid; rw [HQ.out, if_neg (by simpa using hE), if_neg hO, if_pos hL]
        have q1 : (AE != 0) = false := by simp [hE]
        have q2 : n2 < 8 := by rw [HN9.out]; exact hL
        have q3 : (n2 : Int) < 8 := by omega
        go_wp2_with (first | (refine wpList_val (ex_build 34 _ #[] _ rfl rfl (build_ztu _)) rfl ?_) | (refine wpList_st rfl 34 (.tmp 2) (.tmp 27) rfl (g0 + 1) zTu.cells rfl rfl _ zTu.cells HZ3.out (by kernel_rfl) rfl zTu.one ?_; intro w6 hw6 hbut6) | fail)
        have hlv := lv_tu hw6
        refine bodyPost_ret (v := .tuple #[.agg zTu.cells, .bool false]) (by simp [results, Tryz.results72, asAddr, hlv]) rfl ?_
        rw [HV.out]
        exact ⟨rfl, hbut6.below HBW3.out HBW3.out.size (by have := HGW.out; omega)⟩
      · have HQ2 : Hid (Q = (contC AH.proto AL).map (tupC AH)) := by unfold Hid; rw [HQ.out, if_neg (by simpa using hE), if_neg hO, if_neg hL]
        have HCO := hid (contentOf_any AH.proto (.slice a2 n2 c2) AL w3 HS3.out (by omega) (by have := HAL.out; omega))
        have q1 : (AE != 0) = false := by simp [hE]
        have q2 : ¬ n2 < 8 := by rw [HN9.out]; exact hL
        have q3 : ¬ (n2 : Int) < 8 := by omega
        have hK6 := HK6.out
        clear hL
        go_wp2_with fail
        clear hK6
        refine HCO.out.mono ?_
        rintro _ w4 ⟨rfl, hb4⟩
        have HB4 := hid hb4
        have HB04 := hid (HB3.out.trans (hb4.mono HB3.out.size))
        have HBW4 := hid (HB0.out.trans (HB04.out.mono HB0.out.size))
        have HZ4 := hid (HBW.out w4 HB04.out).2
        have HX4 := hid (below_keeps hb4 HX3.out (Array.getElem?_eq_some_iff.1 HX3.out).1)
        clear hb4
        cases hC : contC AH.proto AL with
        | none =>
          have HV : Hid (Q = none) := by unfold Hid; rw [HQ2.out, hC]; rfl
          clear hC
          go_wp2_with (first | (refine wpList_val (ex_build 34 _ #[] _ rfl rfl (build_ztu _)) rfl ?_) | (refine wpList_st rfl 34 (.tmp 2) (.tmp 37) rfl (g0 + 1) zTu.cells rfl rfl _ zTu.cells HZ4.out (by kernel_rfl) rfl zTu.one ?_; intro w6 hw6 hbut6) | fail)
          have hlv := lv_tu hw6
          refine bodyPost_ret (v := .tuple #[.agg zTu.cells, .bool false]) (by simp [results, Tryz.results72, asAddr, hlv]) rfl ?_
          rw [HV.out]
          exact ⟨rfl, hbut6.below HBW4.out HBW4.out.size (by have := HGW.out; omega)⟩
        | some c =>
          have HV : Hid (Q = some (tupC AH c)) := by unfold Hid; rw [HQ2.out, hC]; rfl
          have HTP := hid (tupleOf_any AH (.slice a1 n1 c1) c w4)
          have HLH := hid (load_hd HX4.out)
          clear hC
          go_wp2_with (first | (refine wpList_ld 39 ⟨gx, 0, none⟩ (.tmp 4) rfl rfl HLH.out rfl ?_) | fail)
          refine HTP.out.mono ?_
          rintro _ w5 ⟨rfl, hb5⟩
          obtain ⟨t, HT⟩ : ∃ t, Hid (t = tupC AH c) := ⟨_, rfl⟩
          rw [← HT.out] at HV ⊢
          have HB05 := hid (HB04.out.trans (hb5.mono HB04.out.size))
          have HBW5 := hid (HB0.out.trans (HB05.out.mono HB0.out.size))
          have HZ5 := hid (HBW.out w5 HB05.out).2
          clear hb5
          go_wp2_with (first | (refine wpList_st rfl 34 (.tmp 2) (.tmp 40) rfl (g0 + 1) t.cells rfl rfl _ zTu.cells HZ5.out (by kernel_rfl) rfl t.one ?_; intro w6 hw6 hbut6) | fail)
          have hlv := lv_tu hw6
          refine bodyPost_ret (v := .tuple #[.agg t.cells, .bool true]) (by simp [results, Tryz.results72, asAddr, hlv]) rfl ?_
          rw [HV.out]
          exact ⟨rfl, hbut6.below HBW5.out HBW5.out.size (by have := HGW.out; omega)⟩
  · have HV : Hid (Q = none) := by unfold Hid; rw [HQ.out, if_pos hE]
    have q1 : (AE != 0) = true := by simp [hE]
    go_wp2_with (first | (refine wpList_val (ex_build 34 _ #[] _ rfl rfl (build_ztu _)) rfl ?_) | (refine wpList_st rfl 34 (.tmp 2) (.tmp 27) rfl (g0 + 1) zTu.cells rfl rfl _ zTu.cells HZ3.out (by kernel_rfl) rfl zTu.one ?_; intro w6 hw6 hbut6) | fail)
    have hlv := lv_tu hw6
    refine bodyPost_ret (v := .tuple #[.agg zTu.cells, .bool false]) (by simp [results, Tryz.results72, asAddr, hlv]) rfl ?_
    rw [HV.out]
    exact ⟨rfl, hbut6.below HBW3.out HBW3.out.size (by have := HGW.out; omega)⟩

/-- What lookAbout tells. -/
def lookA (q : Raw) : Option Tu → Int × Fw × Bool
  | none => (5, zFw, false)
  | some a => match q.f a.back with
    | none => (5, zFw, false)
    | some k => (4, (q.g k).getD zFw, decide (a.back = ((q.g k).getD zFw).th))
theorem tuB_ok {t : Tu} (h : t.Ok) : t.back.Ok := ⟨h.d, h.s, h.p, h.dp, h.sp⟩


theorem lookAbout_any (w : World) (b : Nat) (lim : Int) (q : Raw) (F : Nat → Prop) (h : Hd) (vo vb : Value) (B : List Nat) (hs : St w b lim q F) (hok : h.Ok) (hvo : SeesB w vo h.opts) (hvb : SeesB w vb B) (hlo : h.opts.length ≤ 140737488355328) (hlb : B.length ≤ 140737488355328) (htK : TabK w)
    (hfk : ∀ t k, q.f t = some k → Tm.In64 k) :
    Calls Tryz.prog 40 #[.pointer (some ⟨b, 0, none⟩), .agg (pkCells h vo vb)] w fun e w' => e = .returned (.agg (trC (lookA q (quoT h B)).1 (lookA q (quoT h B)).2.1 (lookA q (quoT h B)).2.2)) ∧ Below w.heap.size w w' := by
  obtain ⟨wa, HWA⟩ : ∃ wa, Hid (wa = w.alloc (.cells (pkCells h vo vb) 41)) := ⟨_, rfl⟩
  obtain ⟨w0, HW0⟩ : ∃ w0, Hid (w0 = wa.alloc (.cells #[.int .i64 0, .int .u32 0, .int .u32 0, .int .u8 0, .int .u16 0, .int .u16 0, .int .u32 0, .int .u32 0, .int .u8 0, .int .u16 0, .int .u16 0, .int .i64 0, .int .i64 0, .bool false] 49)) := ⟨_, rfl⟩
  obtain ⟨g0, HG0⟩ : ∃ g, Hid (g = w.heap.size) := ⟨_, rfl⟩
  have sa : wa.heap.size = g0 + 1 := by rw [HWA.out, HG0.out]; simp
  have s0 : w0.heap.size = g0 + 2 := by rw [HW0.out, World.size_alloc, sa]
  have ba : Below w.heap.size w wa := by rw [HWA.out]; exact (Below.refl _ _).alloc (Nat.le_refl _) _
  have bb : Below wa.heap.size wa w0 := by rw [HW0.out]; exact (Below.refl _ _).alloc (Nat.le_refl _) _
  have ra : wa.heap[g0]? = some (.cells (pkCells h vo vb) 41 (0, 0)) := by rw [HWA.out, HG0.out]; exact heap_alloc_new w _
  have r1 : w0.heap[g0 + 1]? = some (.cells zTr 49 (0, 0)) := by
    have := heap_alloc_new wa (.cells zTr 49); rw [sa] at this; rw [HW0.out]; exact this
  have r0 := below_keeps bb ra (by omega)
  have hb0 : Below w.heap.size w w0 := ba.trans (bb.mono ba.size)
  have HB0 := hid hb0
  have HGW : Hid (w.heap.size ≤ g0) := by unfold Hid; rw [HG0.out]; exact Nat.le_refl _
  have HPL := hid (pk_load r0)
  have HBW : Hid (∀ u : World, Below w0.heap.size w0 u → u.heap[g0]? = some (.cells (pkCells h vo vb) 41 (0, 0)) ∧ u.heap[g0 + 1]? = some (.cells zTr 49 (0, 0))) := fun u hu => ⟨below_keeps hu r0 (by omega), below_keeps hu r1 (by omega)⟩
  have HALLOC : Hid ((w.alloc (.cells (pkCells h vo vb) 41)).alloc (.cells #[.int .i64 0, .int .u32 0, .int .u32 0, .int .u8 0, .int .u16 0, .int .u16 0, .int .u32 0, .int .u32 0, .int .u8 0, .int .u16 0, .int .u16 0, .int .i64 0, .int .i64 0, .bool false] 49) = w0) := by unfold Hid; rw [HW0.out, HWA.out]
  have HQU := hid (quoted_any h vo vb B w0 hok (hvo.below hb0) (hvb.below hb0) hlo hlb (htK.below hb0))
  have HQO : Hid (((quoT h B).getD zTu).back.Ok) := by
    unfold Hid
    cases hq : quoT h B with
    | none => exact tuB_ok zTu_ok
    | some a => exact tuB_ok (quoT_ok hvb.bytes (abt_bytes hvb.bytes) hq)
  have HS := hid hs
  have HFK := hid hfk
  generalize quoT h B = Q at *
  generalize pkCells h vo vb = pk at *
  obtain ⟨a, HA⟩ : ∃ a, Hid (a = Q.getD zTu) := ⟨_, rfl⟩
  obtain ⟨qs, HQS⟩ : ∃ a, Hid (a = Q.isSome) := ⟨_, rfl⟩
  rw [← HA.out, ← HQS.out] at HQU
  rw [← HA.out] at HQO
  obtain ⟨t, HTB⟩ : ∃ t, Hid (t = a.back) := ⟨_, rfl⟩
  have HTOK : Hid t.Ok := by unfold Hid; rw [HTB.out]; exact HQO.out
  clear hs hok hvo hvb hlo hlb htK hfk sa s0 ba bb ra r0 r1 hb0 HWA HW0
  go_enter Tryz.func40, Tryz.ntmps40
  go_upto_region 1 with fail
  rw [HALLOC.out, ← HG0.out]
  go_wp2_with (first | (refine wpList_ld 41 ⟨g0, 0, none⟩ (.tmp 3) rfl rfl HPL.out rfl ?_) | fail)
  refine HQU.out.mono ?_
  rintro _ w1 ⟨rfl, hb1⟩
  have HB1 := hid hb1
  clear hb1
  have HN1 : Hid ((w1.alloc (.cells #[.int .u32 0, .int .u32 0, .int .u8 0, .int .u16 0, .int .u16 0] 34)).heap[w1.heap.size]? = some (.cells zTu.cells 34 (0, 0))) := heap_alloc_new _ _
  go_upto_region 2 with (first | (refine wpList_st rfl 34 (.tmp 5) (.tmp 14) rfl w1.heap.size a.cells rfl rfl _ zTu.cells HN1.out (by kernel_rfl) rfl a.one ?_; intro w2 hw2 hbut2) | fail)
  obtain ⟨ga, HGA⟩ : ∃ g, Hid (g = w1.heap.size) := ⟨_, rfl⟩
  rw [← HGA.out] at hw2 hbut2 ⊢
  have hb2a : Below w0.heap.size w0 (w1.alloc (.cells #[.int .u32 0, .int .u32 0, .int .u8 0, .int .u16 0, .int .u16 0] 34)) := HB1.out.trans ((Below.refl _ _).alloc HB1.out.size _)
  have HB2 := hid (hbut2.below hb2a hb2a.size (by rw [HGA.out]; exact HB1.out.size))
  have HLA := hid (load_tu hw2)
  have HBK := hid (back_any a w2)
  rw [← HTB.out] at HBK
  clear hb2a hw2 hbut2 HN1
  go_wp2_with (first | (refine wpList_ld 34 ⟨ga, 0, none⟩ (.tmp 5) rfl rfl HLA.out rfl ?_) | fail)
  refine HBK.out.mono ?_
  rintro _ w2' ⟨rfl, hb2'⟩
  have HB2' := hid (HB2.out.trans (hb2'.mono HB2.out.size))
  clear hb2'
  have HN2 : Hid ((w2'.alloc (.cells #[.int .u32 0, .int .u32 0, .int .u8 0, .int .u16 0, .int .u16 0] 34)).heap[w2'.heap.size]? = some (.cells zTu.cells 34 (0, 0))) := heap_alloc_new _ _
  go_upto_region 3 with (first | (refine wpList_st rfl 34 (.tmp 7) (.tmp 17) rfl w2'.heap.size t.cells rfl rfl _ zTu.cells HN2.out (by kernel_rfl) rfl t.one ?_; intro w3 hw3 hbut3) | fail)
  obtain ⟨gx, HGX⟩ : ∃ g, Hid (g = w2'.heap.size) := ⟨_, rfl⟩
  rw [← HGX.out] at hw3 hbut3 ⊢
  have hb2a : Below w0.heap.size w0 (w2'.alloc (.cells #[.int .u32 0, .int .u32 0, .int .u8 0, .int .u16 0, .int .u16 0] 34)) := HB2'.out.trans ((Below.refl _ _).alloc HB2'.out.size _)
  have hX0 : w0.heap.size ≤ gx := by rw [HGX.out]; exact HB2'.out.size
  have HB3 := hid (hbut3.below hb2a hb2a.size hX0)
  have HX0 := hid hX0
  have HX3 := hid hw3
  have HBW3 := hid (HB0.out.trans (HB3.out.mono HB0.out.size))
  clear hw3 hbut3 hb2a hX0 HN2 HB2 HB2' HLA HBK
  obtain ⟨p3, t3⟩ : ∃ p, TAt w3 b lim q p := by
    obtain ⟨p, hp, -⟩ := HS.out.below HBW3.out
    exact ⟨p, hp⟩
  obtain ⟨has, HHS⟩ : ∃ r, Hid (r = (q.f t).isSome) := ⟨_, rfl⟩
  obtain ⟨k, HK⟩ : ∃ r, Hid (r = (q.f t).getD 0) := ⟨_, rfl⟩
  have HT3 := hid t3
  have HTA : Hid (∀ u : World, Below w3.heap.size w3 u → u.cell? ⟨b, 2, none⟩ = some (.map (some p3.nb)) ∧ (Instr.loadAt 34 (.pointer (some ⟨gx, 0, none⟩))).run Tryz.prog u = .ok (.agg t.cells) u ∧ (Instr.lookup 78 (.map (some p3.nb)) (.agg t.cells) true).run Tryz.prog u = .ok (.tuple #[.int .i64 k, .bool has]) u) := fun u hu =>
    ⟨(t3.below hu).cells rfl, load_tu (below_keeps hu HX3.out (Array.getElem?_eq_some_iff.1 HX3.out).1), by rw [HK.out, HHS.out]; exact (t3.below hu).look HTOK.out⟩
  clear t3
  refine wp_region_guarded' 10 (fun i => ([19, 20, 21, 22, 23, 24, 18, 25, 26, 8] : List Tmp).getD i 0) (Vs [.pointer (some ⟨b, 0, none⟩), .pointer (some ⟨b, 0, none⟩), .pointer (some ⟨b, 2, none⟩), .map (some p3.nb), .agg t.cells, .tuple #[.int .i64 k, .bool has], .tuple #[.int .i64 k, .bool has], .int .i64 k, .bool has, .int .i64 k]) (fun u => Below w3.heap.size w3 u) (fun _ u u' => Below u.heap.size u u') (by kernel_rfl) (by kernel_rfl) ⟨rfl, rfl, rfl, Nat.le_refl _, fun _ _ => rfl⟩ (fun _ _ _ _ _ _ h _ _ => h) ?_ ?_
  · simp only [List.take_succ_cons, List.take_zero, stepsG]
    refine ⟨?_, ?_, ?_, ?_, ?_, ?_, ?_, ?_, ?_, ?_, trivial⟩
    · intro a u vs hI hold hdep
      exact opAt_plain rfl (wp_still (ex_move (.tmp 0) _ rfl (hold 0 (dlM (L := [19, 20, 21, 22, 23, 24, 18, 25, 26, 8]) (by decide)))) rfl rfl hI)
    · intro a u vs hI hold hdep
      exact opAt_plain rfl (wp_still (ex_nil ⟨b, 0, none⟩ (.tmp 19) rfl (Vs.dep (hdep ⟨0, .data⟩ (by simp) rfl (by decide)) rfl)) rfl rfl hI)
    · intro a u vs hI hold hdep
      exact opAt_plain rfl (wp_still (ex_field _ ⟨b, 0, none⟩ (.tmp 20) 2 _ rfl (Vs.dep (hdep ⟨1, .data⟩ (by simp) rfl (by decide)) rfl) (fld_t2 b u)) rfl rfl hI)
    · intro a u vs hI hold hdep
      exact opAt_plain rfl (wp_still (ex_load _ ⟨b, 2, none⟩ (.tmp 21) _ rfl (Vs.dep (hdep ⟨2, .data⟩ (by simp) rfl (by decide)) rfl) (ld_mapT (HTA.out u hI).1)) rfl rfl hI)
    · intro a u vs hI hold hdep
      exact opAt_plain rfl (wp_still (ex_load _ ⟨gx, 0, none⟩ (.tmp 7) _ rfl (hold 7 (dlM (L := [19, 20, 21, 22, 23, 24, 18, 25, 26, 8]) (by decide))) ((HTA.out u hI).2.1)) rfl rfl hI)
    · intro a u vs hI hold hdep
      exact opAt_plain rfl (wp_still (ex_lookup _ (.tmp 22) (.tmp 23) true _ _ _ rfl (Vs.dep (hdep ⟨3, .data⟩ (by simp) rfl (by decide)) rfl) (Vs.dep (hdep ⟨4, .data⟩ (by simp) rfl (by decide)) rfl) ((HTA.out u hI).2.2)) rfl rfl hI)
    · intro a u vs hI hold hdep
      exact opAt_plain rfl (wp_still (ex_move (.tmp 24) _ rfl (Vs.dep (hdep ⟨5, .data⟩ (by simp) rfl (by decide)) rfl)) rfl rfl hI)
    · intro a u vs hI hold hdep
      exact opAt_plain rfl (wp_still (ex_extract (.tmp 18) 0 _ _ rfl (Vs.dep (hdep ⟨6, .data⟩ (by simp) rfl (by decide)) rfl) rfl) rfl rfl hI)
    · intro a u vs hI hold hdep
      exact opAt_plain rfl (wp_still (ex_extract (.tmp 18) 1 _ _ rfl (Vs.dep (hdep ⟨6, .data⟩ (by simp) rfl (by decide)) rfl) rfl) rfl rfl hI)
    · intro a u vs hI hold hdep
      exact opAt_plain rfl (wp_still (ex_assign (.tmp 25) _ rfl (Vs.dep (hdep ⟨7, .data⟩ (by simp) rfl (by decide)) rfl)) rfl rfl hI)
  intro vs u hI hF
  have e0 : vs 0 = .pointer (some ⟨b, 0, none⟩) := (Option.some.inj (hF 0 (by decide))).symm
  have e1 : vs 1 = .pointer (some ⟨b, 0, none⟩) := (Option.some.inj (hF 1 (by decide))).symm
  have e2 : vs 2 = .pointer (some ⟨b, 2, none⟩) := (Option.some.inj (hF 2 (by decide))).symm
  have e3 : vs 3 = .map (some p3.nb) := (Option.some.inj (hF 3 (by decide))).symm
  have e4 : vs 4 = .agg t.cells := (Option.some.inj (hF 4 (by decide))).symm
  have e5 : vs 5 = .tuple #[.int .i64 k, .bool has] := (Option.some.inj (hF 5 (by decide))).symm
  have e6 : vs 6 = .tuple #[.int .i64 k, .bool has] := (Option.some.inj (hF 6 (by decide))).symm
  have e7 : vs 7 = .int .i64 k := (Option.some.inj (hF 7 (by decide))).symm
  have e8 : vs 8 = .bool has := (Option.some.inj (hF 8 (by decide))).symm
  have e9 : vs 9 = .int .i64 k := (Option.some.inj (hF 9 (by decide))).symm
  clear hF
  simp only [List.drop_succ_cons, List.drop_zero, puts, List.range, List.range.loop, List.foldr, if_true, List.getD_cons_zero, List.getD_cons_succ, e0, e1, e2, e3, e4, e5, e6, e7, e8, e9, Act.put, List.setIfInBounds_toArray, List.set_cons_zero, List.set_cons_succ]
  clear e0 e1 e2 e3 e4 e5 e6 e7 e8 e9
  have HBU := hid hI
  clear hI
  have HZU := hid (HBW.out u (HB3.out.trans (HBU.out.mono HB3.out.size))).2
  have HBF := hid (HBW3.out.trans (HBU.out.mono HBW3.out.size))
  cases Q with
  | none =>
    have hqs : qs = false := HQS.out
    have HV : Hid (lookA q none = (5, zFw, false)) := rfl
    subst hqs
    go_wp2_with (first | (refine wpList_val (ex_build 49 _ #[(0, .int .i64 5)] _ rfl rfl (build_tr1 5 _)) rfl ?_) | (refine wpList_st rfl 49 (.tmp 4) (.tmp 33) rfl (g0 + 1) (trC 5 zFw false) rfl rfl _ zTr HZU.out (by kernel_rfl) rfl (trC_one _ _ _) ?_; intro w6 hw6 hbut6) | fail)
    have hlv := lv_tr hw6
    refine bodyPost_ret (v := .agg (trC 5 zFw false)) (by simp [results, Tryz.results40, asAddr, Act.put, hlv]) rfl ?_
    rw [HV.out]
    exact ⟨rfl, hbut6.below HBF.out HBF.out.size (by have := HGW.out; omega)⟩
  | some a' =>
    have hqs : qs = true := HQS.out
    have haa : a = a' := HA.out
    subst hqs haa
    cases hq : q.f t with
    | none =>
      have hh : has = false := by rw [HHS.out, hq]; rfl
      have HV : Hid (lookA q (some a) = (5, zFw, false)) := by unfold Hid; simp only [lookA, ← HTB.out, hq]
      subst hh
      clear hq
      go_wp2_with (first | (refine wpList_val (ex_build 49 _ #[(0, .int .i64 5)] _ rfl rfl (build_tr1 5 _)) rfl ?_) | (refine wpList_st rfl 49 (.tmp 4) (.tmp 33) rfl (g0 + 1) (trC 5 zFw false) rfl rfl _ zTr HZU.out (by kernel_rfl) rfl (trC_one _ _ _) ?_; intro w6 hw6 hbut6) | fail)
      have hlv := lv_tr hw6
      refine bodyPost_ret (v := .agg (trC 5 zFw false)) (by simp [results, Tryz.results40, asAddr, Act.put, hlv]) rfl ?_
      rw [HV.out]
      exact ⟨rfl, hbut6.below HBF.out HBF.out.size (by have := HGW.out; omega)⟩
    | some k0 =>
      have hh : has = true := by rw [HHS.out, hq]; rfl
      have hk : k = k0 := by rw [HK.out, hq]; rfl
      subst hh hk
      have H64 := hid (HFK.out t k hq)
      obtain ⟨f, HF⟩ : ∃ f, Hid (f = (q.g k).getD zFw) := ⟨_, rfl⟩
      obtain ⟨dd, HD⟩ : ∃ r, Hid (decide (t = f.th) = r) := ⟨_, rfl⟩
      have HV : Hid (lookA q (some a) = (4, f, dd)) := by unfold Hid; simp only [lookA, ← HTB.out, hq, ← HF.out, HD.out]
      have hTU := HT3.out.below HBU.out
      have k3 : u.cell? ⟨b, 3, none⟩ = some (.map (some p3.fb)) := hTU.cells (j := 3) rfl
      have hlk : (Instr.lookup 79 (.map (some p3.fb)) (.int .i64 k) false).run Tryz.prog u = .ok (.agg f.cells) u := by rw [HF.out]; exact hTU.flow H64.out
      have HN4 : Hid ((u.alloc (.cells #[.int .u32 0, .int .u32 0, .int .u8 0, .int .u16 0, .int .u16 0, .int .u32 0, .int .u32 0, .int .u8 0, .int .u16 0, .int .u16 0, .int .i64 0, .int .i64 0] 44)).heap[u.heap.size]? = some (.cells zFw.cells 44 (0, 0))) := heap_alloc_new _ _
      clear hq hTU
      go_upto_region 7 with (first | (refine wpList_st rfl 44 (.tmp 10) (.tmp 39) rfl u.heap.size f.cells rfl rfl _ zFw.cells HN4.out (by kernel_rfl) rfl f.one ?_; intro w4 hw4 hbut4) | fail)
      obtain ⟨gy, HGY⟩ : ∃ g, Hid (g = u.heap.size) := ⟨_, rfl⟩
      rw [← HGY.out] at hw4 hbut4 ⊢
      have hb4 : Below u.heap.size u w4 := hbut4.below ((Below.refl _ _).alloc (Nat.le_refl _) _) (by simp) (by rw [HGY.out]; exact Nat.le_refl _)
      have hb3u : Below w3.heap.size w3 w4 := HBU.out.trans (hb4.mono HBU.out.size)
      have HB3u := hid hb3u
      have HF4 := hid hw4
      have HB04 := hid (HB3.out.trans (hb3u.mono HB3.out.size))
      have HBF4 := hid (HBF.out.trans (hb4.mono HBF.out.size))
      have HTL : Hid (∀ v : World, Below w4.heap.size w4 v → (Instr.loadAt 44 (.pointer (some ⟨gy, 0, none⟩))).run Tryz.prog v = .ok (.agg f.cells) v ∧ (Instr.loadAt 34 (.pointer (some ⟨gx, 0, none⟩))).run Tryz.prog v = .ok (.agg t.cells) v ∧ (Instr.loadAt 34 (.pointer (some ⟨gy, 0, none⟩))).run Tryz.prog v = .ok (.agg f.th.cells) v) := fun v hv =>
        ⟨load_fw (below_keeps hv HF4.out (Array.getElem?_eq_some_iff.1 HF4.out).1), (HTA.out v (HB3u.out.trans (hv.mono HB3u.out.size))).2.1, load_th (below_keeps hv HF4.out (Array.getElem?_eq_some_iff.1 HF4.out).1)⟩
      clear hw4 hbut4 hb4 hb3u k3 hlk HN4
      clear HTA
      refine wp_region_guarded' 6 (fun i => ([40, 41, 42, 43, 44, 45] : List Tmp).getD i 0) (Vs [.agg f.cells, .agg t.cells, .pointer (some ⟨gy, 0, none⟩), .agg f.th.cells, .bool dd, .agg (trC 4 f dd)]) (fun u => Below w4.heap.size w4 u) (fun _ u u' => Below u.heap.size u u') (by kernel_rfl) (by kernel_rfl) ⟨rfl, rfl, rfl, Nat.le_refl _, fun _ _ => rfl⟩ (fun _ _ _ _ _ _ h _ _ => h) ?_ ?_
      · simp only [List.take_succ_cons, List.take_zero, stepsG]
        refine ⟨?_, ?_, ?_, ?_, ?_, ?_, trivial⟩
        · intro a u vs hI hold hdep
          exact opAt_plain rfl (wp_still (ex_load _ ⟨gy, 0, none⟩ (.tmp 10) _ rfl (hold 10 (dlM (L := [40, 41, 42, 43, 44, 45]) (by decide))) ((HTL.out u hI).1)) rfl rfl hI)
        · intro a u vs hI hold hdep
          exact opAt_plain rfl (wp_still (ex_load _ ⟨gx, 0, none⟩ (.tmp 7) _ rfl (hold 7 (dlM (L := [40, 41, 42, 43, 44, 45]) (by decide))) ((HTL.out u hI).2.1)) rfl rfl hI)
        · intro a u vs hI hold hdep
          exact opAt_plain rfl (wp_still (ex_field _ ⟨gy, 0, none⟩ (.tmp 10) 0 _ rfl (hold 10 (dlM (L := [40, 41, 42, 43, 44, 45]) (by decide))) (fld_f0 gy u)) rfl rfl hI)
        · intro a u vs hI hold hdep
          exact opAt_plain rfl (wp_still (ex_load _ ⟨gy, 0, none⟩ (.tmp 42) _ rfl (Vs.dep (hdep ⟨2, .data⟩ (by simp) rfl (by decide)) rfl) ((HTL.out u hI).2.2)) rfl rfl hI)
        · intro a u vs hI hold hdep
          exact opAt_plain rfl (wp_still (ex_eqTb (.tmp 41) (.tmp 43) _ t f.th dd rfl (Vs.dep (hdep ⟨1, .data⟩ (by simp) rfl (by decide)) rfl) (Vs.dep (hdep ⟨3, .data⟩ (by simp) rfl (by decide)) rfl) HD.out) rfl rfl hI)
        · intro a u vs hI hold hdep
          have x0 : a.eval (.tmp 40) = .agg f.cells := (Vs.dep (hdep ⟨0, .data⟩ (by simp) rfl (by decide)) rfl)
          have x1 : a.eval (.tmp 44) = .bool dd := (Vs.dep (hdep ⟨4, .data⟩ (by simp) rfl (by decide)) rfl)
          exact opAt_plain rfl (wp_still (ex_build 49 _ #[(0, .int .i64 4), (1, .agg f.cells), (2, .bool dd)] _ rfl (by simp only [List.map_toArray, List.map_cons, List.map_nil, x0, x1]; rfl) (build_tr3 4 f dd _)) rfl rfl hI)
      intro vs v9 hI hF
      have e0 : vs 0 = .agg f.cells := (Option.some.inj (hF 0 (by decide))).symm
      have e1 : vs 1 = .agg t.cells := (Option.some.inj (hF 1 (by decide))).symm
      have e2 : vs 2 = .pointer (some ⟨gy, 0, none⟩) := (Option.some.inj (hF 2 (by decide))).symm
      have e3 : vs 3 = .agg f.th.cells := (Option.some.inj (hF 3 (by decide))).symm
      have e4 : vs 4 = .bool dd := (Option.some.inj (hF 4 (by decide))).symm
      have e5 : vs 5 = .agg (trC 4 f dd) := (Option.some.inj (hF 5 (by decide))).symm
      clear hF
      simp only [List.drop_succ_cons, List.drop_zero, puts, List.range, List.range.loop, List.foldr, if_true, List.getD_cons_zero, List.getD_cons_succ, e0, e1, e2, e3, e4, e5, Act.put, List.setIfInBounds_toArray, List.set_cons_zero, List.set_cons_succ]
      clear e0 e1 e2 e3 e4 e5
      have HZ9 := hid (HBW.out v9 (HB04.out.trans (hI.mono HB04.out.size))).2
      have HBF9 := hid (HBF4.out.trans (hI.mono HBF4.out.size))
      clear hI
      go_wp2_with (first | (refine wpList_st rfl 49 (.tmp 4) (.tmp 45) rfl (g0 + 1) (trC 4 f dd) rfl rfl _ zTr HZ9.out (by kernel_rfl) rfl (trC_one _ _ _) ?_; intro w6 hw6 hbut6) | fail)
      have hlv := lv_tr hw6
      refine bodyPost_ret (v := .agg (trC 4 f dd)) (by simp [results, Tryz.results40, asAddr, Act.put, hlv]) rfl ?_
      rw [HV.out]
      exact ⟨rfl, hbut6.below HBF9.out HBF9.out.size (by have := HGW.out; omega)⟩
end Go.Proofs.YthmhiehglcfepaaGreatDoor.Fl

namespace Go.Proofs.YthmhiehglcfepaaGreatDoor.Fl
open Go.Proofs.YthmhiehglcfepaaGreatDoor Go.ChangeShapes Go.WideShapes Go.ChangeAt Go.RowKit Go.Maps N
set_option maxHeartbeats 4000000
set_option maxRecDepth 100000

theorem lookN_any (w : World) (b : Nat) (lim : Int) (q : Raw) (F : Nat → Prop) (h : Hd) (vo vb : Value) (B : List Nat) (hs : St w b lim q F) (hok : h.Ok) (hvo : SeesB w vo h.opts) (hvb : SeesB w vb B) (hlo : h.opts.length ≤ 140737488355328) (hlb : B.length ≤ 140737488355328) (htK : TabK w) (hn : rdC h B = none)
    (hfk : ∀ t k, q.f t = some k → Tm.In64 k) :
    Calls Tryz.prog 16 #[.pointer (some ⟨b, 0, none⟩), .agg (pkCells h vo vb)] w fun e w' => e = .returned (.agg (trC (lookA q (quoT h B)).1 (lookA q (quoT h B)).2.1 (lookA q (quoT h B)).2.2)) ∧ Below w.heap.size w w' := by
  obtain ⟨wa, HWA⟩ : ∃ wa, Hid (wa = w.alloc (.cells (pkCells h vo vb) 41)) := ⟨_, rfl⟩
  obtain ⟨w0, HW0⟩ : ∃ w0, Hid (w0 = wa.alloc (.cells #[.int .i64 0, .int .u32 0, .int .u32 0, .int .u8 0, .int .u16 0, .int .u16 0, .int .u32 0, .int .u32 0, .int .u8 0, .int .u16 0, .int .u16 0, .int .i64 0, .int .i64 0, .bool false] 49)) := ⟨_, rfl⟩
  obtain ⟨g0, HG0⟩ : ∃ g, Hid (g = w.heap.size) := ⟨_, rfl⟩
  have sa : wa.heap.size = g0 + 1 := by rw [HWA.out, HG0.out]; simp
  have s0 : w0.heap.size = g0 + 2 := by rw [HW0.out, World.size_alloc, sa]
  have ba : Below w.heap.size w wa := by rw [HWA.out]; exact (Below.refl _ _).alloc (Nat.le_refl _) _
  have bb : Below wa.heap.size wa w0 := by rw [HW0.out]; exact (Below.refl _ _).alloc (Nat.le_refl _) _
  have ra : wa.heap[g0]? = some (.cells (pkCells h vo vb) 41 (0, 0)) := by rw [HWA.out, HG0.out]; exact heap_alloc_new w _
  have r1 : w0.heap[g0 + 1]? = some (.cells zTr 49 (0, 0)) := by
    have := heap_alloc_new wa (.cells zTr 49); rw [sa] at this; rw [HW0.out]; exact this
  have r0 := below_keeps bb ra (by omega)
  have hb0 : Below w.heap.size w w0 := ba.trans (bb.mono ba.size)
  have HB0 := hid hb0
  have HGW : Hid (w.heap.size ≤ g0) := by unfold Hid; rw [HG0.out]; exact Nat.le_refl _
  have HPL := hid (pk_load r0)
  have HBW : Hid (∀ u : World, Below w0.heap.size w0 u → u.heap[g0]? = some (.cells (pkCells h vo vb) 41 (0, 0)) ∧ u.heap[g0 + 1]? = some (.cells zTr 49 (0, 0))) := fun u hu => ⟨below_keeps hu r0 (by omega), below_keeps hu r1 (by omega)⟩
  have HALLOC : Hid ((w.alloc (.cells (pkCells h vo vb) 41)).alloc (.cells #[.int .i64 0, .int .u32 0, .int .u32 0, .int .u8 0, .int .u16 0, .int .u16 0, .int .u32 0, .int .u32 0, .int .u8 0, .int .u16 0, .int .u16 0, .int .i64 0, .int .i64 0, .bool false] 49) = w0) := by unfold Hid; rw [HW0.out, HWA.out]
  have HOF := hid (of_any h vo vb B w0 hok (hvo.below hb0) (hvb.below hb0) hlo hlb)
  have HLA : Hid (∀ u, Below w0.heap.size w0 u → Calls Tryz.prog 40 #[.pointer (some ⟨b, 0, none⟩), .agg (pkCells h vo vb)] u fun e w' => e = .returned (.agg (trC (lookA q (quoT h B)).1 (lookA q (quoT h B)).2.1 (lookA q (quoT h B)).2.2)) ∧ Below u.heap.size u w') := fun u hu => by
    have hu' := hb0.trans (hu.mono hb0.size)
    obtain ⟨F', k1⟩ : ∃ F', St u b lim q F' := ⟨F, hs.below hu'⟩
    exact lookAbout_any u b lim q F' h vo vb B k1 hok (hvo.below hu') (hvb.below hu') hlo hlb (htK.below hu') hfk
  have HPLA : Hid (∀ u, Below w0.heap.size w0 u → (Instr.loadAt 41 (.pointer (some ⟨g0, 0, none⟩))).run Tryz.prog u = .ok (.agg (pkCells h vo vb)) u) := fun u hu => pk_load (HBW.out u hu).1
  have HEN : Hid (rdE h B ≠ 0) := fun e => by
    obtain ⟨c, hc⟩ := rdE_zero e
    unfold rdC at hn
    rw [if_pos e, hc] at hn
    cases hn
  have hV : ofT h B = zTu := by unfold ofT; rw [hn]
  rw [hV] at HOF
  generalize rdE h B = E at *
  obtain ⟨TR, HTR⟩ : ∃ r, Hid (r = lookA q (quoT h B)) := ⟨_, rfl⟩
  rw [← HTR.out] at HLA ⊢
  clear HTR
  obtain ⟨r1v, r2v, r3v⟩ := TR
  dsimp only at HLA ⊢
  generalize pkCells h vo vb = pk at *
  clear hs hok hvo hvb hlo hlb htK hfk hn hV sa s0 ba bb ra r0 r1 hb0 HWA HW0
  have qE : (E != 0) = true := by have := HEN.out; simp [this]
  go_enter Tryz.func16, Tryz.ntmps16
  go_upto_region 1 with fail
  rw [HALLOC.out, ← HG0.out]
  go_wp2_with (first | (refine wpList_ld 41 ⟨g0, 0, none⟩ (.tmp 3) rfl rfl HPL.out rfl ?_) | fail)
  refine HOF.out.mono ?_
  rintro _ w2 ⟨rfl, hb2⟩
  have HB2 := hid hb2
  clear hb2
  have HN2 : Hid ((w2.alloc (.cells #[.int .u32 0, .int .u32 0, .int .u8 0, .int .u16 0, .int .u16 0] 34)).heap[w2.heap.size]? = some (.cells zTu.cells 34 (0, 0))) := heap_alloc_new _ _
  go_upto_region 2 with (first | (refine wpList_st rfl 34 (.tmp 5) (.tmp 13) rfl w2.heap.size zTu.cells rfl rfl _ zTu.cells HN2.out (by kernel_rfl) rfl zTu.one ?_; intro w3 hw3 hbut3) | fail)
  have hb2a : Below w0.heap.size w0 (w2.alloc (.cells #[.int .u32 0, .int .u32 0, .int .u8 0, .int .u16 0, .int .u16 0] 34)) := HB2.out.trans ((Below.refl _ _).alloc HB2.out.size _)
  have HB3 := hid (hbut3.below hb2a hb2a.size HB2.out.size)
  generalize w2.heap.size = gx at hw3 hbut3 ⊢
  clear hb2a hw3 hbut3 HN2
  have HPL3 := hid (HPLA.out w3 HB3.out)
  have HL3 := hid (HLA.out w3 HB3.out)
  go_wp2_with (first | (refine wpList_ld 41 ⟨g0, 0, none⟩ (.tmp 3) rfl rfl HPL3.out rfl ?_) | fail)
  refine HL3.out.mono ?_
  rintro _ w4 ⟨rfl, hb4⟩
  have HB4 := hid (HB3.out.trans (hb4.mono HB3.out.size))
  have HBW4 := hid (HB0.out.trans (HB4.out.mono HB0.out.size))
  have HZ4 := hid (HBW.out w4 HB4.out).2
  clear hb4 HL3
  go_wp2_with (first | (refine wpList_st rfl 49 (.tmp 4) (.tmp 19) rfl (g0 + 1) (trC r1v r2v r3v) rfl rfl _ zTr HZ4.out (by kernel_rfl) rfl (trC_one _ _ _) ?_; intro w6 hw6 hbut6) | fail)
  have hlv := lv_tr hw6
  refine bodyPost_ret (v := .agg (trC r1v r2v r3v)) (by simp [results, Tryz.results16, asAddr, Act.put, hlv]) rfl ?_
  exact ⟨rfl, hbut6.below HBW4.out HBW4.out.size (by have := HGW.out; omega)⟩

theorem back_back (t : Tu) : t.back.back = t := rfl
theorem contC_made8 {t : Tu} (hp : t.p = 6 ∨ t.p = 1 ∨ t.p = 17) (ht : t.Ok) (h1 : t.p = 1 → t.dp = t.sp) : ∃ c, contC t.p ((mdB t 1).take (min (mdB t 1).length 8)) = some c ∧ tupC (mdH t) c = t := by
  have b1 := ht.sp
  have b2 := ht.dp
  have e1 : t.sp / 256 * 256 + t.sp % 256 = t.sp := by omega
  have e2 : t.dp / 256 * 256 + t.dp % 256 = t.dp := by omega
  obtain ⟨s, d, p, sp, dp⟩ := t
  simp only at hp h1 b1 b2 e1 e2
  rcases hp with h | h | h
  · subst h
    refine ⟨.sg sp dp 0, ?_, rfl⟩
    simp [contC, mdB, ofs, fld, byt, e1, e2]
  · subst h
    obtain rfl := h1 rfl
    refine ⟨.ec dp false, ?_, rfl⟩
    simp [contC, mdB, fld, byt, e1]
  · subst h
    refine ⟨.dg sp dp, ?_, rfl⟩
    simp [contC, mdB, ofs, fld, byt, e1, e2]
theorem quoT_made {t : Tu} (ht : t.Ok) (hp : t.p = 6 ∨ t.p = 1 ∨ t.p = 17) (h1 : t.p = 1 → t.dp = t.sp) {k c : Nat} {a : Int} {f : Nat} (hk : k < 256) (hc : c < 256) (he : fltE (mdH t) (mdB t 1) k c a f = 0) :
    quoT (N.mdH 0 f t.s) (Im.laid (fltM (mdH t) (mdB t 1) k c a)) = some t ∧ rdC (N.mdH 0 f t.s) (Im.laid (fltM (mdH t) (mdB t 1) k c a)) = none := by
  have hbs := built_bytes (h := mdH t) (B := mdB t 1) (mdH_ok ht) (fun x hx => by cases hx) (mdB_lt ht (by omega))
  obtain ⟨a1, -, -, -, -, -, -, -⟩ := about_facts (mdH t) (mdB t 1) k c a f (mdH_ok ht) hk hc hbs he
  obtain ⟨c', h2, h3⟩ := contC_made8 hp ht h1
  constructor
  · unfold quoT
    rw [show (N.mdH 0 f t.s) = N.mdH 0 f (mdH t).src from rfl, a1]
    have hl := mdB_len t 1
    simp only [ne_eq, not_true_eq_false, if_false]
    rw [if_neg (by show ¬ (0 : Int) < 0; omega), if_neg (by rw [List.length_take, hl]; split <;> omega)]
    show (contC t.p _).map _ = _
    rw [h2, Option.map_some, h3]
  · have hm : mayT k c a = true := by
      unfold fltE at he
      split at he
      · rename_i hh; exact (Bool.and_eq_true_iff.1 hh).1
      · exact absurd he (by decide)
    obtain ⟨-, h3⟩ := may_fault hm
    unfold rdC
    split
    · show contC 1 _ = none
      unfold contC
      rw [if_pos rfl, if_neg]
      rintro ⟨hh, -⟩
      rw [laid_head] at hh
      have : (fltM (mdH t) (mdB t 1) k c a).t = k := rfl
      omega
    · rfl
end Go.Proofs.YthmhiehglcfepaaGreatDoor.Fl

namespace Go.Proofs.YthmhiehglcfepaaGreatDoor.Fl
open Go.Proofs.YthmhiehglcfepaaGreatDoor Go.ChangeShapes Go.WideShapes Go.ChangeAt Go.RowKit Go.Maps N
set_option maxHeartbeats 8000000
set_option maxRecDepth 100000

theorem eqTr (n : Nat) (k : Int) (f : Fw) (t : Bool) (u : World) : (Op.equalIn (n + 4) 49 (.agg (trC k f t)) (.agg (trC k f t))).run Tryz.prog u = .ok true u := by
  rw [show n + 4 = (n + 3) + 1 from rfl, Op.equalIn]
  have s1 : ∀ w : World, (sizeOf 3).run Tryz.prog w = .ok 1 w := fun w => by kernel_rfl
  have s2 : ∀ w : World, (sizeOf 44).run Tryz.prog w = .ok 12 w := fun w => by kernel_rfl
  have s3 : ∀ w : World, (sizeOf 4).run Tryz.prog w = .ok 1 w := fun w => by kernel_rfl
  have i0 : ∀ w : World, (Op.equalIn (n + 3) 3 (.int .i64 k) (.int .i64 k)).run Tryz.prog w = .ok true w := fun w => by rw [eqI (n + 2) uIn' k k w]; simp
  have i1 : ∀ w : World, (Op.equalIn (n + 3) 44 (.agg f.cells) (.agg f.cells)).run Tryz.prog w = .ok true w := fun w => by rw [eqFw n f f w]; simp
  have i2 : ∀ w : World, (Op.equalIn (n + 3) 4 (.bool t) (.bool t)).run Tryz.prog w = .ok true w := fun w => by
    rw [show n + 3 = (n + 2) + 1 from rfl, Op.equalIn]
    simp [run_underlying Tryz.underlying4, go_sem]
  unfold Fw.cells at i1
  unfold trC
  simp [run_underlying Tryz.underlying49, s1, s2, s3, part, i0, i1, i2, go_sem]
theorem ex_eqTr {o : Oper} {a : Act} {w : World} (x y : Operand) (T : TypeId) (k : Int) (f : Fw) (t : Bool) (ho : o.op = .binOp .eql 49 x y T) (hx : a.eval x = .agg (trC k f t)) (hy : a.eval y = .agg (trC k f t)) : (execOp a.eval o).run Tryz.prog w = .ok (.value (.bool true)) w := by
  have h : (Op.equal 49 (.agg (trC k f t)) (.agg (trC k f t))).run Tryz.prog w = .ok true w := eqTr 9996 k f t w
  unfold execOp
  simp only [ho, hx, hy]
  simp [eqGuard, binOp, go_sem, h]
theorem load_tr {u : World} {b : Nat} {k : Int} {f : Fw} {th : Bool} {r : Nat × Nat} (h : u.heap[b]? = some (.cells (trC k f th) 49 r)) : (Instr.loadAt 49 (.pointer (some ⟨b, 0, none⟩))).run Tryz.prog u = .ok (.agg (trC k f th)) u := by
  obtain ⟨d, h1, h2⟩ := isTr
  exact load_at (cs := (trC k f th).toList) h rfl h1 h2 (by kernel_rfl)

/-- The first packet's flags. -/
def flA (t : Tu) : Nat := if t.p = 6 then 2 else 0
theorem fst0_made {t : Tu} (hp : t.p = 6 ∨ t.p = 1 ∨ t.p = 17) : fst0 (mdC t (flA t)) = (if t.p = 6 then 3 else 1, true) := by
  unfold mdC flA
  rcases hp with h | h | h
  · simp [h, fst0]; decide
  · simp [h, fst0]
  · simp [h, fst0]
theorem open_lim {lim : Int} {x bk : Tu} {h : Hd} {B : List Nat} {c : Ct} (hl : 1 ≤ lim) (hc : rdC h B = some c) (ht : tupC h c = x) (hf : (fst0 c).2 = true) (hp : bk.p = x.p) (hn : bk ≠ x) : opnE lim q0 x bk h B = 0 := by
  unfold opnE; rw [hc]; simp only
  rw [if_neg (by simp [ht]), if_neg (by simp [hf, hp, hn]), if_neg (by simp [q0]), if_neg (by simp [q0]; omega)]
/-- The flow that FlowAbout opens. -/
theorem about_flow {x bk : Tu} (hx : x.Ok) (hb : bk.Ok) (hp : x.p = 6 ∨ x.p = 1 ∨ x.p = 17) (hpk : bk.p = x.p) (hn : bk ≠ x) (h1 : x.p = 1 → x.dp = x.sp) :
    opnE 3 q0 x bk (mdH x) (mdB x (flA x)) = 0 ∧ ∃ f : Fw, f.th = x ∧ f.bk = bk ∧ f.til ≤ 1000 ∧ Inv 3 (opnR 3 q0 x bk (mdH x) (mdB x (flA x)) 5) [(1, f)] ∧ (opnR 3 q0 x bk (mdH x) (mdB x (flA x)) 5).last = 1 := by
  have hc := rdC_made hp hx (flA x)
  have hf := fst0_made hp
  have e0 := open_lim (lim := 3) (bk := bk) (by omega) hc (tup_made h1 _) (by rw [hf]) hpk hn
  obtain ⟨hI, hl⟩ := inv_open (now := 5) (inv_nil (lim := 3) (by omega)) e0 hc hx hb ⟨by omega, by omega⟩
  refine ⟨e0, opF x bk (mdC x (flA x)) 5, rfl, rfl, ?_, hI, hl⟩
  show Tm.aft 5 (spanF (fst0 (mdC x (flA x))).1 x.p) ≤ 1000
  rw [hf]
  rcases hp with h | h | h <;> rw [h] <;> decide
theorem lookA_one {lim : Int} {q : Raw} {f : Fw} (I : Inv lim q [(1, f)]) {a : Tu} (hw : a.back = f.th ∨ a.back = f.bk) : lookA q (some a) = (4, f, decide (a.back = f.th)) := by
  have h1 := (I.m.fk a.back 1).2 ⟨f, by simp, hw⟩
  have h2 := (I.m.gk 1 f).2 (by simp)
  simp only [lookA, h1, h2, Option.getD_some]
theorem lookA_nil {lim : Int} {q : Raw} (I : Inv lim q []) (a : Tu) : lookA q (some a) = (5, zFw, false) := by
  have h1 : q.f a.back = none := by
    cases h : q.f a.back with
    | none => rfl
    | some k =>
      obtain ⟨f, hf, _⟩ := (I.m.fk _ _).1 h
      cases hf
  simp only [lookA, h1]
theorem fk64 {lim : Int} {q : Raw} {L : List (Int × Fw)} (I : Inv lim q L) (hq : q.last ≤ 1000) : ∀ t k, q.f t = some k → Tm.In64 k := fun t k e => by
  obtain ⟨f, hm, _⟩ := (I.m.fk t k).1 e
  have := I.m.pos _ hm
  simp only at this
  exact ⟨by omega, by omega⟩
theorem stay_none {f : Fw} (h : f.til ≤ 1000) : [((1 : Int), f)].filter (stayB 1000) = [] := by
  simp [stayB, h]

/-- The tuples as FlowAbout sets them. -/
def prA (x : Tu) : Nat := if x.p ≠ 1 ∧ x.p ≠ 6 then 17 else x.p
def xA (x : Tu) : Tu := ⟨x.s, x.d, prA x, x.sp, if prA x = 1 then x.sp else x.dp⟩
def bA (x b : Tu) : Tu := ⟨b.s, b.d, prA x, b.sp, if prA x = 1 then b.sp else b.dp⟩
theorem prA_is (x : Tu) : prA x = 6 ∨ prA x = 1 ∨ prA x = 17 := by
  unfold prA
  split
  · exact .inr (.inr rfl)
  · omega
theorem prA_lt (x : Tu) : prA x < 256 := by have := prA_is x; omega
theorem xA_ok {x : Tu} (h : x.Ok) : (xA x).Ok := ⟨h.s, h.d, prA_lt x, h.sp, by
  show (if prA x = 1 then x.sp else x.dp) < 65536
  split
  · exact h.sp
  · exact h.dp⟩
theorem bA_ok {x b : Tu} (h : b.Ok) : (bA x b).Ok := ⟨h.s, h.d, prA_lt x, h.sp, by
  show (if prA x = 1 then b.sp else b.dp) < 65536
  split
  · exact h.sp
  · exact h.dp⟩
end Go.Proofs.YthmhiehglcfepaaGreatDoor.Fl

namespace Go.Proofs.YthmhiehglcfepaaGreatDoor.N.La
open Go.Proofs.YthmhiehglcfepaaGreatDoor.N
open Go.ChangeShapes Go.WideShapes Go.ChangeAt Go.RowKit
set_option maxRecDepth 100000

open Ad (rowsC TabC)

theorem u3 : Tryz.prog.underlying 3 = some (.int .i64) := by kernel_rfl
theorem u4 : Tryz.prog.underlying 4 = some .bool := by kernel_rfl
theorem u5 : Tryz.prog.underlying 5 = some (.int .u8) := by kernel_rfl
theorem und_ad : Tryz.prog.underlying 31 = some (.int .u32) := by kernel_rfl
theorem cell1_3 : Tryz.prog.cellsOf 3 = 1 := by kernel_rfl
theorem cell1_4 : Tryz.prog.cellsOf 4 = 1 := by kernel_rfl
theorem cell1_5 : Tryz.prog.cellsOf 5 = 1 := by kernel_rfl
theorem cell1_ad : Tryz.prog.cellsOf 31 = 1 := by kernel_rfl
theorem gK : Tryz.prog.globalNamed "weft/icmp.kinds" = some 1 := by kernel_rfl
theorem gC : Tryz.prog.globalNamed "weft/addr.classRows" = some 2 := by kernel_rfl
theorem gKType : (Tryz.prog.globals[1]?).map (·.type) = some 192 := by kernel_rfl
theorem gCType : (Tryz.prog.globals[2]?).map (·.type) = some 195 := by kernel_rfl
theorem uC : Tryz.prog.underlying 195 = some (.array 4 194) := by kernel_rfl
theorem uK : Tryz.prog.underlying 192 = some (.array 13 153) := by kernel_rfl
theorem cellsC : Tryz.prog.cellsOf 195 = 12 := by kernel_rfl
theorem cellsR : Tryz.prog.cellsOf 194 = 3 := by kernel_rfl
theorem cellsK : Tryz.prog.cellsOf 192 = 26 := by kernel_rfl
theorem cellsQ : Tryz.prog.cellsOf 153 = 2 := by kernel_rfl
theorem undR : ∃ f0 f1 f2, Tryz.prog.underlying 194 = some (.struct #[f0, f1, f2]) ∧ f0.type = 31 ∧ f0.offset = 0 ∧ f1.type = 3 ∧ f1.offset = 1 ∧ f2.type = 3 ∧ f2.offset = 2 := ⟨_, _, _, Tryz.underlying194, rfl, rfl, rfl, rfl, rfl, rfl⟩
theorem undQ : ∃ f0 f1, Tryz.prog.underlying 153 = some (.struct #[f0, f1]) ∧ f0.type = 4 ∧ f0.offset = 0 ∧ f1.type = 5 ∧ f1.offset = 1 := ⟨_, _, Tryz.underlying153, rfl, rfl, rfl, rfl⟩

section
variable {H : Type} {enc : TypeId × Value → H} {W : World} {sp : Nat → Bool} {held : Bool}

theorem row3 {fuel : Nat} {cs : List Value} {a b c : Int} {p : List MemPlace} (h : DataW.trod enc Tryz.prog W 0 sp held fuel 194 cs = some (.agg [.lit (.int .u32 a), .lit (.int .i64 b), .lit (.int .i64 c)], p)) :
    cs = [.int .u32 a, .int .i64 b, .int .i64 c] := by
  obtain ⟨f0, f1, f2, hu, t0, o0, t1, o1, t2, o2⟩ := undR
  obtain ⟨y0, y1, y2, n, hx, hl, g0, g1, g2⟩ := Go.Deep.trod_struct3 hu h
  rw [t0, o0, cell1_ad] at g0
  rw [t1, o1, cell1_3] at g1
  rw [t2, o2, cell1_3] at g2
  rw [cellsR] at hl
  obtain ⟨z0, e0, rfl, _⟩ := DataW.trod_int und_ad g0
  obtain ⟨z1, e1, rfl, _⟩ := DataW.trod_int u3 g1
  obtain ⟨z2, e2, rfl, _⟩ := DataW.trod_int u3 g2
  simp at hx
  obtain ⟨⟨rfl, rfl, rfl⟩, _⟩ := hx
  match cs, hl with
  | [c0, c1, c2], _ => simp at e0 e1 e2; rw [e0, e1, e2]

theorem row2 {fuel : Nat} {cs : List Value} {a : Bool} {b : Int} {p : List MemPlace} (h : DataW.trod enc Tryz.prog W 0 sp held fuel 153 cs = some (.agg [.lit (.bool a), .lit (.int .u8 b)], p)) :
    cs = [.bool a, .int .u8 b] := by
  obtain ⟨f0, f1, hu, t0, o0, t1, o1⟩ := undQ
  obtain ⟨y0, y1, n, hx, hl, g0, g1⟩ := trod_struct2 hu h
  rw [t0, o0, cell1_4] at g0
  rw [t1, o1, cell1_5] at g1
  rw [cellsQ] at hl
  obtain ⟨z0, e0, rfl⟩ := DataW.trod_bool u4 g0
  obtain ⟨z1, e1, rfl, _⟩ := DataW.trod_int u5 g1
  simp at hx
  obtain ⟨⟨rfl, rfl⟩, _⟩ := hx
  match cs, hl with
  | [c0, c1], _ => simp at e0 e1; rw [e0, e1]
end

theorem tabC {W : World} (h : laidMet Tryz.prog [("weft/addr.classRows", Rows.laid_weft_addr_classRows), ("weft/icmp.kinds", Rows.laid_weft_icmp_kinds), ("weft/flow.spans", Rows.laid_weft_flow_spans), ("weft/flow.turns", Rows.laid_weft_flow_turns)] W) : TabC W := by
  obtain ⟨ps, ⟨g, t, cs, fuel, p, q, hg, ht, hvar, hd, _, _⟩, _⟩ := h
  obtain rfl := Option.some.inj (gC.symm.trans hg)
  obtain rfl := Option.some.inj (gCType.symm.trans ht)
  obtain ⟨xs, m, _, hx, hl, hxl, hall⟩ := DataW.trod_array uC hd
  rw [cellsC] at hl
  rw [cellsR] at hall
  unfold Rows.laid_weft_addr_classRows at hx
  match xs, hxl with
  | [y0, y1, y2, y3], _ =>
    simp at hx
    obtain ⟨⟨e0, e1, e2, e3⟩, _⟩ := hx
    obtain ⟨d0, q0⟩ := y0
    obtain ⟨d1, q1⟩ := y1
    obtain ⟨d2, q2⟩ := y2
    obtain ⟨d3, q3⟩ := y3
    simp only at e0 e1 e2 e3
    subst e0 e1 e2 e3
    have r0 := row3 (hall 0 (by omega))
    have r1 := row3 (hall 1 (by omega))
    have r2 := row3 (hall 2 (by omega))
    have r3 := row3 (hall 3 (by omega))
    have hcs : cs.toList = rowsC := by
      match hc : cs.toList, hl with
      | [c0, c1, c2, c3, c4, c5, c6, c7, c8, c9, c10, c11], _ =>
        rw [hc] at r0 r1 r2 r3
        simp at r0 r1 r2 r3
        obtain ⟨rfl, rfl, rfl⟩ := r0
        obtain ⟨rfl, rfl, rfl⟩ := r1
        obtain ⟨rfl, rfl, rfl⟩ := r2
        obtain ⟨rfl, rfl, rfl⟩ := r3
        rfl
    have hcell : ∀ j (hj : j < 12), W.cell? ⟨2, j, none⟩ = some rowsC[j] := by
      intro j hj
      have h3 := World.var?_cell gC hvar j
      rw [h3, ← Array.getElem?_toList, hcs]
      exact List.getElem?_eq_getElem hj
    exact ⟨hcell, World.block_lt_of_cell? W _ (hcell 0 (by omega))⟩

theorem tabK {W : World} (h : laidMet Tryz.prog [("weft/addr.classRows", Rows.laid_weft_addr_classRows), ("weft/icmp.kinds", Rows.laid_weft_icmp_kinds), ("weft/flow.spans", Rows.laid_weft_flow_spans), ("weft/flow.turns", Rows.laid_weft_flow_turns)] W) : TabK W := by
  have h2 : laidMet Tryz.prog [("weft/icmp.kinds", Rows.laid_weft_icmp_kinds), ("weft/flow.spans", Rows.laid_weft_flow_spans), ("weft/flow.turns", Rows.laid_weft_flow_turns)] W := h.tail
  obtain ⟨ps, ⟨g, t, cs, fuel, p, q, hg, ht, hvar, hd, _, _⟩, _⟩ := h2
  obtain rfl := Option.some.inj (gK.symm.trans hg)
  obtain rfl := Option.some.inj (gKType.symm.trans ht)
  obtain ⟨xs, m, _, hx, hl, hxl, hall⟩ := DataW.trod_array uK hd
  rw [cellsK] at hl
  rw [cellsQ] at hall
  unfold Rows.laid_weft_icmp_kinds at hx
  match xs, hxl with
  | [(d0, q0), (d1, q1), (d2, q2), (d3, q3), (d4, q4), (d5, q5), (d6, q6), (d7, q7), (d8, q8), (d9, q9), (d10, q10), (d11, q11), (d12, q12)], _ =>
    simp at hx
    obtain ⟨⟨rfl, rfl, rfl, rfl, rfl, rfl, rfl, rfl, rfl, rfl, rfl, rfl, rfl⟩, _⟩ := hx
    have r0 := row2 (hall 0 (by omega))
    have r1 := row2 (hall 1 (by omega))
    have r2 := row2 (hall 2 (by omega))
    have r3 := row2 (hall 3 (by omega))
    have r4 := row2 (hall 4 (by omega))
    have r5 := row2 (hall 5 (by omega))
    have r6 := row2 (hall 6 (by omega))
    have r7 := row2 (hall 7 (by omega))
    have r8 := row2 (hall 8 (by omega))
    have r9 := row2 (hall 9 (by omega))
    have r10 := row2 (hall 10 (by omega))
    have r11 := row2 (hall 11 (by omega))
    have r12 := row2 (hall 12 (by omega))
    have hcs : cs.toList = rowsK := by
      match hc : cs.toList, hl with
      | [c0, c1, c2, c3, c4, c5, c6, c7, c8, c9, c10, c11, c12, c13, c14, c15, c16, c17, c18, c19, c20, c21, c22, c23, c24, c25], _ =>
        rw [hc] at r0 r1 r2 r3 r4 r5 r6 r7 r8 r9 r10 r11 r12
        simp at r0 r1 r2 r3 r4 r5 r6 r7 r8 r9 r10 r11 r12
        obtain ⟨rfl, rfl⟩ := r0
        obtain ⟨rfl, rfl⟩ := r1
        obtain ⟨rfl, rfl⟩ := r2
        obtain ⟨rfl, rfl⟩ := r3
        obtain ⟨rfl, rfl⟩ := r4
        obtain ⟨rfl, rfl⟩ := r5
        obtain ⟨rfl, rfl⟩ := r6
        obtain ⟨rfl, rfl⟩ := r7
        obtain ⟨rfl, rfl⟩ := r8
        obtain ⟨rfl, rfl⟩ := r9
        obtain ⟨rfl, rfl⟩ := r10
        obtain ⟨rfl, rfl⟩ := r11
        obtain ⟨rfl, rfl⟩ := r12
        rfl
    have hcell : ∀ j (hj : j < 26), W.cell? ⟨1, j, none⟩ = some rowsK[j] := by
      intro j hj
      have h3 := World.var?_cell gK hvar j
      rw [h3, ← Array.getElem?_toList, hcs]
      exact List.getElem?_eq_getElem hj
    exact ⟨hcell, World.block_lt_of_cell? W _ (hcell 0 (by omega))⟩

/-- The cells of a table of rows of numbers and bools. -/
def aggCells : DataW Unit → Array Value
  | .agg ds => (ds.flatMap fun d => match d with
    | .agg es => es.map fun e => match e with | .lit (.int k z) => Value.int k z | .lit (.bool b) => Value.bool b | _ => .bool false
    | _ => [.bool false]).toArray
  | _ => #[]

def put (d : DataW Unit) : Obj → Obj
  | .cells _ t frozen => .cells (aggCells d) t frozen
  | o => o

/-- A world for the witness: the settled one, the tables holding what their initialisers lay. -/
noncomputable def laidWorld (os : Os) : World :=
  { World.holding Tryz.prog os ⟨#[], #[], []⟩ with heap := ((World.holding Tryz.prog os ⟨#[], #[], []⟩).heap.modify 1 (put Rows.laid_weft_addr_classRows)).modify 0 (put Rows.laid_weft_icmp_kinds) }
theorem tabF4 {W : World} (h : laidMet Tryz.prog [("weft/addr.classRows", Rows.laid_weft_addr_classRows), ("weft/icmp.kinds", Rows.laid_weft_icmp_kinds), ("weft/flow.spans", Rows.laid_weft_flow_spans), ("weft/flow.turns", Rows.laid_weft_flow_turns)] W) : Fl.TabF W := Fl.tabF (h.tail.tail)
end Go.Proofs.YthmhiehglcfepaaGreatDoor.N.La
