import Derived.Test.YtkkfioebpppffaaGreatDoorYFwF
import Derived.Test.YtkkfioebpppffaaGreatDoorEM
import Derived.Test.YtkkfioebpppffaaGreatDoorEV
import Derived.Test.YtkkfioebpppffaaGreatDoorYFwG
namespace Go.Proofs.YtkkfioebpppffaaGreatDoor.Fl
open Go.Proofs.YtkkfioebpppffaaGreatDoor Go.ChangeShapes Go.WideShapes Go.ChangeAt Go.RowKit Go.Maps N
set_option maxHeartbeats 4000000
set_option maxRecDepth 100000

theorem rdH_ok {L : List Nat} (h : ∀ x ∈ L, x < 256) (k : Nat) : (rdH L k).Ok :=
  ⟨byt_lt h 1, w16_lt h 4, ⟨by show (-9223372036854775808 : Int) ≤ ((w16 L 6 % 8192 * 8 : Nat) : Int); omega, by show ((w16 L 6 % 8192 * 8 : Nat) : Int) ≤ 9223372036854775807; omega⟩, byt_lt h 8, byt_lt h 9, w32_lt h 12, w32_lt h 16⟩
theorem zeroH_ok : zeroH.Ok := ⟨by decide, by decide, by decide, by decide, by decide, by decide, by decide⟩
theorem readL_ok {L : List Nat} (h : ∀ x ∈ L, x < 256) (b : Bool) : (readL L b).1.Ok := by
  unfold readL
  split
  · exact rdH_ok (fun x hx => h x (List.mem_of_mem_take hx)) _
  · exact zeroH_ok
theorem readL_len (L : List Nat) (b : Bool) : (readL L b).2.1.length ≤ L.length := by
  unfold readL
  split
  · simp only [List.length_drop, List.length_take]; omega
  · exact Nat.zero_le _
theorem abt_ok {h : Hd} {B : List Nat} (hb : ∀ x ∈ B, x < 256) : (abt h B).1.Ok := by
  unfold abt
  split
  · exact zeroH_ok
  · split
    · exact readL_ok (msgC_ok hb).2.1 _
    · exact zeroH_ok
theorem abt_len {h : Hd} {B : List Nat} (hb : ∀ x ∈ B, x < 256) : (abt h B).2.1.length ≤ 65507 := by
  unfold abt
  split
  · exact Nat.zero_le _
  · split
    · exact Nat.le_trans (readL_len _ _) (msgC_ok hb).2.2
    · exact Nat.zero_le _
theorem isHdD : ∃ d, Tryz.prog.underlying 33 = some d ∧ d.isRow = true := ⟨_, Tryz.underlying33, rfl⟩
theorem load_hd {u : World} {b : Nat} {h : Hd} {vo : Value} {r : Nat × Nat} (hr : u.heap[b]? = some (.cells (hdCells h vo) 33 r)) : (Instr.loadAt 33 (.pointer (some ⟨b, 0, none⟩))).run Tryz.prog u = .ok (.agg (hdCells h vo)) u := by
  obtain ⟨d, hd1, hd2⟩ := isHdD
  exact load_at (cs := (hdCells h vo).toList) hr rfl hd1 hd2 (by kernel_rfl)
theorem fld_f0 (b : Nat) (u : World) : (Instr.fieldAt 45 (.pointer (some ⟨b, 0, none⟩)) 0).run Tryz.prog u = .ok (.pointer (some ⟨b, 0, none⟩)) u := by kernel_rfl

/-- The tuple of the packet that a fault quotes. -/
def quoT (h : Hd) (B : List Nat) : Option Tu :=
  if (abt h B).2.2 ≠ 0 then none else if 0 < (abt h B).1.off then none else if (abt h B).2.1.length < 8 then none else (contC (abt h B).1.proto (abt h B).2.1).map (tupC (abt h B).1)
theorem quoT_ok {h : Hd} {B : List Nat} (hb : ∀ x ∈ B, x < 256) (hb2 : ∀ x ∈ (abt h B).2.1, x < 256) {t : Tu} (ht : quoT h B = some t) : t.Ok := by
  unfold quoT at ht
  split at ht
  · cases ht
  · split at ht
    · cases ht
    · split at ht
      · cases ht
      · obtain ⟨c, hc, rfl⟩ := Option.map_eq_some_iff.1 ht
        exact tupC_ok (abt_ok hb) (contC_ok hb2 hc)
theorem abt_bytes {h : Hd} {B : List Nat} (hb : ∀ x ∈ B, x < 256) : ∀ x ∈ (abt h B).2.1, x < 256 := by
  unfold abt
  split
  · intro x hx; cases hx
  · split
    · intro x hx
      unfold readL at hx
      split at hx
      · exact (msgC_ok hb).2.1 x (List.mem_of_mem_take (List.mem_of_mem_drop hx))
      · cases hx
    · intro x hx; cases hx

theorem quoted_any (h : Hd) (vo vb : Value) (B : List Nat) (w : World) (hok : h.Ok) (hvo : SeesB w vo h.opts) (hvb : SeesB w vb B) (hlo : h.opts.length ≤ 140737488355328) (hlb : B.length ≤ 140737488355328) (htK : TabK w) :
    Calls Tryz.prog 33 #[.agg (pkCells h vo vb)] w fun e w' => e = .returned (.tuple #[.agg ((quoT h B).getD zTu).cells, .bool (quoT h B).isSome]) ∧ Below w.heap.size w w' := by
  obtain ⟨wa, HWA⟩ : ∃ wa, Hid (wa = w.alloc (.cells (pkCells h vo vb) 35)) := ⟨_, rfl⟩
  obtain ⟨w0, HW0⟩ : ∃ w0, Hid (w0 = wa.alloc (.cells #[.int .u32 0, .int .u32 0, .int .u8 0, .int .u16 0, .int .u16 0] 37)) := ⟨_, rfl⟩
  obtain ⟨g0, HG0⟩ : ∃ g, Hid (g = w.heap.size) := ⟨_, rfl⟩
  have sa : wa.heap.size = g0 + 1 := by rw [HWA.out, HG0.out]; simp
  have s0 : w0.heap.size = g0 + 2 := by rw [HW0.out, World.size_alloc, sa]
  have ba : Below w.heap.size w wa := by rw [HWA.out]; exact (Below.refl _ _).alloc (Nat.le_refl _) _
  have bb : Below wa.heap.size wa w0 := by rw [HW0.out]; exact (Below.refl _ _).alloc (Nat.le_refl _) _
  have ra : wa.heap[g0]? = some (.cells (pkCells h vo vb) 35 (0, 0)) := by rw [HWA.out, HG0.out]; exact heap_alloc_new w _
  have r1 : w0.heap[g0 + 1]? = some (.cells zTu.cells 37 (0, 0)) := by
    have := heap_alloc_new wa (.cells zTu.cells 37); rw [sa] at this; rw [HW0.out]; exact this
  have r0 := below_keeps bb ra (by omega)
  have hb0 : Below w.heap.size w w0 := ba.trans (bb.mono ba.size)
  have HB0 := hid hb0
  have HGW : Hid (w.heap.size ≤ g0) := by unfold Hid; rw [HG0.out]; exact Nat.le_refl _
  have HPL := hid (pk_load r0)
  have HBW : Hid (∀ u : World, Below w0.heap.size w0 u → u.heap[g0]? = some (.cells (pkCells h vo vb) 35 (0, 0)) ∧ u.heap[g0 + 1]? = some (.cells zTu.cells 37 (0, 0))) := fun u hu => ⟨below_keeps hu r0 (by omega), below_keeps hu r1 (by omega)⟩
  have HALLOC : Hid ((w.alloc (.cells (pkCells h vo vb) 35)).alloc (.cells #[.int .u32 0, .int .u32 0, .int .u8 0, .int .u16 0, .int .u16 0] 37) = w0) := by unfold Hid; rw [HW0.out, HWA.out]
  have HAB := hid (about_any h vo vb B w0 hok (hvo.below hb0) (hvb.below hb0) hlo hlb (htK.below hb0))
  have HQ : Hid (quoT h B = if (abt h B).2.2 ≠ 0 then none else if 0 < (abt h B).1.off then none else if (abt h B).2.1.length < 8 then none else (contC (abt h B).1.proto (abt h B).2.1).map (tupC (abt h B).1)) := rfl
  have HAO := hid (abt_ok (h := h) hvb.bytes)
  have HAL := hid (abt_len (h := h) hvb.bytes)
  generalize quoT h B = Q at *
  generalize abt h B = AB at *
  obtain ⟨AH, AL, AE⟩ := AB
  generalize pkCells h vo vb = pk at *
  clear hok hvo hvb hlo hlb htK sa s0 ba bb ra r0 r1 hb0 HWA HW0
  dsimp only at HAB HQ HAO HAL
  go_enter Tryz.func33, Tryz.ntmps33
  go_upto_region 1 with fail
  rw [HALLOC.out, ← HG0.out]
  go_wp2_with (first | (refine wpList_ld 35 ⟨g0, 0, none⟩ (.tmp 1) rfl rfl HPL.out rfl ?_) | fail)
  refine HAB.out.mono ?_
  rintro _ w1 ⟨a1, n1, c1, a2, n2, c2, rfl, ho1, hs1, hb1⟩
  obtain ⟨a9, n9, c9, e9, hn9, _⟩ := hs1.shape
  cases e9
  have HB1 := hid hb1
  have HS1 := hid hs1
  have HN9 : Hid (n2 = AL.length) := hn9
  clear hb1 hs1 ho1 hn9
  have HN1 : Hid ((w1.alloc (.cells #[.int .u8 0, .int .u16 0, .bool false, .bool false, .int .i64 0, .int .u8 0, .int .u8 0, .int .u32 0, .int .u32 0, .slice none 0 0] 33)).heap[w1.heap.size]? = some (.cells #[.int .u8 0, .int .u16 0, .bool false, .bool false, .int .i64 0, .int .u8 0, .int .u8 0, .int .u32 0, .int .u32 0, .slice none 0 0] 33 (0, 0))) := heap_alloc_new _ _
  go_upto_region 2 with (first | (refine wpList_st rfl 33 (.tmp 4) (.tmp 12) rfl w1.heap.size (hdCells AH (.slice a1 n1 c1)) rfl rfl _ #[.int .u8 0, .int .u16 0, .bool false, .bool false, .int .i64 0, .int .u8 0, .int .u8 0, .int .u32 0, .int .u32 0, .slice none 0 0] HN1.out (by kernel_rfl) rfl (hd_one _ _ _ _) ?_; intro w3 hw3 hbut3) | fail)
  obtain ⟨gx, HGX⟩ : ∃ g, Hid (g = w1.heap.size) := ⟨_, rfl⟩
  rw [← HGX.out] at hw3 hbut3 ⊢
  have hb2a : Below w0.heap.size w0 (w1.alloc (.cells #[.int .u8 0, .int .u16 0, .bool false, .bool false, .int .i64 0, .int .u8 0, .int .u8 0, .int .u32 0, .int .u32 0, .slice none 0 0] 33)) := HB1.out.trans ((Below.refl _ _).alloc HB1.out.size _)
  have hX0 : w0.heap.size ≤ gx := by rw [HGX.out]; exact HB1.out.size
  have hb13 : Below w1.heap.size w1 w3 := hbut3.below ((Below.refl _ _).alloc (Nat.le_refl _) _) (by simp) (by rw [HGX.out]; exact Nat.le_refl _)
  have HB3 := hid (hbut3.below hb2a hb2a.size hX0)
  have HS3 := hid (HS1.out.below hb13)
  have HX3 := hid hw3
  have HBW3 := hid (HB0.out.trans (HB3.out.mono HB0.out.size))
  have HZ3 := hid (HBW.out w3 HB3.out).2
  clear hb2a hX0 hb13 hbut3 HN1
  obtain ⟨k0, k1, k2, k3, k4, k5, k6, k7, k8, k9⟩ := hd_at hw3
  clear k0 k1 k2 k3 k5 k7 k8 k9 hw3
  have HK6 := hid k6
  clear k6
  by_cases hE : AE = 0
  · by_cases hO : 0 < AH.off
    · have HV : Hid (Q = none) := by unfold Hid; rw [HQ.out, if_neg (by simpa using hE), if_pos hO]
      have q1 : (AE != 0) = false := by simp [hE]
      go_wp2_with (first | (refine wpList_val (ex_build 37 _ #[] _ rfl rfl (build_ztu _)) rfl ?_) | (refine wpList_st rfl 37 (.tmp 2) (.tmp 27) rfl (g0 + 1) zTu.cells rfl rfl _ zTu.cells HZ3.out (by kernel_rfl) rfl zTu.one ?_; intro w6 hw6 hbut6) | fail)
      have hlv := lv_tu hw6
      refine bodyPost_ret (v := .tuple #[.agg zTu.cells, .bool false]) (by simp [results, Tryz.results33, asAddr, hlv]) rfl ?_
      rw [HV.out]
      exact ⟨rfl, hbut6.below HBW3.out HBW3.out.size (by have := HGW.out; omega)⟩
    · by_cases hL : AL.length < 8
      · have HV : Hid (Q = none) := by unfold Hid; rw [HQ.out, if_neg (by simpa using hE), if_neg hO, if_pos hL]
        have q1 : (AE != 0) = false := by simp [hE]
        have q2 : n2 < 8 := by rw [HN9.out]; exact hL
        have q3 : (n2 : Int) < 8 := by omega
        go_wp2_with (first | (refine wpList_val (ex_build 37 _ #[] _ rfl rfl (build_ztu _)) rfl ?_) | (refine wpList_st rfl 37 (.tmp 2) (.tmp 27) rfl (g0 + 1) zTu.cells rfl rfl _ zTu.cells HZ3.out (by kernel_rfl) rfl zTu.one ?_; intro w6 hw6 hbut6) | fail)
        have hlv := lv_tu hw6
        refine bodyPost_ret (v := .tuple #[.agg zTu.cells, .bool false]) (by simp [results, Tryz.results33, asAddr, hlv]) rfl ?_
        rw [HV.out]
        exact ⟨rfl, hbut6.below HBW3.out HBW3.out.size (by have := HGW.out; omega)⟩
      · have HQ2 : Hid (Q = (contC AH.proto AL).map (tupC AH)) := by unfold Hid; rw [HQ.out, if_neg (by simpa using hE), if_neg hO, if_neg hL]
        have HCO := hid (contentOf_any AH.proto (.slice a2 n2 c2) AL w3 HS3.out (by omega) (by have := HAL.out; omega))
        have q1 : (AE != 0) = false := by simp [hE]
        have q2 : ¬ n2 < 8 := by rw [HN9.out]; exact hL
        have q3 : ¬ (n2 : Int) < 8 := by omega
        have hK6 := HK6.out
        clear hL
        go_wp2_with fail
        clear hK6
        refine HCO.out.mono ?_
        rintro _ w4 ⟨rfl, hb4⟩
        have HB4 := hid hb4
        have HB04 := hid (HB3.out.trans (hb4.mono HB3.out.size))
        have HBW4 := hid (HB0.out.trans (HB04.out.mono HB0.out.size))
        have HZ4 := hid (HBW.out w4 HB04.out).2
        have HX4 := hid (below_keeps hb4 HX3.out (Array.getElem?_eq_some_iff.1 HX3.out).1)
        clear hb4
        cases hC : contC AH.proto AL with
        | none =>
          have HV : Hid (Q = none) := by unfold Hid; rw [HQ2.out, hC]; rfl
          clear hC
          go_wp2_with (first | (refine wpList_val (ex_build 37 _ #[] _ rfl rfl (build_ztu _)) rfl ?_) | (refine wpList_st rfl 37 (.tmp 2) (.tmp 37) rfl (g0 + 1) zTu.cells rfl rfl _ zTu.cells HZ4.out (by kernel_rfl) rfl zTu.one ?_; intro w6 hw6 hbut6) | fail)
          have hlv := lv_tu hw6
          refine bodyPost_ret (v := .tuple #[.agg zTu.cells, .bool false]) (by simp [results, Tryz.results33, asAddr, hlv]) rfl ?_
          rw [HV.out]
          exact ⟨rfl, hbut6.below HBW4.out HBW4.out.size (by have := HGW.out; omega)⟩
        | some c =>
          have HV : Hid (Q = some (tupC AH c)) := by unfold Hid; rw [HQ2.out, hC]; rfl
          have HTP := hid (tupleOf_any AH (.slice a1 n1 c1) c w4)
          have HLH := hid (load_hd HX4.out)
          clear hC
          go_wp2_with (first | (refine wpList_ld 33 ⟨gx, 0, none⟩ (.tmp 4) rfl rfl HLH.out rfl ?_) | fail)
          refine HTP.out.mono ?_
          rintro _ w5 ⟨rfl, hb5⟩
          obtain ⟨t, HT⟩ : ∃ t, Hid (t = tupC AH c) := ⟨_, rfl⟩
          rw [← HT.out] at HV ⊢
          have HB05 := hid (HB04.out.trans (hb5.mono HB04.out.size))
          have HBW5 := hid (HB0.out.trans (HB05.out.mono HB0.out.size))
          have HZ5 := hid (HBW.out w5 HB05.out).2
          clear hb5
          go_wp2_with (first | (refine wpList_st rfl 37 (.tmp 2) (.tmp 40) rfl (g0 + 1) t.cells rfl rfl _ zTu.cells HZ5.out (by kernel_rfl) rfl t.one ?_; intro w6 hw6 hbut6) | fail)
          have hlv := lv_tu hw6
          refine bodyPost_ret (v := .tuple #[.agg t.cells, .bool true]) (by simp [results, Tryz.results33, asAddr, hlv]) rfl ?_
          rw [HV.out]
          exact ⟨rfl, hbut6.below HBW5.out HBW5.out.size (by have := HGW.out; omega)⟩
  · have HV : Hid (Q = none) := by unfold Hid; rw [HQ.out, if_pos hE]
    have q1 : (AE != 0) = true := by simp [hE]
    go_wp2_with (first | (refine wpList_val (ex_build 37 _ #[] _ rfl rfl (build_ztu _)) rfl ?_) | (refine wpList_st rfl 37 (.tmp 2) (.tmp 27) rfl (g0 + 1) zTu.cells rfl rfl _ zTu.cells HZ3.out (by kernel_rfl) rfl zTu.one ?_; intro w6 hw6 hbut6) | fail)
    have hlv := lv_tu hw6
    refine bodyPost_ret (v := .tuple #[.agg zTu.cells, .bool false]) (by simp [results, Tryz.results33, asAddr, hlv]) rfl ?_
    rw [HV.out]
    exact ⟨rfl, hbut6.below HBW3.out HBW3.out.size (by have := HGW.out; omega)⟩

/-- What lookAbout tells. -/
def lookA (q : Raw) : Option Tu → Int × Fw × Bool
  | none => (5, zFw, false)
  | some a => match q.f a.back with
    | none => (5, zFw, false)
    | some k => (4, (q.g k).getD zFw, decide (a.back = ((q.g k).getD zFw).th))
theorem tuB_ok {t : Tu} (h : t.Ok) : t.back.Ok := ⟨h.d, h.s, h.p, h.dp, h.sp⟩


theorem lookAbout_any (w : World) (b : Nat) (lim : Int) (q : Raw) (F : Nat → Prop) (h : Hd) (vo vb : Value) (B : List Nat) (hs : St w b lim q F) (hok : h.Ok) (hvo : SeesB w vo h.opts) (hvb : SeesB w vb B) (hlo : h.opts.length ≤ 140737488355328) (hlb : B.length ≤ 140737488355328) (htK : TabK w)
    (hfk : ∀ t k, q.f t = some k → Tm.In64 k) :
    Calls Tryz.prog 20 #[.pointer (some ⟨b, 0, none⟩), .agg (pkCells h vo vb)] w fun e w' => e = .returned (.agg (trC (lookA q (quoT h B)).1 (lookA q (quoT h B)).2.1 (lookA q (quoT h B)).2.2)) ∧ Below w.heap.size w w' := by
  obtain ⟨wa, HWA⟩ : ∃ wa, Hid (wa = w.alloc (.cells (pkCells h vo vb) 35)) := ⟨_, rfl⟩
  obtain ⟨w0, HW0⟩ : ∃ w0, Hid (w0 = wa.alloc (.cells #[.int .i64 0, .int .u32 0, .int .u32 0, .int .u8 0, .int .u16 0, .int .u16 0, .int .u32 0, .int .u32 0, .int .u8 0, .int .u16 0, .int .u16 0, .int .i64 0, .int .i64 0, .bool false] 47)) := ⟨_, rfl⟩
  obtain ⟨g0, HG0⟩ : ∃ g, Hid (g = w.heap.size) := ⟨_, rfl⟩
  have sa : wa.heap.size = g0 + 1 := by rw [HWA.out, HG0.out]; simp
  have s0 : w0.heap.size = g0 + 2 := by rw [HW0.out, World.size_alloc, sa]
  have ba : Below w.heap.size w wa := by rw [HWA.out]; exact (Below.refl _ _).alloc (Nat.le_refl _) _
  have bb : Below wa.heap.size wa w0 := by rw [HW0.out]; exact (Below.refl _ _).alloc (Nat.le_refl _) _
  have ra : wa.heap[g0]? = some (.cells (pkCells h vo vb) 35 (0, 0)) := by rw [HWA.out, HG0.out]; exact heap_alloc_new w _
  have r1 : w0.heap[g0 + 1]? = some (.cells zTr 47 (0, 0)) := by
    have := heap_alloc_new wa (.cells zTr 47); rw [sa] at this; rw [HW0.out]; exact this
  have r0 := below_keeps bb ra (by omega)
  have hb0 : Below w.heap.size w w0 := ba.trans (bb.mono ba.size)
  have HB0 := hid hb0
  have HGW : Hid (w.heap.size ≤ g0) := by unfold Hid; rw [HG0.out]; exact Nat.le_refl _
  have HPL := hid (pk_load r0)
  have HBW : Hid (∀ u : World, Below w0.heap.size w0 u → u.heap[g0]? = some (.cells (pkCells h vo vb) 35 (0, 0)) ∧ u.heap[g0 + 1]? = some (.cells zTr 47 (0, 0))) := fun u hu => ⟨below_keeps hu r0 (by omega), below_keeps hu r1 (by omega)⟩
  have HALLOC : Hid ((w.alloc (.cells (pkCells h vo vb) 35)).alloc (.cells #[.int .i64 0, .int .u32 0, .int .u32 0, .int .u8 0, .int .u16 0, .int .u16 0, .int .u32 0, .int .u32 0, .int .u8 0, .int .u16 0, .int .u16 0, .int .i64 0, .int .i64 0, .bool false] 47) = w0) := by unfold Hid; rw [HW0.out, HWA.out]
  have HQU := hid (quoted_any h vo vb B w0 hok (hvo.below hb0) (hvb.below hb0) hlo hlb (htK.below hb0))
  have HQO : Hid (((quoT h B).getD zTu).back.Ok) := by
    unfold Hid
    cases hq : quoT h B with
    | none => exact tuB_ok zTu_ok
    | some a => exact tuB_ok (quoT_ok hvb.bytes (abt_bytes hvb.bytes) hq)
  have HS := hid hs
  have HFK := hid hfk
  generalize quoT h B = Q at *
  generalize pkCells h vo vb = pk at *
  obtain ⟨a, HA⟩ : ∃ a, Hid (a = Q.getD zTu) := ⟨_, rfl⟩
  obtain ⟨qs, HQS⟩ : ∃ a, Hid (a = Q.isSome) := ⟨_, rfl⟩
  rw [← HA.out, ← HQS.out] at HQU
  rw [← HA.out] at HQO
  obtain ⟨t, HTB⟩ : ∃ t, Hid (t = a.back) := ⟨_, rfl⟩
  have HTOK : Hid t.Ok := by unfold Hid; rw [HTB.out]; exact HQO.out
  clear hs hok hvo hvb hlo hlb htK hfk sa s0 ba bb ra r0 r1 hb0 HWA HW0
  go_enter Tryz.func20, Tryz.ntmps20
  go_upto_region 1 with fail
  rw [HALLOC.out, ← HG0.out]
  go_wp2_with (first | (refine wpList_ld 35 ⟨g0, 0, none⟩ (.tmp 3) rfl rfl HPL.out rfl ?_) | fail)
  refine HQU.out.mono ?_
  rintro _ w1 ⟨rfl, hb1⟩
  have HB1 := hid hb1
  clear hb1
  have HN1 : Hid ((w1.alloc (.cells #[.int .u32 0, .int .u32 0, .int .u8 0, .int .u16 0, .int .u16 0] 37)).heap[w1.heap.size]? = some (.cells zTu.cells 37 (0, 0))) := heap_alloc_new _ _
  go_upto_region 2 with (first | (refine wpList_st rfl 37 (.tmp 5) (.tmp 14) rfl w1.heap.size a.cells rfl rfl _ zTu.cells HN1.out (by kernel_rfl) rfl a.one ?_; intro w2 hw2 hbut2) | fail)
  obtain ⟨ga, HGA⟩ : ∃ g, Hid (g = w1.heap.size) := ⟨_, rfl⟩
  rw [← HGA.out] at hw2 hbut2 ⊢
  have hb2a : Below w0.heap.size w0 (w1.alloc (.cells #[.int .u32 0, .int .u32 0, .int .u8 0, .int .u16 0, .int .u16 0] 37)) := HB1.out.trans ((Below.refl _ _).alloc HB1.out.size _)
  have HB2 := hid (hbut2.below hb2a hb2a.size (by rw [HGA.out]; exact HB1.out.size))
  have HLA := hid (load_tu hw2)
  have HBK := hid (back_any a w2)
  rw [← HTB.out] at HBK
  clear hb2a hw2 hbut2 HN1
  go_wp2_with (first | (refine wpList_ld 37 ⟨ga, 0, none⟩ (.tmp 5) rfl rfl HLA.out rfl ?_) | fail)
  refine HBK.out.mono ?_
  rintro _ w2' ⟨rfl, hb2'⟩
  have HB2' := hid (HB2.out.trans (hb2'.mono HB2.out.size))
  clear hb2'
  have HN2 : Hid ((w2'.alloc (.cells #[.int .u32 0, .int .u32 0, .int .u8 0, .int .u16 0, .int .u16 0] 37)).heap[w2'.heap.size]? = some (.cells zTu.cells 37 (0, 0))) := heap_alloc_new _ _
  go_upto_region 3 with (first | (refine wpList_st rfl 37 (.tmp 7) (.tmp 17) rfl w2'.heap.size t.cells rfl rfl _ zTu.cells HN2.out (by kernel_rfl) rfl t.one ?_; intro w3 hw3 hbut3) | fail)
  obtain ⟨gx, HGX⟩ : ∃ g, Hid (g = w2'.heap.size) := ⟨_, rfl⟩
  rw [← HGX.out] at hw3 hbut3 ⊢
  have hb2a : Below w0.heap.size w0 (w2'.alloc (.cells #[.int .u32 0, .int .u32 0, .int .u8 0, .int .u16 0, .int .u16 0] 37)) := HB2'.out.trans ((Below.refl _ _).alloc HB2'.out.size _)
  have hX0 : w0.heap.size ≤ gx := by rw [HGX.out]; exact HB2'.out.size
  have HB3 := hid (hbut3.below hb2a hb2a.size hX0)
  have HX0 := hid hX0
  have HX3 := hid hw3
  have HBW3 := hid (HB0.out.trans (HB3.out.mono HB0.out.size))
  clear hw3 hbut3 hb2a hX0 HN2 HB2 HB2' HLA HBK
  obtain ⟨p3, t3⟩ : ∃ p, TAt w3 b lim q p := by
    obtain ⟨p, hp, -⟩ := HS.out.below HBW3.out
    exact ⟨p, hp⟩
  obtain ⟨has, HHS⟩ : ∃ r, Hid (r = (q.f t).isSome) := ⟨_, rfl⟩
  obtain ⟨k, HK⟩ : ∃ r, Hid (r = (q.f t).getD 0) := ⟨_, rfl⟩
  have HT3 := hid t3
  have HTA : Hid (∀ u : World, Below w3.heap.size w3 u → u.cell? ⟨b, 2, none⟩ = some (.map (some p3.nb)) ∧ (Instr.loadAt 37 (.pointer (some ⟨gx, 0, none⟩))).run Tryz.prog u = .ok (.agg t.cells) u ∧ (Instr.lookup 58 (.map (some p3.nb)) (.agg t.cells) true).run Tryz.prog u = .ok (.tuple #[.int .i64 k, .bool has]) u) := fun u hu =>
    ⟨(t3.below hu).cells rfl, load_tu (below_keeps hu HX3.out (Array.getElem?_eq_some_iff.1 HX3.out).1), by rw [HK.out, HHS.out]; exact (t3.below hu).look HTOK.out⟩
  clear t3
  refine wp_region_guarded' 10 (fun i => ([19, 20, 21, 22, 23, 24, 18, 25, 26, 8] : List Tmp).getD i 0) (Vs [.pointer (some ⟨b, 0, none⟩), .pointer (some ⟨b, 0, none⟩), .pointer (some ⟨b, 2, none⟩), .map (some p3.nb), .agg t.cells, .tuple #[.int .i64 k, .bool has], .tuple #[.int .i64 k, .bool has], .int .i64 k, .bool has, .int .i64 k]) (fun u => Below w3.heap.size w3 u) (fun _ u u' => Below u.heap.size u u') (by kernel_rfl) (by kernel_rfl) ⟨rfl, rfl, rfl, Nat.le_refl _, fun _ _ => rfl⟩ (fun _ _ _ _ _ _ h _ _ => h) ?_ ?_
  · simp only [List.take_succ_cons, List.take_zero, stepsG]
    refine ⟨?_, ?_, ?_, ?_, ?_, ?_, ?_, ?_, ?_, ?_, trivial⟩
    · intro a u vs hI hold hdep
      exact opAt_plain rfl (wp_still (ex_move (.tmp 0) _ rfl (hold 0 (dlM (L := [19, 20, 21, 22, 23, 24, 18, 25, 26, 8]) (by decide)))) rfl rfl hI)
    · intro a u vs hI hold hdep
      exact opAt_plain rfl (wp_still (ex_nil ⟨b, 0, none⟩ (.tmp 19) rfl (Vs.dep (hdep ⟨0, .data⟩ (by simp) rfl (by decide)) rfl)) rfl rfl hI)
    · intro a u vs hI hold hdep
      exact opAt_plain rfl (wp_still (ex_field _ ⟨b, 0, none⟩ (.tmp 20) 2 _ rfl (Vs.dep (hdep ⟨1, .data⟩ (by simp) rfl (by decide)) rfl) (fld_t2 b u)) rfl rfl hI)
    · intro a u vs hI hold hdep
      exact opAt_plain rfl (wp_still (ex_load _ ⟨b, 2, none⟩ (.tmp 21) _ rfl (Vs.dep (hdep ⟨2, .data⟩ (by simp) rfl (by decide)) rfl) (ld_mapT (HTA.out u hI).1)) rfl rfl hI)
    · intro a u vs hI hold hdep
      exact opAt_plain rfl (wp_still (ex_load _ ⟨gx, 0, none⟩ (.tmp 7) _ rfl (hold 7 (dlM (L := [19, 20, 21, 22, 23, 24, 18, 25, 26, 8]) (by decide))) ((HTA.out u hI).2.1)) rfl rfl hI)
    · intro a u vs hI hold hdep
      exact opAt_plain rfl (wp_still (ex_lookup _ (.tmp 22) (.tmp 23) true _ _ _ rfl (Vs.dep (hdep ⟨3, .data⟩ (by simp) rfl (by decide)) rfl) (Vs.dep (hdep ⟨4, .data⟩ (by simp) rfl (by decide)) rfl) ((HTA.out u hI).2.2)) rfl rfl hI)
    · intro a u vs hI hold hdep
      exact opAt_plain rfl (wp_still (ex_move (.tmp 24) _ rfl (Vs.dep (hdep ⟨5, .data⟩ (by simp) rfl (by decide)) rfl)) rfl rfl hI)
    · intro a u vs hI hold hdep
      exact opAt_plain rfl (wp_still (ex_extract (.tmp 18) 0 _ _ rfl (Vs.dep (hdep ⟨6, .data⟩ (by simp) rfl (by decide)) rfl) rfl) rfl rfl hI)
    · intro a u vs hI hold hdep
      exact opAt_plain rfl (wp_still (ex_extract (.tmp 18) 1 _ _ rfl (Vs.dep (hdep ⟨6, .data⟩ (by simp) rfl (by decide)) rfl) rfl) rfl rfl hI)
    · intro a u vs hI hold hdep
      exact opAt_plain rfl (wp_still (ex_assign (.tmp 25) _ rfl (Vs.dep (hdep ⟨7, .data⟩ (by simp) rfl (by decide)) rfl)) rfl rfl hI)
  intro vs u hI hF
  have e0 : vs 0 = .pointer (some ⟨b, 0, none⟩) := (Option.some.inj (hF 0 (by decide))).symm
  have e1 : vs 1 = .pointer (some ⟨b, 0, none⟩) := (Option.some.inj (hF 1 (by decide))).symm
  have e2 : vs 2 = .pointer (some ⟨b, 2, none⟩) := (Option.some.inj (hF 2 (by decide))).symm
  have e3 : vs 3 = .map (some p3.nb) := (Option.some.inj (hF 3 (by decide))).symm
  have e4 : vs 4 = .agg t.cells := (Option.some.inj (hF 4 (by decide))).symm
  have e5 : vs 5 = .tuple #[.int .i64 k, .bool has] := (Option.some.inj (hF 5 (by decide))).symm
  have e6 : vs 6 = .tuple #[.int .i64 k, .bool has] := (Option.some.inj (hF 6 (by decide))).symm
  have e7 : vs 7 = .int .i64 k := (Option.some.inj (hF 7 (by decide))).symm
  have e8 : vs 8 = .bool has := (Option.some.inj (hF 8 (by decide))).symm
  have e9 : vs 9 = .int .i64 k := (Option.some.inj (hF 9 (by decide))).symm
  clear hF
  simp only [List.drop_succ_cons, List.drop_zero, puts, List.range, List.range.loop, List.foldr, if_true, List.getD_cons_zero, List.getD_cons_succ, e0, e1, e2, e3, e4, e5, e6, e7, e8, e9, Act.put, List.setIfInBounds_toArray, List.set_cons_zero, List.set_cons_succ]
  clear e0 e1 e2 e3 e4 e5 e6 e7 e8 e9
  have HBU := hid hI
  clear hI
  have HZU := hid (HBW.out u (HB3.out.trans (HBU.out.mono HB3.out.size))).2
  have HBF := hid (HBW3.out.trans (HBU.out.mono HBW3.out.size))
  cases Q with
  | none =>
    have hqs : qs = false := HQS.out
    have HV : Hid (lookA q none = (5, zFw, false)) := rfl
    subst hqs
    go_wp2_with (first | (refine wpList_val (ex_build 47 _ #[(0, .int .i64 5)] _ rfl rfl (build_tr1 5 _)) rfl ?_) | (refine wpList_st rfl 47 (.tmp 4) (.tmp 33) rfl (g0 + 1) (trC 5 zFw false) rfl rfl _ zTr HZU.out (by kernel_rfl) rfl (trC_one _ _ _) ?_; intro w6 hw6 hbut6) | fail)
    have hlv := lv_tr hw6
    refine bodyPost_ret (v := .agg (trC 5 zFw false)) (by simp [results, Tryz.results20, asAddr, Act.put, hlv]) rfl ?_
    rw [HV.out]
    exact ⟨rfl, hbut6.below HBF.out HBF.out.size (by have := HGW.out; omega)⟩
  | some a' =>
    have hqs : qs = true := HQS.out
    have haa : a = a' := HA.out
    subst hqs haa
    cases hq : q.f t with
    | none =>
      have hh : has = false := by rw [HHS.out, hq]; rfl
      have HV : Hid (lookA q (some a) = (5, zFw, false)) := by unfold Hid; simp only [lookA, ← HTB.out, hq]
      subst hh
      clear hq
      go_wp2_with (first | (refine wpList_val (ex_build 47 _ #[(0, .int .i64 5)] _ rfl rfl (build_tr1 5 _)) rfl ?_) | (refine wpList_st rfl 47 (.tmp 4) (.tmp 33) rfl (g0 + 1) (trC 5 zFw false) rfl rfl _ zTr HZU.out (by kernel_rfl) rfl (trC_one _ _ _) ?_; intro w6 hw6 hbut6) | fail)
      have hlv := lv_tr hw6
      refine bodyPost_ret (v := .agg (trC 5 zFw false)) (by simp [results, Tryz.results20, asAddr, Act.put, hlv]) rfl ?_
      rw [HV.out]
      exact ⟨rfl, hbut6.below HBF.out HBF.out.size (by have := HGW.out; omega)⟩
    | some k0 =>
      have hh : has = true := by rw [HHS.out, hq]; rfl
      have hk : k = k0 := by rw [HK.out, hq]; rfl
      subst hh hk
      have H64 := hid (HFK.out t k hq)
      obtain ⟨f, HF⟩ : ∃ f, Hid (f = (q.g k).getD zFw) := ⟨_, rfl⟩
      obtain ⟨dd, HD⟩ : ∃ r, Hid (decide (t = f.th) = r) := ⟨_, rfl⟩
      have HV : Hid (lookA q (some a) = (4, f, dd)) := by unfold Hid; simp only [lookA, ← HTB.out, hq, ← HF.out, HD.out]
      have hTU := HT3.out.below HBU.out
      have k3 : u.cell? ⟨b, 3, none⟩ = some (.map (some p3.fb)) := hTU.cells (j := 3) rfl
      have hlk : (Instr.lookup 59 (.map (some p3.fb)) (.int .i64 k) false).run Tryz.prog u = .ok (.agg f.cells) u := by rw [HF.out]; exact hTU.flow H64.out
      have HN4 : Hid ((u.alloc (.cells #[.int .u32 0, .int .u32 0, .int .u8 0, .int .u16 0, .int .u16 0, .int .u32 0, .int .u32 0, .int .u8 0, .int .u16 0, .int .u16 0, .int .i64 0, .int .i64 0] 45)).heap[u.heap.size]? = some (.cells zFw.cells 45 (0, 0))) := heap_alloc_new _ _
      clear hq hTU
      go_upto_region 7 with (first | (refine wpList_st rfl 45 (.tmp 10) (.tmp 39) rfl u.heap.size f.cells rfl rfl _ zFw.cells HN4.out (by kernel_rfl) rfl f.one ?_; intro w4 hw4 hbut4) | fail)
      obtain ⟨gy, HGY⟩ : ∃ g, Hid (g = u.heap.size) := ⟨_, rfl⟩
      rw [← HGY.out] at hw4 hbut4 ⊢
      have hb4 : Below u.heap.size u w4 := hbut4.below ((Below.refl _ _).alloc (Nat.le_refl _) _) (by simp) (by rw [HGY.out]; exact Nat.le_refl _)
      have hb3u : Below w3.heap.size w3 w4 := HBU.out.trans (hb4.mono HBU.out.size)
      have HB3u := hid hb3u
      have HF4 := hid hw4
      have HB04 := hid (HB3.out.trans (hb3u.mono HB3.out.size))
      have HBF4 := hid (HBF.out.trans (hb4.mono HBF.out.size))
      have HTL : Hid (∀ v : World, Below w4.heap.size w4 v → (Instr.loadAt 45 (.pointer (some ⟨gy, 0, none⟩))).run Tryz.prog v = .ok (.agg f.cells) v ∧ (Instr.loadAt 37 (.pointer (some ⟨gx, 0, none⟩))).run Tryz.prog v = .ok (.agg t.cells) v ∧ (Instr.loadAt 37 (.pointer (some ⟨gy, 0, none⟩))).run Tryz.prog v = .ok (.agg f.th.cells) v) := fun v hv =>
        ⟨load_fw (below_keeps hv HF4.out (Array.getElem?_eq_some_iff.1 HF4.out).1), (HTA.out v (HB3u.out.trans (hv.mono HB3u.out.size))).2.1, load_th (below_keeps hv HF4.out (Array.getElem?_eq_some_iff.1 HF4.out).1)⟩
      clear hw4 hbut4 hb4 hb3u k3 hlk HN4
      clear HTA
      refine wp_region_guarded' 6 (fun i => ([40, 41, 42, 43, 44, 45] : List Tmp).getD i 0) (Vs [.agg f.cells, .agg t.cells, .pointer (some ⟨gy, 0, none⟩), .agg f.th.cells, .bool dd, .agg (trC 4 f dd)]) (fun u => Below w4.heap.size w4 u) (fun _ u u' => Below u.heap.size u u') (by kernel_rfl) (by kernel_rfl) ⟨rfl, rfl, rfl, Nat.le_refl _, fun _ _ => rfl⟩ (fun _ _ _ _ _ _ h _ _ => h) ?_ ?_
      · simp only [List.take_succ_cons, List.take_zero, stepsG]
        refine ⟨?_, ?_, ?_, ?_, ?_, ?_, trivial⟩
        · intro a u vs hI hold hdep
          exact opAt_plain rfl (wp_still (ex_load _ ⟨gy, 0, none⟩ (.tmp 10) _ rfl (hold 10 (dlM (L := [40, 41, 42, 43, 44, 45]) (by decide))) ((HTL.out u hI).1)) rfl rfl hI)
        · intro a u vs hI hold hdep
          exact opAt_plain rfl (wp_still (ex_load _ ⟨gx, 0, none⟩ (.tmp 7) _ rfl (hold 7 (dlM (L := [40, 41, 42, 43, 44, 45]) (by decide))) ((HTL.out u hI).2.1)) rfl rfl hI)
        · intro a u vs hI hold hdep
          exact opAt_plain rfl (wp_still (ex_field _ ⟨gy, 0, none⟩ (.tmp 10) 0 _ rfl (hold 10 (dlM (L := [40, 41, 42, 43, 44, 45]) (by decide))) (fld_f0 gy u)) rfl rfl hI)
        · intro a u vs hI hold hdep
          exact opAt_plain rfl (wp_still (ex_load _ ⟨gy, 0, none⟩ (.tmp 42) _ rfl (Vs.dep (hdep ⟨2, .data⟩ (by simp) rfl (by decide)) rfl) ((HTL.out u hI).2.2)) rfl rfl hI)
        · intro a u vs hI hold hdep
          exact opAt_plain rfl (wp_still (ex_eqTb (.tmp 41) (.tmp 43) _ t f.th dd rfl (Vs.dep (hdep ⟨1, .data⟩ (by simp) rfl (by decide)) rfl) (Vs.dep (hdep ⟨3, .data⟩ (by simp) rfl (by decide)) rfl) HD.out) rfl rfl hI)
        · intro a u vs hI hold hdep
          have x0 : a.eval (.tmp 40) = .agg f.cells := (Vs.dep (hdep ⟨0, .data⟩ (by simp) rfl (by decide)) rfl)
          have x1 : a.eval (.tmp 44) = .bool dd := (Vs.dep (hdep ⟨4, .data⟩ (by simp) rfl (by decide)) rfl)
          exact opAt_plain rfl (wp_still (ex_build 47 _ #[(0, .int .i64 4), (1, .agg f.cells), (2, .bool dd)] _ rfl (by simp only [List.map_toArray, List.map_cons, List.map_nil, x0, x1]; rfl) (build_tr3 4 f dd _)) rfl rfl hI)
      intro vs v9 hI hF
      have e0 : vs 0 = .agg f.cells := (Option.some.inj (hF 0 (by decide))).symm
      have e1 : vs 1 = .agg t.cells := (Option.some.inj (hF 1 (by decide))).symm
      have e2 : vs 2 = .pointer (some ⟨gy, 0, none⟩) := (Option.some.inj (hF 2 (by decide))).symm
      have e3 : vs 3 = .agg f.th.cells := (Option.some.inj (hF 3 (by decide))).symm
      have e4 : vs 4 = .bool dd := (Option.some.inj (hF 4 (by decide))).symm
      have e5 : vs 5 = .agg (trC 4 f dd) := (Option.some.inj (hF 5 (by decide))).symm
      clear hF
      simp only [List.drop_succ_cons, List.drop_zero, puts, List.range, List.range.loop, List.foldr, if_true, List.getD_cons_zero, List.getD_cons_succ, e0, e1, e2, e3, e4, e5, Act.put, List.setIfInBounds_toArray, List.set_cons_zero, List.set_cons_succ]
      clear e0 e1 e2 e3 e4 e5
      have HZ9 := hid (HBW.out v9 (HB04.out.trans (hI.mono HB04.out.size))).2
      have HBF9 := hid (HBF4.out.trans (hI.mono HBF4.out.size))
      clear hI
      go_wp2_with (first | (refine wpList_st rfl 47 (.tmp 4) (.tmp 45) rfl (g0 + 1) (trC 4 f dd) rfl rfl _ zTr HZ9.out (by kernel_rfl) rfl (trC_one _ _ _) ?_; intro w6 hw6 hbut6) | fail)
      have hlv := lv_tr hw6
      refine bodyPost_ret (v := .agg (trC 4 f dd)) (by simp [results, Tryz.results20, asAddr, Act.put, hlv]) rfl ?_
      rw [HV.out]
      exact ⟨rfl, hbut6.below HBF9.out HBF9.out.size (by have := HGW.out; omega)⟩
end Go.Proofs.YtkkfioebpppffaaGreatDoor.Fl

namespace Go.Proofs.YtkkfioebpppffaaGreatDoor.Fl
open Go.Proofs.YtkkfioebpppffaaGreatDoor Go.ChangeShapes Go.WideShapes Go.ChangeAt Go.RowKit Go.Maps N
set_option maxHeartbeats 4000000
set_option maxRecDepth 100000

theorem lookN_any (w : World) (b : Nat) (lim : Int) (q : Raw) (F : Nat → Prop) (h : Hd) (vo vb : Value) (B : List Nat) (hs : St w b lim q F) (hok : h.Ok) (hvo : SeesB w vo h.opts) (hvb : SeesB w vb B) (hlo : h.opts.length ≤ 140737488355328) (hlb : B.length ≤ 140737488355328) (htK : TabK w) (hn : rdC h B = none)
    (hfk : ∀ t k, q.f t = some k → Tm.In64 k) :
    Calls Tryz.prog 9 #[.pointer (some ⟨b, 0, none⟩), .agg (pkCells h vo vb)] w fun e w' => e = .returned (.agg (trC (lookA q (quoT h B)).1 (lookA q (quoT h B)).2.1 (lookA q (quoT h B)).2.2)) ∧ Below w.heap.size w w' := by
  obtain ⟨wa, HWA⟩ : ∃ wa, Hid (wa = w.alloc (.cells (pkCells h vo vb) 35)) := ⟨_, rfl⟩
  obtain ⟨w0, HW0⟩ : ∃ w0, Hid (w0 = wa.alloc (.cells #[.int .i64 0, .int .u32 0, .int .u32 0, .int .u8 0, .int .u16 0, .int .u16 0, .int .u32 0, .int .u32 0, .int .u8 0, .int .u16 0, .int .u16 0, .int .i64 0, .int .i64 0, .bool false] 47)) := ⟨_, rfl⟩
  obtain ⟨g0, HG0⟩ : ∃ g, Hid (g = w.heap.size) := ⟨_, rfl⟩
  have sa : wa.heap.size = g0 + 1 := by rw [HWA.out, HG0.out]; simp
  have s0 : w0.heap.size = g0 + 2 := by rw [HW0.out, World.size_alloc, sa]
  have ba : Below w.heap.size w wa := by rw [HWA.out]; exact (Below.refl _ _).alloc (Nat.le_refl _) _
  have bb : Below wa.heap.size wa w0 := by rw [HW0.out]; exact (Below.refl _ _).alloc (Nat.le_refl _) _
  have ra : wa.heap[g0]? = some (.cells (pkCells h vo vb) 35 (0, 0)) := by rw [HWA.out, HG0.out]; exact heap_alloc_new w _
  have r1 : w0.heap[g0 + 1]? = some (.cells zTr 47 (0, 0)) := by
    have := heap_alloc_new wa (.cells zTr 47); rw [sa] at this; rw [HW0.out]; exact this
  have r0 := below_keeps bb ra (by omega)
  have hb0 : Below w.heap.size w w0 := ba.trans (bb.mono ba.size)
  have HB0 := hid hb0
  have HGW : Hid (w.heap.size ≤ g0) := by unfold Hid; rw [HG0.out]; exact Nat.le_refl _
  have HPL := hid (pk_load r0)
  have HBW : Hid (∀ u : World, Below w0.heap.size w0 u → u.heap[g0]? = some (.cells (pkCells h vo vb) 35 (0, 0)) ∧ u.heap[g0 + 1]? = some (.cells zTr 47 (0, 0))) := fun u hu => ⟨below_keeps hu r0 (by omega), below_keeps hu r1 (by omega)⟩
  have HALLOC : Hid ((w.alloc (.cells (pkCells h vo vb) 35)).alloc (.cells #[.int .i64 0, .int .u32 0, .int .u32 0, .int .u8 0, .int .u16 0, .int .u16 0, .int .u32 0, .int .u32 0, .int .u8 0, .int .u16 0, .int .u16 0, .int .i64 0, .int .i64 0, .bool false] 47) = w0) := by unfold Hid; rw [HW0.out, HWA.out]
  have HOF := hid (of_any h vo vb B w0 hok (hvo.below hb0) (hvb.below hb0) hlo hlb)
  have HLA : Hid (∀ u, Below w0.heap.size w0 u → Calls Tryz.prog 20 #[.pointer (some ⟨b, 0, none⟩), .agg (pkCells h vo vb)] u fun e w' => e = .returned (.agg (trC (lookA q (quoT h B)).1 (lookA q (quoT h B)).2.1 (lookA q (quoT h B)).2.2)) ∧ Below u.heap.size u w') := fun u hu => by
    have hu' := hb0.trans (hu.mono hb0.size)
    obtain ⟨F', k1⟩ : ∃ F', St u b lim q F' := ⟨F, hs.below hu'⟩
    exact lookAbout_any u b lim q F' h vo vb B k1 hok (hvo.below hu') (hvb.below hu') hlo hlb (htK.below hu') hfk
  have HPLA : Hid (∀ u, Below w0.heap.size w0 u → (Instr.loadAt 35 (.pointer (some ⟨g0, 0, none⟩))).run Tryz.prog u = .ok (.agg (pkCells h vo vb)) u) := fun u hu => pk_load (HBW.out u hu).1
  have HEN : Hid (rdE h B ≠ 0) := fun e => by
    obtain ⟨c, hc⟩ := rdE_zero e
    unfold rdC at hn
    rw [if_pos e, hc] at hn
    cases hn
  have hV : ofT h B = zTu := by unfold ofT; rw [hn]
  rw [hV] at HOF
  generalize rdE h B = E at *
  obtain ⟨TR, HTR⟩ : ∃ r, Hid (r = lookA q (quoT h B)) := ⟨_, rfl⟩
  rw [← HTR.out] at HLA ⊢
  clear HTR
  obtain ⟨r1v, r2v, r3v⟩ := TR
  dsimp only at HLA ⊢
  generalize pkCells h vo vb = pk at *
  clear hs hok hvo hvb hlo hlb htK hfk hn hV sa s0 ba bb ra r0 r1 hb0 HWA HW0
  have qE : (E != 0) = true := by have := HEN.out; simp [this]
  go_enter Tryz.func9, Tryz.ntmps9
  go_upto_region 1 with fail
  rw [HALLOC.out, ← HG0.out]
  go_wp2_with (first | (refine wpList_ld 35 ⟨g0, 0, none⟩ (.tmp 3) rfl rfl HPL.out rfl ?_) | fail)
  refine HOF.out.mono ?_
  rintro _ w2 ⟨rfl, hb2⟩
  have HB2 := hid hb2
  clear hb2
  have HN2 : Hid ((w2.alloc (.cells #[.int .u32 0, .int .u32 0, .int .u8 0, .int .u16 0, .int .u16 0] 37)).heap[w2.heap.size]? = some (.cells zTu.cells 37 (0, 0))) := heap_alloc_new _ _
  go_upto_region 2 with (first | (refine wpList_st rfl 37 (.tmp 5) (.tmp 13) rfl w2.heap.size zTu.cells rfl rfl _ zTu.cells HN2.out (by kernel_rfl) rfl zTu.one ?_; intro w3 hw3 hbut3) | fail)
  have hb2a : Below w0.heap.size w0 (w2.alloc (.cells #[.int .u32 0, .int .u32 0, .int .u8 0, .int .u16 0, .int .u16 0] 37)) := HB2.out.trans ((Below.refl _ _).alloc HB2.out.size _)
  have HB3 := hid (hbut3.below hb2a hb2a.size HB2.out.size)
  generalize w2.heap.size = gx at hw3 hbut3 ⊢
  clear hb2a hw3 hbut3 HN2
  have HPL3 := hid (HPLA.out w3 HB3.out)
  have HL3 := hid (HLA.out w3 HB3.out)
  go_wp2_with (first | (refine wpList_ld 35 ⟨g0, 0, none⟩ (.tmp 3) rfl rfl HPL3.out rfl ?_) | fail)
  refine HL3.out.mono ?_
  rintro _ w4 ⟨rfl, hb4⟩
  have HB4 := hid (HB3.out.trans (hb4.mono HB3.out.size))
  have HBW4 := hid (HB0.out.trans (HB4.out.mono HB0.out.size))
  have HZ4 := hid (HBW.out w4 HB4.out).2
  clear hb4 HL3
  go_wp2_with (first | (refine wpList_st rfl 47 (.tmp 4) (.tmp 19) rfl (g0 + 1) (trC r1v r2v r3v) rfl rfl _ zTr HZ4.out (by kernel_rfl) rfl (trC_one _ _ _) ?_; intro w6 hw6 hbut6) | fail)
  have hlv := lv_tr hw6
  refine bodyPost_ret (v := .agg (trC r1v r2v r3v)) (by simp [results, Tryz.results9, asAddr, Act.put, hlv]) rfl ?_
  exact ⟨rfl, hbut6.below HBW4.out HBW4.out.size (by have := HGW.out; omega)⟩

end Go.Proofs.YtkkfioebpppffaaGreatDoor.Fl
