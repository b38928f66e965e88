/-
  trie.join, all of it.
-/
import Derived.Test.YtmnafocmbcgdiabVG
namespace Go.Proofs.Ytmnafocmbcgdiab
open Go.ChangeShapes Go.WideShapes Go.ChangeAt Go.RowKit Tri N
set_option maxHeartbeats 400000
set_option maxRecDepth 100000

theorem join_none {X : Nat → Prop} (k : K) (c : Nat) (l r : MT) (w : World) (hX : ∀ b, X b → b < w.heap.size) (hl : Lies w X l) (hr : Lies w X r) (hnl : l ≠ .nil) (hnr : r ≠ .nil) (hn : nodes l.tr + nodes r.tr < 1152921504606846976) (hv : vals l.tr + vals r.tr < 1152921504606846976) :
    Calls Try.prog 36 #[pv k, (.pointer none), .agg #[l.ptr, r.ptr]] w fun e w' => ∃ b, e = .returned (.pointer (some ⟨b, 0, none⟩)) ∧ Lies w' X (.node b c k none l r) ∧ Below w.heap.size w w' := by
  obtain ⟨lp, hlp⟩ := ptr_is l
  obtain ⟨rp, hrp⟩ := ptr_is r
  obtain ⟨wa, hwa, hb0, hs0, r1, r2⟩ := two_boxes w (.int .u32 (k.x : Int)) (.int .i64 (k.n : Int)) l.ptr r.ptr
  have HCL : Hid (∀ u, Below wa.heap.size wa u → Calls Try.prog 26 #[l.ptr] u fun e w' => e = .returned (.agg #[.int .i64 (vals l.tr : Int), .int .i64 (nodes l.tr : Int)]) ∧ Below u.heap.size u w') := fun u hu => counted_any l u ((hl.below hb0).below hu)
  have HCR : Hid (∀ u, Below wa.heap.size wa u → Calls Try.prog 26 #[r.ptr] u fun e w' => e = .returned (.agg #[.int .i64 (vals r.tr : Int), .int .i64 (nodes r.tr : Int)]) ∧ Below u.heap.size u w') := fun u hu => counted_any r u ((hr.below hb0).below hu)
  have HFIN : Hid (∀ (W : World) (b : Nat), Below w.heap.size w W → w.heap.size ≤ b → W.heap[b]? = some (.cells (ndCells k (.pointer none) l.ptr r.ptr (vals l.tr + vals r.tr + 0) (nodes l.tr + nodes r.tr + 1)) 64) → Lies W X (.node b c k none l r)) := fun W b hW hb hrow =>
    ⟨fun hx => by have := hX b hx; omega, hrow, (fun a ha => by cases ha), hl.below hW, hr.below hW⟩
  unfold pv
  rw [hlp, hrp] at hwa r2 HFIN
  rw [hlp] at HCL ⊢
  rw [hrp] at HCR ⊢
  obtain ⟨lq, hlq⟩ : ∃ q, lp = some q := by
    cases l with
    | nil => exact absurd rfl hnl
    | node b c k u l r => exact ⟨_, (Value.pointer.inj hlp).symm⟩
  obtain ⟨rq, hrq⟩ : ∃ q, rp = some q := by
    cases r with
    | nil => exact absurd rfl hnr
    | node b c k u l r => exact ⟨_, (Value.pointer.inj hrp).symm⟩
  subst hlq hrq
  generalize vals l.tr = vl at *
  generalize nodes l.tr = nl at *
  generalize vals r.tr = vr at *
  generalize nodes r.tr = nr at *
  have x0 : wa.cell? ⟨w.heap.size, 0, none⟩ = some (.int .u32 (k.x : Int)) := by rw [cell_of_row _ _ _ _ _ _ r1]; rfl
  have x1 : wa.cell? ⟨w.heap.size, 1, none⟩ = some (.int .i64 (k.n : Int)) := by rw [cell_of_row _ _ _ _ _ _ r1]; rfl
  have y0 : wa.cell? ⟨w.heap.size + 1, 0, none⟩ = some (.pointer (some lq)) := by rw [cell_of_row _ _ _ _ _ _ r2]; rfl
  have y1 : wa.cell? ⟨w.heap.size + 1, 1, none⟩ = some (.pointer (some rq)) := by rw [cell_of_row _ _ _ _ _ _ r2]; rfl
  have R1 := hid r1
  have R2 := hid r2
  have HS0 := hid hs0
  have HB0 := hid hb0
  have HWA := hid hwa
  clear hwa r1 r2 hs0 hb0 hlp hrp hl hr hX hnl hnr
  go_enter Try.func36, Try.ntmps36
  go_upto_region 1 with fail
  rw [← HWA.out]
  go_upto_region 3 with fail
  clear y0 y1 x0 x1
  refine wp_region_pairs' 8 dstJ (FJ (w.heap.size + 1) wa.heap.size (.pointer (some lq)) (.pointer (some rq)) vl nl vr nr) PJ (by kernel_rfl) (by kernel_rfl) (FJ.keeps _ _ _ _ _ _ _ _) ?_ ?_
  · simp only [List.take_succ_cons, List.take_zero, N.stepsP]
    refine ⟨?_, ?_, ?_, ?_, ?_, ?_, ?_, ?_, trivial⟩
    · intro a u vs hb hold hdep hpr
      exact wp_val (ex_index _ (.tmp 5) _ _ _ _ rfl (hold 5 (dlJ (by decide))) rfl (idx_two (i := 0) (by decide) u)) ⟨_, rfl, rfl, hb, Below.refl _ _, fun j v' _ _ h => by omega⟩
    · intro a u vs hb hold hdep hpr
      have h0 := hdep ⟨0, .data⟩ (by simp) rfl (by decide)
      refine wp_val (ex_load _ ⟨w.heap.size + 1, 0, none⟩ (.tmp 28) _ rfl (h0.1.trans h0.2) (load_nd ?_)) ⟨_, rfl, rfl, hb, Below.refl _ _, fun j v' _ _ h => by omega⟩
      rw [cell_of_row _ _ _ _ _ _ (below_keeps hb R2.out (by have := HS0.out; omega))]; rfl
    · intro a u vs hb hold hdep hpr
      have h0 := hdep ⟨1, .data⟩ (by simp) rfl (by decide)
      have e0 : a.eval (.tmp 29) = .pointer (some lq) := h0.1.trans h0.2
      refine wp_call 26 _ _ rfl (enters_of Try.func26 (by kernel_rfl) rfl) #[.pointer (some lq)] (by simp only [List.map_toArray, List.map_cons, List.map_nil, e0]) ?_
      refine (HCL.out u hb).mono ?_
      rintro _ u' ⟨rfl, hb'⟩
      exact ⟨_, rfl, _, rfl, rfl, hb.trans (hb'.mono hb.size), hb', fun j v' _ _ h => by omega⟩
    · intro a u vs hb hold hdep hpr
      exact wp_val (ex_index _ (.tmp 5) _ _ _ _ rfl (hold 5 (dlJ (by decide))) rfl (idx_two (i := 1) (by decide) u)) ⟨_, rfl, rfl, hb, Below.refl _ _, fun j v' _ _ h => by omega⟩
    · intro a u vs hb hold hdep hpr
      have h0 := hdep ⟨3, .data⟩ (by simp) rfl (by decide)
      refine wp_val (ex_load _ ⟨w.heap.size + 1, 1, none⟩ (.tmp 31) _ rfl (h0.1.trans h0.2) (load_nd ?_)) ⟨_, rfl, rfl, hb, Below.refl _ _, fun j v' _ _ h => by omega⟩
      rw [cell_of_row _ _ _ _ _ _ (below_keeps hb R2.out (by have := HS0.out; omega))]; rfl
    · intro a u vs hb hold hdep hpr
      have h0 := hdep ⟨4, .data⟩ (by simp) rfl (by decide)
      have e0 : a.eval (.tmp 32) = .pointer (some rq) := h0.1.trans h0.2
      refine wp_call 26 _ _ rfl (enters_of Try.func26 (by kernel_rfl) rfl) #[.pointer (some rq)] (by simp only [List.map_toArray, List.map_cons, List.map_nil, e0]) ?_
      refine (HCR.out u hb).mono ?_
      rintro _ u' ⟨rfl, hb'⟩
      exact ⟨_, rfl, _, rfl, rfl, hb.trans (hb'.mono hb.size), hb', fun j v' _ _ h => by omega⟩
    · intro a u vs hb hold hdep hpr
      refine wp_val (ex_allocJ u rfl) ?_
      have hb' : Below u.heap.size u (u.alloc (.cells #[.int .i64 0, .int .i64 0] 62)) := (Below.refl _ _).alloc (Nat.le_refl _) _
      refine ⟨_, rfl, ⟨_, rfl, hb.size, heap_alloc_new u _⟩, hb.trans (hb'.mono hb.size), hb', fun j v' _ hF h => ?_⟩
      obtain rfl : j = 7 := by omega
      obtain ⟨b', q1, _, q3⟩ := hF
      have := (Array.getElem?_eq_some_iff.1 q3).1
      rw [q1]
      intro e
      have e2 : u.heap.size = b' := by injection e with e; injection e with e; injection e
      omega
    · intro a u vs hb hold hdep hpr
      refine wp_val (ex_allocJ u rfl) ?_
      have hb' : Below u.heap.size u (u.alloc (.cells #[.int .i64 0, .int .i64 0] 62)) := (Below.refl _ _).alloc (Nat.le_refl _) _
      refine ⟨_, rfl, ⟨_, rfl, hb.size, heap_alloc_new u _⟩, hb.trans (hb'.mono hb.size), hb', fun j v' _ hF h => ?_⟩
      obtain rfl : j = 6 := by omega
      obtain ⟨b', q1, _, q3⟩ := hF
      have := (Array.getElem?_eq_some_iff.1 q3).1
      rw [q1]
      intro e
      have e2 : u.heap.size = b' := by injection e with e; injection e with e; injection e
      omega
  intro vs u hb hF hP
  have e2 : vs 2 = .agg #[.int .i64 (vl : Int), .int .i64 (nl : Int)] := hF 2 (by decide)
  have e5 : vs 5 = .agg #[.int .i64 (vr : Int), .int .i64 (nr : Int)] := hF 5 (by decide)
  obtain ⟨b6, e6, g6, k6⟩ := hF 6 (by decide)
  obtain ⟨b7, e7, g7, k7⟩ := hF 7 (by decide)
  have hne : b6 ≠ b7 := by
    intro e
    rcases hP 6 7 (by decide) (by decide) (by decide) with h | h
    · exact h (.inl ⟨rfl, rfl⟩) (by rw [e6, e7, e])
    · exact h (.inr ⟨rfl, rfl⟩) (by rw [e6, e7, e])
  clear hP hF
  have HB := hid hb
  have HNE := hid hne
  simp only [List.drop_succ_cons, List.drop_zero, puts, List.range, List.range.loop, List.foldr, dstJ, List.getD_cons_zero, List.getD_cons_succ, if_true, e2, e5, e6, e7, Act.put, List.setIfInBounds_toArray, List.set_cons_zero, List.set_cons_succ]
  clear e2 e5 e6 e7
  generalize vs 0 = y0
  generalize vs 1 = y1
  generalize vs 3 = y3
  generalize vs 4 = y4
  refine wpList_st rfl 62 _ _ rfl b6 #[.int .i64 (vl : Int), .int .i64 (nl : Int)] rfl rfl _ _ k6 (by kernel_rfl) rfl (by simp [Value.oneCell']) ?_
  intro u1 hu1 hbt
  have k7' : u1.heap[b7]? = some (.cells #[.int .i64 0, .int .i64 0] 62) := (hbt.block b7 (Array.getElem?_eq_some_iff.1 k7).1 (Ne.symm hne)).trans k7
  refine wpList_st rfl 62 _ _ rfl b7 #[.int .i64 (vr : Int), .int .i64 (nr : Int)] rfl rfl _ _ k7' (by kernel_rfl) rfl (by simp [Value.oneCell']) ?_
  intro u2 hu2 hbt2
  have k6' : u2.heap[b6]? = some (.cells #[.int .i64 (vl : Int), .int .i64 (nl : Int)] 62) := (hbt2.block b6 (Array.getElem?_eq_some_iff.1 hu1).1 hne).trans hu1
  have p0 : u2.cell? ⟨b6, 0, none⟩ = some (.int .i64 (vl : Int)) := by rw [cell_of_row _ _ _ _ _ _ k6']; rfl
  have p1 : u2.cell? ⟨b6, 1, none⟩ = some (.int .i64 (nl : Int)) := by rw [cell_of_row _ _ _ _ _ _ k6']; rfl
  have q0 : u2.cell? ⟨b7, 0, none⟩ = some (.int .i64 (vr : Int)) := by rw [cell_of_row _ _ _ _ _ _ hu2]; rfl
  have q1 : u2.cell? ⟨b7, 1, none⟩ = some (.int .i64 (nr : Int)) := by rw [cell_of_row _ _ _ _ _ _ hu2]; rfl
  have hB2 : Below wa.heap.size wa u2 := hbt2.below (hbt.below hb hb.size g6) (Nat.le_trans hb.size hbt.size) g7
  have RX : Hid (u2.heap[w.heap.size]? = some (.cells #[.int .u32 (k.x : Int), .int .i64 (k.n : Int)] 31)) := below_keeps hB2 R1.out (by have := HS0.out; omega)
  have RY : Hid (u2.heap[w.heap.size + 1]? = some (.cells #[.pointer (some lq), .pointer (some rq)] 60)) := below_keeps hB2 R2.out (by have := HS0.out; omega)
  have HW2 : Hid (Below w.heap.size w u2) := HB0.out.trans (hB2.mono (by have := HS0.out; omega))
  have HSZ : Hid (w.heap.size + 2 ≤ u2.heap.size) := by have := hB2.size; have := HS0.out; unfold Hid; omega
  clear hbt hbt2 hu1 hu2 k6 k7 k7' k6' hb hne hB2 g6 g7
  go_upto_region 5 with fail
  obtain ⟨u3, hu3⟩ : ∃ u3, u3 = u2.alloc (.cells #[.int .i64 ((vl : Int) + (vr : Int)), .int .i64 ((nl : Int) + (nr : Int) + 1)] 62) := ⟨_, rfl⟩
  rw [← hu3]
  have hb3 : Below u2.heap.size u2 u3 := by rw [hu3]; exact (Below.refl _ _).alloc (Nat.le_refl _) _
  have hs3 : u3.heap.size = u2.heap.size + 1 := by rw [hu3]; simp
  have k9 : u3.heap[u2.heap.size]? = some (.cells #[.int .i64 ((vl : Int) + (vr : Int)), .int .i64 ((nl : Int) + (nr : Int) + 1)] 62) := by rw [hu3]; exact heap_alloc_new u2 _
  have z0 : u3.cell? ⟨u2.heap.size, 0, none⟩ = some (.int .i64 ((vl : Int) + (vr : Int))) := by rw [cell_of_row _ _ _ _ _ _ k9]; rfl
  have z0f : u3.frozen? ⟨u2.heap.size, 0, none⟩ = false := frozen_of_row _ _ _ _ _ k9
  have K9 := hid k9
  have HB3 := hid hb3
  have HS3 := hid hs3
  clear hu3 hb3 hs3 k9 p0 p1 q0 q1
  go_upto_region 7 with fail
  obtain ⟨u4, hu4⟩ : ∃ u4, u4 = u3 := ⟨_, rfl⟩
  rw [← hu4]
  have K94 : Hid (u4.heap[u2.heap.size]? = some (.cells #[.int .i64 ((vl + vr + 0 : Nat) : Int), .int .i64 ((nl + nr + 1 : Nat) : Int)] 62)) := by unfold Hid; rw [hu4]; exact K9.out
  have HK4 : Hid (∀ (j : Nat) {o : Obj}, j < u2.heap.size → u2.heap[j]? = some o → u4.heap[j]? = some o) := fun j o hj ho => by rw [hu4]; exact below_keeps HB3.out ho hj
  have HW4 : Hid (Below w.heap.size w u4) := by unfold Hid; rw [hu4]; exact HW2.out.trans (HB3.out.mono HW2.out.size)
  clear hu4 z0 z0f
  have hlt := HSZ.out
  have x0 : u4.cell? ⟨w.heap.size, 0, none⟩ = some (.int .u32 (k.x : Int)) := by rw [cell_of_row _ _ _ _ _ _ (HK4.out _ (by omega) RX.out)]; rfl
  have x1 : u4.cell? ⟨w.heap.size, 1, none⟩ = some (.int .i64 (k.n : Int)) := by rw [cell_of_row _ _ _ _ _ _ (HK4.out _ (by omega) RX.out)]; rfl
  have y0' : u4.cell? ⟨w.heap.size + 1, 0, none⟩ = some (.pointer (some lq)) := by rw [cell_of_row _ _ _ _ _ _ (HK4.out _ (by omega) RY.out)]; rfl
  have y1' : u4.cell? ⟨w.heap.size + 1, 1, none⟩ = some (.pointer (some rq)) := by rw [cell_of_row _ _ _ _ _ _ (HK4.out _ (by omega) RY.out)]; rfl
  have z0 : u4.cell? ⟨u2.heap.size, 0, none⟩ = some (.int .i64 ((vl + vr + 0 : Nat) : Int)) := by rw [cell_of_row _ _ _ _ _ _ K94.out]; rfl
  have z1 : u4.cell? ⟨u2.heap.size, 1, none⟩ = some (.int .i64 ((nl + nr + 1 : Nat) : Int)) := by rw [cell_of_row _ _ _ _ _ _ K94.out]; rfl
  generalize vl + vr + 0 = cv at *
  generalize nl + nr + 1 = cn at *
  clear hlt
  go_wp2_with fail
  go_ret
  have hb5 : Below u4.heap.size u4 (u4.alloc (.cells (ndCells k (.pointer none) (.pointer (some lq)) (.pointer (some rq)) cv cn) 64)) := (Below.refl _ _).alloc (Nat.le_refl _) _
  have hb6 := HW4.out.trans (hb5.mono HW4.out.size)
  exact ⟨_, rfl, HFIN.out _ _ hb6 HW4.out.size (heap_alloc_new u4 _), hb6⟩

theorem join_nilL (k : K) (rp : Option Addr) (w : World) :
    Calls Try.prog 36 #[pv k, .pointer none, .agg #[.pointer none, .pointer rp]] w fun e w' => e = .returned (.pointer rp) ∧ Below w.heap.size w w' := by
  obtain ⟨wa, hwa, hb0, hs0, r1, r2⟩ := two_boxes w (.int .u32 (k.x : Int)) (.int .i64 (k.n : Int)) (.pointer none) (.pointer rp)
  have y0 : wa.cell? ⟨w.heap.size + 1, 0, none⟩ = some (.pointer none) := by rw [cell_of_row _ _ _ _ _ _ r2]; rfl
  have y1 : wa.cell? ⟨w.heap.size + 1, 1, none⟩ = some (.pointer rp) := by rw [cell_of_row _ _ _ _ _ _ r2]; rfl
  obtain ⟨wb, hwb⟩ : ∃ wb, wb = wa.alloc (.cells #[.pointer none, .pointer rp] 48) := ⟨_, rfl⟩
  have r3 : wb.heap[wa.heap.size]? = some (.cells #[.pointer none, .pointer rp] 48) := by rw [hwb]; exact heap_alloc_new wa _
  have hb1 : Below wa.heap.size wa wb := by rw [hwb]; exact (Below.refl _ _).alloc (Nat.le_refl _) _
  have HO := hid (or_any none rp wb r3)
  have HB : Hid (Below w.heap.size w wb) := hb0.trans (hb1.mono (by omega))
  have HWA := hid hwa
  have HWB := hid hwb
  clear hwa hwb r1 r2 r3 hb0 hb1 hs0
  unfold pv
  go_enter Try.func36, Try.ntmps36
  go_upto_region 1 with fail
  rw [← HWA.out]
  go_wp2_with fail
  rw [← HWB.out]
  refine HO.out.mono ?_
  rintro _ _ ⟨rfl, rfl⟩
  go_wp2_with fail
  go_ret
  exact ⟨by cases rp <;> rfl, HB.out⟩

theorem join_nilR (k : K) (lq : Addr) (w : World) :
    Calls Try.prog 36 #[pv k, .pointer none, .agg #[.pointer (some lq), .pointer none]] w fun e w' => e = .returned (.pointer (some lq)) ∧ Below w.heap.size w w' := by
  obtain ⟨wa, hwa, hb0, hs0, r1, r2⟩ := two_boxes w (.int .u32 (k.x : Int)) (.int .i64 (k.n : Int)) (.pointer (some lq)) (.pointer none)
  have y0 : wa.cell? ⟨w.heap.size + 1, 0, none⟩ = some (.pointer (some lq)) := by rw [cell_of_row _ _ _ _ _ _ r2]; rfl
  have y1 : wa.cell? ⟨w.heap.size + 1, 1, none⟩ = some (.pointer none) := by rw [cell_of_row _ _ _ _ _ _ r2]; rfl
  obtain ⟨wb, hwb⟩ : ∃ wb, wb = wa.alloc (.cells #[.pointer (some lq), .pointer none] 48) := ⟨_, rfl⟩
  have r3 : wb.heap[wa.heap.size]? = some (.cells #[.pointer (some lq), .pointer none] 48) := by rw [hwb]; exact heap_alloc_new wa _
  have hb1 : Below wa.heap.size wa wb := by rw [hwb]; exact (Below.refl _ _).alloc (Nat.le_refl _) _
  have HO := hid (or_any (some lq) none wb r3)
  have HB : Hid (Below w.heap.size w wb) := hb0.trans (hb1.mono (by omega))
  have HWA := hid hwa
  have HWB := hid hwb
  clear hwa hwb r1 r2 r3 hb0 hb1 hs0
  unfold pv
  go_enter Try.func36, Try.ntmps36
  go_upto_region 1 with fail
  rw [← HWA.out]
  go_wp2_with fail
  rw [← HWB.out]
  refine HO.out.mono ?_
  rintro _ _ ⟨rfl, rfl⟩
  go_wp2_with fail
  go_ret
  exact ⟨rfl, HB.out⟩

theorem join_any {X : Nat → Prop} (k : K) (c : Nat) (v : Option Int) (l r : MT) (w : World) (hX : ∀ b, X b → b < w.heap.size) (hc : BoxAt w X c v) (hl : Lies w X l) (hr : Lies w X r) (hn : nodes l.tr + nodes r.tr < 1152921504606846976) (hv : vals l.tr + vals r.tr < 1152921504606846976) :
    Calls Try.prog 36 #[pv k, vptr c v, .agg #[l.ptr, r.ptr]] w fun e w' => ∃ m : MT, e = .returned m.ptr ∧ m.tr = join k v l.tr r.tr ∧ Lies w' X m ∧ Below w.heap.size w w' := by
  cases v with
  | some a =>
    refine (join_some k c a l r w hX hc hl hr hn hv).mono ?_
    rintro _ w' ⟨b, rfl, h1, h2⟩
    exact ⟨.node b c k (some a) l r, rfl, by cases l <;> cases r <;> rfl, h1, h2⟩
  | none =>
    cases l with
    | nil =>
      obtain ⟨rp, hrp⟩ := ptr_is r
      have h := join_nilL k rp w
      rw [← hrp] at h
      refine h.mono ?_
      rintro _ w' ⟨rfl, h2⟩
      exact ⟨r, rfl, by cases r <;> rfl, hr.below h2, h2⟩
    | node b1 c1 k1 u1 l1 r1 =>
      cases r with
      | nil =>
        refine (join_nilR k ⟨b1, 0, none⟩ w).mono ?_
        rintro _ w' ⟨rfl, h2⟩
        exact ⟨.node b1 c1 k1 u1 l1 r1, rfl, rfl, hl.below h2, h2⟩
      | node b2 c2 k2 u2 l2 r2 =>
        refine (join_none k c (.node b1 c1 k1 u1 l1 r1) (.node b2 c2 k2 u2 l2 r2) w hX hl hr (by simp) (by simp) hn hv).mono ?_
        rintro _ w' ⟨b, rfl, h1, h2⟩
        exact ⟨.node b c k none _ _, rfl, rfl, h1, h2⟩
end Go.Proofs.Ytmnafocmbcgdiab
