/-
  tunnel.BuildUDP.
-/
import Derived.Test.YtcelcnafcfefhaaTC
import Derived.Test.YtcelcnafcfefhaaTE
import Derived.Test.YtcelcnafcfefhaaLW
import Derived.Great.BuildSlice
namespace Go.Proofs.Ytcelcnafcfefhaa.N
open Go.ChangeShapes Go.WideShapes Go.ChangeAt Go.RowKit
set_option maxHeartbeats 8000000
set_option maxRecDepth 100000

theorem But.ofBelow {g : Nat} {w w' : World} (h : Below w.heap.size w w') : But g w w' := ⟨h.os, h.tape, h.output, h.size, fun i hi _ => h.block i hi⟩

theorem But.boxed {g n : Nat} {w w' : World} (h : But g w w') (hn : n < w.heap.size) (hne : n ≠ g) {o : Obj} (ho : w.heap[n]? = some o) : w'.heap[n]? = some o := (h.block n hn hne).trans ho

theorem seesBB_three {w : World} {n : Nat} (hn : w.heap.size = n) (v1 v2 v3 : Value) (L1 L2 L3 : List Nat) (h1 : SeesB w v1 L1) (h2 : SeesB w v2 L2) (h3 : SeesB w v3 L3) (t : TypeId) : SeesBB (w.alloc (.cells #[v1, v2, v3] t)) (.slice (some ⟨n, 0, none⟩) 3 3) [L1, L2, L3] := by
  subst hn
  refine ⟨some ⟨w.heap.size, 0, none⟩, 3, rfl, by simp, by unfold maxLen; omega, fun j hj => ?_⟩
  match j, hj with
  | 0, _ => exact ⟨w.heap.size, 0, v1, rfl, by simp, by simp, h1.below ((Below.refl _ _).alloc (Nat.le_refl _) _)⟩
  | 1, _ => exact ⟨w.heap.size, 0, v2, rfl, by simp, by simp, h2.below ((Below.refl _ _).alloc (Nat.le_refl _) _)⟩
  | 2, _ => exact ⟨w.heap.size, 0, v3, rfl, by simp, by simp, h3.below ((Below.refl _ _).alloc (Nat.le_refl _) _)⟩

section
variable {P : Program} {o : Oper} {a : Act} {w : World}
theorem ex_slice (T : TypeId) (x : Operand) (lo hi mx : Option Operand) (s v : Value) (lo' hi' mx' : Option Value) (ho : o.op = .slice T x lo hi mx) (hx : a.eval x = s) (h1 : lo.map a.eval = lo') (h2 : hi.map a.eval = hi') (h3 : mx.map a.eval = mx') (hr : (Instr.sliceAt T s lo' hi' mx').run P w = .ok v w) : (execOp a.eval o).run P w = .ok (.value v) w := by
  unfold execOp
  simp only [ho, hx, h1, h2, h3, Sem.run_bind, hr, Result.andThen_ok, Sem.run_pure]
end

theorem ex_bs {P : Program} {o : Oper} {a : Act} {w w' : World} (T : TypeId) (n : Nat) (parts : Array (Nat × Operand)) (ps : Array (Nat × Value)) (v : Value) (ho : o.op = .buildSlice T n parts) (hp : (parts.map fun (i, x) => (i, a.eval x)) = ps) (hr : (Instr.buildSlice T n ps).run P w = .ok v w') : (execOp a.eval o).run P w = .ok (.value v) w' := by
  unfold execOp
  simp only [ho, hp, Sem.run_bind, hr, Result.andThen_ok, Sem.run_pure]

theorem wp_stillF {P : Program} {o : Oper} {a : Act} {W w : World} {Q : Exit → Act → World → Prop} {F : Nat → Value → World → Prop} {i : Nat} {t : Tmp} {v : Value} (hr : (execOp a.eval o).run P w = .ok (.value v) w) (ht : o.dst = some t) (hv : F i v w) (hW : Below W.heap.size W w) :
    o.wp P a w (fun a' w' => ∃ v', a' = a.put (some t) v' ∧ F i v' w' ∧ Below W.heap.size W w' ∧ Below w.heap.size w w') Q :=
  wp_val hr (by rw [ht]; exact ⟨v, rfl, hv, hW, Below.refl _ _⟩)

theorem field_dg (b : Nat) (u : World) : (Instr.fieldAt 27 (.pointer (some ⟨b, 0, none⟩)) 2).run Try.prog u = .ok (.pointer (some ⟨b, 2, none⟩)) u := by kernel_rfl
theorem load_sl {u : World} {p : Addr} {ao : Option Addr} {n c : Nat} (h : u.cell? p = some (.slice ao n c)) : (Instr.loadAt 25 (.pointer (some p))).run Try.prog u = .ok (.slice ao n c) u := by
  simp [Instr.loadAt, go_sem, h]

theorem info25 : ∃ ie, Try.prog.info? 25 = some ie ∧ ie.zero = some (.slice none 0 0) ∧ ie.size = 1 := by
  have h : (Try.prog.info? 25).map (fun i => (i.zero, i.size)) = some (some (.slice none 0 0), 1) := by kernel_rfl
  cases hi : Try.prog.info? 25 with
  | none => rw [hi] at h; cases h
  | some ie =>
    rw [hi] at h
    simp only [Option.map_some, Option.some.injEq, Prod.mk.injEq] at h
    exact ⟨ie, rfl, h.1, h.2⟩

theorem build3 (v1 v2 v3 : Value) (h1 : v1.cells = #[v1]) (h2 : v2.cells = #[v2]) (h3 : v3.cells = #[v3]) (u : World) : (Instr.buildSlice 36 3 #[(0, v1), (1, v2), (2, v3)]).run Try.prog u = .ok (.slice (some ⟨u.heap.size, 0, none⟩) 3 3) (u.alloc (.cells #[v1, v2, v3] 25)) := by
  obtain ⟨ie, hi, hz, hs⟩ := info25
  refine run_buildSlice u _ _ 3 _ _ ie _ Try.underlying36 hi hz (by rw [hs]; decide) (by rw [hs]; decide) ?_
  simp only [hs, Nat.mul_one, show Array.range 3 = #[0, 1, 2] from rfl]
  simp [Instr.fill, h1, h2, h3]

theorem cut8 (h : Nat) (u : World) :
    (Instr.sliceAt 69 (.pointer (some ⟨h, 0, none⟩)) (some (.int .i64 6)) (some (.int .i64 8)) none).run Try.prog u = .ok (.slice (some ⟨h, 6, none⟩) 2 2) u ∧
    (Instr.sliceAt 69 (.pointer (some ⟨h, 0, none⟩)) none none none).run Try.prog u = .ok (.slice (some ⟨h, 0, none⟩) 8 8) u ∧
    (Instr.sliceAt 71 (.pointer (some ⟨h, 0, none⟩)) none none none).run Try.prog u = .ok (.slice (some ⟨h, 0, none⟩) 12 12) u := by
  have hu : Try.prog.underlying 69 = some (.array (Try.prog.arrayLen 69) (Try.prog.elem 69)) := by kernel_rfl
  have hl : Try.prog.arrayLen 69 = 8 := by kernel_rfl
  have hsz : (sizeOf (Try.prog.elem 69)).run Try.prog u = .ok 1 u := by kernel_rfl
  have hu' : Try.prog.underlying 71 = some (.array (Try.prog.arrayLen 71) (Try.prog.elem 71)) := by kernel_rfl
  have hl' : Try.prog.arrayLen 71 = 12 := by kernel_rfl
  have hsz' : (sizeOf (Try.prog.elem 71)).run Try.prog u = .ok 1 u := by kernel_rfl
  refine ⟨?_, ?_, ?_⟩
  · rw [run_sliceAt_array_lh (ht := hu) (h0 := by omega) (h1 := by omega) (h2 := by rw [hl]; omega), hsz, hl]
    simp [Result.andThen, slicedAt, Addr.add_mid]
  · rw [run_sliceAt_array_all (ht := hu), hsz, hl]
    simp [Result.andThen, slicedAt, Addr.add_mid]
  · rw [run_sliceAt_array_all (ht := hu'), hsz', hl']
    simp [Result.andThen, slicedAt, Addr.add_mid]

/-- A datagram's head. -/
def hd8 (s d n t : Nat) : List Nat := [s / 256 % 256, s % 256, d / 256 % 256, d % 256, n / 256 % 256, n % 256, t / 256 % 256, t % 256]
theorem hd8_bytes (s d n t : Nat) : ∀ x ∈ hd8 s d n t, x < 256 := fun x hx => by
  simp only [hd8, List.mem_cons, List.not_mem_nil, or_false] at hx
  omega
theorem hd8_udp (x : Tn.Dg) (n t : Nat) (ht : t < 65536) : hd8 x.s x.d n t ++ x.B = Tn.udp x n t := by
  have : t / 256 % 256 = t / 256 := by omega
  simp [hd8, Tn.udp, this]

/-- What a drawn statement's operations give: the slices, the field, the list of lists, the sums. -/
def FU (l : List Value) (Ls : List (List Nat)) (c f : Nat) : Nat → Value → World → Prop
  | 5, v, w => ∃ q, v = .slice (some ⟨q, 0, none⟩) 3 3 ∧ SeesBB w v Ls
  | 6, v, _ => v = .int .u16 (c : Int)
  | 7, v, _ => v = .int .u16 (f : Int)
  | i, v, _ => l[i]? = some v

theorem FU.keeps (l : List Value) (Ls : List (List Nat)) (c f : Nat) : ∀ (i : Nat) (v : Value) (w w' : World), FU l Ls c f i v w → Below w.heap.size w w' → FU l Ls c f i v w' := fun i v w w' h hb => by
  unfold FU at h ⊢
  split at h
  · obtain ⟨q, e, hs⟩ := h; exact ⟨q, e, hs.below hb⟩
  · exact h
  · exact h
  · exact h

theorem csum3 (src dst n s d : Nat) (B : List Nat) (x : Tn.Dg) (hx : x = ⟨s, d, B⟩) (hn : n = 8 + x.B.length) : [Tn.pseudo src dst n, hd8 s d n 0, B].flatten = Tn.cov src dst (Tn.udp x (8 + x.B.length) 0) (8 + x.B.length) := by
  subst hx
  rw [Tn.cov_udp, ← hn]
  simp [Tn.pseudo, Tn.udp, hd8]

theorem buildU_any (x : Tn.Dg) (vb : Value) (src dst : Nat) (sum : Bool) (w : World) (hx : x.Ok) (hvb : SeesB w vb x.B) (hs : src < 4294967296) (hd : dst < 4294967296) :
    Calls Try.prog 10 #[.int .u32 (src : Int), .int .u32 (dst : Int), .agg (dgCells x vb), .bool sum] w fun e w' => ∃ ao n cap, e = .returned (.tuple #[.slice ao n cap, .int .i64 (Tn.buE x)]) ∧ SeesB w' (.slice ao n cap) (Tn.buL src dst x sum) ∧ (Tn.buE x = 0 → ∃ g, ao = some ⟨g, 0, none⟩ ∧ cap = n ∧ Blk w' g (Tn.buL src dst x sum) ∧ w.heap.size ≤ g) ∧ Below w.heap.size w w' := by
  obtain ⟨ab, nb, capb, rfl, HNB, hnb1, hnb2⟩ := hvb.shape
  unfold maxLen at hnb2
  obtain ⟨w1, hw1⟩ : ∃ w1, w1 = w.alloc (.cells (dgCells x (.slice ab nb capb)) 27) := ⟨_, rfl⟩
  have hs1 : w1.heap.size = w.heap.size + 1 := by rw [hw1]; simp
  have hb1 : Below w.heap.size w w1 := by rw [hw1]; exact (Below.refl _ _).alloc (Nat.le_refl _) _
  have hr1 : w1.heap[w.heap.size]? = some (.cells (dgCells x (.slice ab nb capb)) 27 (0, 0)) := by rw [hw1]; exact heap_alloc_new w _
  obtain ⟨c0, c1, c2⟩ := dg_at hr1
  have HW1 := hid hw1
  have HB1 := hid hb1
  have HBY := hid hvb.bytes
  have hxs := hx.s
  have hxd := hx.d
  by_cases hbig : 65527 < nb
  · have hbig' : 65527 < x.B.length := by rw [← HNB.out]; exact hbig
    have he : Tn.buE x = 2 := by unfold Tn.buE; rw [if_pos hbig']
    have hL : Tn.buL src dst x sum = [] := by unfold Tn.buL; rw [if_pos hbig']
    rw [he, hL]
    generalize dgCells x (.slice ab nb capb) = dg at *
    clear hw1 hs1 hb1 hvb he hL hbig' hr1
    go_enter Try.func10, Try.ntmps10
    go_upto_region 1 with fail
    rw [← HW1.out]
    go_wp2_with fail
    refine bodyPost_ret (results_tmp2 Try.results10 _ _ _) rfl ?_
    exact ⟨_, _, _, rfl, sees_nil _, (fun h => absurd h (by decide)), HB1.out⟩
  · have hbig' : x.B.length ≤ 65527 := by rw [← HNB.out]; omega
    have he : Tn.buE x = 0 := by unfold Tn.buE; rw [if_neg (by omega)]
    have hL : Tn.buL src dst x sum = Tn.builtU src dst x sum := by unfold Tn.buL; rw [if_neg (by omega)]
    rw [he, hL]
    obtain ⟨n, hn⟩ : ∃ n, n = 8 + nb := ⟨_, rfl⟩
    have hn2 : (8 : Int) + (nb : Int) = (n : Int) := by omega
    have hnx : n = 8 + x.B.length := by rw [hn, HNB.out]
    have hn16 : n ≤ 65535 := by omega
    have HNX := hid hnx
    obtain ⟨S, hS⟩ : ∃ S, S = if sum then Tn.usum src dst x else 0 := ⟨_, rfl⟩
    have hSlt : S < 65536 := by
      rw [hS]
      split
      · exact (Tn.usum_lt src dst x).1
      · omega
    have HBU : Hid (Tn.builtU src dst x sum = hd8 x.s x.d n S ++ x.B) := by
      unfold Hid Tn.builtU
      rw [← hS, hd8_udp x n S hSlt, hnx]
    obtain ⟨w2, hw2⟩ : ∃ w2, w2 = w1.alloc (.cells Z8 69) := ⟨_, rfl⟩
    obtain ⟨h, hh⟩ : ∃ h, h = w.heap.size + 1 := ⟨_, rfl⟩
    have hs2 : w2.heap.size = w.heap.size + 2 := by rw [hw2]; simp [hs1]
    have hb2 : Below w.heap.size w w2 := by rw [hw2]; exact hb1.alloc (by omega) _
    have hr2 : w2.heap[w.heap.size]? = some (.cells (dgCells x (.slice ab nb capb)) 27 (0, 0)) := by rw [hw2, heap_alloc_old _ _ (by omega)]; exact hr1
    have hB2 : BlkT 69 w2 h [0, 0, 0, 0, 0, 0, 0, 0] := by
      rw [hw2, hh, ← hs1]; exact heap_alloc_new w1 _
    have HK : Hid (∀ u, But h w2 u → u.cell? ⟨w.heap.size, 0, none⟩ = some (.int .u16 (x.s : Int)) ∧ u.cell? ⟨w.heap.size, 1, none⟩ = some (.int .u16 (x.d : Int)) ∧ u.cell? ⟨w.heap.size, 2, none⟩ = some (.slice ab nb capb)) := fun u hu =>
      dg_at (t := 27) (hu.boxed (by omega) (by omega) hr2)
    have HBW : Hid (∀ u, But h w2 u → Below w.heap.size w u) := fun u hu => hu.below hb2 (by omega) (by omega)
    have HSZ : Hid (∀ u, But h w2 u → h < u.heap.size ∧ w.heap.size < u.heap.size) := fun u hu => by have := hu.size; omega
    have HW2 : Hid (w2 = w1.alloc (.cells Z8 69)) := hw2
    unfold Z8 at HW2
    have HG : Hid (w1.heap.size = h) := by unfold Hid; omega
    have HC1 := hid (twrite16_any 69 h 0 8 x.s _ w2.drew (show BlkT 69 w2.drew h _ from hB2) (by simp) hxs)
    have HC2 : Hid (∀ (u : World) (A : List Nat), A.length = 8 → BlkT 69 u h A → Calls Try.prog 22 #[.slice (some ⟨h, 2, none⟩) 2 6, .int .u16 (x.d : Int)] u fun e w' => e = .returned (.tuple #[]) ∧ BlkT 69 w' h ((A.set 2 (x.d / 256 % 256)).set (2 + 1) (x.d % 256)) ∧ But h u w') := fun u A hA hB => twrite16_any 69 h 2 6 x.d A u hB (by omega) hxd
    have HC3 : Hid (∀ (u : World) (A : List Nat), A.length = 8 → BlkT 69 u h A → Calls Try.prog 22 #[.slice (some ⟨h, 4, none⟩) 2 4, .int .u16 (n : Int)] u fun e w' => e = .returned (.tuple #[]) ∧ BlkT 69 w' h ((A.set 4 (n / 256 % 256)).set (4 + 1) (n % 256)) ∧ But h u w') := fun u A hA hB => twrite16_any 69 h 4 4 n A u hB (by omega) (by omega)
    have HC4 : Hid (∀ (u : World) (A : List Nat) (t : Nat), A.length = 8 → t < 65536 → BlkT 69 u h A → Calls Try.prog 22 #[.slice (some ⟨h, 6, none⟩) 2 2, .int .u16 (t : Int)] u fun e w' => e = .returned (.tuple #[]) ∧ BlkT 69 w' h ((A.set 6 (t / 256 % 256)).set (6 + 1) (t % 256)) ∧ But h u w') := fun u A t hA ht hB => twrite16_any 69 h 6 2 t A u hB (by omega) ht
    have HVB := hid hvb
    have HSS := hid hS
    have HPS := hid (fun u => pseudoOf_any src dst n u hs hd (by omega))
    have HNBL : Hid (nb ≤ 65527) := by unfold Hid; omega
    generalize dgCells x (.slice ab nb capb) = dg at *
    clear hw1 hs1 hb1 hvb he hL hbig' hnx hn hw2 hr1 hr2 hb2 hh hs2 hB2 hS
    go_enter Try.func10, Try.ntmps10
    go_upto_region 1 with fail
    rw [← HW1.out]
    go_upto_region 5 with fail
    rw [← HW2.out, HG.out]
    obtain ⟨d0, d1, d2⟩ := HK.out _ (But.refl _ _)
    clear c0 c1 c2
    go_cut [] from 13 (fun wx => Hid (BlkT 69 wx h (hd8 x.s 0 0 0)) ∧ But h w2 wx)
    case first =>
      go_region_with (first | (go_at_call 22; refine HC1.out.mono ?_; rintro _ w4 ⟨rfl, hB4, hu4⟩) | fail)
      all_goals (
        go_wp2_with fail
        go_meet
        case rel => exact ⟨hB4, (But.drew (But.refl _ _)).trans hu4⟩)
    case rest =>
    obtain ⟨HB3, hu3⟩ := hcut
    obtain ⟨w3, hw3⟩ : ∃ w3, w3 = wc := ⟨_, rfl⟩
    rw [← hw3] at HB3 hu3 ⊢
    clear hw3 HC1 d0 d1 d2
    obtain ⟨d0, d1, d2⟩ := HK.out _ hu3
    have X2 := hid (HC2.out w3.drew _ rfl (show BlkT 69 w3.drew h _ from HB3.out))
    clear HC2 HB3
    go_upto_region 6 with fail
    go_cut [] from 13 (fun wx => Hid (BlkT 69 wx h (hd8 x.s x.d 0 0)) ∧ But h w2 wx)
    case first =>
      go_region_with (first | (go_at_call 22; refine X2.out.mono ?_; rintro _ w4 ⟨rfl, hB4, hu4⟩) | fail)
      all_goals (
        go_wp2_with fail
        go_meet
        case rel => exact ⟨hB4, hu3.trans ((But.drew (But.refl _ _)).trans hu4)⟩)
    case rest =>
    obtain ⟨HB4, hu4⟩ := hcut
    obtain ⟨w4, hw4⟩ : ∃ w4, w4 = wc := ⟨_, rfl⟩
    rw [← hw4] at HB4 hu4 ⊢
    clear hw4 X2 d0 d1 d2 hu3
    have X3 := hid (HC3.out w4 _ rfl HB4.out)
    clear HC3 HB4
    go_upto_region 7 with fail
    go_wp2_with fail
    refine X3.out.mono ?_
    rintro _ w5 ⟨rfl, hB5, hu5⟩
    have hB5' : BlkT 69 w5 h (hd8 x.s x.d n 0) := hB5
    have HB5 := hid hB5'
    have hu5' := hu4.trans hu5
    clear X3 hB5 hu5 hu4 hB5'
    go_upto_if 33 with fail
    go_cut [12] from 13 (fun _ wx => Hid (BlkT 69 wx h (hd8 x.s x.d n S)) ∧ But h w2 wx)
    case first =>
      cases sum with
      | false =>
        have hS0 : S = 0 := by rw [HSS.out, if_neg (by decide)]
        have HS0 := hid hS0
        clear hS0
        go_wp2_with fail
        go_meet
        case rel => exact ⟨by rw [HS0.out]; exact HB5.out, hu5'⟩
      | true =>
        have hS0 : S = Tn.usum src dst x := by rw [HSS.out, if_pos rfl]
        have HSX := hid hS0
        clear hS0
        have X4 := hid (HPS.out w5)
        go_wp2_with fail
        refine X4.out.mono ?_
        rintro _ w6 ⟨rfl, hb6⟩
        obtain ⟨pa, hpa⟩ : ∃ pa, pa = (bs (Tn.pseudo src dst n)).toArray := ⟨_, rfl⟩
        obtain ⟨p, hp⟩ : ∃ p, p = w6.heap.size := ⟨_, rfl⟩
        obtain ⟨w7, hw7⟩ : ∃ w7, w7 = (w6.alloc (.cells Z12 71)).setCells p 0 pa.toList := ⟨_, rfl⟩
        have hps : pa.size = 12 := by rw [hpa, bs_size]; rfl
        have HI : Hid ((Try.prog.info? 71).map (·.size) = some pa.size) := by unfold Hid; rw [hps]; kernel_rfl
        have hrp : (w6.alloc (.cells Z12 71)).heap[p]? = some (.cells Z12 71 (0, 0)) := by rw [hp]; exact heap_alloc_new w6 _
        have HTH : Hid ((w6.alloc (.cells Z12 71)).there p 0 pa.size) := there_blk hrp (by rw [hps]; rfl)
        have HONE : Hid (pa.all (·.oneCell') = true) := by unfold Hid; rw [hpa]; exact bs_one _
        have hB7 : BlkT 71 w7 p (Tn.pseudo src dst n) := by
          unfold BlkT
          rw [hw7, ← hpa]
          exact row_put hrp (by rw [hps]; rfl)
        have hb7 : Below w6.heap.size w6 w7 := by
          rw [hw7]
          exact below_setCells' (by omega) _ _ _ ((Below.refl _ _).alloc (Nat.le_refl _) _)
        have hb57 : Below w5.heap.size w5 w7 := hb6.trans (hb7.mono hb6.size)
        have hu7 : But h w2 w7 := hu5'.trans (But.ofBelow hb57)
        have hh5 := (HSZ.out _ hu5').1
        have hB8 : BlkT 69 w7 h (hd8 x.s x.d n 0) := HB5.out.below hb57 hh5
        have HPA := hid hpa
        have HW7 := hid hw7
        have HP := hid hp
        unfold Z12 at HW7 HTH
        rw [← hpa]
        clear hpa hp hw7 hps hrp hb6 X4 hb7 hb57 HB5
        go_wp2_with (first
          | (rw [← HP.out]; refine wpList_store_mid rfl 71 (.tmp 12) (.tmp 37) rfl p 0 pa rfl rfl HTH.out HI.out HONE.out ?_; rw [← HW7.out])
          | fail)
        obtain ⟨d0, d1, d2⟩ := HK.out _ hu7
        have HSV := hid (HVB.out.below (HBW.out _ hu7))
        have HS12 := hid (hB7.sees (fun y hy => by simp only [Tn.pseudo, Tn.be4, Tn.be2, List.mem_append, List.mem_cons, List.not_mem_nil, or_false] at hy; omega) 0 12 12 (Nat.le_refl 12) (Nat.le_refl _) (by unfold maxLen; omega))
        have HS8 := hid (hB8.sees (hd8_bytes _ _ _ _) 0 8 8 (Nat.le_refl 8) (Nat.le_refl _) (by unfold maxLen; omega))
        have HCS : Hid (M.csum [Tn.pseudo src dst n, hd8 x.s x.d n 0, x.B].flatten = M.csum (Tn.cov src dst (Tn.udp x (8 + x.B.length) 0) (8 + x.B.length))) := by
          unfold Hid; rw [csum3 src dst n x.s x.d x.B x rfl HNX.out]
        have HUS : Hid (S = if M.csum [Tn.pseudo src dst n, hd8 x.s x.d n 0, x.B].flatten = 0 then 65535 else M.csum [Tn.pseudo src dst n, hd8 x.s x.d n 0, x.B].flatten) := by
          unfold Hid; rw [HSX.out, HCS.out]; rfl
        have hcl := M.csum_lt [Tn.pseudo src dst n, hd8 x.s x.d n 0, x.B].flatten
        have HLF : Hid ([Tn.pseudo src dst n, hd8 x.s x.d n 0, x.B].flatten.length ≤ 1099511627776) := by
          unfold Hid
          have h1 : (Tn.pseudo src dst n).length = 12 := rfl
          have h2 : (hd8 x.s x.d n 0).length = 8 := rfl
          have h3 := HNB.out
          have h4 := HNBL.out
          simp only [List.flatten_cons, List.flatten_nil, List.length_append, List.length_nil, h1, h2]
          omega
        obtain ⟨cs, hcs⟩ : ∃ cs, cs = M.csum [Tn.pseudo src dst n, hd8 x.s x.d n 0, x.B].flatten := ⟨_, rfl⟩
        have HSM : Hid (∀ (v : Value) (u : World), SeesBB u v [Tn.pseudo src dst n, hd8 x.s x.d n 0, x.B] → Calls Try.prog 25 #[v] u fun e w' => e = .returned (.int .u16 (cs : Int)) ∧ Below u.heap.size u w') := fun v u hv => by
          rw [hcs]; exact sum_code v _ u hv HLF.out
        rw [← hcs] at HUS hcl
        have HFO : Hid (∀ u, Calls Try.prog 24 #[.int .u16 (cs : Int)] u fun e w' => e = .returned (.int .u16 (S : Int)) ∧ w' = u) := fun u => by
          rw [HUS.out]; exact fieldOf_any cs u hcl
        have HB8 := hid hB8
        have HBT := hid (fun (u : World) (hb : Below w7.heap.size w7 u) => hu7.trans (But.ofBelow (g := h) hb))
        have hh7 := hB8.lt
        have X5 := hid (fun (u : World) (hb : Below w7.heap.size w7 u) => HC4.out u (hd8 x.s x.d n 0) S rfl hSlt (hB8.below hb hh7))
        clear hcs hB7 hB8 HB8 HUS HLF HCS
        refine wp_region_mono' 8 (fun i => 38 + i) (FU [.slice (some ⟨h, 6, none⟩) 2 2, .slice (some ⟨p, 0, none⟩) 12 12, .slice (some ⟨h, 0, none⟩) 8 8, .pointer (some ⟨w.heap.size, 2, none⟩), .slice ab nb capb] [Tn.pseudo src dst n, hd8 x.s x.d n 0, x.B] cs S) (by kernel_rfl) (by kernel_rfl) (FU.keeps _ _ _ _) ?_ ?_
        · simp only [List.take_succ_cons, List.take_zero, stepsOk]
          refine ⟨?_, ?_, ?_, ?_, ?_, ?_, ?_, ?_, trivial⟩
          · intro a u vs hb hold hdep
            exact wp_stillF (ex_slice _ (.tmp 11) _ _ _ _ _ _ _ _ rfl (hold 11 (fun j _ => low (by decide))) rfl rfl rfl (cut8 h u).1) rfl rfl hb
          · intro a u vs hb hold hdep
            exact wp_stillF (ex_slice _ (.tmp 12) _ _ _ _ _ _ _ _ rfl (hold 12 (fun j _ => low (by decide))) rfl rfl rfl (cut8 p u).2.2) rfl rfl hb
          · intro a u vs hb hold hdep
            exact wp_stillF (ex_slice _ (.tmp 11) _ _ _ _ _ _ _ _ rfl (hold 11 (fun j _ => low (by decide))) rfl rfl rfl (cut8 h u).2.1) rfl rfl hb
          · intro a u vs hb hold hdep
            exact wp_stillF (ex_field _ ⟨w.heap.size, 0, none⟩ (.tmp 6) 2 _ rfl (hold 6 (fun j _ => low (by decide))) (field_dg _ u)) rfl rfl hb
          · intro a u vs hb hold hdep
            have e3 : a.eval (.tmp 41) = .pointer (some ⟨w.heap.size, 2, none⟩) := by have h0 := hdep ⟨3, .data⟩ (by simp) rfl (by decide); exact h0.1.trans (Option.some.inj h0.2).symm
            exact wp_stillF (ex_load _ ⟨w.heap.size, 2, none⟩ (.tmp 41) _ rfl e3 (load_sl ((hb.cell (p := ⟨w.heap.size, 2, none⟩) (HSZ.out _ hu7).2).trans d2))) rfl rfl hb
          · intro a u vs hb hold hdep
            have e1 : a.eval (.tmp 39) = .slice (some ⟨p, 0, none⟩) 12 12 := by have h0 := hdep ⟨1, .data⟩ (by simp) rfl (by decide); exact h0.1.trans (Option.some.inj h0.2).symm
            have e2 : a.eval (.tmp 40) = .slice (some ⟨h, 0, none⟩) 8 8 := by have h0 := hdep ⟨2, .data⟩ (by simp) rfl (by decide); exact h0.1.trans (Option.some.inj h0.2).symm
            have e4 : a.eval (.tmp 42) = .slice ab nb capb := by have h0 := hdep ⟨4, .data⟩ (by simp) rfl (by decide); exact h0.1.trans (Option.some.inj h0.2).symm
            have hbA : Below u.heap.size u (u.alloc (.cells #[.slice (some ⟨p, 0, none⟩) 12 12, .slice (some ⟨h, 0, none⟩) 8 8, .slice ab nb capb] 25)) := (Below.refl _ _).alloc (Nat.le_refl _) _
            refine wp_val (ex_bs _ _ _ #[(0, .slice (some ⟨p, 0, none⟩) 12 12), (1, .slice (some ⟨h, 0, none⟩) 8 8), (2, .slice ab nb capb)] _ rfl (by simp only [List.map_toArray, List.map_cons, List.map_nil, e1, e2, e4]) (build3 _ _ _ rfl rfl rfl u)) ⟨_, rfl, ⟨u.heap.size, rfl, ?_⟩, hb.trans (hbA.mono hb.size), hbA⟩
            exact seesBB_three rfl _ _ _ _ _ _ (HS12.out.below hb) (HS8.out.below hb) (HSV.out.below hb) _
          · intro a u vs hb hold hdep
            obtain ⟨h1, q, h2, h3⟩ := hdep ⟨5, .data⟩ (by simp) rfl (by decide)
            have e5 : a.eval (.tmp 43) = .slice (some ⟨q, 0, none⟩) 3 3 := h1.trans h2
            rw [h2] at h3
            refine wp_call 25 _ _ rfl (enters_of Try.func25 (by kernel_rfl) rfl) #[.slice (some ⟨q, 0, none⟩) 3 3] (by simp only [List.map_toArray, List.map_cons, List.map_nil, e5]) ?_
            refine (HSM.out _ u h3).mono ?_
            rintro _ u' ⟨rfl, hb'⟩
            exact ⟨_, rfl, _, rfl, rfl, hb.trans (hb'.mono hb.size), hb'⟩
          · intro a u vs hb hold hdep
            have e6 : a.eval (.tmp 44) = .int .u16 (cs : Int) := by have h0 := hdep ⟨6, .data⟩ (by simp) rfl (by decide); exact h0.1.trans h0.2
            refine wp_call 24 _ _ rfl (enters_of Try.func24 (by kernel_rfl) rfl) #[.int .u16 (cs : Int)] (by simp only [List.map_toArray, List.map_cons, List.map_nil, e6]) ?_
            refine (HFO.out u).mono ?_
            rintro _ u' ⟨rfl, rfl⟩
            exact ⟨_, rfl, _, rfl, rfl, hb, Below.refl _ _⟩
        intro vs u hb hF
        have e0 : vs 0 = .slice (some ⟨h, 6, none⟩) 2 2 := (Option.some.inj (hF 0 (by decide))).symm
        have e7 : vs 7 = .int .u16 (S : Int) := hF 7 (by decide)
        have X6 := hid (X5.out u hb)
        have HU6 := hid (HBT.out u hb)
        generalize vs 1 = y1
        generalize vs 2 = y2
        generalize vs 3 = y3
        generalize vs 4 = y4
        generalize vs 5 = y5
        generalize vs 6 = y6
        simp only [List.drop_succ_cons, List.drop_zero, puts, List.range, List.range.loop, List.foldr, if_true, Act.put, e0, e7, Nat.reduceAdd, List.setIfInBounds_toArray, List.set_cons_succ, List.set_cons_zero]
        clear e0 e7 hF X5 HBT HFO HSM HS12 HS8 HSV d0 d1 d2
        go_wp2_with fail
        refine X6.out.mono ?_
        rintro _ w8 ⟨rfl, hB9, hu9⟩
        go_wp2_with fail
        go_meet
        case rel => exact ⟨hB9, HU6.out.trans hu9⟩
    case rest =>
    obtain ⟨HB6, hu6⟩ := hcut
    obtain ⟨w6, hw6⟩ : ∃ w6, w6 = wc := ⟨_, rfl⟩
    rw [← hw6] at HB6 hu6 ⊢
    clear hw6 HB5 hu5' HPS HC4 HSS
    obtain ⟨_, _, d2⟩ := HK.out _ hu6
    have HS8 : SeesB w6 (.slice (some ⟨h, 0, none⟩) 8 8) (hd8 x.s x.d n S) := HB6.out.sees (hd8_bytes _ _ _ _) 0 8 8 (Nat.le_refl 8) (Nat.le_refl _) (by unfold maxLen; omega)
    have hlen : (hd8 x.s x.d n S ++ x.B).length = n := by rw [List.length_append]; show 8 + x.B.length = n; rw [HNX.out]
    have HJ : Hid (Calls Try.prog 26 #[.slice (some ⟨h, 0, none⟩) 8 8, .slice ab nb capb] w6.drew fun e w' => ∃ g, e = .returned (.slice (some ⟨g, 0, none⟩) n n) ∧ Blk w' g (hd8 x.s x.d n S ++ x.B) ∧ w6.heap.size ≤ g ∧ Below w6.heap.size w6 w') := by
      refine (join_any _ _ _ _ w6.drew (sees_drew HS8) (sees_drew (HVB.out.below (HBW.out _ hu6))) (by
        show 8 + x.B.length ≤ _
        have h3 := HNB.out
        have h4 := HNBL.out
        omega)).mono ?_
      rintro e u ⟨g, k, rfl, hk, hB, hg, hb⟩
      exact ⟨g, by rw [hk, hlen], hB, hg, (below_drew (Below.refl _ _)).trans hb⟩
    have HLEN := hid hlen
    have HBZ := hid (HBW.out _ hu6)
    have HBB : Hid (∀ y ∈ hd8 x.s x.d n S ++ x.B, y < 256) := fun y hy => (List.mem_append.1 hy).elim (hd8_bytes _ _ _ _ y) (HBY.out y)
    clear HS8 HB6 hlen
    go_upto_region 11 with fail
    go_region_with (first | (go_at_call 26; refine HJ.out.mono ?_; rintro _ w7 ⟨g, rfl, hB7, hg7, hb7⟩) | fail)
    all_goals (
      go_wp2_with fail
      refine bodyPost_ret (results_tmp2 Try.results10 _ _ _) rfl ?_
      have hb9 := HBZ.out.trans (hb7.mono HBZ.out.size)
      rw [HBU.out]
      exact ⟨_, _, _, rfl, sees_blk hB7 HLEN.out (by omega) HBB.out, fun _ => ⟨g, rfl, rfl, hB7, Nat.le_trans HBZ.out.size hg7⟩, hb9⟩)
end Go.Proofs.Ytcelcnafcfefhaa.N
