/-
  The reference: Del.
-/
import Derived.Test.YtmnafocmbcgdiabWK
namespace Go.Proofs.Ytmnafocmbcgdiab
open Go.ChangeShapes Go.WideShapes Go.ChangeAt Go.RowKit Tri N
set_option maxHeartbeats 2000000
set_option maxRecDepth 100000

theorem delR_bad {rb x : Nat} {y : Int} (w : World) (hx : x < 4294967296) (h : Bad x y) :
    Calls Try.prog 45 #[.pointer (some ⟨rb, 0, none⟩), qv x y] w fun e w' => e = .returned (.tuple #[.int .i64 0, .int .i64 11]) ∧ Below w.heap.size w w' := by
  obtain ⟨wa, hwa, hb0, hs0, r1, x0, x1⟩ := one_box w (.int .u32 (x : Int)) (.int .i64 y)
  have HV := hid (getR_bad (rb := rb) wa hx h)
  have HWA := hid hwa
  have HB0 := hid hb0
  unfold qv at HV ⊢
  clear hwa r1 hb0 hs0
  go_enter Try.func45, Try.ntmps45
  go_upto_region 1 with fail
  rw [← HWA.out]
  go_wp2_with fail
  refine HV.out.mono ?_
  rintro _ w3 ⟨rfl, hb3⟩
  have HB3 : Hid (Below w.heap.size w w3) := HB0.out.trans (hb3.mono HB0.out.size)
  clear hb3 x0 x1
  go_wp2_with fail
  exact bodyPost_ret (v := .tuple #[.int .i64 0, .int .i64 11]) (by simp [results, Try.results45, go_sem]) rfl ⟨rfl, HB3.out⟩

theorem delR_none {rb : Nat} {v : Value} {L : List (K × Int)} (p : K) (w : World) (hR : RefAt w rb v L) (hp : p.Ok) (h1 : posL L p L.length = none) :
    Calls Try.prog 45 #[.pointer (some ⟨rb, 0, none⟩), pv p] w fun e w' => e = .returned (.tuple #[.int .i64 0, .int .i64 3]) ∧ Below w.heap.size w w' := by
  obtain ⟨wa, hwa, hb0, hs0, r1, x0, x1⟩ := one_box w (.int .u32 (p.x : Int)) (.int .i64 (p.n : Int))
  have HV := hid (getR_any p wa (hR.below hb0) hp none (.inl ⟨h1, rfl⟩))
  have HWA := hid hwa
  have HB0 := hid hb0
  unfold pv at HV ⊢
  unfold getV at HV
  clear hwa r1 hb0 hs0
  go_enter Try.func45, Try.ntmps45
  go_upto_region 1 with fail
  rw [← HWA.out]
  go_wp2_with fail
  refine HV.out.mono ?_
  rintro _ w3 ⟨rfl, hb3⟩
  have HB3 : Hid (Below w.heap.size w w3) := HB0.out.trans (hb3.mono HB0.out.size)
  clear hb3 x0 x1
  go_wp2_with fail
  exact bodyPost_ret (v := .tuple #[.int .i64 0, .int .i64 3]) (by simp [results, Try.results45, go_sem]) rfl ⟨rfl, HB3.out⟩

def butK (L : List (K × Int)) (p : K) : List (K × Int) := L.filter fun e => decide (e.1 ≠ p)

theorem butK_same {L : List (K × Int)} {j : Nat} {e : K × Int} (he : L[j]? = some e) {p : K} (h : e.1 = p) : butK (L.take (j + 1)) p = butK (L.take j) p := by
  unfold butK
  rw [take_snoc he, List.filter_append]
  simp [h]

theorem butK_add {L : List (K × Int)} {j : Nat} {e : K × Int} (he : L[j]? = some e) {p : K} (h : e.1 ≠ p) : butK (L.take (j + 1)) p = butK (L.take j) p ++ [e] := by
  unfold butK
  rw [take_snoc he, List.filter_append]
  simp [h]

theorem butK_len (L : List (K × Int)) (p : K) (j : Nat) : (butK (L.take j) p).length ≤ L.length := by
  unfold butK
  refine Nat.le_trans (List.length_filter_le _ _) ?_
  rw [List.length_take]; omega

theorem butK_ok {L : List (K × Int)} {p : K} (h : ∀ e ∈ L, e.1.Ok) : ∀ e ∈ butK L p, e.1.Ok := fun e he => h e (List.mem_filter.1 he).1

theorem delR_some {rb : Nat} {v : Value} {L : List (K × Int)} (p : K) (w : World) (hR : RefAt w rb v L) (hp : p.Ok) {i : Nat} {a : Int} (h1 : posL L p L.length = some i) (h2 : i < L.length) (h3 : L[i]? = some (p, a)) (hlen : L.length ≤ 4000000000000) :
    Calls Try.prog 45 #[.pointer (some ⟨rb, 0, none⟩), pv p] w fun e w' => e = .returned (.tuple #[.int .i64 a, .int .i64 0]) ∧ (∃ v', RefAt w' rb v' (butK L p) ∧ (∀ b, v'.ownBlock = some b → w.heap.size ≤ b)) ∧ Chg (fun b => b = rb) w w' := by
  obtain ⟨i0, hi0, hz0, hz1, hz2⟩ := info_parts infoE
  have HI : Hid (Try.prog.info? 77 = some i0) := hi0
  obtain ⟨ao, n, cap, rfl, HN, hn1, hn2⟩ := hR.2.1.shape
  have hn4 : n ≤ 4000000000000 := by have := HN.out; omega
  obtain ⟨wa, hwa, hb0, hs0, r1, x0, x1⟩ := one_box w (.int .u32 (p.x : Int)) (.int .i64 (p.n : Int))
  have HV := hid (getR_any p wa (hR.below hb0) hp (some a) (.inr ⟨i, a, h1, h2, h3, rfl⟩))
  have HR := hid hR
  have HWA := hid hwa
  have HB0 := hid hb0
  have HS0 := hid hs0
  have R1 := hid r1
  unfold maxLen at hn2
  unfold pv at HV ⊢
  unfold getV at HV
  clear hR hwa r1 hb0 hs0 h1 h2 h3 hi0 hlen
  go_enter Try.func45, Try.ntmps45
  go_upto_region 1 with fail
  rw [← HWA.out]
  go_wp2_with fail
  refine HV.out.mono ?_
  rintro _ w4 ⟨rfl, hb3⟩
  have HB4 : Hid (Below w.heap.size w w4) := HB0.out.trans (hb3.mono HB0.out.size)
  have hl3 := (Array.getElem?_eq_some_iff.1 R1.out).1
  have R4 := hid (below_keeps hb3 R1.out hl3)
  have HL4 : Hid (w.heap.size < w4.heap.size) := Nat.lt_of_lt_of_le hl3 hb3.size
  have HR4 := hid (HR.out.below HB4.out)
  clear hb3 hl3 x0 x1
  go_upto_region 6 with fail
  go_loopw [8, 9] (fun t i wr => ∃ (j : Nat), i = .int .i64 (j : Int) ∧ j ≤ n ∧ OwnE wr w4.heap.size t (butK (L.take j) p) ∧ Below w4.heap.size w4 wr) (fun _ i _ => n - (intOf i).toNat)
  case atStart => exact ⟨0, rfl, by omega, World.ownsRow_nil _ _ _ _, Below.refl _ _⟩
  case round =>
    obtain ⟨j, rfl, hj, hown, hb⟩ := hrel
    have hrr := HR4.out.below hb
    have t0 : wr.cell? ⟨rb, 0, none⟩ = some (.slice ao n cap) := by rw [cell_of_row _ _ _ _ _ _ hrr.1]; rfl
    have px := below_keeps hb R4.out HL4.out
    have x0 : wr.cell? ⟨w.heap.size, 0, none⟩ = some (.int .u32 (p.x : Int)) := by rw [cell_of_row _ _ _ _ _ _ px]; rfl
    have x1 : wr.cell? ⟨w.heap.size, 1, none⟩ = some (.int .i64 (p.n : Int)) := by rw [cell_of_row _ _ _ _ _ _ px]; rfl
    by_cases hjn : j < n
    · have b1 : (j : Int) < (n : Int) := by omega
      have b2 : (0 : Int) ≤ (j : Int) := by omega
      obtain ⟨g, e, hao, hg, he, c0, c1, c2⟩ := hrr.2.1.at j hjn
      subst hao
      obtain ⟨k, v⟩ := e
      simp only at c0 c1 c2
      have HE := hid he
      obtain ⟨w5, HW5⟩ : ∃ w5, Hid (w5 = wr.drew) := ⟨_, rfl⟩
      have hb5 : Below wr.heap.size wr w5 := by rw [HW5.out]; exact ⟨rfl, rfl, rfl, Nat.le_refl _, fun _ _ => rfl⟩
      have HO5 := hid (hown.below hb5)
      have HB5 : Hid (Below w4.heap.size w4 w5) := hb.trans (hb5.mono hb.size)
      have HN5 : Hid ((butK (L.take j) p).length ≤ n) := by have := butK_len L p j; have := HN.out; unfold Hid; omega
      have T0 : Hid (w5.cell? ⟨rb, 0, none⟩ = some (.slice (some ⟨g, 0, none⟩) n cap)) := by rw [HW5.out]; exact t0
      have C0 : Hid (w5.cell? ⟨g, j * 3, none⟩ = some (.int .u32 (k.x : Int))) := by rw [HW5.out]; exact c0
      have C1 : Hid (w5.cell? ⟨g, j * 3 + 1, none⟩ = some (.int .i64 (k.n : Int))) := by rw [HW5.out]; exact c1
      have C2 : Hid (w5.cell? ⟨g, j * 3 + 2, none⟩ = some (.int .i64 v)) := by rw [HW5.out]; exact c2
      clear hrr hb hown px he hb5 hg c2
      by_cases hk : k = p
      · have hq : ∀ u : World, (Op.equalIn 10000 31 (.agg #[.int .u32 (k.x : Int), .int .i64 (k.n : Int)]) (.agg #[.int .u32 (p.x : Int), .int .i64 (p.n : Int)])).run Try.prog u = .ok true u := fun u => by rw [eqK]; simp [hk]
        have HRS : Hid (butK (L.take (j + 1)) p = butK (L.take j) p) := butK_same HE.out hk
        clear hk
        go_upto_region 8 with fail
        refine wp_region_still_tail 9 (by kernel_rfl) (by kernel_rfl) ?_
        simp only [List.take_succ_cons, List.take_zero, List.drop_succ_cons, List.drop_zero]
        iterate 9 still_step
        refine wpStill_nil ?_
        go_wp2_with fail
        go_roundw
        case rel => exact ⟨j + 1, by go_num, by omega, by rw [HRS.out, ← HW5.out]; exact HO5.out, by rw [← HW5.out]; exact HB5.out⟩
        case measure => simp [intOf]; omega
      · have hq : ∀ u : World, (Op.equalIn 10000 31 (.agg #[.int .u32 (k.x : Int), .int .i64 (k.n : Int)]) (.agg #[.int .u32 (p.x : Int), .int .i64 (p.n : Int)])).run Try.prog u = .ok false u := fun u => by rw [eqK]; simp [hk]
        have HRS : Hid (butK (L.take (j + 1)) p = butK (L.take j) p ++ [(k, v)]) := butK_add HE.out hk
        clear hk
        go_upto_region 8 with fail
        refine wp_region_still_tail 9 (by kernel_rfl) (by kernel_rfl) ?_
        simp only [List.take_succ_cons, List.take_zero, List.drop_succ_cons, List.drop_zero]
        iterate 9 still_step
        refine wpStill_nil ?_
        go_upto_region 9 with fail
        rw [← HW5.out]
        clear t0 c0 c1 x0 x1 hq
        have t0 := T0.out
        have c0 := C0.out
        have c1 := C1.out
        have c2 := C2.out
        have hl2 := HN5.out
        go_wp2_with (at_builtin; refine wpList_append_own _ rfl _ _ 73 rfl w4.heap.size 77 i0 (.agg #[.int .u32 0, .int .i64 0, .int .i64 0]) 3 24 (by kernel_rfl) HI.out hz0 hz1 hz2 rfl (by decide) _ _ _ rfl (HO5.out.alloc _) ⟨w5.heap.size, 0, none⟩ 1 1 [.int .u32 (k.x : Int), .int .i64 (k.n : Int), .int .i64 v] rfl rfl ?aa1 ?aa2 ?aa3 ?aa4 ?aa5 ?_)
        case aa1 => exact three_at rfl _ _ _ _
        case aa2 => intro u hu; simp at hu; rcases hu with rfl | rfl | rfl <;> rfl
        case aa3 => unfold maxLen; omega
        case aa4 => omega
        case aa5 => have := HB5.out.size; simp; omega
        intro v6 w6 hown6 hgrow _
        rw [ecs_snoc] at hown6
        have HO6 : Hid (OwnE w6 w4.heap.size v6 (butK (L.take (j + 1)) p)) := by rw [HRS.out]; unfold Hid OwnE; rw [List.length_append]; exact hown6
        have HB6 : Hid (Below w4.heap.size w4 w6) := (HB5.out.alloc HB5.out.size _).grown hgrow (by have := HB5.out.size; simp; omega) (fun k hk => (HO5.out.lt k hk).1)
        clear hown6 hgrow
        go_wp2_with fail
        go_roundw
        case rel => exact ⟨j + 1, by go_num, by omega, HO6.out, HB6.out⟩
        case measure => simp [intOf]; omega
    · have hjn' : j = n := by omega
      subst hjn'
      have b1 : ¬ (j : Int) < (j : Int) := by omega
      have HBW : Hid (Below w.heap.size w wr) := HB4.out.trans (hb.mono HB4.out.size)
      have f0 : wr.frozen? ⟨rb, 0, none⟩ = false := frozen_of_row _ _ _ _ _ hrr.1
      rw [HN.out, List.take_length] at hown
      have HFIN := hid (ref_store HR.out HBW.out hown HB4.out.size (butK_ok HR.out.2.2))
      obtain ⟨ao2, n2, cap2, rfl, HN2, _, _⟩ := hown.shape
      clear hrr hb hown px
      go_wp2_with fail
      exact bodyPost_ret (v := .tuple #[.int .i64 a, .int .i64 0]) (by simp [results, Try.results45, go_sem]) rfl ⟨rfl, ⟨_, HFIN.out.1, HFIN.out.2.1⟩, HFIN.out.2.2⟩
end Go.Proofs.Ytmnafocmbcgdiab
