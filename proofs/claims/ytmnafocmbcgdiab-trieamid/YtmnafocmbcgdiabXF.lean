/-
  The reference: Within, All.
-/
import Derived.Test.YtmnafocmbcgdiabXE
namespace Go.Proofs.Ytmnafocmbcgdiab
open Go.ChangeShapes Go.WideShapes Go.ChangeAt Go.RowKit Go.Shelf Tri N
set_option maxHeartbeats 4000000
set_option maxRecDepth 100000

def inL (L : List (K × Int)) (p : K) : List (K × Int) := L.filter (inP p)

theorem inL_no {L : List (K × Int)} {j : Nat} {e : K × Int} (he : L[j]? = some e) {p : K} (h : inP p e = false) : inL (L.take (j + 1)) p = inL (L.take j) p := by
  unfold inL
  rw [take_snoc he, List.filter_append]
  simp [h]

theorem inL_yes {L : List (K × Int)} {j : Nat} {e : K × Int} (he : L[j]? = some e) {p : K} (h : inP p e = true) : inL (L.take (j + 1)) p = inL (L.take j) p ++ [e] := by
  unfold inL
  rw [take_snoc he, List.filter_append]
  simp [h]

theorem inL_len (L : List (K × Int)) (p : K) (j : Nat) : (inL (L.take j) p).length ≤ L.length := by
  unfold inL
  refine Nat.le_trans (List.length_filter_le _ _) ?_
  rw [List.length_take]; omega

theorem OwnE.base {w : World} {b c : Nat} {v : Value} {L : List (K × Int)} (h : OwnE w b v L) (hb : c ≤ b) : OwnE w c v L := by
  refine ⟨h.1, ?_⟩
  rcases h.2 with h1 | ⟨g, cap, cur, hv, hb', hrest⟩
  · exact .inl h1
  · exact .inr ⟨g, cap, cur, hv, Nat.le_trans hb hb', hrest⟩

theorem plain_at (g j : Nat) : (⟨g, 0, none⟩ : Addr).add j = ⟨g, j, none⟩ := by
  cases j <;> simp [Addr.add]

theorem withinR_bad {rb x : Nat} {y : Int} (w : World) (hx : x < 4294967296) (h : Bad x y) :
    Calls Try.prog 31 #[.pointer (some ⟨rb, 0, none⟩), qv x y] w fun e w' => e = .returned (.slice none 0 0) ∧ Below w.heap.size w w' := by
  obtain ⟨wa, hwa, hb0, hs0, r1, x0, x1⟩ := one_box w (.int .u32 (x : Int)) (.int .i64 y)
  have HV := hid (validR_any (y := y) wa hx)
  rw [valB_bad h] at HV
  have HWA := hid hwa
  have HB0 := hid hb0
  unfold qv at HV ⊢
  clear hwa hb0 hs0 r1 h
  go_enter Try.func31, Try.ntmps31
  go_upto_region 1 with fail
  rw [← HWA.out]
  go_wp2_with fail
  refine HV.out.mono ?_
  rintro _ w2 ⟨rfl, hb2⟩
  have HB2 : Hid (Below w.heap.size w w2) := HB0.out.trans (hb2.mono HB0.out.size)
  clear x0 x1 hb2
  go_wp2_with fail
  go_ret
  exact ⟨rfl, HB2.out⟩

theorem withinR_ok {rb : Nat} {v : Value} {L : List (K × Int)} (p : K) (w : World) (hR : RefAt w rb v L) (hp : p.Ok) (hlen : L.length ≤ 4000000000000) :
    Calls Try.prog 31 #[.pointer (some ⟨rb, 0, none⟩), pv p] w fun e w' => (∃ v', e = .returned v' ∧ OwnE w' w.heap.size v' (inL L p)) ∧ Below w.heap.size w w' := by
  obtain ⟨i0, hi0, hz0, hz1, hz2⟩ := info_parts infoE
  have HI : Hid (Try.prog.info? 77 = some i0) := hi0
  obtain ⟨ao, n, cap, rfl, HN, hn1, hn2⟩ := hR.2.1.shape
  have hn4 : n ≤ 4000000000000 := by have := HN.out; omega
  obtain ⟨wa, hwa, hb0, hs0, r1, x0, x1⟩ := one_box w (.int .u32 (p.x : Int)) (.int .i64 (p.n : Int))
  have HV := hid (validR_any (y := (p.n : Int)) wa hp.2.2)
  rw [valB_ok hp] at HV
  have HR := hid hR
  have HWA := hid hwa
  have HB0 := hid hb0
  have HS0 := hid hs0
  have R1 := hid r1
  have HP := hid hp
  unfold maxLen at hn2
  unfold pv
  unfold qv at HV
  clear hR hwa r1 hb0 hs0 hi0 hlen hp
  go_enter Try.func31, Try.ntmps31
  go_upto_region 1 with fail
  rw [← HWA.out]
  go_wp2_with fail
  refine HV.out.mono ?_
  rintro _ w4 ⟨rfl, hb3⟩
  have HB4 : Hid (Below w.heap.size w w4) := HB0.out.trans (hb3.mono HB0.out.size)
  have hl3 := (Array.getElem?_eq_some_iff.1 R1.out).1
  have R4 := hid (below_keeps hb3 R1.out hl3)
  have HL4 : Hid (w.heap.size < w4.heap.size) := Nat.lt_of_lt_of_le hl3 hb3.size
  have HR4 := hid (HR.out.below HB4.out)
  clear hb3 hl3 x0 x1
  go_upto_region 5 with fail
  go_loopw [5, 6] (fun t i wr => ∃ (j : Nat), i = .int .i64 (j : Int) ∧ j ≤ n ∧ OwnE wr w4.heap.size t (inL (L.take j) p) ∧ Below w4.heap.size w4 wr) (fun _ i _ => n - (intOf i).toNat)
  case atStart => exact ⟨0, rfl, by omega, World.ownsRow_nil _ _ _ _, Below.refl _ _⟩
  case round =>
    obtain ⟨j, rfl, hj, hown, hb⟩ := hrel
    have hrr := HR4.out.below hb
    have t0 : wr.cell? ⟨rb, 0, none⟩ = some (.slice ao n cap) := by rw [cell_of_row _ _ _ _ _ _ hrr.1]; rfl
    have px := below_keeps hb R4.out HL4.out
    by_cases hjn : j < n
    · have b1 : (j : Int) < (n : Int) := by omega
      have b2 : (0 : Int) ≤ (j : Int) := by omega
      obtain ⟨g, e, hao, hg, he, c0, c1, c2⟩ := hrr.2.1.at j hjn
      subst hao
      obtain ⟨k, v⟩ := e
      simp only at c0 c1 c2
      have HE := hid he
      have hek : k.Ok := hrr.2.2 _ (List.mem_of_getElem? he)
      have hrb : rb < wr.heap.size := (Array.getElem?_eq_some_iff.1 hrr.1).1
      have t1 : ∀ t : Beh wr, t.wd.cell? ⟨rb, 0, none⟩ = some (.slice (some ⟨g, 0, none⟩) n cap) := fun t => (t.ok.cell (p := ⟨rb, 0, none⟩) hrb).trans t0
      have d0 : ∀ t : Beh wr, t.wd.cell? ⟨g, j * 3, none⟩ = some (.int .u32 (k.x : Int)) := fun t => (t.ok.cell (p := ⟨g, _, none⟩) hg).trans c0
      have d1 : ∀ t : Beh wr, t.wd.cell? ⟨g, j * 3 + 1, none⟩ = some (.int .i64 (k.n : Int)) := fun t => (t.ok.cell (p := ⟨g, _, none⟩) hg).trans c1
      have d2 : ∀ t : Beh wr, t.wd.cell? ⟨g, j * 3 + 2, none⟩ = some (.int .i64 v) := fun t => (t.ok.cell (p := ⟨g, _, none⟩) hg).trans c2
      obtain ⟨q0, q1⟩ := Beh.two px
      have HH : ∀ t : Beh wr, Hid (Calls Try.prog 52 #[pv k, pv p] t.wd fun e w'' => e = .returned (.bool (inP p (k, v))) ∧ ∃ t' : Beh wr, w'' = t'.wd) := fun t => Calls.beh (insideR_any _ hek HP.out)
      unfold pv at HH
      have HBR := hid hb
      have HOW := hid hown
      have HN5 : Hid ((inL (L.take j) p).length ≤ n) := by have := inL_len L p j; have := HN.out; unfold Hid; omega
      cases hk : inP p (k, v) with
      | false =>
        rw [hk] at HH
        have HRS : Hid (inL (L.take (j + 1)) p = inL (L.take j) p) := inL_no HE.out hk
        clear hk hrr hb hown px he hg hek hrb c0 c1 c2 d2
        go_upto_region 7 with fail
        refine wp_region_beh (by kernel_rfl) (by kernel_rfl) ?_
        repeat (go_big_quiet_step (first | (go_at_call 52; exact (HH _).out) | fail))
        refine wpQuiet_nil ?_
        rintro _ ⟨t, rfl⟩
        have HB2 : Hid (Below w4.heap.size w4 t.wd) := HBR.out.trans (t.ok.mono HBR.out.size)
        have hO2 := HOW.out.below t.ok
        rw [← HRS.out] at hO2
        have HO2 := hid hO2
        clear hO2
        clear t0 t1 d0 d1 q0 q1 HH
        go_wp2_with fail
        go_roundw
        case rel => exact ⟨j + 1, by go_num, by omega, HO2.out, HB2.out⟩
        case measure => simp [intOf]; omega
      | true =>
        rw [hk] at HH
        have HRS : Hid (inL (L.take (j + 1)) p = inL (L.take j) p ++ [(k, v)]) := inL_yes HE.out hk
        clear hk hrr hb hown px he hg hek hrb c0 c1 c2
        go_upto_region 7 with fail
        refine wp_region_beh (by kernel_rfl) (by kernel_rfl) ?_
        repeat (go_big_quiet_step (first | (go_at_call 52; exact (HH _).out) | fail))
        refine wpQuiet_nil ?_
        rintro _ ⟨t, rfl⟩
        obtain ⟨w5, HW5⟩ : ∃ w5, Hid (w5 = t.wd) := ⟨_, rfl⟩
        have HB5 : Hid (Below w4.heap.size w4 w5) := by rw [HW5.out]; exact HBR.out.trans (t.ok.mono HBR.out.size)
        have HO5 := hid (HOW.out.below t.ok)
        rw [← HW5.out] at HO5
        have c0 := d0 t
        have c1 := d1 t
        have c2 := d2 t
        have t2 := t1 t
        rw [← HW5.out] at c0 c1 c2 t2
        rw [← HW5.out]
        have hl2 := HN5.out
        clear t0 t1 d0 d1 d2 q0 q1 HH
        go_wp2_with (at_builtin; refine wpList_append_own _ rfl _ _ 73 rfl w4.heap.size 77 i0 (.agg #[.int .u32 0, .int .i64 0, .int .i64 0]) 3 24 (by kernel_rfl) HI.out hz0 hz1 hz2 rfl (by decide) _ _ _ rfl (HO5.out.alloc _) ⟨w5.heap.size, 0, none⟩ 1 1 [.int .u32 (k.x : Int), .int .i64 (k.n : Int), .int .i64 v] rfl rfl ?aa1 ?aa2 ?aa3 ?aa4 ?aa5 ?_)
        case aa1 => exact three_at rfl _ _ _ _
        case aa2 => intro u hu; simp at hu; rcases hu with rfl | rfl | rfl <;> rfl
        case aa3 => unfold maxLen; omega
        case aa4 => omega
        case aa5 => have := HB5.out.size; simp; omega
        intro v6 w6 hown6 hgrow _
        rw [ecs_snoc] at hown6
        have HO6 : Hid (OwnE w6 w4.heap.size v6 (inL (L.take (j + 1)) p)) := by rw [HRS.out]; unfold Hid OwnE; rw [List.length_append]; exact hown6
        have HB6 : Hid (Below w4.heap.size w4 w6) := (HB5.out.alloc HB5.out.size _).grown hgrow (by have := HB5.out.size; simp; omega) (fun k hk => (HO5.out.lt k hk).1)
        clear hown6 hgrow
        go_wp2_with fail
        go_roundw
        case rel => exact ⟨j + 1, by go_num, by omega, HO6.out, HB6.out⟩
        case measure => simp [intOf]; omega
    · have hjn' : j = n := by omega
      subst hjn'
      have b1 : ¬ (j : Int) < (j : Int) := by omega
      have HBW : Hid (Below w.heap.size w wr) := HB4.out.trans (hb.mono HB4.out.size)
      rw [HN.out, List.take_length] at hown
      have HFO : Hid (OwnE wr w.heap.size _ (inL L p)) := hown.base HB4.out.size
      obtain ⟨ao2, n2, cap2, rfl, HN2, _, _⟩ := hown.shape
      clear hrr hb hown px
      go_wp2_with fail
      go_ret
      exact ⟨⟨_, rfl, HFO.out⟩, HBW.out⟩

theorem allR_any {rb : Nat} {v : Value} {L : List (K × Int)} (w : World) (hR : RefAt w rb v L) (hlen : L.length ≤ 4000000000000) :
    Calls Try.prog 32 #[.pointer (some ⟨rb, 0, none⟩)] w fun e w' => (∃ v', e = .returned v' ∧ OwnE w' w.heap.size v' L) ∧ Below w.heap.size w w' := by
  obtain ⟨i0, hi0, hz0, hz1, hz2⟩ := info_parts infoE
  have HI : Hid (Try.prog.info? 77 = some i0) := hi0
  have t0 : w.cell? ⟨rb, 0, none⟩ = some v := by rw [cell_of_row _ _ _ _ _ _ hR.1]; rfl
  have hO := hR.2.1
  rcases hO.2 with ⟨hv, hn⟩ | ⟨g, cap, cur, hv, hb', hg, hnc, hcm, hcs, htake⟩
  · subst hv
    have HFO : Hid (OwnE w w.heap.size (.slice none 0 0) L) := by
      have : L = [] := List.eq_nil_of_length_eq_zero hn
      rw [this]; exact World.ownsRow_nil _ _ _ _
    clear hO hR hi0
    go_enter Try.func32, Try.ntmps32
    go_wp2_with fail
    go_ret
    exact ⟨⟨_, rfl, HFO.out⟩, Below.refl _ _⟩
  · subst hv
    have HC : Hid (∀ j u, (ecs L)[j]? = some u → w.cell? ((⟨g, 0, none⟩ : Addr).add j) = some u) := fun j u hu => by
      have hlt : j < L.length * 3 := by rw [← ecs_len]; exact (List.getElem?_eq_some_iff.1 hu).1
      rw [plain_at, hO.cellAt j hlt]
      exact hu
    have H1 : Hid (∀ u ∈ ecs L, u.oneCell' = true) := fun u hu => by
      obtain ⟨e, _, he⟩ := List.mem_flatMap.1 hu
      simp [ec] at he
      rcases he with rfl | rfl | rfl <;> rfl
    have HL : Hid ((ecs L).length = L.length * 3) := ecs_len L
    have HLE := hid hlen
    obtain ⟨n, HN⟩ : ∃ n, Hid (n = L.length) := ⟨_, rfl⟩
    rw [← HN.out] at t0 HL HLE
    have hn4 := HLE.out
    clear hO hR hi0 hb' hg hnc hcm hcs htake hlen
    go_enter Try.func32, Try.ntmps32
    go_wp2_with (at_builtin; refine wpList_append_own _ rfl _ _ 73 rfl w.heap.size 77 i0 (.agg #[.int .u32 0, .int .i64 0, .int .i64 0]) 3 24 (by kernel_rfl) HI.out hz0 hz1 hz2 rfl (by decide) (.slice none 0 0) 0 [] rfl (World.ownsRow_nil _ _ _ _) ⟨g, 0, none⟩ n cap (ecs L) rfl HL.out HC.out H1.out ?aa3 ?aa4 ?aa5 ?_)
    case aa3 => unfold maxLen; omega
    case aa4 => omega
    case aa5 => exact Nat.le_refl _
    intro v6 w6 hown6 hgrow _
    rw [HN.out] at hown6
    have HO6 : Hid (OwnE w6 w.heap.size v6 L) := hown6
    have HB6 : Hid (Below w.heap.size w w6) := ⟨hgrow.os, hgrow.tape, hgrow.output, hgrow.size, fun j hj => hgrow.block j hj (by simp [Value.ownBlock])⟩
    obtain ⟨ao2, n2, cap2, rfl, _, _, _⟩ := HO6.out.shape
    clear hown6 hgrow
    go_wp2_with fail
    go_ret
    exact ⟨⟨_, rfl, HO6.out⟩, HB6.out⟩
end Go.Proofs.Ytmnafocmbcgdiab
