/-
  The reference: Get, Put of what is there.
-/
import Derived.Test.YtmnafocmbcgdiabWH
namespace Go.Proofs.Ytmnafocmbcgdiab
open Go.ChangeShapes Go.WideShapes Go.ChangeAt Go.RowKit Tri N
set_option maxHeartbeats 1000000
set_option maxRecDepth 100000

theorem idx_en {n cap g m : Nat} (hm : m < n) (u : World) : (Instr.indexAt 73 (.slice (some ⟨g, 0, none⟩) n cap) (.int .i64 (m : Int))).run Try.prog u = .ok (.pointer (some ⟨g, m * 3, none⟩)) u := by
  have hu : Try.prog.underlying 73 = some (.slice 77) := by kernel_rfl
  have hsz : (sizeOf 77).run Try.prog u = .ok 3 u := by kernel_rfl
  simp [Instr.indexAt, run_underlying hu, asIntOf, go_sem, hsz, Result.andThen]
  omega

theorem one_box (w : World) (x n : Value) : ∃ wa, wa = w.alloc (.cells #[x, n] 31) ∧ Below w.heap.size w wa ∧ wa.heap.size = w.heap.size + 1 ∧ wa.heap[w.heap.size]? = some (.cells #[x, n] 31) ∧ wa.cell? ⟨w.heap.size, 0, none⟩ = some x ∧ wa.cell? ⟨w.heap.size, 1, none⟩ = some n := by
  have r : (w.alloc (.cells #[x, n] 31)).heap[w.heap.size]? = some (.cells #[x, n] 31) := heap_alloc_new w _
  refine ⟨_, rfl, (Below.refl _ _).alloc (Nat.le_refl _) _, by simp, r, ?_, ?_⟩
  · rw [cell_of_row _ _ _ _ _ _ r]; rfl
  · rw [cell_of_row _ _ _ _ _ _ r]; rfl

theorem getR_bad {rb x : Nat} {y : Int} (w : World) (hx : x < 4294967296) (h : Bad x y) :
    Calls Try.prog 46 #[.pointer (some ⟨rb, 0, none⟩), qv x y] w fun e w' => e = .returned (.tuple #[.int .i64 0, .int .i64 11]) ∧ Below w.heap.size w w' := by
  obtain ⟨wa, hwa, hb0, hs0, r1, x0, x1⟩ := one_box w (.int .u32 (x : Int)) (.int .i64 y)
  have HV := hid (validR_any (y := y) wa hx)
  rw [valB_bad h] at HV
  have HWA := hid hwa
  have HB0 := hid hb0
  unfold qv at HV ⊢
  clear hwa r1 hb0 hs0
  go_enter Try.func46, Try.ntmps46
  go_upto_region 1 with fail
  rw [← HWA.out]
  go_wp2_with fail
  refine HV.out.mono ?_
  rintro _ w3 ⟨rfl, hb3⟩
  have HB3 : Hid (Below w.heap.size w w3) := HB0.out.trans (hb3.mono HB0.out.size)
  clear hb3 x0 x1
  go_wp2_with fail
  exact bodyPost_ret (v := .tuple #[.int .i64 0, .int .i64 11]) (by simp [results, Try.results46, go_sem]) rfl ⟨rfl, HB3.out⟩

theorem getR_any {rb : Nat} {v : Value} {L : List (K × Int)} (p : K) (w : World) (hR : RefAt w rb v L) (hp : p.Ok) (o : Option Int) (ho : (posL L p L.length = none ∧ o = none) ∨ ∃ i a, posL L p L.length = some i ∧ i < L.length ∧ L[i]? = some (p, a) ∧ o = some a) :
    Calls Try.prog 46 #[.pointer (some ⟨rb, 0, none⟩), pv p] w fun e w' => e = .returned (getV o) ∧ Below w.heap.size w w' := by
  obtain ⟨ao, n, cap, rfl, HN, hn1, hn2⟩ := hR.2.1.shape
  obtain ⟨wa, hwa, hb0, hs0, r1, x0, x1⟩ := one_box w (.int .u32 (p.x : Int)) (.int .i64 (p.n : Int))
  have HV := hid (validR_any (y := (p.n : Int)) wa hp.2.2)
  rw [valB_ok hp] at HV
  have HR := hid hR
  have HWA := hid hwa
  have HB0 := hid hb0
  have HS0 := hid hs0
  have R1 := hid r1
  unfold maxLen at hn2
  unfold qv at HV
  unfold pv
  clear hR hwa r1 hb0 hs0
  go_enter Try.func46, Try.ntmps46
  go_upto_region 1 with fail
  rw [← HWA.out]
  go_wp2_with fail
  refine HV.out.mono ?_
  rintro _ w3 ⟨rfl, hb3⟩
  have b03 : Below w.heap.size w w3 := HB0.out.trans (hb3.mono HB0.out.size)
  have r3 := below_keeps hb3 R1.out (by have := HS0.out; omega)
  have x0 : w3.cell? ⟨w.heap.size, 0, none⟩ = some (.int .u32 (p.x : Int)) := by rw [cell_of_row _ _ _ _ _ _ r3]; rfl
  have x1 : w3.cell? ⟨w.heap.size, 1, none⟩ = some (.int .i64 (p.n : Int)) := by rw [cell_of_row _ _ _ _ _ _ r3]; rfl
  have HF := hid (find_ref p w3 (HR.out.below b03))
  have HB3 := hid b03
  unfold pv at HF
  clear hb3 b03 r3
  rcases ho with ⟨h1, rfl⟩ | ⟨i, a, h1, h2, h3, rfl⟩
  · rw [h1] at HF
    simp only [posI] at HF ⊢
    clear h1
    go_wp2_with fail
    refine HF.out.mono ?_
    rintro _ w4 ⟨rfl, hb4⟩
    have HB4 : Hid (Below w.heap.size w w4) := HB3.out.trans (hb4.mono HB3.out.size)
    clear hb4
    go_wp2_with fail
    exact bodyPost_ret (v := .tuple #[.int .i64 0, .int .i64 3]) (by simp [results, Try.results46, go_sem]) rfl ⟨rfl, HB4.out⟩
  · rw [h1] at HF
    simp only [posI] at HF ⊢
    have hin : i < n := by have := HN.out; omega
    have b1 : (i : Int) < (n : Int) := by omega
    have b2 : ¬ ((i : Int) < 0) := by omega
    have b3 : (0 : Int) ≤ (i : Int) := by omega
    have H3 := hid h3
    clear h1 h2 h3
    go_wp2_with fail
    refine HF.out.mono ?_
    rintro _ w4 ⟨rfl, hb4⟩
    have b04 := HB3.out.trans (hb4.mono HB3.out.size)
    have hr4 := HR.out.below b04
    obtain ⟨g, e, hao, hg, he, _, _, c2⟩ := hr4.2.1.at i hin
    rw [H3.out] at he
    obtain rfl := Option.some.inj he
    subst hao
    have t0 : w4.cell? ⟨rb, 0, none⟩ = some (.slice (some ⟨g, 0, none⟩) n cap) := by rw [cell_of_row _ _ _ _ _ _ hr4.1]; rfl
    simp only at c2
    have HB4 := hid b04
    clear hb4 b04 hr4 hg he
    go_wp2_with fail
    exact bodyPost_ret (v := .tuple #[.int .i64 a, .int .i64 0]) (by simp [results, Try.results46, go_sem]) rfl ⟨rfl, HB4.out⟩
end Go.Proofs.Ytmnafocmbcgdiab
