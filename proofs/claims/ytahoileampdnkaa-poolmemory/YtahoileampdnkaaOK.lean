/-
  slices.BinarySearchFunc at runs, by where they end.
-/
import Derived.Test.YtahoileampdnkaaOJ
namespace Go.Proofs.Ytahoileampdnkaa
open Go.ChangeShapes Go.WideShapes Go.ChangeAt Go.RowKit Ru N
set_option maxHeartbeats 1000000
set_option maxRecDepth 100000

theorem cmp_lt {x y : Int} : decide (cmpN x y < 0) = decide (x < y) := by
  unfold cmpN
  split
  · simp_all
  · split <;> simp_all

/-- What is known between i and j. -/
structure Bis (rs : List R) (n i j : Nat) : Prop where
  ij : i ≤ j
  jl : j ≤ rs.length
  lo : ∀ t (ht : t < rs.length), t < i → rs[t].2 < n
  hi : ∀ t (ht : t < rs.length), j ≤ t → n ≤ rs[t].2

theorem search_any (B : Nat) (v : Value) (rs : List R) (n : Nat) (w : World) (hr : Runs rs) (hv : OwnR w B v rs) (hl : rs.length ≤ 8589934592) :
    Calls Try.prog 55 #[v, .int .i64 (n : Int), .func (.func 56) #[] #[]] w fun e w' => ∃ (i : Nat) (b : Bool), e = .returned (.tuple #[.int .i64 (i : Int), .bool b]) ∧ At rs n i ∧ Below w.heap.size w w' := by
  obtain ⟨a, len, cap, rfl, HL, hc1, hc2⟩ := hv.shape
  have HV := hid hv
  have hlen : len ≤ 8589934592 := by rw [HL.out]; exact hl
  have HR := hid hr
  have HC := fun r n u => hid (byEnd_any r n u)
  have HB0 : Hid (Bis rs n 0 len) := ⟨Nat.zero_le _, by rw [HL.out]; exact Nat.le_refl _, fun t _ h => absurd h (Nat.not_lt_zero _), fun t ht h => by have := HL.out; omega⟩
  clear hv hr hl
  go_enter Try.func55, Try.ntmps55
  go_upto_region 3 with fail
  go_loopw [9, 10, 11] (fun x y _ wr => ∃ (i j : Nat), x = .int .i64 (i : Int) ∧ y = .int .i64 (j : Int) ∧ Hid (Bis rs n i j) ∧ j ≤ len ∧ Hid (Below w.heap.size w wr)) (fun x y _ _ => (intOf y).toNat - (intOf x).toNat)
  case atStart => exact ⟨0, len, rfl, rfl, HB0, Nat.le_refl _, Below.refl _ _⟩
  case round =>
    obtain ⟨i, j, rfl, rfl, HI, hj, HBW⟩ := hrel
    by_cases hij : i < j
    · obtain ⟨h, HH⟩ : ∃ h, Hid (h = (i + j) / 2) := ⟨_, rfl⟩
      have hh1 : i ≤ h := by rw [HH.out]; omega
      have hh2 : h < j := by rw [HH.out]; omega
      have hlt : h < rs.length := by have := HI.out.jl; omega
      obtain ⟨g, rfl, hg, hcell⟩ := HV.out.at (i := h) (List.getElem?_eq_getElem hlt)
      obtain ⟨c0, c1⟩ := hcell wr (HBW.out.block g hg)
      have HX : Hid (rs[h].2 < n ↔ ((rs[h].2 : Nat) : Int) < (n : Int)) := by unfold Hid; omega
      have HT : Hid (rs[h].2 < n → Bis rs n (h + 1) j) := fun h0 => ⟨by omega, HI.out.jl, fun t ht hti => by
        rcases Nat.lt_or_ge t h with h1 | h1
        · have := HR.out.rise h1 hlt; omega
        · have : t = h := by omega
          subst this; exact h0, HI.out.hi⟩
      have HU : Hid (¬ rs[h].2 < n → Bis rs n i h) := fun h0 => ⟨hh1, by omega, HI.out.lo, fun t ht hti => by
        rcases Nat.lt_or_ge h t with h1 | h1
        · have := HR.out.rise h1 ht; omega
        · have : t = h := by omega
          subst this; omega⟩
      have HCC := HC rs[h] n wr
      have hdv : ((i : Int) + (j : Int)) / 2 = (h : Int) := by rw [HH.out]; omega
      generalize hr0 : rs[h] = r at *
      obtain ⟨p, q⟩ := r
      simp only at c0 c1 HCC HT HU HX
      clear hr0 hcell hg
      go_upto_region 5 with fail
      clear hdv
      go_wp2_with fail
      refine HCC.out.mono ?_
      rintro _ w1 ⟨rfl, hb1⟩
      have HB1 : Hid (Below w.heap.size w w1) := HBW.out.trans (hb1.mono HBW.out.size)
      clear hb1 c0 c1
      have hcl := @cmp_lt (q : Int) (n : Int)
      by_cases hq : (q : Int) < (n : Int)
      · have hcl1 : cmpN (q : Int) (n : Int) < 0 := by have h := hcl; simp only [hq, decide_true, decide_eq_true_eq] at h; exact h
        clear hcl
        go_wp2_with fail
        go_roundw
        case rel => exact ⟨h + 1, j, by go_num, rfl, hid (HT.out (HX.out.2 hq)), hj, HB1⟩
        case measure => simp [intOf]; omega
      · have hcl1 : ¬ cmpN (q : Int) (n : Int) < 0 := by have h := hcl; simp only [hq, decide_false, decide_eq_false_iff_not] at h; exact h
        clear hcl
        go_wp2_with fail
        go_roundw
        case rel => exact ⟨i, h, rfl, rfl, hid (HU.out fun h0 => absurd (HX.out.1 h0) (by omega)), by omega, HB1⟩
        case measure => simp [intOf]; omega
    · have HAT : Hid (At rs n i) := by
        have h := HI.out
        have : i = j := by have := h.ij; omega
        subst this
        exact At.of h.jl h.lo h.hi
      by_cases hil : i < len
      · have hlt : i < rs.length := by have := HL.out; omega
        obtain ⟨g, rfl, hg, hcell⟩ := HV.out.at (i := i) (List.getElem?_eq_getElem hlt)
        obtain ⟨c0, c1⟩ := hcell wr (HBW.out.block g hg)
        have HCC := HC rs[i] n wr
        generalize hr0 : rs[i] = r at *
        obtain ⟨p, q⟩ := r
        simp only at c0 c1 HCC
        clear hr0 hcell hg
        go_wp2_with fail
        refine HCC.out.mono ?_
        rintro _ w1 ⟨rfl, hb1⟩
        have HB1 : Hid (Below w.heap.size w w1) := HBW.out.trans (hb1.mono HBW.out.size)
        clear hb1 c0 c1
        go_wp2_with fail
        refine bodyPost_ret (v := .tuple #[.int .i64 (i : Int), _]) (by simp [results, Try.results55, go_sem]; rfl) rfl ?_
        exact ⟨i, _, rfl, HAT.out, HB1.out⟩
      · go_wp2_with fail
        refine bodyPost_ret (v := .tuple #[.int .i64 (i : Int), _]) (by simp [results, Try.results55, go_sem]; rfl) rfl ?_
        exact ⟨i, _, rfl, HAT.out, HBW.out⟩
end Go.Proofs.Ytahoileampdnkaa
