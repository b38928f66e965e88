/-
  UnderFrame.
-/
import Derived.Test.YtaelfhjhinfikabDXL
import Derived.Test.YtaelfhjhinfikabDXP
import Derived.Test.YtaelfhjhinfikabDXC
import Derived.Test.YtaelfhjhinfikabDXS
import Derived.Test.YtaelfhjhinfikabDXT
namespace Go.Proofs.Ytaelfhjhinfikab
open Go.ChangeShapes Go.WideShapes Go.ChangeAt Go.RowKit Me
set_option maxHeartbeats 8000000
set_option maxRecDepth 100000

theorem framed_any (w0 w : World) (K : Nat → Prop) (pb m x : Nat) (S L : List Pk) (vs : Value) (kk i a : Int) (h : Pn w0 K w pb m S) (hv : SeesS K w vs L) (hx : x < 256) :
    Calls Try.prog 21 #[.pointer (some ⟨pb, 0, none⟩), .agg #[.int .i64 kk, vs, .int .i64 i, .int .i64 a, .int .u8 (x : Int)], .int .i64 (m : Int)] w fun e w' => e = .returned (.bool true) ∧ ∃ S', Pn w0 K w' pb m S' := by
  by_cases k1 : kk = 1
  · exact framed_put w0 w K pb m x S L vs kk i a h hv k1
  by_cases k2 : kk = 2
  · exact framed_take w0 w K pb m x S L vs kk i a h hv k2
  by_cases k3 : kk = 3
  · exact framed_copy w0 w K pb m x S L vs kk i a h hv k3
  by_cases k4 : kk = 4
  · exact framed_lose w0 w K pb m x S L vs kk i a h hv k4
  by_cases k5 : kk = 5
  · exact framed_spoil w0 w K pb m x S L vs kk i a h hv hx k5
  exact framed_else w0 w K pb m x S L vs kk i a h hv ⟨k1, k2, k3, k4, k5⟩

theorem frame_walk (l : Int) (v : Value) (T : List Stp) (w : World) (hv : SeesO (fun k => k < w.heap.size) w v T) :
    Calls Try.prog 8 #[.int .i64 l, v] w fun e w' => e = .returned (.bool true) ∧ Below w.heap.size w w' := by
  obtain ⟨ao, n, cap, rfl, HN, hn1, hn2⟩ := hv.shape
  unfold maxLen at hn2
  have HV := hid hv
  have HNW := hid (pn_new l w)
  clear hv
  go_enter Try.func8, Try.ntmps8
  go_wp2_with fail
  refine HNW.out.mono ?_
  rintro _ w2 (⟨hb, rfl, rfl⟩ | ⟨hb, m, pb, hl, rfl, hp2⟩)
  · have HFI := hid (first_any w2)
    have hcs : (¬ 1 ≤ l) ∨ (1 ≤ l ∧ ¬ l ≤ 4096) := by
      unfold newB at hb
      simp at hb
      omega
    clear HNW hb
    rcases hcs with h1 | ⟨h1, h2⟩
    · have q1 : decide (1 ≤ l) = false := by simpa using h1
      go_wp2_with fail
      refine HFI.out.mono ?_
      rintro _ w3 ⟨rfl, hb3⟩
      have HE := hid hb3
      clear HFI hb3
      go_wp2_with fail
      go_ret
      exact ⟨rfl, HE.out⟩
    · have q1 : decide (1 ≤ l) = true := by simpa using h1
      have q2 : decide (l ≤ 4096) = false := by simpa using h2
      go_wp2_with fail
      refine HFI.out.mono ?_
      rintro _ w3 ⟨rfl, hb3⟩
      have HE := hid hb3
      clear HFI hb3
      go_wp2_with fail
      go_ret
      exact ⟨rfl, HE.out⟩
  · have HFI := hid (first_any w2)
    subst hl
    have hm := newB_le hb
    have HP2 := hid hp2
    have q1 : decide ((1 : Int) ≤ (m : Int)) = true := by simp; omega
    have q2 : decide ((m : Int) ≤ 4096) = true := by simp; omega
    clear HNW hb hp2
    go_wp2_with fail
    refine HFI.out.mono ?_
    rintro _ w3 ⟨rfl, hb3⟩
    have HP3 := hid (HP2.out.below hb3)
    clear HFI hb3 HP2
    go_wp2_with fail
    go_loopw [7] (fun i wr => ∃ j : Nat, i = .int .i64 (j : Int) ∧ j ≤ n ∧ Hid (∃ S : List Pk, Pn w (fun k => k < w.heap.size) wr pb m S)) (fun i _ => n - (intOf i).toNat)
    case atStart => exact ⟨0, rfl, Nat.zero_le _, _, HP3.out⟩
    case round =>
      obtain ⟨j, rfl, hj, HS⟩ := hrel
      obtain ⟨S, hp⟩ := HS.out
      have hvr := HV.out.below hp.be
      by_cases hlt : j < n
      · obtain ⟨g, off, vs, o, rfl, ⟨c0, c1, c2, c3, c4⟩, hs, hx, HO, hg⟩ := hvr.at j hlt
        have HA := hid (framed_any w wr _ pb m o.x S o.L vs o.k o.i o.a hp hs hx)
        have b1 : (j : Int) < (n : Int) := int_lt hlt
        have b2 : (0 : Int) ≤ (j : Int) := by omega
        generalize o.k = ok at *
        generalize o.i = oi at *
        generalize o.a = oaa at *
        generalize o.x = ox at *
        obtain ⟨va, vn, vc, rfl, -, -, -⟩ := hs.shape
        clear hs hx HO hg hvr hp HP3
        go_wp2_with fail
        refine HA.out.mono ?_
        rintro _ w4 ⟨rfl, S4, hp4⟩
        have HP4 := hid hp4
        clear HA hp4 c0 c1 c2 c3 c4
        go_wp2_with fail
        go_roundw
        case rel => exact ⟨j + 1, by go_num, by omega, S4, HP4.out⟩
        case measure => simp [intOf]; omega
      · have b1 : ¬ (j : Int) < (n : Int) := int_nlt hlt
        have HE := hid hp.be
        clear hvr hp HP3
        go_wp2_with fail
        go_ret
        exact ⟨rfl, HE.out⟩
end Go.Proofs.Ytaelfhjhinfikab
