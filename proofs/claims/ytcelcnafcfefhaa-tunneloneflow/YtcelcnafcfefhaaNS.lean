import Derived.Test.YtcelcnafcfefhaaNR
namespace Go.Proofs.Ytcelcnafcfefhaa.N
open Go.ChangeShapes Go.WideShapes Go.ChangeAt Go.RowKit
set_option maxHeartbeats 400000
set_option maxRecDepth 100000

/-- Where the header ends, where the packet ends, the first error. -/
def lens (L : List Nat) (whole : Bool) : Nat × Nat × Int :=
  if L.length < 20 then (0, 0, 30)
  else if byt L 0 / 16 ≠ 4 then (0, 0, 31)
  else if byt L 0 % 16 * 4 < 20 then (0, 0, 32)
  else if L.length < byt L 0 % 16 * 4 then (0, 0, 30)
  else if w16 L 2 < byt L 0 % 16 * 4 then (0, 0, 32)
  else if whole = true ∧ L.length < w16 L 2 then (0, 0, 30)
  else (byt L 0 % 16 * 4, w16 L 2, 0)

theorem ret_three {k l m : IntKind} {a b c a' b' c' : Int} (h1 : a = a') (h2 : b = b') (h3 : c = c') : Ending.returned (.tuple #[.int k a, .int l b, .int m c]) = .returned (.tuple #[.int k a', .int l b', .int m c']) := by rw [h1, h2, h3]

set_option maxHeartbeats 2000000 in
theorem lens_code (v : Value) (L : List Nat) (whole : Bool) (w : World) (hv : SeesB w v L) (hl : L.length ≤ 140737488355328) :
    Calls Try.prog 79 #[v, .bool whole] w fun e w' => e = .returned (.tuple #[.int .i64 ((lens L whole).1 : Int), .int .i64 ((lens L whole).2.1 : Int), .int .i64 (lens L whole).2.2]) ∧ Below w.heap.size w w' := by
  obtain ⟨ao, n, cap, rfl, HN, hn1, hn2⟩ := hv.shape
  have hnl : n ≤ 140737488355328 := by have := HN.out; omega
  unfold maxLen at hn2
  obtain ⟨R, hR⟩ : ∃ R, R = lens L whole := ⟨_, rfl⟩
  have HR := hid hR
  rw [← hR]
  unfold lens at HR
  rw [← HN.out] at HR
  clear hR hl
  by_cases h1 : n < 20
  · have HE : Hid (R = (0, 0, 30)) := by unfold Hid; rw [HR.out, if_pos h1]
    go_enter Try.func79, Try.ntmps79
    go_wp2_with fail
    go_ret3
    exact ⟨ret_three (by rw [HE.out]; rfl) (by rw [HE.out]; rfl) (by rw [HE.out]), Below.refl _ _⟩
  · obtain ⟨g, off, rfl, hg, hc⟩ := hv.atB 0 (by omega)
    rw [Nat.add_zero] at hc
    have hx := byt_lt hv.bytes 0
    have hy := w16_lt hv.bytes 2
    obtain ⟨al, HSL, hlow⟩ := hv.low 2 2 rfl (by omega)
    have HC := read16_x _ (L.drop 2) w HSL.out (by rw [List.length_drop]; have := HN.out; omega)
    rw [w16_drop] at HC
    have HC := hid HC
    have hA := and_u8_mask (byt L 0) hx
    rw [if_neg h1] at HR
    generalize w16 L 2 = l at *
    generalize byt L 0 = x at *
    clear hv
    have hz1 : x % 16 < 16 := Nat.mod_lt _ (by decide)
    have ez : (x : Int) % 16 = ((x % 16 : Nat) : Int) := by simp
    generalize x % 16 = z at *
    by_cases h2 : x / 16 = 4
    · rw [if_neg (by omega)] at HR
      have hq : ((x : Int) / 16 != 4) = false := by simp; omega
      clear h2
      by_cases h3 : z * 4 < 20
      · have HE : Hid (R = (0, 0, 32)) := by unfold Hid; rw [HR.out, if_pos h3]
        clear HR
        go_enter Try.func79, Try.ntmps79
        go_wp2_with fail
        refine HC.out.mono ?_
        rintro _ _ ⟨rfl, rfl⟩
        go_wp2_with fail
        go_ret3
        exact ⟨ret_three (by rw [HE.out]; rfl) (by rw [HE.out]; rfl) (by rw [HE.out]), below_drew (Below.refl _ _)⟩
      · rw [if_neg h3] at HR
        by_cases h4 : n < z * 4
        · have HE : Hid (R = (0, 0, 30)) := by unfold Hid; rw [HR.out, if_pos h4]
          clear HR
          go_enter Try.func79, Try.ntmps79
          go_wp2_with fail
          refine HC.out.mono ?_
          rintro _ _ ⟨rfl, rfl⟩
          go_wp2_with fail
          go_ret3
          exact ⟨ret_three (by rw [HE.out]; rfl) (by rw [HE.out]; rfl) (by rw [HE.out]), below_drew (Below.refl _ _)⟩
        · rw [if_neg h4] at HR
          by_cases h5 : l < z * 4
          · have HE : Hid (R = (0, 0, 32)) := by unfold Hid; rw [HR.out, if_pos h5]
            clear HR
            go_enter Try.func79, Try.ntmps79
            go_wp2_with fail
            refine HC.out.mono ?_
            rintro _ _ ⟨rfl, rfl⟩
            go_wp2_with fail
            go_ret3
            exact ⟨ret_three (by rw [HE.out]; rfl) (by rw [HE.out]; rfl) (by rw [HE.out]), below_drew (Below.refl _ _)⟩
          · rw [if_neg h5] at HR
            cases whole with
            | false =>
              have HE : Hid (R = (z * 4, l, 0)) := by unfold Hid; rw [HR.out, if_neg (by simp)]
              clear HR
              go_enter Try.func79, Try.ntmps79
              go_wp2_with fail
              refine HC.out.mono ?_
              rintro _ _ ⟨rfl, rfl⟩
              go_wp2_with fail
              go_ret3
              exact ⟨ret_three (by rw [HE.out]; simp <;> omega) (by rw [HE.out]) (by rw [HE.out]), below_drew (Below.refl _ _)⟩
            | true =>
              by_cases h6 : n < l
              · have HE : Hid (R = (0, 0, 30)) := by unfold Hid; rw [HR.out, if_pos ⟨rfl, h6⟩]
                clear HR
                go_enter Try.func79, Try.ntmps79
                go_wp2_with fail
                refine HC.out.mono ?_
                rintro _ _ ⟨rfl, rfl⟩
                go_wp2_with fail
                go_ret3
                exact ⟨ret_three (by rw [HE.out]; rfl) (by rw [HE.out]; rfl) (by rw [HE.out]), below_drew (Below.refl _ _)⟩
              · have HE : Hid (R = (z * 4, l, 0)) := by unfold Hid; rw [HR.out, if_neg (by omega)]
                clear HR
                go_enter Try.func79, Try.ntmps79
                go_wp2_with fail
                refine HC.out.mono ?_
                rintro _ _ ⟨rfl, rfl⟩
                go_wp2_with fail
                go_ret3
                exact ⟨ret_three (by rw [HE.out]; simp <;> omega) (by rw [HE.out]) (by rw [HE.out]), below_drew (Below.refl _ _)⟩
    · have HE : Hid (R = (0, 0, 31)) := by unfold Hid; rw [HR.out, if_pos h2]
      have hq : ((x : Int) / 16 != 4) = true := by simp; omega
      clear h2 HR
      go_enter Try.func79, Try.ntmps79
      go_wp2_with fail
      go_ret3
      exact ⟨ret_three (by rw [HE.out]; rfl) (by rw [HE.out]; rfl) (by rw [HE.out]), Below.refl _ _⟩

end Go.Proofs.Ytcelcnafcfefhaa.N
