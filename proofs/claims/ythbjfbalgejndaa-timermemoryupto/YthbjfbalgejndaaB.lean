import Derived.Test.YthbjfbalgejndaaA
namespace Go.Proofs.Ythbjfbalgejndaa
open Go.ChangeShapes Go.WideShapes Go.ChangeAt Go.RowKit
set_option maxHeartbeats 400000
set_option maxRecDepth 100000

/-- The slice value v shows, in the world w, the numbers L. -/
def SeesI (w : World) (v : Value) (L : List Int) : Prop :=
  ∃ ao cap, v = .slice ao L.length cap ∧ L.length ≤ cap ∧ cap ≤ maxLen ∧
    ∀ j (h : j < L.length), ∃ g off, ao = some ⟨g, off, none⟩ ∧ g < w.heap.size ∧ w.cell? ⟨g, off + j, none⟩ = some (.int .i64 L[j]) ∧ In64 L[j]

theorem SeesI.shape {w : World} {v : Value} {L : List Int} (h : SeesI w v L) : ∃ ao n cap, v = .slice ao n cap ∧ Hid (n = L.length) ∧ n ≤ cap ∧ cap ≤ maxLen := by
  obtain ⟨ao, cap, hv, h1, h2, _⟩ := h
  exact ⟨ao, L.length, cap, hv, rfl, h1, h2⟩

theorem SeesI.at {w : World} {ao : Option Addr} {n cap : Nat} {L : List Int} (h : SeesI w (.slice ao n cap) L) (j : Nat) (hj : j < n) : ∃ (g off : Nat) (p : Int), ao = some ⟨g, off, none⟩ ∧ g < w.heap.size ∧ w.cell? ⟨g, off + j, none⟩ = some (.int .i64 p) ∧ In64 p ∧ Hid (L[j]? = some p) := by
  obtain ⟨ao', cap', hv, h1, h2, h3⟩ := h
  simp at hv
  obtain ⟨rfl, rfl, rfl⟩ := hv
  obtain ⟨g, off, a, b, c, d⟩ := h3 j hj
  exact ⟨g, off, L[j], a, b, c, d, List.getElem?_eq_getElem hj⟩

theorem SeesI.below {w w' : World} {v : Value} {L : List Int} (h : SeesI w v L) (hb : Below w.heap.size w w') : SeesI w' v L := by
  obtain ⟨ao, cap, hv, h1, h2, h3⟩ := h
  refine ⟨ao, cap, hv, h1, h2, fun j hj => ?_⟩
  obtain ⟨g, off, ha, hg, c0, c1⟩ := h3 j hj
  exact ⟨g, off, ha, Nat.lt_of_lt_of_le hg hb.size, (hb.cell (p := ⟨g, _, none⟩) hg).trans c0, c1⟩

theorem below_drew {B : Nat} {a w : World} (h : Below B a w) : Below B a w.drew := ⟨h.os, h.tape, h.output, h.size, h.block⟩
theorem below_drewN {B : Nat} {a w : World} (h : Below B a w) (n : Nat) : Below B a (w.drewN n) := ⟨h.os, h.tape, h.output, h.size, h.block⟩

set_option maxHeartbeats 2000000 in
theorem afters_walk (v u : Value) (A B : List Int) (w : World) (hv : SeesI w v A) (hu : SeesI w u B) :
    Calls Try.prog 3 #[v, u] w fun e w' => e = .returned (.bool true) ∧ Below w.heap.size w w' := by
  obtain ⟨va, n, vc, rfl, HN, hn1, hn2⟩ := hv.shape
  obtain ⟨ua, m, uc, rfl, HM, hm1, hm2⟩ := hu.shape
  have HV := hid hv
  have HU := hid hu
  have HC : Hid (∀ a b : Int, ∀ x : World, In64 a → In64 b → Calls Try.prog 8 #[.int .i64 a, .int .i64 b] x fun e w' => e = .returned (.int .i64 (aft a b)) ∧ w' = x) := fun a b x => after_code a b x
  have HR : Hid (∀ a b : Int, ∀ x : World, In64 a → In64 b → Calls Try.prog 9 #[.int .i64 a, .int .i64 b] x fun e w' => e = .returned (.int .i64 (aft a b)) ∧ w' = x) := fun a b x => after_ref a b x
  unfold maxLen at hn2 hm2
  clear hv hu
  go_enter Try.func3, Try.ntmps3
  go_wp2_with fail
  refine (HC.out 3 4 w ⟨by omega, by omega⟩ ⟨by omega, by omega⟩).mono ?_
  rintro _ w1 ⟨rfl, e⟩
  obtain rfl := e.symm
  rw [show aft 3 4 = 7 from by decide]
  go_wp2_with fail
  go_loopw [6, 7, 8, 9] (fun i _ _ _ wv => ∃ (k : Nat) (wr : World), i = .int .i64 k ∧ k ≤ n ∧ k ≤ m ∧ wr = wv ∧ Below w.heap.size w wr) (fun i _ _ _ _ => n - (intOf i).toNat)
  case atStart => exact ⟨0, _, rfl, by omega, by omega, rfl, Below.refl _ _⟩
  case round =>
    obtain ⟨k, wr, rfl, hk1, hk2, rfl, hb⟩ := hrel
    by_cases g1 : k < n
    case neg =>
      go_wp2_with fail
      go_ret
      exact ⟨rfl, hb⟩
    by_cases g2 : k < m
    case neg =>
      go_wp2_with fail
      go_ret
      exact ⟨rfl, hb⟩
    obtain ⟨g, off, a, rfl, hg, c0, ha, HX⟩ := (HV.out.below hb).at k g1
    obtain ⟨g', off', b, rfl, hg', c1, hb', HY⟩ := (HU.out.below hb).at k g2
    clear HX HY
    have HA := hid ha
    have HB := hid hb'
    have HC1 : Hid (∀ x : World, Calls Try.prog 8 #[.int .i64 a, .int .i64 b] x fun e w' => e = .returned (.int .i64 (aft a b)) ∧ w' = x) := fun x => after_code a b x ha hb'
    have HC2 : Hid (∀ x : World, Calls Try.prog 8 #[.int .i64 b, .int .i64 a] x fun e w' => e = .returned (.int .i64 (aft a b)) ∧ w' = x) := fun x => by have := after_code b a x hb' ha; rwa [aft_comm b a] at this
    have HR1 : Hid (∀ x : World, Calls Try.prog 9 #[.int .i64 a, .int .i64 b] x fun e w' => e = .returned (.int .i64 (aft a b)) ∧ w' = x) := fun x => after_ref a b x ha hb'
    generalize aft a b = R at HC1 HC2 HR1
    have b0 : (k : Int) < (n : Int) := by omega
    have b1 : (0 : Int) ≤ (k : Int) := by omega
    have b2 : (k : Int) < (m : Int) := by omega
    clear ha hb'
    go_wp2_with fail
    go_quiet ((go_at_call 8; exact Calls.quiet_of_same (HC1.out _)))
    have hb1 : Below w.heap.size w (wr.drewN nq) := below_drewN hb _
    have d0 : (wr.drewN nq).cell? ⟨g, off + k, none⟩ = some (.int .i64 a) := c0
    have d1 : (wr.drewN nq).cell? ⟨g', off' + k, none⟩ = some (.int .i64 b) := c1
    generalize wr.drewN nq = w1 at hb1 d0 d1 ⊢
    go_wp2_with fail
    go_quiet ((go_at_call 9; exact Calls.quiet_of_same (HR1.out _)))
    have hb2 : Below w.heap.size w (w1.drewN nq) := below_drewN hb1 _
    have e0 : (w1.drewN nq).cell? ⟨g, off + k, none⟩ = some (.int .i64 a) := d0
    have e1 : (w1.drewN nq).cell? ⟨g', off' + k, none⟩ = some (.int .i64 b) := d1
    generalize w1.drewN nq = w2 at hb2 e0 e1 ⊢
    go_wp2_with fail
    go_quiet ((go_at_call 8; exact Calls.quiet_of_same (HC2.out _)))
    go_wp2_with fail
    go_roundw
    case rel => exact ⟨k + 1, _, by go_num, by omega, by omega, rfl, below_drewN hb2 _⟩
    case measure => simp [intOf]; omega
end Go.Proofs.Ythbjfbalgejndaa
