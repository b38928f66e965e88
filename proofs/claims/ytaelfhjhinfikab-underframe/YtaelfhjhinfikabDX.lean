/-
  UnderFrame: gone, put.
-/
import Derived.Test.YtaelfhjhinfikabDW
namespace Go.Proofs.Ytaelfhjhinfikab
open Go.ChangeShapes Go.WideShapes Go.ChangeAt Go.RowKit Me
set_option maxHeartbeats 8000000
set_option maxRecDepth 100000

theorem gone_any (w : World) (K K' : Nat → Prop) (vo vn : Value) (S : List Pk) (i : Nat) (ho : SeesS K w vo S) (hn : SeesS K' w vn (S.eraseIdx i)) (hi : i < S.length) :
    Calls Try.prog 35 #[vo, vn, .int .i64 (i : Int)] w fun e w' => e = .returned (.bool true) ∧ Below w.heap.size w w' := by
  obtain ⟨ao, no, co, rfl, HNO, ho1, ho2⟩ := ho.shape
  obtain ⟨an, nn, cn, rfl, HNN, hn1, hn2⟩ := hn.shape
  unfold maxLen at ho2 hn2
  have hnn : nn + 1 = no := by have h1 := HNN.out; have h2 := HNO.out; rw [List.length_eraseIdx_of_lt hi] at h1; omega
  obtain ⟨a1, HA1, k1⟩ := ho.high i (i : Int) rfl (by have := HNO.out; omega)
  obtain ⟨a2, HA2, k2⟩ := hn.high i (i : Int) rfl (by have := HNO.out; omega)
  obtain ⟨a3, HA3, k3⟩ := ho.low (i + 1) ((i : Int) + 1) (by omega) (by have := HNO.out; omega)
  obtain ⟨a4, HA4, k4⟩ := hn.low i (i : Int) rfl (by have := HNO.out; omega)
  have e1 : (S.eraseIdx i).take i = S.take i := by
    rw [List.eraseIdx_eq_take_drop_succ, List.take_append_of_le_length (by rw [List.length_take]; omega), List.take_take, Nat.min_self]
  have e2 : (S.eraseIdx i).drop i = S.drop (i + 1) := by
    rw [List.eraseIdx_eq_take_drop_succ, List.drop_append, List.drop_of_length_le (by rw [List.length_take]; omega), List.length_take, show i - min i S.length = 0 by omega]
    simp
  rw [e1] at HA2
  rw [e2] at HA4
  have hle : nn - i = no - (i + 1) := by omega
  rw [hle] at HA4 k4
  have H1 : ∀ t : Beh w, Hid (Calls Try.prog 19 #[.slice a1 i co, .slice a2 i cn] t.wd fun e w' => e = .returned (.bool true) ∧ ∃ t' : Beh w, w' = t'.wd) := fun t => Calls.beh (sents_any _ _ _ _ _ t.wd (HA1.out.below t.ok) (HA2.out.below t.ok))
  have H2 : ∀ t : Beh w, Hid (Calls Try.prog 19 #[.slice a3 (no - (i + 1)) (co - (i + 1)), .slice a4 (no - (i + 1)) (cn - i)] t.wd fun e w' => e = .returned (.bool true) ∧ ∃ t' : Beh w, w' = t'.wd) := fun t => Calls.beh (sents_any _ _ _ _ _ t.wd (HA3.out.below t.ok) (HA4.out.below t.ok))
  have q0 : ((nn : Int) == (no : Int) - 1) = true := by simp; omega
  have q1 : (i : Int) ≤ 9223372036854775806 := by have := HNO.out; omega
  have q2 : (0 : Int) ≤ (no : Int) - 1 := by omega
  obtain ⟨d, HD⟩ : ∃ d, Hid (d = no - (i + 1)) := ⟨_, rfl⟩
  rw [← HD.out] at k3 k4 H2
  obtain ⟨d2, HD2⟩ : ∃ d, Hid (d = co - (i + 1)) := ⟨_, rfl⟩
  rw [← HD2.out] at k3 H2
  obtain ⟨d3, HD3⟩ : ∃ d, Hid (d = cn - i) := ⟨_, rfl⟩
  rw [← HD3.out] at k4 H2
  have H12 : ∀ (t : Beh w) (x y : Value), (x = .slice a1 i co ∧ y = .slice a2 i cn) ∨ (x = .slice a3 d d2 ∧ y = .slice a4 d d3) → Hid (Calls Try.prog 19 #[x, y] t.wd fun e w' => e = .returned (.bool true) ∧ ∃ t' : Beh w, w' = t'.wd) := fun t x y h => by
    rcases h with ⟨rfl, rfl⟩ | ⟨rfl, rfl⟩
    · exact H1 t
    · exact H2 t
  clear ho hn hi hnn e1 e2 hle HA1 HA2 HA3 HA4 H1 H2
  go_enter Try.func35, Try.ntmps35
  go_upto_region 1 with fail
  refine wp_region_beh (by kernel_rfl) (by kernel_rfl) ?_
  repeat (go_big_quiet_step ((go_at_call 19; refine (H12 _ _ _ ?_).out; first | exact .inl ⟨rfl, rfl⟩ | exact .inr ⟨rfl, rfl⟩)))
  refine wpQuiet_nil ?_
  rintro _ ⟨t, rfl⟩
  have HB := hid t.ok
  clear k1 k2 k3 k4 H12
  go_wp2_with fail
  go_ret
  exact ⟨rfl, HB.out⟩
end Go.Proofs.Ytaelfhjhinfikab
