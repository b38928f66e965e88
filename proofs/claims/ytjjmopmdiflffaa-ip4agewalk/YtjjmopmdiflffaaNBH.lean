import Derived.Test.YtjjmopmdiflffaaNBG
import Derived.Test.YtjjmopmdiflffaaNWH
namespace Go.Proofs.Ytjjmopmdiflffaa.N
open Go.ChangeShapes Go.WideShapes Go.ChangeAt Go.RowKit
set_option maxHeartbeats 1000000
set_option maxRecDepth 100000

theorem rdH_ok {X : List Nat} (hx : ∀ x ∈ X, x < 256) (h t : Nat) (ht : t < 256) : ((rdH X h).withTTL t).Ok where
  tos := byt_lt hx 1
  id := w16_lt hx 4
  off := by
    show -9223372036854775808 ≤ ((w16 X 6 % 8192 * 8 : Nat) : Int) ∧ ((w16 X 6 % 8192 * 8 : Nat) : Int) ≤ 9223372036854775807
    omega
  ttl := ht
  proto := byt_lt hx 9
  src := w32_lt hx 12
  dst := w32_lt hx 16

theorem there_set {w : World} {b k : Nat} {vs : List Value} (h : w.there b 0 k) : (w.setCells b 0 vs).there b 0 k := by
  have key : ∀ (vs : List Value) (o : Nat) (w : World), w.there b 0 k → (w.setCells b o vs).there b 0 k := by
    intro vs
    induction vs with
    | nil => intro o w h; exact h
    | cons v vs ih =>
      intro o w h
      rw [World.setCells]
      refine ih (o + 1) _ fun i hi => ?_
      obtain ⟨h1, h2⟩ := h i hi
      constructor
      · by_cases e : 0 + i = o
        · subst e
          have hth : w.there b (0 + i) 1 := fun j hj => by
            obtain rfl : j = 0 := by omega
            exact ⟨h1, h2⟩
          have := World.rangeAt_setCells_same w b (0 + i) [v] hth 0 v rfl
          rw [show (w.setCell ⟨b, 0 + i, none⟩ v).cell? ⟨b, 0 + i, none⟩ = some v from this]
          rfl
        · have := World.cell?_setCells_out b [v] o w ⟨b, 0 + i, none⟩ (fun _ _ => by simp; omega)
          rw [show (w.setCell ⟨b, o, none⟩ v).cell? ⟨b, 0 + i, none⟩ = _ from this]
          exact h1
      · rw [World.frozen?_setCell]; exact h2
  exact key vs 0 w h

theorem age_code (v : Value) (L : List Nat) (w : World) (hv : SeesB w v L) (hl : L.length ≤ 140737488355328) :
    Calls Try.prog 33 #[v] w fun e w' => ∃ ao n cap, e = .returned (.tuple #[.slice ao n cap, .int .i64 (ageL L).2]) ∧ SeesB w' (.slice ao n cap) (ageL L).1 ∧ Below w.heap.size w w' := by
  by_cases he : (exam L true).2.2 = 0
  · obtain ⟨m, l, hex, f1, f2, f3, f4, f5, f6, f7, f8, f9, hp⟩ := read_facts hv.bytes he
    have hz : (parsed L).2.2 = 0 := by rw [hp]
    have htt : (parsed L).1.ttl = byt L 8 := by rw [hp]; show byt (L.take l) 8 = _; exact byt_take (by omega)
    by_cases ht : byt L 8 < 2
    · have e : ageL L = ([], 35) := by unfold ageL; rw [if_neg (by simp [hz]), if_pos (by rw [htt]; exact ht)]
      rw [e]
      refine (age_old v L w hv hl he (by omega) ht).mono ?_
      rintro _ w' ⟨rfl, hb⟩
      exact ⟨none, 0, 0, rfl, sees_nil _, hb⟩
    · have e : ageL L = (builtL ((parsed L).1.withTTL (byt L 8 - 1)) (parsed L).2.1, 0) := by
        unfold ageL
        rw [if_neg (by simp [hz]), if_neg (by rw [htt]; exact ht), htt]
        have : refE ((parsed L).1.withTTL (byt L 8 - 1)) (parsed L).2.1.length = 0 := by rw [hp]; exact f9 _
        rw [this]
      rw [e]
      exact age_good v L w hv hl he (by omega)
  · have hp : parsed L = (zeroH, [], (exam L true).2.2) := by unfold parsed; rw [if_neg he]
    have e : ageL L = ([], (exam L true).2.2) := by unfold ageL; rw [hp, if_pos he]
    rw [e]
    refine (age_bad v L w hv hl he).mono ?_
    rintro _ w' ⟨rfl, hb⟩
    exact ⟨none, 0, 0, rfl, sees_nil _, hb⟩

end Go.Proofs.Ytjjmopmdiflffaa.N
