/-
  A pool and the reference's beside one another: what they hold is the same.
-/
import Derived.Test.YtahoileampdnkaaHF
namespace Go.Proofs.Ytahoileampdnkaa
open Go.ChangeShapes Go.WideShapes Go.ChangeAt Go.RowKit Ru N Tri
set_option maxHeartbeats 1000000
set_option maxRecDepth 100000

structure PR (x : Nat) (y : Int) (sub plo phi lo0 hi0 : Nat) (L : List (Nat × Int)) (ks ts : List R) (T : List Nat) : Prop where
  lo : adr sub plo = lo0
  hi : adr sub phi = hi0
  le : lo0 ≤ hi0
  x32 : x < 4294967296
  vx : valB x y = true
  al : ∀ p ∈ L, alg sub p.1 p.2 = true
  nd : (L.map fun p => num sub p.1).Nodup
  km : ∀ m, Mem ks m ↔ m ∈ L.map fun p => num sub p.1
  net : ∀ a, lo0 ≤ a → a ≤ hi0 → inN x y a = true
  ken : ∀ p ∈ L, inN x y p.1 = true
  rt : Runs ts
  tk : ∃ N : List Nat, T = N.map (adr sub) ∧ Outs ts N

section
variable {x : Nat} {y : Int} {sub plo phi lo0 hi0 : Nat} {L : List (Nat × Int)} {ks ts : List R} {T : List Nat}

theorem adr_inj {a b : Nat} (h : adr sub a = adr sub b) : a = b := by
  have h1 := num_adr sub a
  rw [h, num_adr] at h1
  exact h1.symm

theorem PR.kept (h : PR x y sub plo phi lo0 hi0 L ks ts T) (m : Nat) : adr sub m ∈ L.map (·.1) ↔ Mem ks m := by
  rw [h.km, List.mem_map, List.mem_map]
  constructor
  · rintro ⟨p, hp, e⟩
    exact ⟨p, hp, by rw [e, num_adr]⟩
  · rintro ⟨p, hp, e⟩
    exact ⟨p, hp, by rw [← (alg_back (h.al p hp)).2, e]⟩

theorem PR.taken (h : PR x y sub plo phi lo0 hi0 L ks ts T) (m : Nat) : adr sub m ∈ T ↔ Mem ts m := by
  obtain ⟨N, rfl, hN⟩ := h.tk
  rw [List.mem_map, ← hN.2 m]
  constructor
  · rintro ⟨k, hk, e⟩
    rw [← adr_inj e]; exact hk
  · exact fun hm => ⟨m, hm, rfl⟩

theorem PR.nodup (h : PR x y sub plo phi lo0 hi0 L ks ts T) : T.Nodup := by
  obtain ⟨N, rfl, hN⟩ := h.tk
  rw [List.Nodup, List.pairwise_map]
  exact hN.1.imp fun hne e => hne (adr_inj e)

theorem PR.takenA (h : PR x y sub plo phi lo0 hi0 L ks ts T) {a : Nat} {b : Int} (ha : alg sub a b = true) : a ∈ T ↔ Mem ts (num sub a) := by
  rw [← h.taken, (alg_back ha).2]
theorem PR.keptA (h : PR x y sub plo phi lo0 hi0 L ks ts T) {a : Nat} {b : Int} (ha : alg sub a b = true) : a ∈ L.map (·.1) ↔ Mem ks (num sub a) := by
  rw [← h.kept, (alg_back ha).2]

theorem PR.row (h : PR x y sub plo phi lo0 hi0 L ks ts T) (m : Nat) : (lo0 ≤ adr sub m ∧ adr sub m ≤ hi0) ↔ (plo ≤ m ∧ m ≤ phi) := by
  rw [← h.lo, ← h.hi, adr_le, adr_le]
theorem PR.rowA (h : PR x y sub plo phi lo0 hi0 L ks ts T) {a : Nat} {b : Int} (ha : alg sub a b = true) : (lo0 ≤ a ∧ a ≤ hi0) ↔ (plo ≤ num sub a ∧ num sub a ≤ phi) := by
  rw [← h.row, (alg_back ha).2]

theorem PR.step (h : PR x y sub plo phi lo0 hi0 L ks ts T) (k : Nat) : lo0 + k * 2 ^ (32 - sub) = adr sub (plo + k) := by
  rw [← h.lo]; unfold adr; rw [Nat.add_mul]

theorem PR.add {ts' : List R} (h : PR x y sub plo phi lo0 hi0 L ks ts T) {m : Nat} (hr : Runs ts') (hn : ¬ Mem ts m) (hm : ∀ k, Mem ts' k ↔ k = m ∨ Mem ts k) : PR x y sub plo phi lo0 hi0 L ks ts' (T ++ [adr sub m]) := by
  obtain ⟨N, rfl, hN⟩ := h.tk
  exact ⟨h.lo, h.hi, h.le, h.x32, h.vx, h.al, h.nd, h.km, h.net, h.ken, hr, N ++ [m], by rw [List.map_append]; rfl, hN.add hn hm⟩

theorem PR.drop {ts' : List R} {a : Nat} {b : Int} (h : PR x y sub plo phi lo0 hi0 L ks ts T) (hr : Runs ts') (ha : alg sub a b = true) (hm : ∀ k, Mem ts' k ↔ k ≠ num sub a ∧ Mem ts k) : PR x y sub plo phi lo0 hi0 L ks ts' (T.filter fun n => !decide (n = a)) := by
  obtain ⟨N, rfl, hN⟩ := h.tk
  refine ⟨h.lo, h.hi, h.le, h.x32, h.vx, h.al, h.nd, h.km, h.net, h.ken, hr, N.filter fun m => !decide (adr sub m = a), ?_, ?_⟩
  · rw [List.filter_map]; rfl
  · refine ⟨hN.1.filter _, fun m => ?_⟩
    rw [List.mem_filter, hN.2 m, hm m]
    simp only [Bool.not_eq_true', decide_eq_false_iff_not]
    have e : adr sub m = a ↔ m = num sub a := by
      constructor
      · intro e; rw [← e, num_adr]
      · intro e; rw [e, (alg_back ha).2]
    rw [e]
    exact and_comm

theorem PR.rise (h : PR x y sub plo phi lo0 hi0 L ks ts T) : Rise ((els ts).map (adr sub)) T := by
  obtain ⟨N, rfl, hN⟩ := h.tk
  refine ⟨?_, fun n => ?_, ?_⟩
  · rw [List.pairwise_map]
    exact (els_up h.rt).imp fun hab => adr_lt.2 hab
  · rw [List.mem_map, List.mem_map]
    constructor
    · rintro ⟨m, hm, e⟩
      exact ⟨m, (hN.2 m).2 ((els_mem h.rt).1 hm), e⟩
    · rintro ⟨m, hm, e⟩
      exact ⟨m, (els_mem h.rt).2 ((hN.2 m).1 hm), e⟩
  · rw [List.length_map, List.length_map]
    exact nod_eq ((els_up h.rt).imp fun hab => Nat.ne_of_lt hab) hN.1 fun m => by rw [els_mem h.rt, hN.2 m]

theorem PR.list : ((els ts).map (adr sub)).map (fun n => (n, (sub : Int))) = tks sub (els ts) := by
  unfold tks; rw [List.map_map]; rfl

/-- Both count the same room. -/
theorem PR.room (h : PR x y sub plo phi lo0 hi0 L ks ts T) : rmR sub lo0 hi0 (L.map (·.1)) T = ((cnt ks ts plo (phi + 1) : Nat) : Int) := by
  obtain ⟨N, rfl, hN⟩ := h.tk
  have hpl : plo ≤ phi := by have := h.le; rw [← h.lo, ← h.hi, adr_le] at this; exact this
  have htot : (hi0 - lo0) / 2 ^ (32 - sub) = phi - plo := by
    rw [← h.lo, ← h.hi]; unfold adr; rw [← Nat.sub_mul]; exact Nat.mul_div_cancel _ (Nat.two_pow_pos _)
  obtain ⟨P, hP⟩ : ∃ P : Nat → Bool, P = fun m => decide (plo ≤ m) && decide (m ≤ phi) := ⟨_, rfl⟩
  obtain ⟨K, hK⟩ : ∃ K : List Nat, K = L.map fun p => num sub p.1 := ⟨_, rfl⟩
  have hin : ∀ m, inR2 lo0 hi0 (adr sub m) = P m := fun m => by
    unfold inR2; rw [hP, ← h.lo, ← h.hi]; simp only [adr_le]
  have e1 : (L.map (·.1)).countP (inR2 lo0 hi0) = (K.filter P).length := by
    rw [← List.countP_eq_length_filter, hK, List.countP_map, List.countP_map]
    refine List.countP_congr fun p hp => ?_
    have h2 := hin (num sub p.1)
    rw [(alg_back (h.al p hp)).2] at h2
    show inR2 lo0 hi0 p.1 = true ↔ P (num sub p.1) = true
    rw [h2]
  have e2 : (N.map (adr sub)).countP (fun n => inR2 lo0 hi0 n && !decide (n ∈ L.map (·.1))) = (N.filter fun m => P m && !decide (m ∈ K)).length := by
    rw [← List.countP_eq_length_filter, List.countP_map]
    refine List.countP_congr fun m hm => ?_
    have h3 : decide (adr sub m ∈ L.map (·.1)) = decide (m ∈ K) := by rw [decide_eq_decide, h.kept, h.km, hK]
    show (inR2 lo0 hi0 (adr sub m) && !decide (adr sub m ∈ L.map (·.1))) = true ↔ _
    rw [h3, hin]
  have e3 : (K.filter P).length + (N.filter fun m => P m && !decide (m ∈ K)).length = ((List.range' plo (phi + 1 - plo)).filter fun m => memB ks m || memB ts m).length := by
    rw [← List.length_append]
    refine nod_eq ?_ (List.Pairwise.filter _ List.nodup_range') fun m => ?_
    · rw [List.nodup_append]
      refine ⟨(hK ▸ h.nd).filter _, hN.1.filter _, fun a ha b hb e => ?_⟩
      subst e
      simp only [List.mem_filter, Bool.and_eq_true, Bool.not_eq_true', decide_eq_false_iff_not] at ha hb
      exact hb.2.2 ha.1
    · rw [List.mem_append, List.mem_filter, List.mem_filter, List.mem_filter, List.mem_range'_1, hP]
      simp only [Bool.and_eq_true, decide_eq_true_eq, Bool.not_eq_true', decide_eq_false_iff_not, Bool.or_eq_true, memB_iff]
      rw [hN.2 m, h.km m, ← hK]
      constructor
      · rintro (⟨h1, h2⟩ | ⟨h1, h2, -⟩)
        · exact ⟨by omega, .inl h1⟩
        · exact ⟨by omega, .inr h1⟩
      · rintro ⟨h1, h2⟩
        by_cases hk : m ∈ K
        · exact .inl ⟨hk, by omega⟩
        · rcases h2 with h2 | h2
          · exact absurd h2 hk
          · exact .inr ⟨h2, by omega, hk⟩
  have e4 : cnt ks ts plo (phi + 1) + ((List.range' plo (phi + 1 - plo)).filter fun m => memB ks m || memB ts m).length = phi + 1 - plo := by
    unfold cnt
    rw [← List.countP_eq_length_filter]
    have h5 := List.length_eq_countP_add_countP (l := List.range' plo (phi + 1 - plo)) (fun m => memB ks m || memB ts m)
    rw [List.length_range'] at h5
    have h6 : (List.range' plo (phi + 1 - plo)).countP (fun m => !(memB ks m || memB ts m)) = (List.range' plo (phi + 1 - plo)).countP (fun m => decide ¬ (memB ks m || memB ts m) = true) := List.countP_congr fun m _ => by simp
    rw [h6]
    omega
  unfold rmR
  rw [e1, e2, htot]
  omega
end
end Go.Proofs.Ytahoileampdnkaa
