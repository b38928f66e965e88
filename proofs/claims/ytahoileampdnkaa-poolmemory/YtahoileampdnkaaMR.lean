/-
  Counting what is used; what stays beside a pool.
-/
import Derived.Test.YtahoileampdnkaaMQ
namespace Go.Proofs.Ytahoileampdnkaa
open Go.ChangeShapes Go.WideShapes Go.ChangeAt Go.RowKit Ru N Tri
set_option maxHeartbeats 1000000
set_option maxRecDepth 100000

theorem nod_le : ∀ {A B : List Nat}, A.Nodup → (∀ x ∈ A, x ∈ B) → A.length ≤ B.length
  | [], _, _, _ => Nat.zero_le _
  | a :: A, B, h, hs => by
    rw [List.nodup_cons] at h
    have ha := hs a List.mem_cons_self
    have h1 := nod_le (A := A) (B := B.erase a) h.2 fun x hx => (List.mem_erase_of_ne (fun e => h.1 (by rw [← e]; exact hx))).2 (hs x (List.mem_cons_of_mem _ hx))
    rw [List.length_erase_of_mem ha] at h1
    have := List.length_pos_of_mem ha
    rw [List.length_cons]
    omega

theorem nod_eq {A B : List Nat} (hA : A.Nodup) (hB : B.Nodup) (h : ∀ x, x ∈ A ↔ x ∈ B) : A.length = B.length :=
  Nat.le_antisymm (nod_le hA fun x hx => (h x).1 hx) (nod_le hB fun x hx => (h x).2 hx)

theorem adr_lt {sub a b : Nat} : adr sub a < adr sub b ↔ a < b := by
  unfold adr
  exact Nat.mul_lt_mul_right (Nat.two_pow_pos _)
theorem adr_le {sub a b : Nat} : adr sub a ≤ adr sub b ↔ a ≤ b := by
  unfold adr
  exact Nat.mul_le_mul_right_iff (Nat.two_pow_pos _)

theorem pr_iff {sub m a : Nat} {b : Int} : (adr sub m, (sub : Int)) = (a, b) ↔ alg sub a b = true ∧ m = num sub a := by
  constructor
  · intro h
    simp only [Prod.mk.injEq] at h
    obtain ⟨rfl, rfl⟩ := h
    exact ⟨alg_adr sub m, (num_adr sub m).symm⟩
  · rintro ⟨h, rfl⟩
    obtain ⟨h1, h2⟩ := alg_back h
    rw [h1, h2]

theorem tks_mem {sub a : Nat} {b : Int} {N : List Nat} : (a, b) ∈ tks sub N ↔ alg sub a b = true ∧ num sub a ∈ N := by
  unfold tks
  rw [List.mem_map]
  constructor
  · rintro ⟨m, hm, h⟩
    obtain ⟨h1, rfl⟩ := pr_iff.1 h
    exact ⟨h1, hm⟩
  · rintro ⟨h, hm⟩
    exact ⟨_, hm, pr_iff.2 ⟨h, rfl⟩⟩

theorem kept_mem {sub a : Nat} {b : Int} {L : List (Nat × Int)} (hL : ∀ p ∈ L, alg sub p.1 p.2 = true) : (a, b) ∈ L ↔ alg sub a b = true ∧ num sub a ∈ L.map fun p => num sub p.1 := by
  constructor
  · exact fun h => ⟨hL _ h, List.mem_map.2 ⟨_, h, rfl⟩⟩
  · rintro ⟨h, hm⟩
    obtain ⟨p, hp, he⟩ := List.mem_map.1 hm
    obtain ⟨h1, h2⟩ := alg_back h
    obtain ⟨h3, h4⟩ := alg_back (hL p hp)
    have : p = (a, b) := Prod.ext (by rw [← h4, ← h2, he]) (by rw [h3, h1])
    rw [← this]; exact hp

theorem keE_zero {x : Nat} {y : Int} {sub : Nat} : ∀ {L : List (Nat × Int)} {seen : List Nat}, keE x y sub seen L = 0 → (∀ p ∈ L, alg sub p.1 p.2 = true) ∧ (L.map fun p => num sub p.1).Nodup ∧ ∀ p ∈ L, num sub p.1 ∉ seen
  | [], _, _ => ⟨fun p hp => absurd hp (by simp), List.nodup_nil, fun p hp => absurd hp (by simp)⟩
  | p :: L, seen, h => by
    unfold keE at h
    split at h
    · cases h
    · split at h
      · cases h
      · split at h
        · cases h
        · rename_i h1 h2 h3
          obtain ⟨k1, k2, k3⟩ := keE_zero h
          simp only [Bool.not_eq_false] at h1
          refine ⟨fun q hq => ?_, ?_, fun q hq => ?_⟩
          · rcases List.mem_cons.1 hq with rfl | hq
            · exact h1
            · exact k1 q hq
          · rw [List.map_cons, List.nodup_cons]
            refine ⟨fun hm => ?_, k2⟩
            obtain ⟨q, hq, he⟩ := List.mem_map.1 hm
            exact k3 q hq (List.mem_append.2 (.inr (List.mem_singleton.2 he)))
          · rcases List.mem_cons.1 hq with rfl | hq
            · exact h3
            · exact fun hs => k3 q hq (List.mem_append.2 (.inl hs))

/-- All of a row is used. -/
theorem bel_full {sub lo a n : Nat} {L : List (Nat × Int)} {N : List Nat} {ks ts : List R} (hL : ∀ p ∈ L, alg sub p.1 p.2 = true) (hLn : (L.map fun p => num sub p.1).Nodup) (hk : ∀ m, Mem ks m ↔ m ∈ L.map fun p => num sub p.1) (hN : N.Nodup) (ht : ∀ m, m ∈ N ↔ Mem ts m)
    (hn : ∀ m, adr sub m < n ↔ m < a) (hu : ∀ x, lo ≤ x → x < a → Mem ks x ∨ Mem ts x) : bel L (tks sub N) (adr sub lo) n = a - lo := by
  obtain ⟨P, hP⟩ : ∃ P : Nat → Bool, P = fun m => decide (lo ≤ m) && decide (m < a) := ⟨_, rfl⟩
  obtain ⟨K, hK⟩ : ∃ K : List Nat, K = L.map fun p => num sub p.1 := ⟨_, rfl⟩
  have hin : ∀ m (s : Int), inr (adr sub lo) n (adr sub m, s) = P m := fun m s => by
    unfold inr
    rw [hP]
    simp only [adr_le, hn m]
  have e1 : L.countP (inr (adr sub lo) n) = (K.filter P).length := by
    rw [← List.countP_eq_length_filter, hK, List.countP_map]
    refine List.countP_congr fun p hp => ?_
    have h := (alg_back (hL p hp)).2
    have h2 := hin (num sub p.1) p.2
    rw [h] at h2
    rw [show inr (adr sub lo) n p = P (num sub p.1) from h2]
    rfl
  have e2 : (tks sub N).countP (fun p => inr (adr sub lo) n p && !decide (p ∈ L)) = (N.filter fun m => P m && !decide (m ∈ K)).length := by
    rw [← List.countP_eq_length_filter]
    unfold tks
    rw [List.countP_map]
    refine List.countP_congr fun m hm => ?_
    have h : decide ((adr sub m, (sub : Int)) ∈ L) = decide (m ∈ K) := by
      rw [decide_eq_decide, kept_mem hL, alg_adr, num_adr, hK]
      simp
    show (inr (adr sub lo) n (adr sub m, (sub : Int)) && !decide ((adr sub m, (sub : Int)) ∈ L)) = true ↔ _
    rw [h, hin]
  unfold bel
  rw [e1, e2, ← List.length_append]
  rw [← hK] at hLn hk
  have h3 := nod_eq (A := K.filter P ++ N.filter fun m => P m && !decide (m ∈ K)) (B := List.range' lo (a - lo)) ?_ List.nodup_range' ?_
  · rw [h3, List.length_range']
  · rw [List.nodup_append]
    refine ⟨hLn.filter _, hN.filter _, fun x hx y hy e => ?_⟩
    subst e
    simp only [List.mem_filter, Bool.and_eq_true, Bool.not_eq_true', decide_eq_false_iff_not] at hx hy
    exact hy.2.2 hx.1
  · intro x
    rw [List.mem_append, List.mem_range'_1, List.mem_filter, List.mem_filter, hP]
    simp only [Bool.and_eq_true, decide_eq_true_eq, Bool.not_eq_true', decide_eq_false_iff_not]
    constructor
    · rintro (⟨_, h⟩ | ⟨_, h, _⟩) <;> omega
    · intro h
      have h1 : lo ≤ x ∧ x < a := by omega
      by_cases hx : x ∈ K
      · exact .inl ⟨hx, h1⟩
      · rcases hu x h1.1 h1.2 with h2 | h2
        · exact absurd ((hk x).1 h2) hx
        · exact .inr ⟨(ht x).2 h2, h1, hx⟩

/-- All that is neither a pool nor a run stays. -/
def KpT (u u' : World) : Prop := ∀ (b : Nat) (cs : Array Value) (t : TypeId), t ≠ 68 → t ≠ 64 → u.heap[b]? = some (.cells cs t (0, 0)) → u'.heap[b]? = some (.cells cs t (0, 0))

theorem KpT.of {u u' : World} (hb : Below u.heap.size u u') : KpT u u' := fun _ _ _ _ _ h => below_keeps hb h (Array.getElem?_eq_some_iff.1 h).1

section
variable {w0 u : World} {pb sub lo hi : Nat} {ks ts : List R} {vg : Value} {G : List (Nat × Int)}

theorem KpT.turned {u' : World} {vk vt vt' : Value} {ts' : List R} (h1 : Rm w0 pb sub lo hi ks u vk vt ts) (ht : Turned pb vk vt sub lo hi ks u u' vt' ts') : KpT u u' := fun b cs t t1 t2 h => by
  refine (ht.keeps.block b (Array.getElem?_eq_some_iff.1 h).1 ?_).trans h
  rintro (e | e)
  · subst e
    have := h1.pool.row
    rw [h] at this
    simp at this
    exact t1 this.2
  · rcases h1.pool.ot.2 with ⟨e0, _⟩ | ⟨g', cap', cur', e0, _, hgg, _⟩
    · rw [e0] at e; cases e
    · rw [e0] at e
      simp [Value.ownBlock] at e
      rw [e, h] at hgg
      simp at hgg
      exact t2 hgg.2

theorem Rl.takeK (h : Rl w0 pb sub lo hi ks ts vg G u) : Calls Try.prog 14 #[.pointer (some ⟨pb, 0, none⟩)] u fun e u' =>
    (∃ (a : Nat) (ts' : List R), e = .returned (.tuple #[.agg #[.int .u32 ((adr sub a : Nat) : Int), .int .i64 (sub : Int)], .int .i64 0]) ∧ Hid (lo ≤ a ∧ a ≤ hi ∧ ¬ Mem ks a ∧ ¬ Mem ts a ∧ (∀ x, lo ≤ x → x < a → Mem ks x ∨ Mem ts x) ∧ ∀ m, Mem ts' m ↔ m = a ∨ Mem ts m) ∧ Hid (Rl w0 pb sub lo hi ks ts' vg G u') ∧ Hid (KpT u u')) ∨
    (e = .returned (.tuple #[.agg #[.int .u32 0, .int .i64 0], .int .i64 4]) ∧ Hid (∀ x, lo ≤ x → x ≤ hi → Mem ks x ∨ Mem ts x) ∧ Hid (Rl w0 pb sub lo hi ks ts vg G u') ∧ Hid (KpT u u')) := by
  obtain ⟨vk, vt, h1, h2⟩ := h
  refine (take_any pb sub lo hi vk vt ks ts u h1.pool).mono ?_
  rintro e u' (⟨a, vt', ts', he, k1, k2, k3, k4, k5, ht, k6⟩ | ⟨he, k1, hb⟩)
  · exact .inl ⟨a, ts', he, ⟨k1, k2, k3, k4, k5, k6⟩, Rl.turned h1 h2 ht, KpT.turned h1 ht⟩
  · exact .inr ⟨he, k1, ⟨vk, vt, h1.below hb, h2.below hb⟩, KpT.of hb⟩

theorem Rl.claimK (h : Rl w0 pb sub lo hi ks ts vg G u) (x : Nat) (y : Int) (hx : x < 4294967296) : Calls Try.prog 12 #[.pointer (some ⟨pb, 0, none⟩), .agg #[.int .u32 (x : Int), .int .i64 y]] u fun e u' =>
    ∃ (c : Int) (ts' : List R), e = .returned (.int .i64 c) ∧ Hid (clE sub lo hi x y ks ts c) ∧ Hid ((c ≠ 0 ∧ ts' = ts) ∨ (c = 0 ∧ ∀ m, Mem ts' m ↔ m = num sub x ∨ Mem ts m)) ∧ Hid (Rl w0 pb sub lo hi ks ts' vg G u') ∧ Hid (KpT u u') := by
  obtain ⟨vk, vt, h1, h2⟩ := h
  refine (claim_any pb sub lo hi x y vk vt ks ts u h1.pool hx).mono ?_
  rintro e u' (⟨k1, he, hb⟩ | ⟨k1, k2, k3, he, hb⟩ | ⟨k1, k2, k3, he, hb⟩ | ⟨k1, k2, k3, he, vt', ts', ht, k4⟩)
  · exact ⟨100, ts, he, .inl ⟨k1, rfl⟩, .inl ⟨by decide, rfl⟩, ⟨vk, vt, h1.below hb, h2.below hb⟩, KpT.of hb⟩
  · exact ⟨101, ts, he, .inr (.inl ⟨k1, k2, k3, rfl⟩), .inl ⟨by decide, rfl⟩, ⟨vk, vt, h1.below hb, h2.below hb⟩, KpT.of hb⟩
  · exact ⟨102, ts, he, .inr (.inr (.inl ⟨k1, k2, k3, rfl⟩)), .inl ⟨by decide, rfl⟩, ⟨vk, vt, h1.below hb, h2.below hb⟩, KpT.of hb⟩
  · exact ⟨0, ts', he, .inr (.inr (.inr ⟨k1, k2, k3, rfl⟩)), .inr ⟨rfl, k4⟩, Rl.turned h1 h2 ht, KpT.turned h1 ht⟩

theorem Rl.freeK (h : Rl w0 pb sub lo hi ks ts vg G u) (x : Nat) (y : Int) (hx : x < 4294967296) : Calls Try.prog 15 #[.pointer (some ⟨pb, 0, none⟩), .agg #[.int .u32 (x : Int), .int .i64 y]] u fun e u' =>
    ∃ (c : Int) (ts' : List R), e = .returned (.int .i64 c) ∧ Hid (((alg sub x y = false ∨ ¬ Mem ts (num sub x)) ∧ c = 3 ∧ ts' = ts) ∨ (alg sub x y = true ∧ Mem ts (num sub x) ∧ c = 0 ∧ ∀ m, Mem ts' m ↔ m ≠ num sub x ∧ Mem ts m)) ∧ Hid (Rl w0 pb sub lo hi ks ts' vg G u') ∧ Hid (KpT u u') := by
  obtain ⟨vk, vt, h1, h2⟩ := h
  refine (free_any pb sub lo hi x y vk vt ks ts u h1.pool hx).mono ?_
  rintro e u' (⟨k1, he, hb⟩ | ⟨k1, k2, he, vt', ts', ht, k4⟩)
  · exact ⟨3, ts, he, .inl ⟨k1, rfl, rfl⟩, ⟨vk, vt, h1.below hb, h2.below hb⟩, KpT.of hb⟩
  · exact ⟨0, ts', he, .inr ⟨k1, k2, rfl, k4⟩, Rl.turned h1 h2 ht, KpT.turned h1 ht⟩

theorem Rl.taken (h : Rl w0 pb sub lo hi ks ts vg G u) : Calls Try.prog 17 #[.pointer (some ⟨pb, 0, none⟩)] u fun e u' =>
    ∃ v, e = .returned v ∧ Hid (Sees u' v (tks sub (els ts)) ∧ Below u.heap.size u u') := by
  obtain ⟨vk, vt, h1, h2⟩ := h
  exact (taken_any pb sub lo hi vk vt ks ts u h1.pool).mono fun e u' ⟨v, h4, h5, h6⟩ => ⟨v, h4, h5.sees, h6⟩

theorem Rl.relist {v' : Value} {G' : List (Nat × Int)} (h : Rl w0 pb sub lo hi ks ts vg G u) (ho : OwnP u w0.heap.size v' G') : Rl w0 pb sub lo hi ks ts v' G' u := by
  obtain ⟨vk, vt, h1, -⟩ := h
  exact ⟨vk, vt, h1, ho⟩
end

/-- Somebody's: the list, and what is taken. -/
def Outs (ts : List R) (N : List Nat) : Prop := N.Nodup ∧ ∀ m, m ∈ N ↔ Mem ts m

theorem Outs.add {ts ts' : List R} {N : List Nat} {a : Nat} (h : Outs ts N) (ha : ¬ Mem ts a) (hm : ∀ m, Mem ts' m ↔ m = a ∨ Mem ts m) : Outs ts' (N ++ [a]) := by
  refine ⟨?_, fun m => ?_⟩
  · rw [List.nodup_append]
    refine ⟨h.1, List.nodup_cons.2 ⟨by simp, List.nodup_nil⟩, fun x hx y hy e => ?_⟩
    rw [List.mem_singleton] at hy
    subst hy e
    exact ha ((h.2 _).1 hx)
  · rw [List.mem_append, List.mem_singleton, h.2 m, hm m]
    exact or_comm

theorem Outs.drop {sub a : Nat} {b : Int} {ts ts' : List R} {N : List Nat} (h : Outs ts N) (hm : ∀ m, Mem ts' m ↔ Mem ts m ∧ ¬ (alg sub a b = true ∧ m = num sub a)) : Outs ts' (N.filter fun m => !decide ((adr sub m, (sub : Int)) = (a, b))) := by
  refine ⟨h.1.filter _, fun m => ?_⟩
  rw [List.mem_filter, h.2 m, hm m]
  simp only [Bool.not_eq_true', decide_eq_false_iff_not, pr_iff]

theorem tks_filter {sub a : Nat} {b : Int} {N : List Nat} : (tks sub N).filter (fun p => !decide (p = (a, b))) = tks sub (N.filter fun m => !decide ((adr sub m, (sub : Int)) = (a, b))) := by
  unfold tks
  rw [List.filter_map]
  rfl
end Go.Proofs.Ytahoileampdnkaa
