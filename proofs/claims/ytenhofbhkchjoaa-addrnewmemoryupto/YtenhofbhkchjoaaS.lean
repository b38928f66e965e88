import Derived.Test.YtenhofbhkchjoaaF
namespace Go.Proofs.Ytenhofbhkchjoaa
open Go.ChangeShapes Go.WideShapes Go.ChangeAt Go.RowKit
set_option maxHeartbeats 400000

/-- The slice value v shows, in the world w, the runs L. -/
def SeesR (w : World) (v : Value) (L : List (Nat × Nat)) : Prop :=
  ∃ ao cap, v = .slice ao L.length cap ∧ L.length ≤ cap ∧ cap ≤ maxLen ∧
    ∀ j (h : j < L.length), ∃ g off, ao = some ⟨g, off, none⟩ ∧ g < w.heap.size ∧ w.cell? ⟨g, off + j * 2, none⟩ = some (.int .i64 (L[j].1 : Int)) ∧ w.cell? ⟨g, off + j * 2 + 1, none⟩ = some (.int .i64 (L[j].2 : Int))

theorem SeesR.shape {w : World} {v : Value} {L : List (Nat × Nat)} (h : SeesR w v L) : ∃ ao n cap, v = .slice ao n cap ∧ Hid (n = L.length) ∧ n ≤ cap ∧ cap ≤ maxLen := by
  obtain ⟨ao, cap, hv, h1, h2, _⟩ := h
  exact ⟨ao, L.length, cap, hv, rfl, h1, h2⟩

theorem SeesR.at {w : World} {ao : Option Addr} {n cap : Nat} {L : List (Nat × Nat)} (h : SeesR w (.slice ao n cap) L) (j : Nat) (hj : j < n) : ∃ g off p, ao = some ⟨g, off, none⟩ ∧ g < w.heap.size ∧ w.cell? ⟨g, off + j * 2, none⟩ = some (.int .i64 (p.1 : Int)) ∧ w.cell? ⟨g, off + j * 2 + 1, none⟩ = some (.int .i64 (p.2 : Int)) ∧ Hid (L[j]? = some p) := by
  obtain ⟨ao', cap', hv, h1, h2, h3⟩ := h
  simp at hv
  obtain ⟨rfl, rfl, rfl⟩ := hv
  obtain ⟨g, off, a, b, c, d⟩ := h3 j hj
  exact ⟨g, off, L[j], a, b, c, d, List.getElem?_eq_getElem hj⟩

theorem SeesR.below {w w' : World} {v : Value} {L : List (Nat × Nat)} (h : SeesR w v L) (hb : Below w.heap.size w w') : SeesR w' v L := by
  obtain ⟨ao, cap, hv, h1, h2, h3⟩ := h
  refine ⟨ao, cap, hv, h1, h2, fun j hj => ?_⟩
  obtain ⟨g, off, ha, hg, c0, c1⟩ := h3 j hj
  exact ⟨g, off, ha, Nat.lt_of_lt_of_le hg hb.size, (hb.cell (p := ⟨g, _, none⟩) hg).trans c0, (hb.cell (p := ⟨g, _, none⟩) hg).trans c1⟩


theorem SeesR.front {w : World} {ao : Option Addr} {n cap m : Nat} {L : List (Nat × Nat)} (h : SeesR w (.slice ao n cap) L) (hm : m ≤ n) : SeesR w (.slice ao m cap) (L.take m) := by
  obtain ⟨ao', cap', hv, h1, h2, h3⟩ := h
  simp at hv
  obtain ⟨rfl, rfl, rfl⟩ := hv
  refine ⟨ao, cap, by rw [List.length_take, Nat.min_eq_left hm], by rw [List.length_take]; omega, h2, fun j hj => ?_⟩
  rw [List.length_take] at hj
  obtain ⟨g, off, a, b, c, d⟩ := h3 j (by omega)
  exact ⟨g, off, a, b, by rw [List.getElem_take]; exact c, by rw [List.getElem_take]; exact d⟩

theorem SeesR.back {w : World} {g off n cap m : Nat} {L : List (Nat × Nat)} (h : SeesR w (.slice (some ⟨g, off, none⟩) n cap) L) (hm : m ≤ n) : SeesR w (.slice (some ⟨g, off + m * 2, none⟩) (n - m) (cap - m)) (L.drop m) := by
  obtain ⟨ao', cap', hv, h1, h2, h3⟩ := h
  simp at hv
  obtain ⟨rfl, rfl, rfl⟩ := hv
  refine ⟨_, _, by rw [List.length_drop], by rw [List.length_drop]; omega, by unfold maxLen at *; omega, fun j hj => ?_⟩
  rw [List.length_drop] at hj
  obtain ⟨g', off', a, b, c, d⟩ := h3 (m + j) (by omega)
  simp at a
  obtain ⟨rfl, rfl⟩ := a
  refine ⟨g, off + m * 2, rfl, b, ?_, ?_⟩
  · rw [List.getElem_drop, ← c, Nat.add_mul, ← Nat.add_assoc]
  · rw [List.getElem_drop, ← d, Nat.add_mul, ← Nat.add_assoc]

/-- A run's two cells. -/
def rc (p : Nat × Nat) : List Value := [.int .i64 (p.1 : Int), .int .i64 (p.2 : Int)]
def cellsR (L : List (Nat × Nat)) : List Value := L.flatMap rc

theorem cellsR_snoc (L : List (Nat × Nat)) (p : Nat × Nat) : cellsR L ++ [.int .i64 (p.1 : Int), .int .i64 (p.2 : Int)] = cellsR (L ++ [p]) := by
  simp [cellsR, rc]

theorem cellsR_at (L : List (Nat × Nat)) (j : Nat) (h : j < L.length) : (cellsR L)[j * 2]? = some (.int .i64 (L[j].1 : Int)) ∧ (cellsR L)[j * 2 + 1]? = some (.int .i64 (L[j].2 : Int)) := by
  induction L generalizing j with
  | nil => cases h
  | cons p L ih =>
    cases j with
    | zero => simp [cellsR, rc]
    | succ j =>
      have h' : j < L.length := by simpa using h
      have := ih j h'
      have e : cellsR (p :: L) = .int .i64 (p.1 : Int) :: .int .i64 (p.2 : Int) :: cellsR L := rfl
      rw [e, show (j + 1) * 2 = j * 2 + 1 + 1 from by omega, show j * 2 + 1 + 1 + 1 = (j * 2 + 1) + 1 + 1 from rfl]
      simp only [List.getElem?_cons_succ, List.getElem_cons_succ]
      exact this

theorem seesR_of_owns {w : World} {base : Nat} {v : Value} {L : List (Nat × Nat)} (h : w.ownsRow base 57 2 v L.length (cellsR L)) : SeesR w v L := by
  rcases h.2 with ⟨rfl, hn⟩ | ⟨g, cap, cur, rfl, hb, hg, hnc, hcm, hcs, htake⟩
  · have : L = [] := List.eq_nil_of_length_eq_zero hn
    subst this
    exact ⟨none, 0, rfl, by simp, by unfold maxLen; omega, fun j h => absurd h (by simp)⟩
  · refine ⟨some ⟨g, 0, none⟩, cap, by simp, by simpa using hnc, hcm, fun j hj => ⟨g, 0, rfl, (Array.getElem?_eq_some_iff.1 hg).1, ?_, ?_⟩⟩
    · rw [Nat.zero_add, h.cellAt (j * 2) (by omega), (cellsR_at L j hj).1]
    · rw [Nat.zero_add, h.cellAt (j * 2 + 1) (by omega), (cellsR_at L j hj).2]

theorem Try.info57 : (Try.prog.info? 57).map (fun i => (i.zero, i.size, i.bytes)) = some (some (.agg #[.int .i64 0, .int .i64 0]), 2, 16) := by kernel_rfl

theorem owns_drewN {w : World} {base : Nat} {e : TypeId} {size : Nat} {v : Value} {n : Nat} {xs : List Value} (h : w.ownsRow base e size v n xs) (q : Nat) : (w.drewN q).ownsRow base e size v n xs := h

def le (p q : Nat × Nat) : Bool := decide (p.1 ≤ q.1)

theorem rises_pw : ∀ (I : List (Nat × Nat)), M.Rises I ↔ I.Pairwise (fun p q => le p q = true) := by
  intro I
  induction I with
  | nil => exact ⟨fun _ => List.Pairwise.nil, fun _ => trivial⟩
  | cons p t ih =>
    rw [List.pairwise_cons, ← ih]
    constructor
    · rintro ⟨a, b⟩; exact ⟨fun q hq => by simp [le, a q hq], b⟩
    · rintro ⟨a, b⟩; exact ⟨fun q hq => by have := a q hq; simpa [le] using this, b⟩

theorem merge_rises {A B : List (Nat × Nat)} (hA : M.Rises A) (hB : M.Rises B) : M.Rises (List.merge A B le) := by
  rw [rises_pw] at *
  refine List.pairwise_merge (le := le) (fun a b c h1 h2 => ?_) (fun a b => ?_) A B hA hB
  · simp [le] at *; omega
  · simp [le]; omega

theorem merge_left {A B : List (Nat × Nat)} {a b : Nat} {p : Nat × Nat} (ha : A[a]? = some p) (h : ∀ q, B[b]? = some q → p.1 ≤ q.1) :
    List.merge (A.drop a) (B.drop b) le = p :: List.merge (A.drop (a + 1)) (B.drop b) le := by
  have h1 : a < A.length := (List.getElem?_eq_some_iff.1 ha).1
  have e1 := (List.getElem?_eq_some_iff.1 ha).2
  rw [List.drop_eq_getElem_cons h1, e1]
  rcases Nat.lt_or_ge b B.length with hb | hb
  · rw [List.drop_eq_getElem_cons hb]
    rw [List.cons_merge_cons_pos]
    have := h _ (List.getElem?_eq_getElem hb)
    simp [le, this]
  · rw [List.drop_eq_nil_of_le hb]; simp

theorem merge_right' {A B : List (Nat × Nat)} {a b : Nat} {q : Nat × Nat} (hb : B[b]? = some q) (h : ∀ p, A[a]? = some p → ¬ p.1 ≤ q.1) :
    List.merge (A.drop a) (B.drop b) le = q :: List.merge (A.drop a) (B.drop (b + 1)) le := by
  have h1 : b < B.length := (List.getElem?_eq_some_iff.1 hb).1
  have e1 := (List.getElem?_eq_some_iff.1 hb).2
  rw [List.drop_eq_getElem_cons h1, e1]
  rcases Nat.lt_or_ge a A.length with ha | ha
  · rw [List.drop_eq_getElem_cons ha]
    rw [List.cons_merge_cons_neg]
    have := h _ (List.getElem?_eq_getElem ha)
    simp [le]; omega
  · rw [List.drop_eq_nil_of_le ha]; simp

theorem run_step {w0 wr w3 : World} {B e n : Nat} {v : Value} {xs : List Value} {o : Obj} {q size : Nat} (hB : B ≤ wr.heap.size) (hb : Below B w0 wr) (hown : wr.ownsRow B e size v n xs) (hg : ((wr.drewN q).alloc o).grownBy w3 v.ownBlock) : Below B w0 w3 :=
  ((below_drewN hb q).alloc hB o).grown hg (by simp; exact Nat.le_succ_of_le hB) (fun k hk => (hown.lt k hk).1)

def SortedSaid (N : Nat) : Prop := ∀ (I : List (Nat × Nat)) (v : Value) (w : World), I.length ≤ N → I.length ≤ 4096 → SeesR w v I →
    Calls Try.prog 31 #[v] w fun e w' => ∃ v' J, e = .returned v' ∧ SeesR w' v' J ∧ J.Perm I ∧ M.Rises J ∧ Below w.heap.size w w'

theorem sorted_small (I : List (Nat × Nat)) (v : Value) (w : World) (h2 : I.length < 2) (hs : SeesR w v I) :
    Calls Try.prog 31 #[v] w fun e w' => ∃ v' J, e = .returned v' ∧ SeesR w' v' J ∧ J.Perm I ∧ M.Rises J ∧ Below w.heap.size w w' := by
  obtain ⟨ao, n, cap, rfl, HN, hnc, hcap⟩ := hs.shape
  have hn2 : n < 2 := by rw [HN.out]; exact h2
  have HR : Hid (M.Rises I) := by
    match I, h2 with
    | [], _ => trivial
    | [p], _ => exact ⟨fun q hq => absurd hq (by simp), trivial⟩
  go_enter Try.func31, Try.ntmps31
  go_wp2
  go_ret
  exact ⟨_, I, rfl, hs, List.Perm.refl _, HR, Below.refl _ _⟩

set_option maxHeartbeats 2000000 in
theorem sorted_step (N : Nat) (ih : Hid (SortedSaid N)) (I : List (Nat × Nat)) (v : Value) (w : World) (hN : I.length ≤ N + 1) (h4 : I.length ≤ 4096) (h2 : ¬ I.length < 2) (hs : SeesR w v I) :
    Calls Try.prog 31 #[v] w fun e w' => ∃ v' J, e = .returned v' ∧ SeesR w' v' J ∧ J.Perm I ∧ M.Rises J ∧ Below w.heap.size w w' := by
  obtain ⟨ao, n, cap, rfl, HN, hnc, hcap⟩ := hs.shape
  have hn2 : ¬ n < 2 := by rw [HN.out]; exact h2
  have hn4 : n ≤ 4096 := by rw [HN.out]; exact h4
  have hnN : n ≤ N + 1 := by rw [HN.out]; exact hN
  unfold maxLen at hcap
  obtain ⟨g, off, p, rfl, hg, c0, c1, HP⟩ := hs.at 0 (by omega)
  clear c0 c1 HP h2 h4 hN
  go_enter Try.func31, Try.ntmps31
  go_wp2_with fail
  refine (ih.out (I.take (n / 2)) _ _ (by rw [List.length_take]; omega) (by rw [List.length_take]; omega) (hs.front (by omega))).mono ?_
  rintro e w1 ⟨v1, A, rfl, hsA, hpA, hrA, hb1⟩
  have hlA : A.length = n / 2 := by rw [hpA.length_eq, List.length_take, ← HN.out]; omega
  go_wp2_with fail
  refine (ih.out (I.drop (n / 2)) _ _ (by rw [List.length_drop, ← HN.out]; omega) (by rw [List.length_drop, ← HN.out]; omega) ((hs.below hb1).back (by omega))).mono ?_
  rintro e w2 ⟨v2, B, rfl, hsB0, hpB, hrB, hb2⟩
  have hlB : B.length = n - n / 2 := by rw [hpB.length_eq, List.length_drop, ← HN.out]
  have hbb : Below w.heap.size w w2 := hb1.trans (hb2.mono hb1.size)
  have hsA0 := hsA.below hb2
  have HF : Hid ((List.merge A B le).Perm I ∧ M.Rises (List.merge A B le)) := by
    refine ⟨?_, merge_rises hrA hrB⟩
    refine List.Perm.trans (List.merge_perm_append (le := le)) ?_
    have := List.Perm.append hpA hpB
    rwa [List.take_append_drop] at this
  obtain ⟨ao1, na, cap1, rfl, HN1, hnc1, hcap1⟩ := hsA0.shape
  obtain ⟨ao2, nb, cap2, rfl, HN2, hnc2, hcap2⟩ := hsB0.shape
  unfold maxLen at hcap1 hcap2
  have hna : na ≤ 4096 := by have := HN1.out; omega
  have hnb : nb ≤ 4096 := by have := HN2.out; omega
  obtain ⟨i0, hi0, hz0, hz1, hz2⟩ := info_parts Try.info57
  have HI : Hid (Try.prog.info? 57 = some i0) := hi0
  clear hi0 hpA hpB hrA hrB hs hsA hlA hlB hnN hn2 hb1 hb2
  go_wp2_with fail
  go_loopw [5, 6, 7] (fun m i j wr => ∃ (a b : Nat) (acc : List (Nat × Nat)), i = .int .i64 a ∧ j = .int .i64 b ∧ a ≤ na ∧ b ≤ nb ∧ Hid (acc.length = a + b) ∧ Hid (acc ++ List.merge (A.drop a) (B.drop b) le = List.merge A B le) ∧ wr.ownsRow w2.heap.size 57 2 m acc.length (cellsR acc) ∧ Below w2.heap.size w2 wr) (fun _ i j _ => na + nb - ((intOf i).toNat + (intOf j).toNat))
  case atStart => exact ⟨0, 0, [], rfl, rfl, by omega, by omega, rfl, rfl, World.ownsRow_nil _ _ _ _, Below.refl _ _⟩
  case round =>
    obtain ⟨a, b, acc, rfl, rfl, ha, hb, HL, HM, hown, hbr⟩ := hrel
    have hal : acc.length ≤ 8192 := by have := HL.out; omega
    by_cases haa : a < na
    · obtain ⟨g1, o1, p, rfl, hg1, c0, c1, HP⟩ := (hsA0.below hbr).at a haa
      by_cases hbb2 : b < nb
      · obtain ⟨g2, o2, q, rfl, hg2, d0, d1, HQ⟩ := (hsB0.below hbr).at b hbb2
        have hq0 : ((b : Int) == (nb : Int)) = false := by simp; omega
        have hq1 : decide ((a : Int) < (na : Int)) = true := by simp; omega
        by_cases hle : p.1 ≤ q.1
        · have hq2 : decide ((p.1 : Int) ≤ (q.1 : Int)) = true := by simp; omega
          have HM2 : Hid ((acc ++ [p]) ++ List.merge (A.drop (a + 1)) (B.drop b) le = List.merge A B le) := by
            have h1 := HM.out
            rw [merge_left HP.out (fun r hr => by have h3 := HQ.out; rw [hr] at h3; simp at h3; rw [h3]; exact hle)] at h1
            unfold Hid; rw [List.append_assoc]; exact h1
          go_wp2
          go_quiet (fail)
          go_wp2_with (at_builtin; refine wpList_append_own _ rfl _ _ 53 rfl w2.heap.size 57 i0 (.agg #[.int .i64 0, .int .i64 0]) 2 16 Try.underlying53 HI.out hz0 hz1 hz2 rfl (by decide) _ _ _ rfl ((owns_drewN hown _).alloc _) ⟨wr.heap.size, 0, none⟩ 1 1 [.int .i64 (p.1 : Int), .int .i64 (p.2 : Int)] rfl rfl ?c1A ?c2A ?c3A ?c4A ?c5A ?_)
          case c1A => exact two_at rfl _ _ _
          case c2A => intro u hu; simp at hu; rcases hu with rfl | rfl <;> rfl
          case c3A => unfold maxLen; omega
          case c4A => omega
          case c5A => have := hbr.size; simp; omega
          · intro m3 w3 hown3 hgrow _
            have hb3 := run_step hbr.size hbr hown hgrow
            rw [cellsR_snoc] at hown3
            clear hgrow hown
            go_wp2
            go_roundw
            case rel => exact ⟨a + 1, b, acc ++ [p], by go_num, by go_num, by omega, by omega, by unfold Hid; rw [List.length_append, HL.out]; simp; omega, HM2, by rw [List.length_append]; exact hown3, hb3⟩
            case measure => simp [intOf]; omega
        · have hq2 : decide ((p.1 : Int) ≤ (q.1 : Int)) = false := by simp; omega
          have HM2 : Hid ((acc ++ [q]) ++ List.merge (A.drop a) (B.drop (b + 1)) le = List.merge A B le) := by
            have h1 := HM.out
            rw [merge_right' HQ.out (fun r hr => by have h3 := HP.out; rw [hr] at h3; simp at h3; rw [h3]; exact hle)] at h1
            unfold Hid; rw [List.append_assoc]; exact h1
          go_wp2
          go_quiet (fail)
          go_wp2_with (at_builtin; refine wpList_append_own _ rfl _ _ 53 rfl w2.heap.size 57 i0 (.agg #[.int .i64 0, .int .i64 0]) 2 16 Try.underlying53 HI.out hz0 hz1 hz2 rfl (by decide) _ _ _ rfl ((owns_drewN hown _).alloc _) ⟨wr.heap.size, 0, none⟩ 1 1 [.int .i64 (q.1 : Int), .int .i64 (q.2 : Int)] rfl rfl ?c1B ?c2B ?c3B ?c4B ?c5B ?_)
          case c1B => exact two_at rfl _ _ _
          case c2B => intro u hu; simp at hu; rcases hu with rfl | rfl <;> rfl
          case c3B => unfold maxLen; omega
          case c4B => omega
          case c5B => have := hbr.size; simp; omega
          · intro m3 w3 hown3 hgrow _
            have hb3 := run_step hbr.size hbr hown hgrow
            rw [cellsR_snoc] at hown3
            clear hgrow hown
            go_wp2
            go_roundw
            case rel => exact ⟨a, b + 1, acc ++ [q], by go_num, by go_num, by omega, by omega, by unfold Hid; rw [List.length_append, HL.out]; simp; omega, HM2, by rw [List.length_append]; exact hown3, hb3⟩
            case measure => simp [intOf]; omega
      · have hq0 : ((b : Int) == (nb : Int)) = true := by simp; omega
        have HM2 : Hid ((acc ++ [p]) ++ List.merge (A.drop (a + 1)) (B.drop b) le = List.merge A B le) := by
          have h1 := HM.out
          rw [merge_left HP.out (fun r hr => by have h3 := (List.getElem?_eq_some_iff.1 hr).1; have := HN2.out; omega)] at h1
          unfold Hid; rw [List.append_assoc]; exact h1
        go_wp2
        go_quiet (fail)
        go_wp2_with (at_builtin; refine wpList_append_own _ rfl _ _ 53 rfl w2.heap.size 57 i0 (.agg #[.int .i64 0, .int .i64 0]) 2 16 Try.underlying53 HI.out hz0 hz1 hz2 rfl (by decide) _ _ _ rfl ((owns_drewN hown _).alloc _) ⟨wr.heap.size, 0, none⟩ 1 1 [.int .i64 (p.1 : Int), .int .i64 (p.2 : Int)] rfl rfl ?c1C ?c2C ?c3C ?c4C ?c5C ?_)
        case c1C => exact two_at rfl _ _ _
        case c2C => intro u hu; simp at hu; rcases hu with rfl | rfl <;> rfl
        case c3C => unfold maxLen; omega
        case c4C => omega
        case c5C => have := hbr.size; simp; omega
        · intro m3 w3 hown3 hgrow _
          have hb3 := run_step hbr.size hbr hown hgrow
          rw [cellsR_snoc] at hown3
          clear hgrow hown
          go_wp2
          go_roundw
          case rel => exact ⟨a + 1, b, acc ++ [p], by go_num, by go_num, by omega, by omega, by unfold Hid; rw [List.length_append, HL.out]; simp; omega, HM2, by rw [List.length_append]; exact hown3, hb3⟩
          case measure => simp [intOf]; omega
    · by_cases hbb2 : b < nb
      · obtain ⟨g2, o2, q, rfl, hg2, d0, d1, HQ⟩ := (hsB0.below hbr).at b hbb2
        have hq0 : ((b : Int) == (nb : Int)) = false := by simp; omega
        have hq1 : decide ((a : Int) < (na : Int)) = false := by simp; omega
        have HM2 : Hid ((acc ++ [q]) ++ List.merge (A.drop a) (B.drop (b + 1)) le = List.merge A B le) := by
          have h1 := HM.out
          rw [merge_right' HQ.out (fun r hr => by have h3 := (List.getElem?_eq_some_iff.1 hr).1; have := HN1.out; omega)] at h1
          unfold Hid; rw [List.append_assoc]; exact h1
        go_wp2
        go_quiet (fail)
        go_wp2_with (at_builtin; refine wpList_append_own _ rfl _ _ 53 rfl w2.heap.size 57 i0 (.agg #[.int .i64 0, .int .i64 0]) 2 16 Try.underlying53 HI.out hz0 hz1 hz2 rfl (by decide) _ _ _ rfl ((owns_drewN hown _).alloc _) ⟨wr.heap.size, 0, none⟩ 1 1 [.int .i64 (q.1 : Int), .int .i64 (q.2 : Int)] rfl rfl ?c1D ?c2D ?c3D ?c4D ?c5D ?_)
        case c1D => exact two_at rfl _ _ _
        case c2D => intro u hu; simp at hu; rcases hu with rfl | rfl <;> rfl
        case c3D => unfold maxLen; omega
        case c4D => omega
        case c5D => have := hbr.size; simp; omega
        · intro m3 w3 hown3 hgrow _
          have hb3 := run_step hbr.size hbr hown hgrow
          rw [cellsR_snoc] at hown3
          clear hgrow hown
          go_wp2
          go_roundw
          case rel => exact ⟨a, b + 1, acc ++ [q], by go_num, by go_num, by omega, by omega, by unfold Hid; rw [List.length_append, HL.out]; simp; omega, HM2, by rw [List.length_append]; exact hown3, hb3⟩
          case measure => simp [intOf]; omega
      · have HE : Hid (acc = List.merge A B le) := by
          have h1 := HM.out
          rw [List.drop_eq_nil_of_le (by have := HN1.out; omega), List.drop_eq_nil_of_le (by have := HN2.out; omega)] at h1
          unfold Hid; simpa using h1
        go_wp2
        go_ret
        exact ⟨_, _, rfl, seesR_of_owns hown, by rw [HE.out]; exact HF.out.1, by rw [HE.out]; exact HF.out.2, hbb.trans (hbr.mono hbb.size)⟩

theorem sorted_any : ∀ N, SortedSaid N := by
  intro N
  induction N with
  | zero => intro I v w h1 h2 hs; exact sorted_small I v w (by omega) hs
  | succ N ih =>
    intro I v w h1 h4 hs
    by_cases h2 : I.length < 2
    · exact sorted_small I v w h2 hs
    · exact sorted_step N ih I v w h1 h4 h2 hs
end Go.Proofs.Ytenhofbhkchjoaa
