import Derived.Test.YthbjfbalgejndaaTP
namespace Go.Proofs.Ythbjfbalgejndaa
open Go.ChangeShapes Go.WideShapes Go.ChangeAt Go.RowKit Go.Maps H
set_option maxHeartbeats 2000000
set_option maxRecDepth 100000

/-- The document's own Timers at rest: it lies at b, its row at go; it holds R. -/
structure Rf (w : World) (b : Nat) (go : Option Nat) (lim : Int) (R : List Dl) : Prop where
  ex : ∃ v, w.heap[b]? = some (.cells #[.int .i64 lim, v] 73 (0, 0)) ∧ w.ownsRow 0 76 2 v R.length (ds R) ∧ v.ownBlock = go
  ids : Ids R
  in64 : ∀ x ∈ R, In64 x.1 ∧ In64 x.2
  lo : 1 ≤ lim
  hi : lim ≤ 65536
  fits : (R.length : Int) ≤ lim

def fpR (b : Nat) (go : Option Nat) : List Nat := b :: go.toList

structure RfG (w : World) (b : Nat) (ao : Option Addr) (n cap : Nat) (R : List Dl) : Prop where
  at1 : w.cell? ⟨b, 1, none⟩ = some (.slice ao n cap)
  cell : ∀ j, j < n → ∃ g, ao = some ⟨g, 0, none⟩ ∧ g ≠ b ∧ g < w.heap.size ∧ w.cell? ⟨g, j * 2, none⟩ = some (.int .i64 (at' R j).1) ∧ w.cell? ⟨g, j * 2 + 1, none⟩ = some (.int .i64 (at' R j).2) ∧ ∀ k, w.frozen? ⟨g, k, none⟩ = false
  lc : n ≤ cap
  cm : cap ≤ 9223372036854775807

theorem Rf.grip {w : World} {b : Nat} {go : Option Nat} {lim : Int} {R : List Dl} (h : Rf w b go lim R) :
    ∃ ao n cap, Hid (n = R.length) ∧ n ≤ 65536 ∧ (Value.slice ao n cap).ownBlock = go ∧ w.heap[b]? = some (.cells #[.int .i64 lim, .slice ao n cap] 73 (0, 0)) ∧ RfG w b ao n cap R ∧ w.ownsRow 0 76 2 (.slice ao n cap) n (ds R) := by
  have h1 := h.hi
  have h2 := h.fits
  obtain ⟨v, hr, ho, hg⟩ := h.ex
  rcases ho.2 with ⟨rfl, hn⟩ | ⟨g, cap, cur, rfl, _, hgg, hnc, hcm, hcs, ht⟩
  · rw [hn] at ho
    exact ⟨none, 0, 0, hn.symm, by omega, hg, hr, ⟨by rw [cell_of_row _ _ _ _ _ _ hr]; rfl, fun j hj => absurd hj (by omega), by omega, by omega⟩, ho⟩
  · refine ⟨some ⟨g, 0, none⟩, R.length, cap, rfl, by omega, hg, hr, ⟨by rw [cell_of_row _ _ _ _ _ _ hr]; rfl, fun j hj => ?_, hnc, by unfold maxLen at hcm; omega⟩, ho⟩
    obtain ⟨d1, d2⟩ := ds_at R j hj
    rw [← ht, List.getElem?_take_of_lt (by omega), Array.getElem?_toList] at d1 d2
    refine ⟨g, rfl, fun e => ?_, (Array.getElem?_eq_some_iff.1 hgg).1, by rw [cell_of_row _ _ _ _ _ _ hgg]; exact d1, by rw [cell_of_row _ _ _ _ _ _ hgg]; exact d2, fun k => frozen_of_row _ _ _ _ _ hgg⟩
    rw [e, hr] at hgg; cases hgg

theorem Rf.lt {w : World} {b : Nat} {go : Option Nat} {lim : Int} {R : List Dl} (h : Rf w b go lim R) : ∀ x ∈ fpR b go, x < w.heap.size := by
  intro x hx
  obtain ⟨v, hr, ho, hg⟩ := h.ex
  simp only [fpR, List.mem_cons] at hx
  rcases hx with rfl | hx
  · exact (Array.getElem?_eq_some_iff.1 hr).1
  · rcases ho.2 with ⟨rfl, _⟩ | ⟨g, cap, cur, rfl, _, hgg, _⟩
    · rw [← hg] at hx; simp [Value.ownBlock] at hx
    · rw [← hg] at hx; simp [Value.ownBlock] at hx; subst hx; exact (Array.getElem?_eq_some_iff.1 hgg).1

theorem Rf.fr {w w' : World} {F : List Nat} {b : Nat} {go : Option Nat} {lim : Int} {R : List Dl} (h : Rf w b go lim R) (hf : Fr F w w') (hd : ∀ x ∈ fpR b go, x ∉ F) : Rf w' b go lim R := by
  have hlt := h.lt
  refine ⟨?_, h.ids, h.in64, h.lo, h.hi, h.fits⟩
  obtain ⟨v, hr, ho, hg⟩ := h.ex
  refine ⟨v, (hf.block b (hlt b (by simp [fpR])) (hd b (by simp [fpR]))).trans hr, ⟨ho.1, ?_⟩, hg⟩
  rcases ho.2 with hn | ⟨g, cap, cur, rfl, hb, hgg, rest⟩
  · exact .inl hn
  · have hgo : go = some g := hg.symm
    exact .inr ⟨g, cap, cur, rfl, hb, (hf.block g (hlt g (by simp [fpR, hgo])) (hd g (by simp [fpR, hgo]))).trans hgg, rest⟩

theorem Rf.below {w w' : World} {b : Nat} {go : Option Nat} {lim : Int} {R : List Dl} (h : Rf w b go lim R) (hb : Below w.heap.size w w') : Rf w' b go lim R :=
  h.fr (Fr.of_below hb []) (by simp)

theorem rnew_good (n : Int) (w : World) (h1 : 1 ≤ n) (h2 : n ≤ 65536) :
    Calls Try.prog 24 #[.int .i64 n] w fun e w' => ∃ b, e = .returned (.tuple #[.pointer (some ⟨b, 0, none⟩), .int .i64 0]) ∧ Rf w' b none n [] ∧ w.heap.size ≤ b ∧ Below w.heap.size w w' := by
  obtain ⟨w2, hw2⟩ : ∃ w2, w2 = w.alloc (.cells #[.int .i64 n, .slice none 0 0] 73) := ⟨_, rfl⟩
  have hb2 : Below w.heap.size w w2 := by rw [hw2]; exact (Below.refl _ _).alloc (Nat.le_refl _) _
  have hr : w2.heap[w.heap.size]? = some (.cells #[.int .i64 n, .slice none 0 0] 73 (0, 0)) := by rw [hw2]; exact heap_alloc_new w _
  have HT : Hid (Rf w2 w.heap.size none n []) := ⟨⟨.slice none 0 0, hr, World.ownsRow_nil _ _ _ _, rfl⟩, List.Pairwise.nil, by simp, h1, h2, by simp; omega⟩
  have HB := hid hb2
  have HW := hid hw2
  clear hw2 hb2 hr
  go_enter Try.func24, Try.ntmps24
  go_wp2_with fail
  rw [← HW.out]
  go_ret2
  exact ⟨w.heap.size, rfl, HT.out, Nat.le_refl _, HB.out⟩

theorem rnew_bad (n : Int) (w : World) (h : n < 1 ∨ 65536 < n) :
    Calls Try.prog 24 #[.int .i64 n] w fun e w' => e = .returned (.tuple #[.pointer none, .int .i64 1]) ∧ w' = w := by
  by_cases h1 : n < 1
  · go_enter Try.func24, Try.ntmps24
    go_wp2_with fail
    go_ret2
    exact ⟨rfl, rfl⟩
  · have h2 : 65536 < n := by omega
    go_enter Try.func24, Try.ntmps24
    go_wp2_with fail
    go_ret2
    exact ⟨rfl, rfl⟩

theorem rlen_any (b : Nat) (go : Option Nat) (lim : Int) (R : List Dl) (w : World) (hT : Rf w b go lim R) :
    Calls Try.prog 34 #[.pointer (some ⟨b, 0, none⟩)] w fun e w' => e = .returned (.int .i64 (R.length : Int)) ∧ w' = w := by
  obtain ⟨ao, n, cap, HN, hn6, _, _, hG, _⟩ := hT.grip
  have k1 := hG.at1
  have h1 := hG.lc
  have h2 := hG.cm
  rw [← HN.out]
  clear hT hG
  go_enter Try.func34, Try.ntmps34
  go_wp2_with fail
  go_ret
  exact ⟨rfl, rfl⟩

/-- Where an id stands. -/
def PlaceAt (R : List Dl) (i z : Int) : Prop := (z = -1 ∧ ∀ x ∈ R, x.1 ≠ i) ∨ ∃ p : Nat, p < R.length ∧ z = (p : Int) ∧ (at' R p).1 = i

theorem place_any (b : Nat) (go : Option Nat) (lim : Int) (R : List Dl) (i : Int) (w : World) (hT : Rf w b go lim R) :
    Calls Try.prog 38 #[.pointer (some ⟨b, 0, none⟩), .int .i64 i] w fun e w' => ∃ z, e = .returned (.int .i64 z) ∧ PlaceAt R i z ∧ w' = w := by
  obtain ⟨ao, n, cap, HN, hn6, _, _, hG, _⟩ := hT.grip
  have k1 := hG.at1
  have h1 := hG.lc
  have h2 := hG.cm
  have HC := hid hG.cell
  clear hT hG
  go_enter Try.func38, Try.ntmps38
  go_wp2_with fail
  go_loopw [5] (fun t wv => ∃ (k : Nat) (wr : World), wr = wv ∧ t = .int .i64 k ∧ k ≤ n ∧ wr = w ∧ Hid (∀ p, p < k → (at' R p).1 ≠ i)) (fun t _ => n - (intOf t).toNat)
  case atStart => exact ⟨0, _, rfl, rfl, by omega, rfl, fun p hp => absurd hp (by omega)⟩
  case round =>
    obtain ⟨k, u, rfl, rfl, hk, hu, HP⟩ := hrel
    subst hu
    by_cases hlt : k < n
    · obtain ⟨g, rfl, _, _, c0, c1, _⟩ := HC.out k hlt
      by_cases heq : (at' R k).1 = i
      · have hq : ((at' R k).1 == i) = true := by simp [heq]
        have HPA : Hid (PlaceAt R i (k : Int)) := .inr ⟨k, by rw [← HN.out]; exact hlt, rfl, heq⟩
        clear heq c1 HP
        generalize (at' R k).1 = y at *
        go_wp2_with fail
        go_ret
        exact ⟨_, rfl, HPA.out, rfl⟩
      · have hq : ((at' R k).1 == i) = false := by simp [heq]
        have HP2 : Hid (∀ p, p < k + 1 → (at' R p).1 ≠ i) := fun p hp => by
          rcases Nat.lt_or_ge p k with h | h
          · exact HP.out p h
          · rw [show p = k by omega]; exact heq
        clear heq c1 HP
        generalize (at' R k).1 = y at *
        go_wp2_with fail
        go_roundw
        case rel => exact ⟨k + 1, _, rfl, by go_num, by omega, rfl, HP2⟩
        case measure => simp [intOf]; omega
    · have HPA : Hid (PlaceAt R i (-1)) := by
        refine .inl ⟨rfl, fun x hx e => ?_⟩
        obtain ⟨j, hj⟩ := List.mem_iff_getElem?.1 hx
        have hjl := (List.getElem?_eq_some_iff.1 hj).1
        have := at_get hjl
        rw [hj] at this
        exact HP.out j (by have := HN.out; omega) (by rw [← Option.some.inj this]; exact e)
      clear HP
      go_wp2_with fail
      go_ret
      exact ⟨_, rfl, HPA.out, rfl⟩

theorem when_end {R : List Dl} {i a b : Int} (h : whenS R i = (a, b)) : Ending.returned (.tuple #[.int .i64 a, .int .i64 b]) = .returned (.tuple #[.int .i64 (whenS R i).1, .int .i64 (whenS R i).2]) := by rw [h]
theorem int_end {a b : Int} (h : b = a) : Ending.returned (.int .i64 a) = .returned (.int .i64 b) := by rw [h]

theorem mem_at {R : List Dl} {p : Nat} (h : p < R.length) : at' R p ∈ R := List.mem_iff_getElem?.2 ⟨p, at_get h⟩

theorem idsM_of {R : List Dl} (h : Ids R) : IdsM R := by
  intro x hx y hy e
  obtain ⟨i, hi, rfl⟩ := List.mem_iff_getElem.1 hx
  obtain ⟨j, hj, rfl⟩ := List.mem_iff_getElem.1 hy
  rcases Nat.lt_trichotomy i j with h1 | h1 | h1
  · exact absurd e (List.pairwise_iff_getElem.1 h i j hi hj h1)
  · subst h1; rfl
  · exact absurd e.symm (List.pairwise_iff_getElem.1 h j i hj hi h1)

theorem rwhen_any (b : Nat) (go : Option Nat) (lim : Int) (R : List Dl) (i : Int) (w : World) (hT : Rf w b go lim R) :
    Calls Try.prog 31 #[.pointer (some ⟨b, 0, none⟩), .int .i64 i] w fun e w' => e = .returned (.tuple #[.int .i64 (whenS R i).1, .int .i64 (whenS R i).2]) ∧ w' = w := by
  have HPL := hid (place_any b go lim R i w hT)
  have HIDS := hid hT.ids
  obtain ⟨ao, n, cap, HN, hn6, _, _, hG, _⟩ := hT.grip
  have k1 := hG.at1
  have h1 := hG.lc
  have h2 := hG.cm
  have HC := hid hG.cell
  clear hT hG
  go_enter Try.func31, Try.ntmps31
  go_wp2_with fail
  refine HPL.out.mono ?_
  rintro _ y1 ⟨z, rfl, hz, e⟩
  obtain rfl := e.symm
  rcases hz with ⟨rfl, hz⟩ | ⟨p, hp, rfl, hpe⟩
  · have HWZ := hid (whenS_free hz)
    clear hz HPL
    go_wp2_with fail
    go_ret2
    exact ⟨when_end HWZ.out, rfl⟩
  · have hw := whenS_held (idsM_of HIDS.out) (mem_at hp)
    rw [hpe] at hw
    have HWZ := hid hw
    have hpn : p < n := by rw [HN.out]; exact hp
    obtain ⟨g, rfl, _, _, c0, c1, _⟩ := HC.out p hpn
    clear hw hpe HPL hp c0
    generalize (at' R p).2 = y at *
    go_wp2_with fail
    go_ret2
    exact ⟨when_end HWZ.out, rfl⟩
end Go.Proofs.Ythbjfbalgejndaa
