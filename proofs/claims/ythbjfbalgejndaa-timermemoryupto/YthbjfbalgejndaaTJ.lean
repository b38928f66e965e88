import Derived.Test.YthbjfbalgejndaaTI
namespace Go.Proofs.Ythbjfbalgejndaa
open Go.ChangeShapes Go.WideShapes Go.ChangeAt Go.RowKit Go.Maps H
set_option maxHeartbeats 1000000
set_option maxRecDepth 100000

theorem in64_of {x : Int} (h1 : -9223372036854775808 ≤ x) (h2 : x ≤ 9223372036854775807) : In64 x := ⟨h1, h2⟩

/-- A Timers that the call itself has made: all its blocks are new. -/
structure Tn (B : Nat) (w : World) (b bm : Nat) (go : Option Nat) (lim : Int) (S : List Dl) : Prop where
  tm : Tm w b bm go lim S
  new : ∀ x ∈ fp b bm go, B ≤ x

theorem fp_go {b bm : Nat} {go go' : Option Nat} {B n : Nat} (h : ∀ x ∈ fp b bm go, B ≤ x) (hB : B ≤ n) (hg : ∀ x ∈ go'.toList, x ∈ go.toList ∨ n ≤ x) : ∀ x ∈ fp b bm go', B ≤ x := fun x hx => by
  simp only [fp, List.mem_cons] at hx
  rcases hx with rfl | rfl | hx
  · exact h _ (by simp [fp])
  · exact h _ (by simp [fp])
  · rcases hg x hx with h1 | h1
    · exact h _ (by simp only [fp, List.mem_cons]; exact .inr (.inr h1))
    · omega

theorem begun_any (w : World) :
    Calls Try.prog 10 #[] w fun e w' => e = .returned (.bool true) ∧ Below w.heap.size w w' := by
  have HN := hid (new_good 2 w (by decide) (by decide))
  go_enter Try.func10, Try.ntmps10
  go_wp2_with fail
  refine HN.out.mono ?_
  rintro _ w1 ⟨b, bm, rfl, hT, hb1, hb2, _, hbw⟩
  have HS := hid (set_any b bm none 2 [] 7 20 w1 hT (in64_of (by decide) (by decide)) (in64_of (by decide) (by decide)))
  have HF : Hid (∀ x ∈ fp b bm none, w.heap.size ≤ x) := fun x hx => by simp [fp] at hx; rcases hx with rfl | rfl <;> assumption
  have HB1 := hid hbw
  clear hT hb1 hb2 hbw HN
  go_wp2_with fail
  refine HS.out.mono ?_
  rintro _ w2 ⟨go2, rfl, hT2, hg2, hf2⟩
  rw [show setE [] 2 7 = 0 from by decide]
  rw [show setR [] 2 (7, 20) = [(7, 20)] from by decide] at hT2
  have HB2 := hid (HB1.out.trans (hf2.below HF.out HB1.out.size))
  have HF2 := hid (fp_go HF.out HB1.out.size hg2)
  have HS2 := hid (set_any b bm go2 2 [(7, 20)] 5 20 w2 hT2 (in64_of (by decide) (by decide)) (in64_of (by decide) (by decide)))
  clear hT2 hg2 hf2 HS
  go_wp2_with fail
  refine HS2.out.mono ?_
  rintro _ w3 ⟨go3, rfl, hT3, hg3, hf3⟩
  rw [show setE [(7, 20)] 2 5 = 0 from by decide]
  rw [show setR [(7, 20)] 2 (5, 20) = [(5, 20), (7, 20)] from by decide] at hT3
  have HB3 := hid (HB2.out.trans (hf3.below HF2.out HB2.out.size))
  have HF3 := hid (fp_go HF2.out HB2.out.size hg3)
  have HS3 := hid (set_any b bm go3 2 [(5, 20), (7, 20)] 6 1 w3 hT3 (in64_of (by decide) (by decide)) (in64_of (by decide) (by decide)))
  clear hT3 hg3 hf3 HS2
  go_wp2_with fail
  refine HS3.out.mono ?_
  rintro _ w4 ⟨go4, rfl, hT4, hg4, hf4⟩
  rw [show setE [(5, 20), (7, 20)] 2 6 = 4 from by decide]
  rw [show setR [(5, 20), (7, 20)] 2 (6, 1) = [(5, 20), (7, 20)] from by decide] at hT4
  have HB4 := hid (HB3.out.trans (hf4.below HF3.out HB3.out.size))
  have HNX := hid (next_any b bm go4 2 _ w4 hT4)
  clear hT4 hg4 hf4 HS3
  go_wp2_with fail
  refine HNX.out.mono ?_
  rintro _ w5 ⟨rfl, hb5⟩
  have HB5 := hid (HB4.out.trans (hb5.mono HB4.out.size))
  clear hb5
  unfold nextS
  go_wp2_with fail
  go_ret
  exact ⟨rfl, HB5.out⟩

/-- Whether two lists of numbers are the same. -/
theorem sameInts_any (v u : Value) (A B : List Int) (w : World) (hv : SeesI w v A) (hu : SeesI w u B) :
    Calls Try.prog 17 #[v, u] w fun e w' => e = .returned (.bool (decide (A = B))) ∧ Below w.heap.size w w' := by
  obtain ⟨va, n, vc, rfl, HN, hn1, hn2⟩ := hv.shape
  obtain ⟨ua, m, uc, rfl, HM, hm1, hm2⟩ := hu.shape
  have HV := hid hv
  have HU := hid hu
  unfold maxLen at hn2 hm2
  obtain ⟨R, hR⟩ : ∃ R, R = decide (A = B) := ⟨_, rfl⟩
  have HR := hid hR
  rw [← hR]
  clear hv hu hR
  by_cases hnm : n = m
  · subst hnm
    go_enter Try.func17, Try.ntmps17
    go_wp2_with fail
    go_loopw [5] (fun i wv => ∃ (k : Nat) (wr : World), wr = wv ∧ i = .int .i64 k ∧ k ≤ n ∧ Hid (A.take k = B.take k) ∧ Hid (Below w.heap.size w wr)) (fun i _ => n - (intOf i).toNat)
    case atStart => exact ⟨0, _, rfl, rfl, by omega, by simp [Hid], Below.refl _ _⟩
    case round =>
      obtain ⟨k, wr, rfl, rfl, hk, HE, HB⟩ := hrel
      by_cases hlt : k < n
      · obtain ⟨g1, o1, p1, rfl, _, c1, _, H1⟩ := (HV.out.below HB.out).at k hlt
        obtain ⟨g2, o2, p2, rfl, _, c2, _, H2⟩ := (HU.out.below HB.out).at k hlt
        by_cases hp : p1 = p2
        · have hq : (p1 != p2) = false := by simp [hp]
          have HE2 : Hid (A.take (k + 1) = B.take (k + 1)) := by
            unfold Hid; rw [List.take_add_one, List.take_add_one, HE.out, H1.out, H2.out, hp]
          clear hp
          go_wp2
          go_region
          go_wp2
          go_roundw
          case rel => exact ⟨k + 1, _, rfl, by go_num, by omega, HE2, below_drew HB.out⟩
          case measure => simp [intOf]; omega
        · have hq : (p1 != p2) = true := by simp [hp]
          have HF : Hid (R = false) := by
            unfold Hid; rw [HR.out]
            refine decide_eq_false fun e => hp ?_
            have := H1.out
            rw [e, H2.out] at this
            simpa using this.symm
          clear hp
          go_wp2
          go_region
          go_wp2
          go_ret
          exact ⟨ret_bool (by rw [HF.out]), below_drew HB.out⟩
      · have HF : Hid (R = true) := by
          unfold Hid; rw [HR.out]
          refine decide_eq_true ?_
          have := HE.out
          rwa [List.take_of_length_le (by have := HN.out; omega), List.take_of_length_le (by have := HM.out; omega)] at this
        go_wp2_with fail
        go_ret
        exact ⟨ret_bool (by rw [HF.out]), HB.out⟩
  · have HF : Hid (R = false) := by
      unfold Hid; rw [HR.out]
      exact decide_eq_false fun e => hnm (by rw [HN.out, HM.out, e])
    have hq : ((n : Int) != (m : Int)) = true := by simp; omega
    clear hnm
    go_enter Try.func17, Try.ntmps17
    go_wp2_with fail
    go_ret
    exact ⟨ret_bool (by rw [HF.out]), Below.refl _ _⟩

/-! ### lists of pairs -/
/-- The slice value v shows, in the world w, the pairs L. -/
def SeesP (w : World) (v : Value) (L : List Dl) : Prop :=
  ∃ ao cap, v = .slice ao L.length cap ∧ L.length ≤ cap ∧ cap ≤ maxLen ∧
    ∀ j (h : j < L.length), ∃ g off, ao = some ⟨g, off, none⟩ ∧ g < w.heap.size ∧ w.cell? ⟨g, off + j * 2, none⟩ = some (.int .i64 L[j].1) ∧ w.cell? ⟨g, off + j * 2 + 1, none⟩ = some (.int .i64 L[j].2) ∧ In64 L[j].1 ∧ In64 L[j].2

theorem SeesP.shape {w : World} {v : Value} {L : List Dl} (h : SeesP w v L) : ∃ ao n cap, v = .slice ao n cap ∧ Hid (n = L.length) ∧ n ≤ cap ∧ cap ≤ maxLen := by
  obtain ⟨ao, cap, hv, h1, h2, _⟩ := h
  exact ⟨ao, L.length, cap, hv, rfl, h1, h2⟩

theorem SeesP.at {w : World} {ao : Option Addr} {n cap : Nat} {L : List Dl} (h : SeesP w (.slice ao n cap) L) (j : Nat) (hj : j < n) : ∃ (g off : Nat) (d : Dl), ao = some ⟨g, off, none⟩ ∧ g < w.heap.size ∧ w.cell? ⟨g, off + j * 2, none⟩ = some (.int .i64 d.1) ∧ w.cell? ⟨g, off + j * 2 + 1, none⟩ = some (.int .i64 d.2) ∧ (In64 d.1 ∧ In64 d.2) ∧ Hid (L[j]? = some d) := by
  obtain ⟨ao', cap', hv, h1, h2, h3⟩ := h
  simp at hv
  obtain ⟨rfl, rfl, rfl⟩ := hv
  obtain ⟨g, off, a, b, c, d, e, f⟩ := h3 j hj
  exact ⟨g, off, L[j], a, b, c, d, ⟨e, f⟩, List.getElem?_eq_getElem hj⟩

theorem SeesP.below {w w' : World} {v : Value} {L : List Dl} (h : SeesP w v L) (hb : Below w.heap.size w w') : SeesP w' v L := by
  obtain ⟨ao, cap, hv, h1, h2, h3⟩ := h
  refine ⟨ao, cap, hv, h1, h2, fun j hj => ?_⟩
  obtain ⟨g, off, ha, hg, c0, c1, c2, c3⟩ := h3 j hj
  exact ⟨g, off, ha, Nat.lt_of_lt_of_le hg hb.size, (hb.cell (p := ⟨g, _, none⟩) hg).trans c0, (hb.cell (p := ⟨g, _, none⟩) hg).trans c1, c2, c3⟩

theorem SeesP.in64 {w : World} {v : Value} {L : List Dl} (h : SeesP w v L) : ∀ x ∈ L, In64 x.1 ∧ In64 x.2 := by
  obtain ⟨ao, cap, hv, h1, h2, h3⟩ := h
  intro x hx
  obtain ⟨j, hj, rfl⟩ := List.mem_iff_getElem.1 hx
  obtain ⟨_, _, _, _, _, _, e, f⟩ := h3 j hj
  exact ⟨e, f⟩

/-- A list of pairs of the call's own. -/
def OwnP (w : World) (base : Nat) (v : Value) (L : List Dl) : Prop := w.ownsRow base 35 2 v L.length (ds L)

theorem ownP_nil (w : World) (base : Nat) : OwnP w base (.slice none 0 0) [] := World.ownsRow_nil _ _ _ _

theorem OwnP.sees {w : World} {base : Nat} {v : Value} {L : List Dl} (h : OwnP w base v L) (hb : ∀ x ∈ L, In64 x.1 ∧ In64 x.2) : SeesP w v L := by
  rcases h.2 with ⟨rfl, hn⟩ | ⟨g, cap, cur, rfl, _, hg, hnc, hcm, hcs, ht⟩
  · have : L = [] := List.eq_nil_of_length_eq_zero hn
    subst this
    exact ⟨none, 0, rfl, by simp, by unfold maxLen; omega, fun j h => absurd h (by simp)⟩
  · refine ⟨some ⟨g, 0, none⟩, cap, rfl, hnc, hcm, fun j hj => ?_⟩
    obtain ⟨d1, d2⟩ := ds_at L j hj
    have e : at' L j = L[j] := by unfold at'; rw [List.getD_eq_getElem?_getD, List.getElem?_eq_getElem hj]; rfl
    rw [e] at d1 d2
    rw [← ht, List.getElem?_take_of_lt (by omega), Array.getElem?_toList] at d1 d2
    have hin := hb _ (List.getElem_mem hj)
    exact ⟨g, 0, rfl, (Array.getElem?_eq_some_iff.1 hg).1, by rw [Nat.zero_add, cell_of_row _ _ _ _ _ _ hg]; exact d1, by rw [Nat.zero_add, cell_of_row _ _ _ _ _ _ hg]; exact d2, hin.1, hin.2⟩

theorem OwnP.below {w w' : World} {base : Nat} {v : Value} {L : List Dl} (h : OwnP w base v L) (hb : Below w.heap.size w w') : OwnP w' base v L := by
  refine ⟨h.1, ?_⟩
  rcases h.2 with hn | ⟨g, cap, cur, rfl, hb', hg, rest⟩
  · exact .inl hn
  · exact .inr ⟨g, cap, cur, rfl, hb', (hb.block g (Array.getElem?_eq_some_iff.1 hg).1).trans hg, rest⟩

theorem info35 : (Try.prog.info? 35).map (fun i => (i.zero, i.size, i.bytes)) = some (some (.agg #[.int .i64 0, .int .i64 0]), 2, 16) := by kernel_rfl

theorem two_new (w : World) (x y : Value) (t : TypeId) : ∀ j u, [x, y][j]? = some u → (w.alloc (.cells #[x, y] t)).cell? ((⟨w.heap.size, 0, none⟩ : Addr).add j) = some u := by
  intro j u hj
  have hb := heap_alloc_new w (.cells #[x, y] t)
  have key : ∀ j, (w.alloc (.cells #[x, y] t)).cell? ⟨w.heap.size, j, none⟩ = (#[x, y] : Array Value)[j]? := fun j => cell_of_row _ _ _ _ _ _ hb
  match j, hj with
  | 0, hj => cases hj; exact key 0
  | 1, hj => cases hj; exact key 1
end Go.Proofs.Ythbjfbalgejndaa
