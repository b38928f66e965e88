import Derived.Test.YthbjfbalgejndaaTM
namespace Go.Proofs.Ythbjfbalgejndaa
open Go.ChangeShapes Go.WideShapes Go.ChangeAt Go.RowKit Go.Maps H
set_option maxHeartbeats 2000000
set_option maxRecDepth 100000

theorem set_room {S : List Dl} {lim : Int} (h : (S.length : Int) < lim) (i a : Int) : setE S lim i = 0 ∧ setR S lim (i, a) = setS S (i, a) := by
  unfold setE setR
  exact ⟨if_pos (.inr h), if_pos (.inr h)⟩

theorem both_any {B : Nat} {w : World} {b1 m1 : Nat} {g1 : Option Nat} {l1 : Int} {S1 : List Dl} {b2 m2 : Nat} {g2 : Option Nat} {l2 : Int} {S2 : List Dl} (h : Two B w b1 m1 g1 l1 S1 b2 m2 g2 l2 S2) (hB : B ≤ w.heap.size) (x a : Int) (hx : In64 x) (ha : In64 a) (r1 : (S1.length : Int) < l1) (r2 : (S2.length : Int) < l2) :
    Calls Try.prog 22 #[.pointer (some ⟨b1, 0, none⟩), .pointer (some ⟨b2, 0, none⟩), .agg #[.int .i64 x, .int .i64 a]] w fun e w' => ∃ g1' g2', e = .returned (.bool true) ∧ Two B w' b1 m1 g1' l1 (setS S1 (x, a)) b2 m2 g2' l2 (setS S2 (x, a)) ∧ Below B w w' := by
  obtain ⟨wa, hwa⟩ : ∃ wa, wa = w.alloc (.cells #[.int .i64 x, .int .i64 a] 35) := ⟨_, rfl⟩
  have hsa : wa.heap.size = w.heap.size + 1 := by rw [hwa]; simp
  have hba : Below w.heap.size w wa := by rw [hwa]; exact (Below.refl _ _).alloc (Nat.le_refl _) _
  have hr1 : wa.heap[w.heap.size]? = some (.cells #[.int .i64 x, .int .i64 a] 35 (0, 0)) := by rw [hwa]; exact heap_alloc_new w _
  have c0 : wa.cell? ⟨w.heap.size, 0, none⟩ = some (.int .i64 x) := by rw [cell_of_row _ _ _ _ _ _ hr1]; rfl
  have c1 : wa.cell? ⟨w.heap.size, 1, none⟩ = some (.int .i64 a) := by rw [cell_of_row _ _ _ _ _ _ hr1]; rfl
  have HWA : Hid (wa = w.alloc (.cells #[.int .i64 x, .int .i64 a] 35)) := hwa
  have ht := h.below hba
  have hBa : Below B w wa := hba.mono hB
  obtain ⟨s1, s1'⟩ := set_room r1 x a
  obtain ⟨s2, s2'⟩ := set_room r2 x a
  have HS1 : Hid (Calls Try.prog 13 #[.pointer (some ⟨b1, 0, none⟩), .int .i64 x, .int .i64 a] wa fun e w' => ∃ g, e = .returned (.int .i64 0) ∧ Two B w' b1 m1 g l1 (setS S1 (x, a)) b2 m2 g2 l2 S2 ∧ Below B w w' ∧ w'.cell? ⟨w.heap.size, 0, none⟩ = some (.int .i64 x) ∧ w'.cell? ⟨w.heap.size, 1, none⟩ = some (.int .i64 a)) := by
    have hs := set_any b1 m1 g1 l1 S1 x a wa ht.one hx ha
    rw [s1, s1'] at hs
    refine hs.mono ?_
    rintro e w' ⟨g, he, hT, hg, hf⟩
    obtain ⟨h1, h2⟩ := ht.step (by omega) hT hg hf
    have hbk : w'.heap[w.heap.size]? = some (.cells #[.int .i64 x, .int .i64 a] 35 (0, 0)) := (hf.block w.heap.size (by omega) (fun hm => by have := h.one.lt _ hm; omega)).trans hr1
    exact ⟨g, he, h1, hBa.trans h2, by rw [cell_of_row _ _ _ _ _ _ hbk]; rfl, by rw [cell_of_row _ _ _ _ _ _ hbk]; rfl⟩
  have HS2 : Hid (∀ w' g, Two B w' b1 m1 g l1 (setS S1 (x, a)) b2 m2 g2 l2 S2 → Below B w w' → Calls Try.prog 13 #[.pointer (some ⟨b2, 0, none⟩), .int .i64 x, .int .i64 a] w' fun e w'' => ∃ g', e = .returned (.int .i64 0) ∧ Two B w'' b1 m1 g l1 (setS S1 (x, a)) b2 m2 g' l2 (setS S2 (x, a)) ∧ Below B w w'') := fun w' g hT hb => by
    have hs := hT.swap.set1 (Nat.le_trans hB hb.size) x a hx ha
    rw [s2, s2'] at hs
    refine hs.mono ?_
    rintro e w'' ⟨g', he, ht', hb'⟩
    exact ⟨g', he, ht'.swap, hb.trans hb'⟩
  clear hwa hsa hba hr1 ht hBa s1 s1' s2 s2' h hx ha r1 r2
  go_enter Try.func22, Try.ntmps22
  go_upto_region 1 with fail
  rw [← HWA.out]
  go_wp2_with fail
  refine HS1.out.mono ?_
  rintro _ w1 ⟨g, rfl, hT1, hb1, k0, k1⟩
  have HC2 := hid (HS2.out w1 g hT1 hb1)
  clear hT1 hb1 HS1 HS2 c0 c1
  go_wp2_with fail
  refine HC2.out.mono ?_
  rintro _ w2 ⟨g', rfl, hT2, hb2⟩
  have HT2 := hid hT2
  have HB2 := hid hb2
  clear hT2 hb2 k0 k1
  go_wp2_with fail
  go_ret
  exact ⟨g, g', rfl, HT2.out, HB2.out⟩

theorem nextS_shape (S : List Dl) : ∃ p q r, nextS S = .tuple #[.int .i64 p, .int .i64 q, .int .i64 r] := by
  cases S <;> exact ⟨_, _, _, rfl⟩

theorem OwnI.shape {w : World} {base : Nat} {v : Value} {L : List Int} (h : OwnI w base v L) : ∃ ao cap, v = .slice ao L.length cap := by
  rcases h.2 with ⟨rfl, hn⟩ | ⟨g, cap, cur, rfl, _⟩
  · exact ⟨none, 0, by rw [hn]⟩
  · exact ⟨_, _, rfl⟩

/-- Both give what is due, the same list twice. -/
theorem Two.due2 {B : Nat} {w : World} {b1 m1 : Nat} {g1 : Option Nat} {l1 : Int} {S : List Dl} {b2 m2 : Nat} {g2 : Option Nat} {l2 : Int} (h : Two B w b1 m1 g1 l1 S b2 m2 g2 l2 S) (hB : B ≤ w.heap.size) (now : Int) (hn : In64 now) :
    Calls Try.prog 15 #[.pointer (some ⟨b1, 0, none⟩), .int .i64 now] w fun e w' => ∃ ao n cap, e = .returned (.slice ao n cap) ∧ n = (dueT S now).length ∧ Below B w w' ∧
      Calls Try.prog 15 #[.pointer (some ⟨b2, 0, none⟩), .int .i64 now] w' fun e w'' => ∃ ao2 n2 cap2, e = .returned (.slice ao2 n2 cap2) ∧ Below B w w'' ∧ Two B w'' b1 m1 g1 l1 (dueR S now) b2 m2 g2 l2 (dueR S now) ∧
        Calls Try.prog 17 #[.slice ao n cap, .slice ao2 n2 cap2] w'' fun e w3 => e = .returned (.bool true) ∧ Below w''.heap.size w'' w3 := by
  have hin : ∀ z ∈ (dueT S now).map (·.1), In64 z := fun z hz => by
    obtain ⟨y, hy, rfl⟩ := List.mem_map.1 hz
    obtain ⟨e1, _⟩ := dueT_take S now
    rw [e1] at hy
    exact (h.one.in64 y (List.mem_of_mem_take hy)).1
  refine (h.due1 hB now hn).mono ?_
  rintro e w' ⟨v, rfl, ho, ht, hb, hf⟩
  obtain ⟨ao, cap, rfl⟩ := ho.shape
  refine ⟨ao, _, cap, rfl, by rw [List.length_map], hb, ?_⟩
  have hB' : B ≤ w'.heap.size := Nat.le_trans hB hb.size
  refine (ht.swap.due1 hB' now hn).mono ?_
  rintro e w'' ⟨v2, rfl, ho2, ht2, hb2, hf2⟩
  obtain ⟨ao2, cap2, rfl⟩ := ho2.shape
  refine ⟨ao2, _, cap2, rfl, hb.trans hb2, ht2.swap, ?_⟩
  have ho1 := ho.fr hf2 h.two.lt
  have := sameInts_any _ _ _ _ w'' (ho1.sees hin) (ho2.sees hin)
  rw [decide_eq_true rfl] at this
  exact this

theorem alike_any {wB w : World} {b1 m1 : Nat} {g1 : Option Nat} {l1 : Int} {S : List Dl} {b2 m2 : Nat} {g2 : Option Nat} {l2 : Int} (h : Two wB.heap.size w b1 m1 g1 l1 S b2 m2 g2 l2 S) (hw : Below wB.heap.size wB w) (v : Value) (K : List Dl) (hv : SeesP wB v K) (hm : ∀ x ∈ K, x ∈ S) (hl : S.length = K.length) (now : Int) (hn : In64 now) :
    Calls Try.prog 23 #[.pointer (some ⟨b1, 0, none⟩), .pointer (some ⟨b2, 0, none⟩), v, .int .i64 now] w fun e w' => e = .returned (.bool true) ∧ Two wB.heap.size w' b1 m1 g1 l1 [] b2 m2 g2 l2 [] ∧ Below wB.heap.size wB w' := by
  obtain ⟨ao, n, cap, rfl, HN, hn1, hn2⟩ := hv.shape
  have HL1 := len_any b1 m1 g1 l1 S w h.one
  have HL2 := len_any b2 m2 g2 l2 S w h.two
  rw [hl, ← HN.out] at HL1 HL2
  have HL1 := hid HL1
  have HL2 := hid HL2
  have HV : Hid (SeesP w (.slice ao n cap) K) := hv.below hw
  have HM := hid hm
  have HT := hid h
  have HW := hid hw
  have HNOW := hid hn
  have HSL : Hid (S.length = n) := by unfold Hid; rw [hl, HN.out]
  have hqn : ((n : Int) != (n : Int)) = false := by simp
  unfold maxLen at hn2
  clear h hw hv hm hl hn
  go_enter Try.func23, Try.ntmps23
  go_wp2_with fail
  refine HL1.out.mono ?_
  rintro _ y1 ⟨rfl, e⟩
  obtain rfl := e.symm
  go_wp2_with fail
  refine HL2.out.mono ?_
  rintro _ y2 ⟨rfl, e⟩
  obtain rfl := e.symm
  clear HL1 HL2
  go_wp2_with fail
  go_loopw [9] (fun i wv => ∃ (k : Nat) (wr : World), wr = wv ∧ i = .int .i64 k ∧ k ≤ n ∧ wr = w) (fun i _ => n - (intOf i).toNat)
  case atStart => exact ⟨0, _, rfl, rfl, by omega, rfl⟩
  case round =>
    obtain ⟨k, u, rfl, rfl, hk, hu⟩ := hrel
    subst hu
    by_cases hlt : k < n
    · obtain ⟨g0, o0, d, rfl, hg0, e0, e1, hd, HD⟩ := HV.out.at k hlt
      have hmem : d ∈ S := HM.out d (List.mem_iff_getElem?.2 ⟨k, HD.out⟩)
      have hws := whenS_held HT.out.one.ids hmem
      have HW1 := when_any b1 m1 g1 l1 S d.1 u HT.out.one hd.1
      have HW2 := when_any b2 m2 g2 l2 S d.1 u HT.out.two hd.1
      rw [hws] at HW1 HW2
      have HW1 := hid HW1
      have HW2 := hid HW2
      have hqq : (d.2 != d.2) = false := by simp
      clear hmem hws hd HD
      generalize d.1 = z0 at *
      generalize d.2 = z1 at *
      go_wp2_with fail
      refine HW1.out.mono ?_
      rintro _ x1 ⟨rfl, e⟩
      obtain rfl := e.symm
      go_wp2_with fail
      refine HW2.out.mono ?_
      rintro _ x2 ⟨rfl, e⟩
      obtain rfl := e.symm
      clear HW1 HW2
      go_wp2_with fail
      go_roundw
      case rel => exact ⟨k + 1, _, rfl, by go_num, by omega, rfl⟩
      case measure => simp [intOf]; omega
    · have HN1 := next_any b1 m1 g1 l1 S u HT.out.one
      have HN2 : ∀ y, Below u.heap.size u y → Calls Try.prog 20 #[.pointer (some ⟨b2, 0, none⟩)] y fun e w' => e = .returned (nextS S) ∧ Below y.heap.size y w' := fun y hy => next_any b2 m2 g2 l2 S y (HT.out.two.below hy)
      obtain ⟨p, q, r, hns⟩ := nextS_shape S
      rw [hns] at HN1 HN2
      have HN1 := hid HN1
      have HN2 := hid HN2
      have hp : (p != p) = false := by simp
      have hq : (q != q) = false := by simp
      have hr : (r != r) = false := by simp
      clear hns HV
      go_wp2_with fail
      refine HN1.out.mono ?_
      rintro _ x1 ⟨rfl, hb1⟩
      have HN2' := hid (HN2.out x1 hb1)
      have HB1 := hid hb1
      clear hb1 HN1 HN2
      go_wp2_with fail
      refine HN2'.out.mono ?_
      rintro _ x2 ⟨rfl, hb2⟩
      have hb12 : Below u.heap.size u x2 := HB1.out.trans (hb2.mono HB1.out.size)
      have HT2 := hid (HT.out.below hb12)
      have HW2 := hid (HW.out.trans (hb12.mono HW.out.size))
      have HD1 := hid (HT2.out.due2 HW2.out.size now HNOW.out)
      clear hb2 hb12 HN2' HB1 HT HW
      go_wp2_with fail
      refine HD1.out.mono ?_
      rintro _ x3 ⟨ae, ed, ce, rfl, hed, hb3, hc3⟩
      have HC3 := hid hc3
      have hel : (dueR S now).length + ed = n := by
        obtain ⟨e1, e2⟩ := dueT_take S now
        rw [← hed] at e1 e2
        have h1 := congrArg List.length e1
        rw [List.length_take, ← hed, HSL.out] at h1
        rw [e2, List.length_drop, HSL.out]
        omega
      clear hc3 hed hb3 HD1
      go_wp2_with fail
      refine HC3.out.mono ?_
      rintro _ x4 ⟨af, fd, cf, rfl, hb4, ht4, hc4⟩
      have HC4 := hid hc4
      have HT4 := hid ht4
      have HW4 := hid (HW2.out.trans hb4)
      clear hc4 ht4 hb4 HC3 HT2 HW2
      go_wp2_with fail
      refine HC4.out.mono ?_
      rintro _ x5 ⟨rfl, hb5⟩
      have HT5 := hid (HT4.out.below hb5)
      have HW5 := hid (HW4.out.trans (hb5.mono HW4.out.size))
      have HL1 := len_any b1 m1 g1 l1 (dueR S now) x5 HT5.out.one
      have HL2 := len_any b2 m2 g2 l2 (dueR S now) x5 HT5.out.two
      have hall := due_all (S := dueR S now) (now := 9223372036854775807) (fun x hx => (HT5.out.one.in64 x hx).2.hi)
      have HD2 := HT5.out.due2 HW5.out.size 9223372036854775807 ⟨by decide, by decide⟩
      rw [hall.2] at HD2
      have HD2 := hid HD2
      have hej : (n : Int) - (ed : Int) = ((dueR S now).length : Int) := by omega
      generalize (dueR S now).length = rd at *
      have HL1 := hid HL1
      have HL2 := hid HL2
      have hqr : ((rd : Int) != (rd : Int)) = false := by simp
      have hedn : ed ≤ n := by omega
      clear hb5 HC4 HT4 HW4 hall
      go_wp2_with fail
      refine HL1.out.mono ?_
      rintro _ y3 ⟨rfl, e⟩
      obtain rfl := e.symm
      go_wp2_with fail
      refine HL2.out.mono ?_
      rintro _ y4 ⟨rfl, e⟩
      obtain rfl := e.symm
      go_wp2_with fail
      refine HL1.out.mono ?_
      rintro _ y5 ⟨rfl, e⟩
      obtain rfl := e.symm
      clear HL1 HL2
      go_wp2_with fail
      refine HD2.out.mono ?_
      rintro _ x6 ⟨a6, n6, c6, rfl, hn6, hb6, hc6⟩
      have HC6 := hid hc6
      clear hn6 hb6 hc6 HD2
      go_wp2_with fail
      refine HC6.out.mono ?_
      rintro _ x7 ⟨a7, n7, c7, rfl, hb7, ht7, hc7⟩
      have HC7 := hid hc7
      have HT7 := hid ht7
      have HW7 := hid (HW5.out.trans hb7)
      clear hb7 ht7 hc7 HC6 HT5 HW5
      go_wp2_with fail
      refine HC7.out.mono ?_
      rintro _ x8 ⟨rfl, hb8⟩
      have HT8 := hid (HT7.out.below hb8)
      have HW8 := hid (HW7.out.trans (hb8.mono HW7.out.size))
      have HL8 := hid (len_any b1 m1 g1 l1 [] x8 HT8.out.one)
      clear hb8 HC7 HT7 HW7
      go_wp2_with fail
      refine HL8.out.mono ?_
      rintro _ y6 ⟨rfl, e⟩
      obtain rfl := e.symm
      go_wp2_with fail
      go_ret
      exact ⟨rfl, HT8.out, HW8.out⟩
end Go.Proofs.Ythbjfbalgejndaa
