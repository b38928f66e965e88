/-
  UnderTwo.
-/
import Derived.Test.YtaelfhjhinfikabDR
namespace Go.Proofs.Ytaelfhjhinfikab
open Go.ChangeShapes Go.WideShapes Go.ChangeAt Go.RowKit Me
set_option maxHeartbeats 8000000
set_option maxRecDepth 100000

/-- The slice value v shows so many flags. -/
def SeesF (K : Nat → Prop) (w : World) (v : Value) (n : Nat) : Prop :=
  ∃ ao cap, v = .slice ao n cap ∧ n ≤ cap ∧ cap ≤ maxLen ∧
    ∀ j (_ : j < n), ∃ g off b, ao = some ⟨g, off, none⟩ ∧ (g < w.heap.size ∧ K g) ∧ w.cell? ⟨g, off + j, none⟩ = some (.bool b)
section
variable {K : Nat → Prop} {w w' : World} {v : Value} {n : Nat}
theorem SeesF.keeps {X : Nat → Prop} (h : SeesF K w v n) (hk : Keeps X w w') (hn : ∀ k, K k → ¬ X k) : SeesF K w' v n := by
  obtain ⟨ao, cap, hv, h1, h2, h3⟩ := h
  refine ⟨ao, cap, hv, h1, h2, fun j hj => ?_⟩
  obtain ⟨g, off, b, ha, hg, c0⟩ := h3 j hj
  exact ⟨g, off, b, ha, ⟨Nat.lt_of_lt_of_le hg.1 hk.size, hg.2⟩, (World.cell?_of_block (w := w) (a := ⟨g, off + j, none⟩) (hk.block g hg.1 (hn g hg.2))).trans c0⟩
theorem SeesF.below (h : SeesF K w v n) (hb : Below w.heap.size w w') : SeesF K w' v n := h.keeps (X := fun _ => False) (Keeps.of hb) fun _ _ e => e
theorem SeesF.at {ao : Option Addr} {n' cap : Nat} (h : SeesF K w (.slice ao n' cap) n) (j : Nat) (hj : j < n) : ∃ (g off : Nat) (b : Bool), ao = some ⟨g, off, none⟩ ∧ g < w.heap.size ∧ w.cell? ⟨g, off + j, none⟩ = some (.bool b) := by
  obtain ⟨ao', cap', hv, h1, h2, h3⟩ := h
  simp at hv
  obtain ⟨rfl, rfl, rfl⟩ := hv
  obtain ⟨g, off, b, a, hg, c⟩ := h3 j hj
  exact ⟨g, off, b, a, hg.1, c⟩
end

theorem begins_any (v : Value) (n : Nat) (K : Nat → Prop) (w : World) (hv : SeesF K w v n) : Calls Try.prog 12 #[v] w fun e w' => (∃ a : Nat, e = .returned (.int .i64 (a : Int)) ∧ a ≤ n) ∧ w' = w := by
  have HV := hid hv
  obtain ⟨ao, cap, rfl, hn1, hn2, -⟩ := hv
  unfold maxLen at hn2
  go_enter Try.func12, Try.ntmps12
  go_upto_region 2 with fail
  go_loopw [3] (fun i wr => ∃ j : Nat, i = .int .i64 (j : Int) ∧ j ≤ n ∧ wr = w) (fun i _ => n - (intOf i).toNat)
  case atStart => exact ⟨0, rfl, Nat.zero_le _, rfl⟩
  case round =>
    obtain ⟨j, rfl, hj, rfl⟩ := hrel
    by_cases hlt : j < n
    · have hlt' : (j : Int) < (n : Int) := int_lt hlt
      obtain ⟨g, off, b, rfl, hg, c0⟩ := HV.out.at j hlt
      cases b with
      | true =>
        go_wp2_with fail
        go_ret
        exact ⟨⟨j, rfl, hj⟩, rfl⟩
      | false =>
        go_wp2_with fail
        go_roundw
        case rel => exact ⟨j + 1, by go_num, hlt, trivial⟩
        case measure => simp [intOf]; omega
    · have hlt' : ¬ (j : Int) < (n : Int) := int_nlt hlt
      go_wp2_with fail
      go_ret
      exact ⟨⟨n, rfl, Nat.le_refl _⟩, rfl⟩

/-- Two pairs apart. -/
structure P2 (w0 : World) (K : Nat → Prop) (w : World) (pb rb m qb sb q : Nat) : Prop where
  lv : ∃ S H S' H', Lv w pb rb m S H ∧ Lv w qb sb q S' H' ∧ (∀ k, H k → w0.heap.size ≤ k ∧ ¬ K k) ∧ (∀ k, H' k → w0.heap.size ≤ k ∧ ¬ K k) ∧ ∀ k, H k → ¬ H' k
  be : Below w0.heap.size w0 w
  inn : ∀ k, K k → k < w.heap.size

theorem P2.swap {w0 w : World} {K : Nat → Prop} {pb rb m qb sb q : Nat} (h : P2 w0 K w pb rb m qb sb q) : P2 w0 K w qb sb q pb rb m := by
  obtain ⟨⟨S, H, S', H', h1, h2, h3, h4, h5⟩, h6, h7⟩ := h
  exact ⟨⟨S', H', S, H, h2, h1, h4, h3, fun k a b => h5 k b a⟩, h6, h7⟩
theorem P2.below {w0 w w' : World} {K : Nat → Prop} {pb rb m qb sb q : Nat} (h : P2 w0 K w pb rb m qb sb q) (hb : Below w.heap.size w w') : P2 w0 K w' pb rb m qb sb q := by
  obtain ⟨⟨S, H, S', H', h1, h2, h3, h4, h5⟩, h6, h7⟩ := h
  exact ⟨⟨S, H, S', H', h1.below hb, h2.below hb, h3, h4, h5⟩, h6.trans (hb.mono h6.size), fun k e => Nat.lt_of_lt_of_le (h7 k e) hb.size⟩
theorem P2.play {w0 w : World} {K : Nat → Prop} {pb rb m qb sb q x : Nat} {L : List Pk} {kk i a : Int} {vs : Value} (h : P2 w0 K w pb rb m qb sb q) (hv : SeesS K w vs L) (hx : x < 256) :
    Calls Try.prog 13 #[.pointer (some ⟨pb, 0, none⟩), .pointer (some ⟨rb, 0, none⟩), .agg #[.int .i64 kk, vs, .int .i64 i, .int .i64 a, .int .u8 (x : Int)]] w fun e W => e = .returned (.bool true) ∧ P2 w0 K W pb rb m qb sb q ∧ Keeps (fun k => ¬ K k) w W := by
  obtain ⟨⟨S, H, S', H', h1, h2, h3, h4, h5⟩, h6, h7⟩ := h
  refine (plays_any w K H pb rb m x S L kk i a vs h1 hv (fun k e => (h3 k e).2) hx).mono ?_
  rintro e W ⟨he, H1, q1, q2, q3⟩
  refine ⟨he, ⟨⟨_, H1, S', H', q1, h2.keeps q3 fun k e1 e2 => h5 k e2 e1, fun k hk => ?_, h4, fun k hk hk2 => ?_⟩, q3.below' h6 (fun k e => (h3 k e).1) (Nat.le_refl _), fun k e => Nat.lt_of_lt_of_le (h7 k e) q3.size⟩, q3.mono fun k _ e => (h3 k e).2⟩
  · rcases q2 k hk with e | e
    · exact h3 k e
    · exact ⟨Nat.le_trans h6.size e, fun e2 => by have := h7 k e2; omega⟩
  · rcases q2 k hk with e | e
    · exact h5 k e hk2
    · have := h2.lt hk2; omega

theorem Pl.two {w0 w w' : World} {K : Nat → Prop} {pb rb m qb sb q : Nat} {H' : Nat → Prop} (h : Pl w0 K w pb rb m) (hK : ∀ k, K k → k < w.heap.size) (h1 : Lv w' qb sb q [] H') (h2 : ∀ k, H' k → w.heap.size ≤ k) (h3 : Below w.heap.size w w') : P2 w0 K w' pb rb m qb sb q := by
  obtain ⟨⟨S, H, a1, a2⟩, a3⟩ := h
  refine ⟨⟨S, H, [], H', a1.below h3, h1, a2, fun k hk => ⟨Nat.le_trans a3.size (h2 k hk), fun e => ?_⟩, fun k hk hk2 => ?_⟩, a3.trans (h3.mono a3.size), fun k e => Nat.lt_of_lt_of_le (hK k e) h3.size⟩
  · have := hK k e; have := h2 k hk; omega
  · have := a1.lt hk; have := h2 k hk2; omega

/-- A third pair, for one step. -/
theorem P2.third {w0 w w' : World} {K : Nat → Prop} {pb rb m qb sb q xb yb z x : Nat} {H' : Nat → Prop} {L : List Pk} {kk i a : Int} {vs : Value} (h : P2 w0 K w pb rb m qb sb q) (h1 : Lv w' xb yb z [] H') (h2 : ∀ k, H' k → w.heap.size ≤ k) (h3 : Below w.heap.size w w') (hv : SeesS K w' vs L) (hx : x < 256) :
    Calls Try.prog 13 #[.pointer (some ⟨xb, 0, none⟩), .pointer (some ⟨yb, 0, none⟩), .agg #[.int .i64 kk, vs, .int .i64 i, .int .i64 a, .int .u8 (x : Int)]] w' fun e W => e = .returned (.bool true) ∧ P2 w0 K W pb rb m qb sb q ∧ Keeps (fun k => ¬ K k) w W := by
  have hKH : ∀ k, H' k → ¬ K k := fun k hk e => by have := h.inn k e; have := h2 k hk; omega
  refine (plays_any w' K H' xb yb z x [] L kk i a vs h1 hv hKH hx).mono ?_
  rintro e W ⟨he, H1, q1, q2, q3⟩
  have hb : Below w.heap.size w W := q3.below' h3 h2 (Nat.le_refl _)
  exact ⟨he, h.below hb, Keeps.of hb⟩

theorem two_walk (l l2 : Int) (v : Value) (T : List Stp) (vt : Value) (nt : Nat) (w : World) (hv : SeesO (fun k => k < w.heap.size) w v T) (ht : SeesF (fun k => k < w.heap.size) w vt nt) :
    Calls Try.prog 6 #[.int .i64 l, .int .i64 l2, v, vt] w fun e w' => e = .returned (.bool true) ∧ Below w.heap.size w w' := by
  have HBT := hid (both_any l w)
  have HV := hid hv
  have HT := hid ht
  obtain ⟨ao, n, cap, rfl, HN, hn1, hn2⟩ := hv.shape
  obtain ⟨to_, tcap, rfl, ht1, ht2, -⟩ := ht
  unfold maxLen at hn2 ht2
  clear hv
  go_enter Try.func6, Try.ntmps6
  go_wp2_with fail
  refine HBT.out.mono ?_
  rintro _ w1 (⟨hb, rfl, hb1⟩ | ⟨hb, pb, rb, m, H, hm, rfl, hl1, hn1', hb1⟩)
  · have HFI := hid (first_any w1)
    have HB1 := hid hb1
    clear HBT hb hb1
    go_wp2_with fail
    refine HFI.out.mono ?_
    rintro _ w2 ⟨rfl, hb2⟩
    have HE := hid (HB1.out.trans (hb2.mono HB1.out.size))
    clear HFI hb2
    go_wp2_with fail
    go_ret
    exact ⟨rfl, HE.out⟩
  · have HFI := hid (first_any w1)
    have HP1 := hid (Bth.pl hl1 hn1' hb1)
    clear HBT hb hb1 hl1 hn1' hm
    go_wp2_with fail
    refine HFI.out.mono ?_
    rintro _ w2 ⟨rfl, hb2⟩
    have HP2 := hid (HP1.out.below hb2)
    have HBG := hid (begins_any _ nt _ w2 (HT.out.below HP2.out.be))
    clear HFI hb2 HP1
    obtain ⟨K, HKE⟩ : ∃ K : Nat → Prop, Hid (K = fun k => k < w.heap.size) := ⟨_, rfl⟩
    rw [← HKE.out] at HV HP2 HT
    have HKL : Hid (∀ u : World, Below w.heap.size w u → ∀ k, K k → k < u.heap.size) := fun u hu k e => by rw [HKE.out] at e; have := hu.size; omega
    go_wp2_with fail
    refine HBG.out.mono ?_
    rintro _ _ ⟨⟨a, rfl, ha⟩, ew⟩
    obtain rfl := ew.symm
    clear ew HBG
    go_upto_region 8 with fail
    go_loopw [13] (fun i wr => ∃ j : Nat, i = .int .i64 (j : Int) ∧ j ≤ n ∧ Hid (Pl w K wr pb rb m) ∧ Hid (SeesO K wr (.slice ao n cap) T) ∧ Hid (SeesF K wr (.slice to_ nt tcap) nt)) (fun i _ => n - (intOf i).toNat)
    case atStart => exact ⟨0, rfl, by omega, HP2, HV.out.below HP2.out.be, HT.out.below HP2.out.be⟩
    case round =>
      clear HP2
      obtain ⟨j, rfl, hj, HP, HS, HF⟩ := hrel
      by_cases hgo : j < n ∧ j < a
      · have hlt' : (j : Int) < (n : Int) := int_lt hgo.1
        have hla' : (j : Int) < (a : Int) := int_lt hgo.2
        have h2 : (0 : Int) ≤ (j : Int) := by omega
        have hjn := hgo.1
        obtain ⟨g, off, vs, o, rfl, ⟨c0, c1, c2, c3, c4⟩, hss, hx, HX, hg⟩ := HS.out.at j hgo.1
        obtain ⟨va, vn, vc, rfl, -⟩ := hss.shape
        generalize o.k = ok at *
        generalize o.i = oi at *
        generalize o.a = oa at *
        generalize o.x = ox at *
        have HPY := hid (HP.out.plays (kk := ok) (i := oi) (a := oa) (HKL.out wr HP.out.be) hss hx)
        clear hss HX hx hg hgo
        go_wp2_with fail
        refine HPY.out.mono ?_
        rintro _ w4 ⟨rfl, hp4, hk4⟩
        have HP4 := hid hp4
        have HS4 := hid (HS.out.keeps hk4 fun k h1 h2 => h2 h1)
        have HF4 := hid (HF.out.keeps hk4 fun k h1 h2 => h2 h1)
        clear c0 c1 c2 c3 c4 hp4 hk4 HPY
        go_wp2_with fail
        go_roundw
        case rel => exact ⟨j + 1, by go_num, hjn, HP4, HS4, HF4⟩
        case measure => simp [intOf]; omega
      · have HBT := hid (both_any l2 wr)
        have HEX : Hid ((j : Int) < (n : Int) → ¬ (j : Int) < (a : Int)) := fun h h' => hgo ⟨by omega, by omega⟩
        clear hgo
        obtain ⟨wo, hwo⟩ : ∃ wo, wo = wr := ⟨_, rfl⟩
        subst hwo
        by_cases hjn : j < n
        · have hlt' : (j : Int) < (n : Int) := int_lt hjn
          have hla' : ¬ (j : Int) < (a : Int) := HEX.out hlt'
          go_wp2_with fail
          refine HBT.out.mono ?_
          rintro _ w3 (⟨hb, rfl, hb3⟩ | ⟨hb, qb, sb, q, H2, hq, rfl, hl3, hn3, hb3⟩)
          · have HP3 := hid (HP.out.below hb3)
            have HPY := hid (HP3.out.plays (kk := 6) (i := 0) (a := 0) (x := 0) (HKL.out w3 HP3.out.be) (seesS_nil K w3) (by decide))
            clear HBT hb hb3
            go_wp2_with fail
            refine HPY.out.mono ?_
            rintro _ w4 ⟨rfl, hp4, hk4⟩
            have HE := hid hp4.be
            clear hp4 hk4 HPY
            go_wp2_with fail
            go_ret
            exact ⟨rfl, HE.out⟩
          · have HP3 := hid (HP.out.two (HKL.out wo HP.out.be) hl3 hn3 hb3)
            have HNB := hid hb
            have HPY := hid (HP3.out.play (kk := 6) (i := 0) (a := 0) (x := 0) (seesS_nil K w3) (by decide))
            have HS3 := hid (HS.out.below hb3)
            have HF3 := hid (HF.out.below hb3)
            clear HBT hb hl3 hn3 hb3 hq
            go_wp2_with fail
            refine HPY.out.mono ?_
            rintro _ w4 ⟨rfl, hp4, hk4⟩
            have HP4 := hid hp4
            have HS4 := hid (HS3.out.keeps hk4 fun k h1 h2 => h2 h1)
            have HF4 := hid (HF3.out.keeps hk4 fun k h1 h2 => h2 h1)
            clear hp4 hk4 HPY HP HS HF HS3 HF3 HP3
            go_upto_region 18 with fail
            clear hlt' HEX hj
            go_loopw [17] (fun i wr => ∃ j : Nat, i = .int .i64 (j : Int) ∧ (j ≤ n ∨ n ≤ j ∧ j ≤ nt) ∧ Hid (P2 w K wr pb rb m qb sb q) ∧ Hid (SeesO K wr (.slice ao n cap) T) ∧ Hid (SeesF K wr (.slice to_ nt tcap) nt)) (fun i _ => n - (intOf i).toNat)
            case atStart => exact ⟨a, rfl, by omega, HP4, HS4, HF4⟩
            case round =>
              clear HP4 HS4 HF4
              obtain ⟨j, rfl, hj, HP, HS, HF⟩ := hrel
              have hjb : (j : Int) ≤ 9223372036854775807 := by omega
              by_cases hlt : j < n
              · have hlt' : (j : Int) < (n : Int) := int_lt hlt
                have h2 : (0 : Int) ≤ (j : Int) := by omega
                obtain ⟨g, off, vs, o, rfl, ⟨c0, c1, c2, c3, c4⟩, hss, hx, HX, hg⟩ := HS.out.at j hlt
                obtain ⟨va, vn, vc, rfl, -⟩ := hss.shape
                generalize o.k = ok at *
                generalize o.i = oi at *
                generalize o.a = oa at *
                generalize o.x = ox at *
                by_cases hjt : j < nt
                · have hjt' : (j : Int) < (nt : Int) := int_lt hjt
                  obtain ⟨tg, toff, tb, rfl, htg, t0⟩ := HF.out.at j hjt
                  cases tb with
                  | true =>
                    as_aux_lemma =>
                      have HPY := hid (HP.out.swap.play (kk := ok) (i := oi) (a := oa) hss hx)
                      have HSS := hid hss
                      clear hss HX hg htg
                      go_wp2_with fail
                      refine HPY.out.mono ?_
                      rintro _ w4 ⟨rfl, hp4, hk4⟩
                      have HP4 := hid hp4.swap
                      have HS4 := hid (HS.out.keeps hk4 fun k h1 h2 => h2 h1)
                      have HF4 := hid (HF.out.keeps hk4 fun k h1 h2 => h2 h1)
                      have HBT := hid (both_any l2 w4)
                      clear c0 c1 c2 c3 c4 t0 hp4 hk4 HPY HP HS HF HSS
                      go_wp2_with fail
                      refine HBT.out.mono ?_
                      rintro _ w5 (⟨hb, -⟩ | ⟨hb, xb, yb, z, H3, hz, rfl, hl5, hn5, hb5⟩)
                      · rw [HNB.out] at hb; cases hb
                      · have hS5 := HS4.out.below hb5
                        obtain ⟨g', off', vs', o', hgg, ⟨c0, c1, c2, c3, c4⟩, hss, hx, HX, hg⟩ := hS5.at j hlt
                        simp only [Option.some.injEq, Addr.mk.injEq, and_true] at hgg
                        obtain ⟨rfl, rfl⟩ := hgg
                        obtain ⟨va, vn, vc, rfl, -⟩ := hss.shape
                        generalize o'.k = ok at *
                        generalize o'.i = oi at *
                        generalize o'.a = oa at *
                        generalize o'.x = ox at *
                        have HPY := hid (HP4.out.third (kk := ok) (i := oi) (a := oa) hl5 hn5 hb5 hss hx)
                        clear HBT hb hz hl5 hn5 hb5 hS5 hss hx HX hg
                        go_wp2_with fail
                        refine HPY.out.mono ?_
                        rintro _ w6 ⟨rfl, hp6, hk6⟩
                        have HP6 := hid hp6
                        have HS6 := hid (HS4.out.keeps hk6 fun k h1 h2 => h2 h1)
                        have HF6 := hid (HF4.out.keeps hk6 fun k h1 h2 => h2 h1)
                        clear c0 c1 c2 c3 c4 hp6 hk6 HPY HP4 HS4 HF4
                        go_wp2_with fail
                        go_roundw
                        case rel => exact ⟨j + 1, by go_num, .inl hlt, HP6, HS6, HF6⟩
                        case measure => simp [intOf]; omega
                  | false =>
                    as_aux_lemma =>
                      have HPY := hid (HP.out.play (kk := ok) (i := oi) (a := oa) hss hx)
                      clear hss HX hg htg hx
                      go_wp2_with fail
                      refine HPY.out.mono ?_
                      rintro _ w4 ⟨rfl, hp4, hk4⟩
                      have HP4 := hid hp4
                      have HS4 := hid (HS.out.keeps hk4 fun k h1 h2 => h2 h1)
                      have HF4 := hid (HF.out.keeps hk4 fun k h1 h2 => h2 h1)
                      clear c0 c1 c2 c3 c4 t0 hp4 hk4 HPY HP HS HF
                      go_wp2_with fail
                      go_roundw
                      case rel => exact ⟨j + 1, by go_num, .inl hlt, HP4, HS4, HF4⟩
                      case measure => simp [intOf]; omega
                · have hjt' : ¬ (j : Int) < (nt : Int) := int_nlt hjt
                  as_aux_lemma =>
                    have HPY := hid (HP.out.play (kk := ok) (i := oi) (a := oa) hss hx)
                    clear hss HX hg hx
                    go_wp2_with fail
                    refine HPY.out.mono ?_
                    rintro _ w4 ⟨rfl, hp4, hk4⟩
                    have HP4 := hid hp4
                    have HS4 := hid (HS.out.keeps hk4 fun k h1 h2 => h2 h1)
                    have HF4 := hid (HF.out.keeps hk4 fun k h1 h2 => h2 h1)
                    clear c0 c1 c2 c3 c4 hp4 hk4 HPY HP HS HF
                    go_wp2_with fail
                    go_roundw
                    case rel => exact ⟨j + 1, by go_num, .inl hlt, HP4, HS4, HF4⟩
                    case measure => simp [intOf]; omega
              · have hlt' : ¬ (j : Int) < (n : Int) := int_nlt hlt
                have HPY := hid (HP.out.play (kk := 6) (i := 0) (a := 0) (x := 0) (seesS_nil K wr) (by decide))
                go_wp2_with fail
                refine HPY.out.mono ?_
                rintro _ w4 ⟨rfl, hp4, hk4⟩
                have HPZ := hid (hp4.swap.play (kk := 6) (i := 0) (a := 0) (x := 0) (seesS_nil K w4) (by decide))
                clear hp4 hk4 HPY
                go_wp2_with fail
                refine HPZ.out.mono ?_
                rintro _ w5 ⟨rfl, hp5, hk5⟩
                have HE := hid hp5.be
                clear hp5 hk5 HPZ
                go_wp2_with fail
                go_ret
                exact ⟨rfl, HE.out⟩
        · have hlt' : ¬ (j : Int) < (n : Int) := int_nlt hjn
          go_wp2_with fail
          refine HBT.out.mono ?_
          rintro _ w3 (⟨hb, rfl, hb3⟩ | ⟨hb, qb, sb, q, H2, hq, rfl, hl3, hn3, hb3⟩)
          · have HP3 := hid (HP.out.below hb3)
            have HPY := hid (HP3.out.plays (kk := 6) (i := 0) (a := 0) (x := 0) (HKL.out w3 HP3.out.be) (seesS_nil K w3) (by decide))
            clear HBT hb hb3
            go_wp2_with fail
            refine HPY.out.mono ?_
            rintro _ w4 ⟨rfl, hp4, hk4⟩
            have HE := hid hp4.be
            clear hp4 hk4 HPY
            go_wp2_with fail
            go_ret
            exact ⟨rfl, HE.out⟩
          · have HP3 := hid (HP.out.two (HKL.out wo HP.out.be) hl3 hn3 hb3)
            have HNB := hid hb
            have HPY := hid (HP3.out.play (kk := 6) (i := 0) (a := 0) (x := 0) (seesS_nil K w3) (by decide))
            have HS3 := hid (HS.out.below hb3)
            have HF3 := hid (HF.out.below hb3)
            clear HBT hb hl3 hn3 hb3 hq
            go_wp2_with fail
            refine HPY.out.mono ?_
            rintro _ w4 ⟨rfl, hp4, hk4⟩
            have HP4 := hid hp4
            have HS4 := hid (HS3.out.keeps hk4 fun k h1 h2 => h2 h1)
            have HF4 := hid (HF3.out.keeps hk4 fun k h1 h2 => h2 h1)
            clear hp4 hk4 HPY HP HS HF HS3 HF3 HP3
            go_upto_region 18 with fail
            clear hlt' HEX hj
            go_loopw [17] (fun i wr => ∃ j : Nat, i = .int .i64 (j : Int) ∧ (j ≤ n ∨ n ≤ j ∧ j ≤ nt) ∧ Hid (P2 w K wr pb rb m qb sb q) ∧ Hid (SeesO K wr (.slice ao n cap) T) ∧ Hid (SeesF K wr (.slice to_ nt tcap) nt)) (fun i _ => n - (intOf i).toNat)
            case atStart => exact ⟨a, rfl, by omega, HP4, HS4, HF4⟩
            case round =>
              clear HP4 HS4 HF4
              obtain ⟨j, rfl, hj, HP, HS, HF⟩ := hrel
              have hjb : (j : Int) ≤ 9223372036854775807 := by omega
              by_cases hlt : j < n
              · have hlt' : (j : Int) < (n : Int) := int_lt hlt
                have h2 : (0 : Int) ≤ (j : Int) := by omega
                obtain ⟨g, off, vs, o, rfl, ⟨c0, c1, c2, c3, c4⟩, hss, hx, HX, hg⟩ := HS.out.at j hlt
                obtain ⟨va, vn, vc, rfl, -⟩ := hss.shape
                generalize o.k = ok at *
                generalize o.i = oi at *
                generalize o.a = oa at *
                generalize o.x = ox at *
                by_cases hjt : j < nt
                · have hjt' : (j : Int) < (nt : Int) := int_lt hjt
                  obtain ⟨tg, toff, tb, rfl, htg, t0⟩ := HF.out.at j hjt
                  cases tb with
                  | true =>
                    as_aux_lemma =>
                      have HPY := hid (HP.out.swap.play (kk := ok) (i := oi) (a := oa) hss hx)
                      have HSS := hid hss
                      clear hss HX hg htg
                      go_wp2_with fail
                      refine HPY.out.mono ?_
                      rintro _ w4 ⟨rfl, hp4, hk4⟩
                      have HP4 := hid hp4.swap
                      have HS4 := hid (HS.out.keeps hk4 fun k h1 h2 => h2 h1)
                      have HF4 := hid (HF.out.keeps hk4 fun k h1 h2 => h2 h1)
                      have HBT := hid (both_any l2 w4)
                      clear c0 c1 c2 c3 c4 t0 hp4 hk4 HPY HP HS HF HSS
                      go_wp2_with fail
                      refine HBT.out.mono ?_
                      rintro _ w5 (⟨hb, -⟩ | ⟨hb, xb, yb, z, H3, hz, rfl, hl5, hn5, hb5⟩)
                      · rw [HNB.out] at hb; cases hb
                      · have hS5 := HS4.out.below hb5
                        obtain ⟨g', off', vs', o', hgg, ⟨c0, c1, c2, c3, c4⟩, hss, hx, HX, hg⟩ := hS5.at j hlt
                        simp only [Option.some.injEq, Addr.mk.injEq, and_true] at hgg
                        obtain ⟨rfl, rfl⟩ := hgg
                        obtain ⟨va, vn, vc, rfl, -⟩ := hss.shape
                        generalize o'.k = ok at *
                        generalize o'.i = oi at *
                        generalize o'.a = oa at *
                        generalize o'.x = ox at *
                        have HPY := hid (HP4.out.third (kk := ok) (i := oi) (a := oa) hl5 hn5 hb5 hss hx)
                        clear HBT hb hz hl5 hn5 hb5 hS5 hss hx HX hg
                        go_wp2_with fail
                        refine HPY.out.mono ?_
                        rintro _ w6 ⟨rfl, hp6, hk6⟩
                        have HP6 := hid hp6
                        have HS6 := hid (HS4.out.keeps hk6 fun k h1 h2 => h2 h1)
                        have HF6 := hid (HF4.out.keeps hk6 fun k h1 h2 => h2 h1)
                        clear c0 c1 c2 c3 c4 hp6 hk6 HPY HP4 HS4 HF4
                        go_wp2_with fail
                        go_roundw
                        case rel => exact ⟨j + 1, by go_num, .inl hlt, HP6, HS6, HF6⟩
                        case measure => simp [intOf]; omega
                  | false =>
                    as_aux_lemma =>
                      have HPY := hid (HP.out.play (kk := ok) (i := oi) (a := oa) hss hx)
                      clear hss HX hg htg hx
                      go_wp2_with fail
                      refine HPY.out.mono ?_
                      rintro _ w4 ⟨rfl, hp4, hk4⟩
                      have HP4 := hid hp4
                      have HS4 := hid (HS.out.keeps hk4 fun k h1 h2 => h2 h1)
                      have HF4 := hid (HF.out.keeps hk4 fun k h1 h2 => h2 h1)
                      clear c0 c1 c2 c3 c4 t0 hp4 hk4 HPY HP HS HF
                      go_wp2_with fail
                      go_roundw
                      case rel => exact ⟨j + 1, by go_num, .inl hlt, HP4, HS4, HF4⟩
                      case measure => simp [intOf]; omega
                · have hjt' : ¬ (j : Int) < (nt : Int) := int_nlt hjt
                  as_aux_lemma =>
                    have HPY := hid (HP.out.play (kk := ok) (i := oi) (a := oa) hss hx)
                    clear hss HX hg hx
                    go_wp2_with fail
                    refine HPY.out.mono ?_
                    rintro _ w4 ⟨rfl, hp4, hk4⟩
                    have HP4 := hid hp4
                    have HS4 := hid (HS.out.keeps hk4 fun k h1 h2 => h2 h1)
                    have HF4 := hid (HF.out.keeps hk4 fun k h1 h2 => h2 h1)
                    clear c0 c1 c2 c3 c4 hp4 hk4 HPY HP HS HF
                    go_wp2_with fail
                    go_roundw
                    case rel => exact ⟨j + 1, by go_num, .inl hlt, HP4, HS4, HF4⟩
                    case measure => simp [intOf]; omega
              · have hlt' : ¬ (j : Int) < (n : Int) := int_nlt hlt
                have HPY := hid (HP.out.play (kk := 6) (i := 0) (a := 0) (x := 0) (seesS_nil K wr) (by decide))
                go_wp2_with fail
                refine HPY.out.mono ?_
                rintro _ w4 ⟨rfl, hp4, hk4⟩
                have HPZ := hid (hp4.swap.play (kk := 6) (i := 0) (a := 0) (x := 0) (seesS_nil K w4) (by decide))
                clear hp4 hk4 HPY
                go_wp2_with fail
                refine HPZ.out.mono ?_
                rintro _ w5 ⟨rfl, hp5, hk5⟩
                have HE := hid hp5.be
                clear hp5 hk5 HPZ
                go_wp2_with fail
                go_ret
                exact ⟨rfl, HE.out⟩

theorem cellsBool : Try.prog.cellsOf 4 = 1 := by kernel_rfl
theorem uBs : Try.prog.underlying 25 = some (.slice 4) := by kernel_rfl
theorem uBo : Try.prog.underlying 4 = some .bool := by kernel_rfl
section
variable {H : Type} {enc : TypeId × Value → H} {W : World}
theorem open_bo {base : Nat} {v : Value} {d : DataW H} {ps : List MemPlace} (hval : Value.okWide Try.prog W .any base 25 v) (h : DataW.Trod enc Try.prog W 0 (fun _ => true) true 25 v d ps) : ∃ n, SeesF (fun k => k < W.heap.size) W v n := by
  obtain ⟨a0, len, cap, rfl⟩ := okWide_slice uBs hval
  obtain ⟨fuel, hf⟩ := h
  rcases Go.Deep.open_slice uBs hf with ⟨h1, hx⟩ | ⟨a, len', cap', m, n, D, Pl, h1, _, hlc, hcm, hm, hxx, hx⟩
  · simp [Value.cells] at h1
    obtain ⟨rfl, rfl, rfl⟩ := h1
    exact ⟨0, none, 0, rfl, Nat.le_refl _, by unfold maxLen; omega, fun j hj => absurd hj (by omega)⟩
  · simp [Value.cells] at h1
    obtain ⟨rfl, rfl, rfl⟩ := h1
    simp at hm
    subst hm
    have key : ∀ i, i < len → ∃ y : Bool, W.cell? (a.add i) = some (.bool y) := by
      intro i hi
      obtain ⟨cs', k1, k2⟩ := hx i (by omega)
      rw [cellsBool, Nat.mul_one] at k1
      obtain ⟨_, hlen, hc⟩ := World.cells?_some k1
      obtain ⟨z, e, _⟩ := DataW.trod_bool uBo k2
      refine ⟨z, ?_⟩
      have := hc 0 (by omega)
      rw [e] at this
      simpa [Addr.add] using this
    by_cases h0 : len = 0
    · subst h0
      exact ⟨0, some a, m, rfl, hlc, hcm, fun j hj => absurd hj (by omega)⟩
    obtain ⟨F, hF⟩ := pickF key
    obtain ⟨g, off, rfl, hg⟩ : ∃ g off, a = ⟨g, off, none⟩ ∧ g < W.heap.size := by
      have z0 := hF 0 (by omega)
      have e : a.add 0 = a := by simp [Addr.add]
      rw [e] at z0
      exact spot_none z0
    refine ⟨len, some ⟨g, off, none⟩, m, rfl, hlc, hcm, fun j hj => ?_⟩
    have q2 := hF j hj
    rw [add_plain] at q2
    exact ⟨g, off, _, rfl, ⟨hg, hg⟩, q2⟩
end
end Go.Proofs.Ytaelfhjhinfikab
