import Derived.Test.YtpdokaoholifkabGreatLO
namespace Go.Proofs.YtpdokaoholifkabGreat.Rt
open Go.Proofs.YtpdokaoholifkabGreat Go.ChangeShapes Go.WideShapes Go.ChangeAt Go.RowKit Go.Maps Tri N
set_option maxHeartbeats 8000000
set_option maxRecDepth 100000

/-- Booleans in memory. -/
def SeesT (w : World) (a : Option Addr) (n : Nat) : Prop := n ≤ 9223372036854775807 ∧ ∀ j, j < n → ∃ g off b, a = some ⟨g, off, none⟩ ∧ g < w.heap.size ∧ w.cell? ⟨g, off + j, none⟩ = some (.bool b)
theorem SeesT.below {w w' : World} {a : Option Addr} {n : Nat} (h : SeesT w a n) (hb : Below w.heap.size w w') : SeesT w' a n := ⟨h.1, fun j hj => by
  obtain ⟨g, off, b, h1, h2, h3⟩ := h.2 j hj
  exact ⟨g, off, b, h1, Nat.lt_of_lt_of_le h2 hb.size, (hb.cell (p := ⟨g, off + j, none⟩) h2).trans h3⟩⟩
theorem uBo : Tryz.prog.underlying 27 = some (.slice 4) := by kernel_rfl
section
variable {H : Type} {enc : TypeId × Value → H} {W : World}
theorem open_bo {base : Nat} {v : Value} {d : DataW H} {ps : List MemPlace} (hval : Value.okWide Tryz.prog W .any base 27 v) (h : DataW.Trod enc Tryz.prog W 0 (fun _ => true) true 27 v d ps) :
    ∃ (a : Option Addr) (n c : Nat) (_ : Unit), v = .slice a n c ∧ SeesT W a n := by
  obtain ⟨a0, len, cap, rfl⟩ := okWide_slice uBo hval
  obtain ⟨fuel, hf⟩ := h
  rcases Go.Deep.open_slice uBo hf with ⟨h1, _⟩ | ⟨a, len', cap', m, n, D, Pl, h1, _, hlc, hcm, hm, hxx, hx⟩
  · simp [Value.cells] at h1
    obtain ⟨rfl, rfl, rfl⟩ := h1
    exact ⟨_, _, _, (), rfl, by decide, fun j hj => absurd hj (by omega)⟩
  · simp [Value.cells] at h1
    obtain ⟨rfl, rfl, rfl⟩ := h1
    simp at hm
    subst hm
    unfold maxLen at hcm
    have key : ∀ i, i < len → ∃ b : Bool, W.cell? (a.add i) = some (.bool b) := by
      intro i hi
      obtain ⟨cs', k1, k2⟩ := hx i (by omega)
      rw [cO3, Nat.mul_one] at k1
      obtain ⟨_, _, hc⟩ := World.cells?_some k1
      obtain ⟨b, e1, _⟩ := DataW.trod_bool uOb k2
      refine ⟨b, ?_⟩
      have := hc 0 (by omega)
      rw [e1] at this
      simpa [Addr.add] using this
    refine ⟨_, _, _, (), rfl, by omega, fun j hj => ?_⟩
    obtain ⟨b, hb⟩ := key j hj
    obtain ⟨g, off, rfl, hg⟩ : ∃ g off, a = ⟨g, off, none⟩ ∧ g < W.heap.size := by
      obtain ⟨b0, z0⟩ := key 0 (by omega)
      have e : a.add 0 = a := by simp [Addr.add]
      rw [e] at z0
      exact spot_none z0
    rw [Addr.add_mid] at hb
    exact ⟨g, off, b, rfl, hg, hb⟩
end

theorem begins_any (w : World) {a : Option Addr} {n : Nat} (c : Nat) (h : SeesT w a n) :
    Calls Tryz.prog 12 #[.slice a n c] w fun e w' => (∃ i : Nat, e = .returned (.int .i64 (i : Int)) ∧ i ≤ n) ∧ w' = w := by
  have HS := hid h
  have hle := h.1
  clear h
  go_enter Tryz.func12, Tryz.ntmps12
  go_upto_region 2 with fail
  go_loopw [3] (fun i wr => ∃ j : Nat, i = .int .i64 (j : Int) ∧ j ≤ n ∧ wr = w) (fun i _ => n - (intOf i).toNat)
  case atStart => exact ⟨0, rfl, Nat.zero_le _, rfl⟩
  case round =>
    obtain ⟨j, rfl, hj, rfl⟩ := hrel
    by_cases hlt : j < n
    · have hlt' : (j : Int) < (n : Int) := int_lt hlt
      have hj0 : (0 : Int) ≤ (j : Int) := by omega
      obtain ⟨g, off, b, rfl, hg, hc⟩ := HS.out.2 j hlt
      cases b with
      | true =>
        go_wp2_with fail
        go_ret
        exact ⟨⟨j, rfl, hj⟩, rfl⟩
      | false =>
        go_wp2_with fail
        go_roundw
        case rel => exact ⟨j + 1, by go_num, hlt, trivial⟩
        case measure => simp [intOf]; omega
    · have hlt' : ¬ (j : Int) < (n : Int) := int_nlt hlt
      go_wp2_with fail
      go_ret
      exact ⟨⟨n, rfl, Nat.le_refl _⟩, rfl⟩

/-- One pair, above w0. -/
def Q1 (w0 w : World) (k m : Nat) : Prop := ∃ X b v s, Pr w X b m v s ∧ b.kb = k ∧ (∀ c, X c → w0.heap.size ≤ c) ∧ Below w0.heap.size w0 w
/-- Two pairs, above w0. -/
def Q2 (w0 w : World) (k1 m1 k2 m2 : Nat) : Prop := ∃ X1 b1 v1 s1 X2 b2 v2 s2, P2 w0.heap.size w X1 b1 m1 v1 s1 X2 b2 m2 v2 s2 ∧ b1.kb = k1 ∧ b2.kb = k2 ∧ Below w0.heap.size w0 w
theorem Q1.bel {w0 w : World} {k m : Nat} (h : Q1 w0 w k m) : Below w0.heap.size w0 w := by obtain ⟨_, _, _, _, _, _, _, h⟩ := h; exact h
theorem Q2.bel {w0 w : World} {k1 m1 k2 m2 : Nat} (h : Q2 w0 w k1 m1 k2 m2) : Below w0.heap.size w0 w := by obtain ⟨_, _, _, _, _, _, _, _, _, _, _, h⟩ := h; exact h
theorem Q1.more {w0 w w' : World} {k m : Nat} (h : Q1 w0 w k m) (hb : Below w.heap.size w w') : Q1 w0 w' k m := by
  obtain ⟨X, b, v, s, h1, h2, h3, h4⟩ := h
  exact ⟨X, b, v, s, h1.below hb, h2, h3, h4.trans (hb.mono h4.size)⟩
theorem Q2.more {w0 w w' : World} {k1 m1 k2 m2 : Nat} (h : Q2 w0 w k1 m1 k2 m2) (hb : Below w.heap.size w w') : Q2 w0 w' k1 m1 k2 m2 := by
  obtain ⟨X1, b1, v1, s1, X2, b2, v2, s2, h1, h2, h3, h4⟩ := h
  exact ⟨X1, b1, v1, s1, X2, b2, v2, s2, h1.below hb, h2, h3, h4.trans (hb.mono h4.size)⟩
theorem Q2.swap {w0 w : World} {k1 m1 k2 m2 : Nat} (h : Q2 w0 w k1 m1 k2 m2) : Q2 w0 w k2 m2 k1 m1 := by
  obtain ⟨X1, b1, v1, s1, X2, b2, v2, s2, h1, h2, h3, h4⟩ := h
  exact ⟨X2, b2, v2, s2, X1, b1, v1, s1, h1.swap, h3, h2, h4⟩
theorem Q1.play {w0 w : World} {k m : Nat} (h : Q1 w0 w k m) (kd : Int) {a : Option Addr} {n : Nat} (c : Nat) {L : List Opv} (d : Nat) (hs : SeesOp (fun c => c < w0.heap.size) w a n L) (hL : ∀ o ∈ L, o.Ok) (hn : n ≤ 9223372036854775807) (hd : d < 4294967296) :
    Calls Tryz.prog 13 #[.pointer (some ⟨k, 0, none⟩), .pointer (some ⟨m, 0, none⟩), .agg #[.int .i64 kd, .slice a n c, .int .u32 (d : Int)]] w fun e w' => e = .returned (.bool true) ∧ Q1 w0 w' k m := by
  obtain ⟨X, b, v, s, h1, rfl, h3, h4⟩ := h
  refine (plays_any w kd c d h1 hs (fun c hc e => by have := h3 c (h1.fpx e); omega) hL hn hd).mono ?_
  rintro e w' ⟨he, X', b', v', ht⟩
  exact ⟨he, X', b', v', _, ht.pr, ht.kb, Pr.freshW h3 h4.size ht, h4.trans (ht.keeps.below h4.size fun c hc => h3 c (h1.fpx hc))⟩
theorem Q2.play {w0 w : World} {k1 m1 k2 m2 : Nat} (h : Q2 w0 w k1 m1 k2 m2) (kd : Int) {a : Option Addr} {n : Nat} (c : Nat) {L : List Opv} (d : Nat) (hs : SeesOp (fun c => c < w0.heap.size) w a n L) (hL : ∀ o ∈ L, o.Ok) (hn : n ≤ 9223372036854775807) (hd : d < 4294967296) :
    Calls Tryz.prog 13 #[.pointer (some ⟨k1, 0, none⟩), .pointer (some ⟨m1, 0, none⟩), .agg #[.int .i64 kd, .slice a n c, .int .u32 (d : Int)]] w fun e w' => e = .returned (.bool true) ∧ Q2 w0 w' k1 m1 k2 m2 := by
  obtain ⟨X1, b1, v1, s1, X2, b2, v2, s2, h1, rfl, h3, h4⟩ := h
  refine (plays_any w kd c d h1.p1 hs (fun c hc e => by have := h1.lo1 c (h1.p1.fpx e); omega) hL hn hd).mono ?_
  rintro e w' ⟨he, X', b', v', ht⟩
  exact ⟨he, X', b', v', _, _, b2, v2, s2, h1.step h4.size ht, ht.kb, h3, h4.trans (ht.keeps.below h4.size fun c hc => h1.lo1 c (h1.p1.fpx hc))⟩
theorem Q1.both {w0 w w' : World} {k m : Nat} (h : Q1 w0 w k m) {X2 : Nat → Prop} {b2 : Bks} {m2 : Nat} {v2 : Vs} {s2 : Ks} (hb : Below w.heap.size w w') (h2 : Pr w' X2 b2 m2 v2 s2) (hR : s2.R = []) (hX2 : ∀ c, X2 c → w.heap.size ≤ c) : Q2 w0 w' k m b2.kb m2 := by
  obtain ⟨X, b, v, s, h1, rfl, h3, h4⟩ := h
  exact ⟨_, b, v, s, _, b2, v2, s2, P2.mk' h1 hb h3 h4.size h2 hR hX2, rfl, rfl, h4.trans (hb.mono h4.size)⟩
/-- A new pair plays: what was there stays. -/
theorem fresh_play {w w' : World} {X : Nat → Prop} {b : Bks} {m : Nat} {v : Vs} {s : Ks} (hb : Below w.heap.size w w') (h : Pr w' X b m v s) (hX : ∀ c, X c → w.heap.size ≤ c) (kd : Int) {a : Option Addr} {n : Nat} (c : Nat) {L : List Opv} (d : Nat) (hs : SeesOp (fun c => c < w.heap.size) w' a n L) (hL : ∀ o ∈ L, o.Ok) (hn : n ≤ 9223372036854775807) (hd : d < 4294967296) :
    Calls Tryz.prog 13 #[.pointer (some ⟨b.kb, 0, none⟩), .pointer (some ⟨m, 0, none⟩), .agg #[.int .i64 kd, .slice a n c, .int .u32 (d : Int)]] w' fun e w'' => e = .returned (.bool true) ∧ Below w.heap.size w w'' := by
  refine (plays_any w' kd c d h hs (fun c hc e => by have := hX c (h.fpx e); omega) hL hn hd).mono ?_
  rintro e w'' ⟨he, X', b', v', ht⟩
  exact ⟨he, hb.trans (ht.keeps.below hb.size fun c hc => hX c (h.fpx hc))⟩

theorem two_walk (r n f r' n' f' : Int) (a : Option Addr) (l cp : Nat) (S : List Lop) (ta : Option Addr) (tn tc : Nat) (_ : Unit) (w : World) (hs : SeesL (fun c => c < w.heap.size) w a l S) (hl : l ≤ 9223372036854775807) (ht : SeesT w ta tn) :
    Calls Tryz.prog 4 #[.agg #[.int .i64 r, .int .i64 n, .int .i64 f], .agg #[.int .i64 r', .int .i64 n', .int .i64 f'], .slice a l cp, .slice ta tn tc] w fun e w' => e = .returned (.bool true) ∧ Below w.heap.size w w' := by
  obtain ⟨w1, HW1⟩ : ∃ w1, Hid (w1 = (w.alloc (.cells #[.int .i64 r, .int .i64 n, .int .i64 f] 23)).alloc (.cells #[.int .i64 r', .int .i64 n', .int .i64 f'] 23)) := ⟨_, rfl⟩
  have hz : (w.alloc (.cells #[.int .i64 r, .int .i64 n, .int .i64 f] 23)).heap.size = w.heap.size + 1 := by simp
  have hb1 : Below w.heap.size w w1 := by rw [HW1.out]; exact ((Below.refl _ _).alloc (Nat.le_refl _) _).alloc (by rw [hz]; omega) _
  have q1 : w1.heap[w.heap.size + 1]? = some (.cells #[.int .i64 r', .int .i64 n', .int .i64 f'] 23) := by rw [HW1.out, ← hz]; exact heap_alloc_new _ _
  have q0 : w1.heap[w.heap.size]? = some (.cells #[.int .i64 r, .int .i64 n, .int .i64 f] 23) := by
    rw [HW1.out]
    exact below_keeps ((Below.refl _ _).alloc (Nat.le_refl _) _) (heap_alloc_new w _) (by rw [hz]; omega)
  have c0 : w1.cell? ⟨w.heap.size, 0, none⟩ = some (.int .i64 r) := by rw [cell_of_row _ _ _ _ _ _ q0]; rfl
  have c1 : w1.cell? ⟨w.heap.size, 1, none⟩ = some (.int .i64 n) := by rw [cell_of_row _ _ _ _ _ _ q0]; rfl
  have c2 : w1.cell? ⟨w.heap.size, 2, none⟩ = some (.int .i64 f) := by rw [cell_of_row _ _ _ _ _ _ q0]; rfl
  have HQ : Hid (∀ u : World, Below w1.heap.size w1 u → u.cell? ⟨w.heap.size + 1, 0, none⟩ = some (.int .i64 r') ∧ u.cell? ⟨w.heap.size + 1, 1, none⟩ = some (.int .i64 n') ∧ u.cell? ⟨w.heap.size + 1, 2, none⟩ = some (.int .i64 f')) := fun u hu => by
    have hq := below_keeps hu q1 (Array.getElem?_eq_some_iff.1 q1).1
    refine ⟨?_, ?_, ?_⟩ <;> rw [cell_of_row _ _ _ _ _ _ hq] <;> rfl
  have HB1 := hid hb1
  have HSE : Hid (SeesL (fun c => c < w1.heap.size) w1 a l S) := (hs.below hb1).more fun c hc => Nat.lt_of_lt_of_le hc hb1.size
  have HTE := hid (ht.below hb1)
  have HNL := hid hs.1
  have HC := hid (both_any w1 r n f)
  clear hs hb1 q0 q1 hz ht
  go_enter Tryz.func4, Tryz.ntmps4
  go_upto_region 1 with fail
  rw [← HW1.out]
  clear HW1
  go_wp2_with fail
  refine HC.out.mono ?_
  intro e w2 hp
  have HB2 : Hid (Below w1.heap.size w1 w2) := hp.2.2
  have HF := hid (first_any w2)
  by_cases hcap : Cap r n f
  · obtain ⟨X, b, m, v, rfl, hpr, hX⟩ := hp.1 hcap
    have HP : Hid (Q1 w1 w2 b.kb m) := ⟨X, b, v, _, hpr, rfl, hX, HB2.out⟩
    generalize b.kb = k at *
    clear hp hpr hX hcap HC c0 c1 c2
    go_wp2_with fail
    refine HF.out.mono ?_
    rintro _ w3 ⟨rfl, hb3⟩
    have HP3 := hid (HP.out.more hb3)
    have HBG := hid (begins_any w3 tc (HTE.out.below HP3.out.bel))
    clear hb3 HF HP HB2
    go_wp2_with fail
    refine HBG.out.mono ?_
    rintro _ _ ⟨⟨at_, rfl, hat⟩, ew⟩
    obtain rfl := ew.symm
    have hal : at_ ≤ 9223372036854775807 := Nat.le_trans hat HTE.out.1
    clear ew HBG hat
    go_upto_region 8 with fail
    go_loopw [13] (fun i wr => ∃ (j : Nat), i = .int .i64 (j : Int) ∧ j ≤ l ∧ Hid (Q1 w1 wr k m)) (fun i _ => l - (intOf i).toNat)
    case atStart => exact ⟨0, rfl, Nat.zero_le _, HP3⟩
    case round =>
    obtain ⟨j, rfl, hj, HI⟩ := hrel
    by_cases hlt : j < l ∧ j < at_
    · obtain ⟨hlt, hla⟩ := hlt
      have hlt' : (j : Int) < (l : Int) := int_lt hlt
      have hla' : (j : Int) < (at_ : Int) := int_lt hla
      have hj0 : (0 : Int) ≤ (j : Int) := by omega
      obtain ⟨o, HO⟩ : ∃ o, Hid (S[j]? = some o) := ⟨_, hid (List.getElem?_eq_getElem (by have := HNL.out; omega))⟩
      obtain ⟨g, off, rfl, hld, hok⟩ := (HSE.out.below HI.out.bel).at HO.out
      obtain ⟨kd, oa, on, oc, LL, dd⟩ := o
      simp only at hld
      have HLD := hid hld
      have HPL := hid (HI.out.play kd oc dd hok.see hok.ok hok.on hok.d)
      clear hld hok HI
      go_wp2_with (first | (refine wpList_ld 39 ⟨g, off + j * 3, none⟩ (.tmp 57) rfl rfl HLD.out rfl ?_) | fail)
      refine HPL.out.mono ?_
      rintro _ w6 ⟨rfl, hq6⟩
      have HI6 := hid hq6
      clear hq6 HPL HLD
      go_wp2_with fail
      go_roundw
      case rel => exact ⟨j + 1, by go_num, hlt, HI6⟩
      case measure => simp [intOf]; omega
    · obtain ⟨d0, d1, d2⟩ := HQ.out wr HI.out.bel
      have HC2 := hid (both_any wr r' n' f')
      have HBR := hid HI.out.bel
      have HREST : Hid (∀ e w4, Bth wr w4 r' n' f' e → Below w1.heap.size w1 w4 ∧ Q1 w1 w4 k m) := fun e w4 hp => ⟨HI.out.bel.trans (hp.2.2.mono HI.out.bel.size), HI.out.more hp.2.2⟩
      obtain ⟨cb, hcb⟩ : ∃ cb : Bool, ((decide ((j : Int) < (l : Int))) && (decide ((j : Int) < (at_ : Int)))) = cb := ⟨_, rfl⟩
      obtain rfl : cb = false := by
        rw [← hcb]
        by_cases h1 : j < l
        · have h2 : ¬ j < at_ := fun h2 => hlt ⟨h1, h2⟩
          simp [h2]
        · simp [h1]
      have hdis : (¬ (j : Int) < (l : Int)) ∨ ((j : Int) < (l : Int) ∧ ¬ (j : Int) < (at_ : Int)) := by
        by_cases h1 : j < l
        · exact .inr ⟨int_lt h1, fun h2 => hlt ⟨h1, by omega⟩⟩
        · exact .inl (int_nlt h1)
      clear hcb
      have fin : ∀ (Q : Prop), Q → Q := fun _ h => h
      clear fin
      rcases hdis with h1 | ⟨h1, h2⟩
      all_goals
        clear hlt
        go_wp2_with fail
        refine HC2.out.mono ?_
        intro e w4 hp
        obtain ⟨hbw4, hq4⟩ := HREST.out e w4 hp
        have HB4 := hid hbw4
        have HC3 := hid (hq4.play 3 0 0 (SeesOp.nil _ _ none) (fun o ho => by cases ho) (by decide) (by decide))
        have HBB : Hid (Below wr.heap.size wr w4) := hp.2.2
        by_cases hcap : Cap r' n' f'
        · obtain ⟨X2, b2, m2, v2, rfl, hpr, hX⟩ := hp.1 hcap
          have HQ2 : Hid (Q2 w1 w4 b2.kb m2 k m) := (HI.out.both hp.2.2 hpr rfl hX).swap
          have HCP := hid hcap
          generalize b2.kb = k2 at *
          clear hp hpr hX hcap HC2 HREST d0 d1 d2 hq4 hbw4 HC3
          have HC3 := hid (HQ2.out.swap.play 3 0 0 (SeesOp.nil _ _ none) (fun o ho => by cases ho) (by decide) (by decide))
          go_wp2_with fail
          refine HC3.out.mono ?_
          rintro _ w5 ⟨rfl, hq5⟩
          have HQ5 := hid hq5
          clear hq5 HC3 HQ2 HB4 HI HBR HBB
          go_upto_region 18 with fail
          go_loopw [17] (fun i wx => ∃ (j : Nat), i = .int .i64 (j : Int) ∧ j ≤ 9223372036854775807 ∧ Hid (Q2 w1 wx k m k2 m2)) (fun i _ => l - (intOf i).toNat)
          case atStart => exact ⟨at_, rfl, hal, HQ5⟩
          case round =>
          obtain ⟨j2, rfl, hj2, HI⟩ := hrel
          by_cases hlt : j2 < l
          · have hlt' : (j2 : Int) < (l : Int) := int_lt hlt
            have hj0 : (0 : Int) ≤ (j2 : Int) := by omega
            obtain ⟨o, HO⟩ : ∃ o, Hid (S[j2]? = some o) := ⟨_, hid (List.getElem?_eq_getElem (by have := HNL.out; omega))⟩
            have hsl := HSE.out.below HI.out.bel
            obtain ⟨g, off, rfl, hld, hok⟩ := hsl.at HO.out
            obtain ⟨kd, oa, on, oc, LL, dd⟩ := o
            simp only at hld
            have HLD := hid hld
            have HOK := hid hok
            have HSL := hid hsl
            obtain ⟨sb, HSB⟩ : ∃ sb : Bool, Hid (sb = true → j2 < tn) ∧ (∀ (_ : j2 < tn), ∃ tg toff, ta = some ⟨tg, toff, none⟩ ∧ wr.cell? ⟨tg, toff + j2, none⟩ = some (.bool sb)) ∧ (¬ j2 < tn → sb = false) := by
              by_cases h : j2 < tn
              · obtain ⟨tg, toff, bb, h1, _, h3⟩ := (HTE.out.below HI.out.bel).2 j2 h
                exact ⟨bb, fun _ => h, fun _ => ⟨tg, toff, h1, h3⟩, fun h' => absurd h h'⟩
              · exact ⟨false, fun h' => (by cases h'), fun h' => absurd h' h, fun _ => rfl⟩
            obtain ⟨-, hsb1, hsb2⟩ := HSB
            clear hld hok hsl
            cases sb with
            | true =>
              have htn : j2 < tn := by
                by_cases h : j2 < tn
                · exact h
                · exact absurd (hsb2 h) (by decide)
              have htn' : (j2 : Int) < (tn : Int) := int_lt htn
              obtain ⟨tg, toff, rfl, htc⟩ := hsb1 htn
              have HPL := hid (HI.out.swap.play kd oc dd HOK.out.see HOK.out.ok HOK.out.on HOK.out.d)
              clear hsb1 hsb2 htn
              go_wp2_with (first | (refine wpList_ld 39 ⟨g, off + j2 * 3, none⟩ (.tmp 105) rfl rfl HLD.out rfl ?_) | fail)
              refine HPL.out.mono ?_
              rintro _ w6 ⟨rfl, hq6⟩
              have HQ6 := hid hq6
              obtain ⟨d0, d1, d2⟩ := HQ.out w6 hq6.bel
              have HC4 := hid (both_any w6 r' n' f')
              clear hq6 HPL htc HLD
              go_wp2_with fail
              refine HC4.out.mono ?_
              intro e w7 hp
              obtain ⟨X3, b3, m3, v3, rfl, hpr, hX⟩ := hp.1 HCP.out
              have hb7 := hp.2.2
              have hsl7 := HSE.out.below (HQ6.out.bel.trans (hb7.mono HQ6.out.bel.size))
              obtain ⟨_, _, ho7, hld7, hok7⟩ := hsl7.at HO.out
              simp only [Option.some.injEq, Addr.mk.injEq, and_true] at ho7
              obtain ⟨rfl, rfl⟩ := ho7
              simp only at hld7
              have HLD7 := hid hld7
              have hz6 := HQ6.out.bel.size
              have HPL := hid (fresh_play hb7 hpr hX kd oc dd (hok7.see.more fun c _ hc => Nat.lt_of_lt_of_le hc hz6) hok7.ok hok7.on hok7.d)
              clear hp hpr hX hb7 hsl7 hld7 hok7 HC4 d0 d1 d2 hz6
              go_wp2_with (first | (refine wpList_ld 39 ⟨g, off + j2 * 3, none⟩ (.tmp 132) rfl rfl HLD7.out rfl ?_) | fail)
              refine HPL.out.mono ?_
              rintro _ w8 ⟨rfl, hb8⟩
              have HI8 : Hid (Q2 w1 w8 k m k2 m2) := (HQ6.out.more hb8).swap
              clear hb8 HPL HLD7 HQ6
              go_wp2_with fail
              go_roundw
              case rel => exact ⟨j2 + 1, by go_num, by omega, HI8⟩
              case measure => simp [intOf]; omega
            | false =>
              have HPL := hid (HI.out.play kd oc dd HOK.out.see HOK.out.ok HOK.out.on HOK.out.d)
              by_cases htn : j2 < tn
              · have htn' : (j2 : Int) < (tn : Int) := int_lt htn
                obtain ⟨tg, toff, rfl, htc⟩ := hsb1 htn
                clear hsb1 hsb2 htn
                go_wp2_with (first | (refine wpList_ld 39 ⟨g, off + j2 * 3, none⟩ (.tmp 144) rfl rfl HLD.out rfl ?_) | fail)
                refine HPL.out.mono ?_
                rintro _ w6 ⟨rfl, hq6⟩
                have HI8 := hid hq6
                clear hq6 HPL HLD htc
                go_wp2_with fail
                go_roundw
                case rel => exact ⟨j2 + 1, by go_num, by omega, HI8⟩
                case measure => simp [intOf]; omega
              · have htn' : ¬ (j2 : Int) < (tn : Int) := int_nlt htn
                clear hsb1 hsb2 htn
                go_wp2_with (first | (refine wpList_ld 39 ⟨g, off + j2 * 3, none⟩ (.tmp 144) rfl rfl HLD.out rfl ?_) | fail)
                refine HPL.out.mono ?_
                rintro _ w6 ⟨rfl, hq6⟩
                have HI8 := hid hq6
                clear hq6 HPL HLD
                go_wp2_with fail
                go_roundw
                case rel => exact ⟨j2 + 1, by go_num, by omega, HI8⟩
                case measure => simp [intOf]; omega
          · have hlt' : ¬ (j2 : Int) < (l : Int) := int_nlt hlt
            have HPL := hid (HI.out.play 3 0 0 (SeesOp.nil _ _ none) (fun o ho => by cases ho) (by decide) (by decide))
            clear hlt HI HQ5
            go_wp2_with fail
            refine HPL.out.mono ?_
            rintro _ w6 ⟨rfl, hq6⟩
            have HPL2 := hid (hq6.swap.play 3 0 0 (SeesOp.nil _ _ none) (fun o ho => by cases ho) (by decide) (by decide))
            clear hq6 HPL
            go_wp2_with fail
            refine HPL2.out.mono ?_
            rintro _ w7 ⟨rfl, hq7⟩
            have HFIN : Hid (Below w.heap.size w w7) := HB1.out.trans (hq7.bel.mono HB1.out.size)
            clear hq7 HPL2
            go_wp2_with fail
            go_ret
            exact ⟨rfl, HFIN.out⟩
        · obtain rfl := hp.2.1 hcap
          clear hp hcap HC2 HREST d0 d1 d2 hq4 hbw4
          go_wp2_with fail
          refine HC3.out.mono ?_
          rintro _ w5 ⟨rfl, hq5⟩
          have HFIN : Hid (Below w.heap.size w w5) := HB1.out.trans (hq5.bel.mono HB1.out.size)
          clear hq5 HC3
          go_wp2_with fail
          go_ret
          exact ⟨rfl, HFIN.out⟩
  · obtain rfl := hp.2.1 hcap
    clear hp hcap HC c0 c1 c2
    go_wp2_with fail
    refine HF.out.mono ?_
    rintro _ w3 ⟨rfl, hb3⟩
    have HFIN : Hid (Below w.heap.size w w3) := HB1.out.trans ((HB2.out.trans (hb3.mono HB2.out.size)).mono HB1.out.size)
    clear hb3 HF
    go_wp2_with fail
    go_ret
    exact ⟨rfl, HFIN.out⟩
end Go.Proofs.YtpdokaoholifkabGreat.Rt
