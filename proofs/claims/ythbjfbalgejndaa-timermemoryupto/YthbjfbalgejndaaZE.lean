/-
  The law's untouched: the walk.
-/
import Derived.Test.YthbjfbalgejndaaZD
import Derived.Lib.AppendZeros
namespace Go.Proofs.Ythbjfbalgejndaa
open Go.ChangeShapes Go.WideShapes Go.ChangeAt Go.RowKit Go.Maps H
set_option maxHeartbeats 20000000
set_option maxRecDepth 100000

def UnE (w0 wr : World) (b bm : Nat) (L : List Dl) (vl vw : Value) (m : Nat) : Prop := ∃ go S Vs Ws, Un w0 wr b bm go S L vl vw Vs Ws ∧ Vs.length = m
theorem UnE.be {w0 wr : World} {b bm m : Nat} {L : List Dl} {vl vw : Value} (h : UnE w0 wr b bm L vl vw m) : Below w0.heap.size w0 wr := by
  obtain ⟨go, S, Vs, Ws, h, -⟩ := h
  exact h.tb.be
theorem UnE.set {w0 wr : World} {b bm m : Nat} {L : List Dl} {vl vw : Value} (h : UnE w0 wr b bm L vl vw m) {i : Nat} {d : Dl} (hd : L[i]? = some d) (hi : i < 300) (h1 : In64 d.1) (h2 : In64 d.2) :
    Calls Try.prog 13 #[.pointer (some ⟨b, 0, none⟩), .int .i64 d.1, .int .i64 d.2] wr.drew fun e w' => e = .returned (.int .i64 0) ∧ UnE w0 w' b bm L vl vw m := by
  obtain ⟨go, S, Vs, Ws, h, hm⟩ := h
  refine ((h.below (below_drew (Below.refl _ _))).set hd hi h1 h2).mono ?_
  rintro e w' ⟨rfl, go', S', h'⟩
  exact ⟨rfl, go', S', Vs, Ws, h', hm⟩
/-- Two Dues, what they gave laid beside, and copies. -/
theorem UnE.round {w0 wr : World} {b bm m : Nat} {L : List Dl} {vl vw : Value} (h : UnE w0 wr b bm L vl vw m) (now : Int) (hn : In64 now) (hm : m + 2 ≤ 4294967296) :
    Calls Try.prog 15 #[.pointer (some ⟨b, 0, none⟩), .int .i64 now] wr fun e W1 => ∃ a1 n1 c1, e = .returned (.slice a1 n1 c1) ∧ Hid (Below w0.heap.size w0 W1) ∧ Hid (Calls Try.prog 15 #[.pointer (some ⟨b, 0, none⟩), .int .i64 now] W1 fun e W2 => ∃ a2 n2 c2, e = .returned (.slice a2 n2 c2) ∧
      Hid (∃ a3 n3 c3 w3 a4 n4 c4 w4 a5 n5 c5 w5 a6 n6 c6 w6, Hid ((Builtin.append_ #[64, 64] 64 #[vl, .slice (some ⟨W2.heap.size, 0, none⟩) 2 2]).run Try.prog (W2.alloc (.cells #[.slice a1 n1 c1, .slice a2 n2 c2] 37)) = .ok (.slice a3 n3 c3) w3) ∧
        Hid ((Builtin.append_ #[37, 37] 37 #[.slice none 0 0, .slice a1 n1 c1]).run Try.prog w3 = .ok (.slice a4 n4 c4) w4) ∧ Hid ((Builtin.append_ #[37, 37] 37 #[.slice none 0 0, .slice a2 n2 c2]).run Try.prog w4 = .ok (.slice a5 n5 c5) w5) ∧
        Hid ((Builtin.append_ #[64, 64] 64 #[vw, .slice (some ⟨w5.heap.size, 0, none⟩) 2 2]).run Try.prog (w5.alloc (.cells #[.slice a4 n4 c4, .slice a5 n5 c5] 37)) = .ok (.slice a6 n6 c6) w6) ∧ Hid (UnE w0 w6 b bm L (.slice a3 n3 c3) (.slice a6 n6 c6) (m + 2)))) := by
  obtain ⟨go, S, Vs, Ws, h, hlen⟩ := h
  refine (h.tb.due now hn).mono ?_
  rintro e W1 ⟨v1, rfl, ho1, ht1, hf1, hl1, hi1⟩
  have hU1 := h.fr hf1 ht1
  obtain ⟨a1, c1, e1, -⟩ := ownI_len ho1
  subst e1
  refine ⟨a1, _, c1, rfl, ht1.be, ?_⟩
  refine (hU1.tb.due now hn).mono ?_
  rintro e W2 ⟨v2, rfl, ho2, ht2, hf2, hl2, hi2⟩
  have hU2 := hU1.fr hf2 ht2
  have ho1' := row_tm ho1 hU1.tb.tm hf2 (by decide)
  obtain ⟨a2, c2, e2, -⟩ := ownI_len ho2
  subst e2
  refine ⟨a2, _, c2, rfl, ?_⟩
  have s1 := hf1.size
  have s0 := h.tb.be.size
  have old : ∀ v ∈ Vs, ∀ k, v.ownBlock = some k → k < wr.heap.size := fun v hv k hk => by
    obtain ⟨i, hi, rfl⟩ := List.getElem_of_mem hv
    obtain ⟨K, p1, -⟩ := h.pr i Vs[i] (Ws[i]'(by rw [← h.len]; exact hi)) (List.getElem?_eq_getElem _) (List.getElem?_eq_getElem _)
    exact (World.ownsRow.lt p1 k hk).2
  obtain ⟨vl', w3, r3, k1, w4, r4, k2, w5, r5, vw', w6, r6, ⟨a3, n3, c3, rfl⟩, ⟨a4, n4, c4, rfl⟩, ⟨a5, n5, c5, rfl⟩, ⟨a6, n6, c6, rfl⟩, hU⟩ := hU2.more _ _ _ _ _ _ ho1' ho2 hi1 hi2 (by rw [List.length_map]; exact hl1) (by rw [List.length_map]; exact hl2) s0 (by omega) (by omega)
    (fun v hv k hk hk' => by have := old v hv k hk; have := (World.ownsRow.lt ho1 k hk').1; omega)
    (fun v hv k hk hk' => by have := old v hv k hk; have := (World.ownsRow.lt ho2 k hk').1; omega)
    (fun k hk hk' => by have := (World.ownsRow.lt ho1 k hk).2; have := (World.ownsRow.lt ho2 k hk').1; omega)
  exact ⟨a3, n3, c3, w3, a4, n4, c4, w4, a5, n5, c5, w5, a6, n6, c6, w6, r3, r4, r5, r6, _, _, _, _, hU, by simp [hlen]⟩
/-- What is compared. -/
theorem UnE.pair {w0 wr : World} {b bm m : Nat} {L : List Dl} {al aw : Option Addr} {nl cl nw cw : Nat} (h : UnE w0 wr b bm L (.slice al nl cl) (.slice aw nw cw) m) :
    nl = m ∧ nw = m ∧ ∀ i, i < m → ∃ gl gw a n c a' n' c', al = some ⟨gl, 0, none⟩ ∧ aw = some ⟨gw, 0, none⟩ ∧ (∀ t : Beh wr, t.wd.cell? ⟨gl, i, none⟩ = some (.slice a n c)) ∧ (∀ t : Beh wr, t.wd.cell? ⟨gw, i, none⟩ = some (.slice a' n' c')) ∧
      ∀ t : Beh wr, Hid (Calls Try.prog 17 #[.slice a n c, .slice a' n' c'] t.wd fun e w' => e = .returned (.bool true) ∧ ∃ t' : Beh wr, w' = t'.wd) := by
  obtain ⟨go, S, Vs, Ws, h, rfl⟩ := h
  obtain ⟨al', cl', el, -, -, l0, l1⟩ := Me.row_len h.ls
  obtain ⟨aw', cw', ew, -, -, m0, m1⟩ := Me.row_len h.ws
  have hlen := h.len
  simp only [Value.slice.injEq] at el ew
  obtain ⟨rfl, rfl, rfl⟩ := el
  obtain ⟨rfl, rfl, rfl⟩ := ew
  refine ⟨rfl, hlen.symm, fun i hi => ?_⟩
  cases al with
  | none => have := (l0 rfl).1; omega
  | some p =>
  cases aw with
  | none => have := (m0 rfl).1; omega
  | some p' =>
  obtain ⟨gl, rfl, -, hgl⟩ := l1 p rfl
  obtain ⟨gw, rfl, -, hgw⟩ := m1 p' rfl
  obtain ⟨K, p1, p2, p3, -⟩ := h.pr i Vs[i] (Ws[i]'(by omega)) (List.getElem?_eq_getElem _) (List.getElem?_eq_getElem _)
  have cv := (Me.row_cell (xs := Vs) h.ls (List.getElem?_eq_getElem hi)).1
  have cw := (Me.row_cell (xs := Ws) h.ws (List.getElem?_eq_getElem (by omega : i < Ws.length))).1
  generalize Vs[i] = v at *
  generalize Ws[i]'(by omega) = u at *
  obtain ⟨a, c, e1, -⟩ := ownI_len p1
  obtain ⟨a', c', e2, -⟩ := ownI_len p2
  subst e1 e2
  refine ⟨gl, gw, a, _, c, a', _, c', rfl, rfl, fun t => (t.ok.cell (p := ⟨gl, i, none⟩) hgl).trans cv, fun t => (t.ok.cell (p := ⟨gw, i, none⟩) hgw).trans cw, fun t => ?_⟩
  have := sameInts_any _ _ K K t.wd (OwnI.sees (Me.row_below p1 t.ok) p3) (OwnI.sees (Me.row_below p2 t.ok) p3)
  rw [decide_eq_true rfl] at this
  exact Calls.beh this

theorem UnE.below {w0 wr wr' : World} {b bm m : Nat} {L : List Dl} {vl vw : Value} (h : UnE w0 wr b bm L vl vw m) (hb : Below wr.heap.size wr wr') : UnE w0 wr' b bm L vl vw m := by
  obtain ⟨go, S, Vs, Ws, h, e⟩ := h
  exact ⟨go, S, Vs, Ws, h.below hb, e⟩

theorem untouched_any (v0 v1 : Value) (L : List Dl) (M : List Int) (w : World) (hs0 : SeesP w v0 L) (hs1 : SeesI w v1 M) (hbM : M.length ≤ 1048576) :
    Calls Try.prog 12 #[v0, v1] w fun e w' => e = .returned (.bool true) ∧ Below w.heap.size w w' := by
  obtain ⟨ao, nL, capL, rfl, HNL, hl1, hl2⟩ := hs0.shape
  obtain ⟨bo, n, cap, rfl, HN, hn1, hn2⟩ := hs1.shape
  have hnM : n ≤ 1048576 := by rw [HN.out]; exact hbM
  have HS0 := hid hs0
  have HS1 := hid hs1
  unfold maxLen at hl2 hn2
  clear hs0 hs1 hbM
  have HNE := hid (new_good 65536 w (by decide) (by decide))
  go_enter Try.func12, Try.ntmps12
  go_wp2_with fail
  refine HNE.out.mono ?_
  rintro _ w1 ⟨b, bm, rfl, hT, hb1, hb2, _, hbe⟩
  have HU : Hid (UnE w w1 b bm L (.slice none 0 0) (.slice none 0 0) (2 * 0)) := ⟨none, [], [], [], Un.start ⟨hT, (fun x hx => by cases hx), fun x hx => by simp [fp] at hx; rcases hx with rfl | rfl <;> assumption, hbe⟩, rfl⟩
  clear hT hb1 hb2 hbe HNE
  go_upto_region 7 with fail
  go_loopw [7, 8, 9] (fun vl vw i wv => ∃ (k : Nat) (al aw : Option Addr) (nl cl nw cw : Nat) (wr : World), wr = wv ∧ vl = .slice al nl cl ∧ vw = .slice aw nw cw ∧ i = .int .i64 (k : Int) ∧ k ≤ n ∧ Hid (UnE w wr b bm L (.slice al nl cl) (.slice aw nw cw) (2 * k))) (fun _ _ i _ => n - (intOf i).toNat)
  case atStart => exact ⟨0, none, none, 0, 0, 0, 0, _, rfl, rfl, rfl, rfl, Nat.zero_le _, HU⟩
  case round =>
    clear HU
    obtain ⟨k, al, aw, nl, cl, nw, cw, u, rfl, rfl, rfl, rfl, hk, HU⟩ := hrel
    by_cases hlt : k < n
    · have hlt' : (k : Int) < (n : Int) := by omega
      go_upto_region 10 with fail
      go_loopw [10] (fun j wv => ∃ (q : Nat) (wr : World), wr = wv ∧ j = .int .i64 (q : Int) ∧ q ≤ nL ∧ Hid (UnE w wr b bm L (.slice al nl cl) (.slice aw nw cw) (2 * k))) (fun j _ => nL - (intOf j).toNat)
      case atStart => exact ⟨0, _, rfl, rfl, Nat.zero_le _, HU⟩
      case round =>
        clear HU
        obtain ⟨q, x, rfl, rfl, hq, HU⟩ := hrel
        by_cases hc : q < nL ∧ q < 300
        · obtain ⟨hqn, hq3⟩ := hc
          obtain ⟨g0, o0, d, rfl, hg0, e0, e1, hd, HD⟩ := (HS0.out.below HU.out.be).at q hqn
          have HSE := hid (HU.out.set HD.out hq3 hd.1 hd.2)
          have b1 : (q : Int) < (nL : Int) := by omega
          have b2 : (q : Int) < 300 := by omega
          clear HD hd
          generalize hd1 : d.1 = z0 at *
          generalize hd2 : d.2 = z1 at *
          clear hd1 hd2
          go_upto_region 12 with fail
          go_cut [6] from 38 to 61 (fun e wx => ∃ y, y = wx ∧ e = .int .i64 0 ∧ Hid (UnE w y b bm L (.slice al nl cl) (.slice aw nw cw) (2 * k)))
          case first =>
            go_region_with (first | (go_at_call 13; refine HSE.out.mono ?_; rintro _ y1 ⟨rfl, hu1⟩) | fail)
            all_goals (
              go_wp2_with fail
              go_meet
              case rel => exact ⟨_, rfl, rfl, hu1⟩)
          case rest =>
          obtain ⟨y, hy, rfl, HU2⟩ := hcut
          subst hy
          clear e0 e1 HSE HU
          go_wp2_with fail
          go_roundw
          case rel => exact ⟨q + 1, _, rfl, by go_num, by omega, HU2⟩
          case measure => simp [intOf]; omega
        · have HEND : Hid True := trivial
          obtain ⟨g1, o1, now, rfl, hg1, c0, hin, HNW⟩ := (HS1.out.below HU.out.be).at k hlt
          have HCN : Hid (∀ y, Below w.heap.size w y → y.cell? ⟨g1, o1 + k, none⟩ = some (.int .i64 now)) := fun y hy => by
            obtain ⟨g2, o2, now2, e2, _, c2, _, HNW2⟩ := (HS1.out.below hy).at k hlt
            simp only [Option.some.injEq, Addr.mk.injEq, and_true] at e2
            obtain ⟨rfl, rfl⟩ := e2
            obtain rfl : now2 = now := by have := HNW2.out; rw [HNW.out] at this; exact (Option.some.inj this).symm
            exact c2
          have HRD := hid (HU.out.round now hin (by omega))
          clear hin HNW hg1
          rcases Nat.lt_or_ge q nL with hqn | hqn
          all_goals (
            first
              | have b2 : ¬ (q : Int) < 300 := (by omega)
              | have b2 : ¬ (q : Int) < (nL : Int) := (by omega)
            have b1 : (q : Int) < (nL : Int) ∨ ¬ (q : Int) < (nL : Int) := (by omega)
            first
              | have b3 : (q : Int) < (nL : Int) := (by omega)
              | skip
            clear b1 hc hq
            go_wp2_with fail
            refine HRD.out.mono ?_
            rintro _ w2 ⟨a1, n1, c1, rfl, HB2, HR2⟩
            have c2 := HCN.out w2 HB2.out
            clear c0 HRD HCN HB2
            go_wp2_with fail
            refine HR2.out.mono ?_
            rintro _ w3 ⟨a2, n2, c2', rfl, HR3⟩
            obtain ⟨a3, n3, c3, w3', a4, n4, c4, w4, a5, n5, c5, w5, a6, n6, c6, w6, HA3, HA4, HA5, HA6, HU6⟩ := HR3.out
            clear c2 HR2 HR3 HU
            go_wp2_with (first | (at_builtin; refine Go.Lib.wpList_append_run _ rfl (.tmp 74) (.tmp 77) 64 64 rfl _ _ rfl rfl _ _ HA3.out ?_) | (at_builtin; refine Go.Lib.wpList_append_run _ rfl (.const (.slice none 0 0)) (.tmp 80) 37 37 rfl _ _ rfl rfl _ _ HA4.out ?_) | (at_builtin; refine Go.Lib.wpList_append_run _ rfl (.const (.slice none 0 0)) (.tmp 82) 37 37 rfl _ _ rfl rfl _ _ HA5.out ?_) | (at_builtin; refine Go.Lib.wpList_append_run _ rfl (.tmp 79) (.tmp 84) 64 64 rfl _ _ rfl rfl _ _ HA6.out ?_) | fail)
            go_roundw
            case rel => exact ⟨k + 1, a3, a6, n3, c3, n6, c6, _, rfl, rfl, rfl, by go_num, hlt, HU6⟩
            case measure => simp [intOf]; omega)
    · have hlt' : ¬ (k : Int) < (n : Int) := by omega
      obtain ⟨mm, HMM⟩ : ∃ mm, Hid (mm = 2 * k) := ⟨_, rfl⟩
      have hmm : mm ≤ 2097152 := by have := HMM.out; omega
      rw [← HMM.out] at HU
      obtain ⟨e1, e2, -⟩ := HU.out.pair
      subst e1
      obtain rfl : nl = nw := e2.symm
      clear HMM
      go_upto_region 20 with fail
      go_loopw [13] (fun i wv => ∃ (q : Nat) (wr : World), wr = wv ∧ i = .int .i64 (q : Int) ∧ q ≤ nl ∧ Hid (UnE w wr b bm L (.slice al nl cl) (.slice aw nl cw) nl)) (fun i _ => nl - (intOf i).toNat)
      case atStart => exact ⟨0, _, rfl, rfl, Nat.zero_le _, HU⟩
      case round =>
        clear HU
        obtain ⟨q, x, rfl, rfl, hq, HU⟩ := hrel
        by_cases hqn : q < nl
        · obtain ⟨-, -, hp⟩ := HU.out.pair
          obtain ⟨gl, gw, a, n1, c, a', n2, c', rfl, rfl, y0, y1, HSM⟩ := hp q hqn
          have b1 : (q : Int) < (nl : Int) := by omega
          have b2 : (0 : Int) ≤ (q : Int) := by omega
          have b3 : decide ((q : Int) < 0) = false := by simp
          clear hp
          go_upto_region 22 with fail
          refine wp_region_beh (by kernel_rfl) (by kernel_rfl) ?_
          repeat (go_big_quiet_step (first | (go_at_call 17; exact (HSM _).out)))
          refine wpQuiet_nil ?_
          rintro _ ⟨t, rfl⟩
          have HU2 := hid (HU.out.below t.ok)
          clear y0 y1 HSM HU
          go_wp2_with fail
          go_roundw
          case rel => exact ⟨q + 1, _, rfl, by go_num, hqn, HU2⟩
          case measure => simp [intOf]; omega
        · have b1 : ¬ (q : Int) < (nl : Int) := by omega
          obtain ⟨go, S, Vs, Ws, hU, hV⟩ := HU.out
          obtain ⟨K, hL, hK⟩ := hU.lists
          have HV := hid hV
          have HK := hid hK
          have HL : Hid (Ls w x (.slice al nl cl) Vs (mkd K 0 0)) := hL.mkStart
          clear hU hL hV hK HU
          go_upto_region 25 with fail
          go_loopw [14] (fun i wv => ∃ (j : Nat) (wr : World), wr = wv ∧ i = .int .i64 (j : Int) ∧ j ≤ nl ∧ Hid (Ls w wr (.slice al nl cl) Vs (mkd K j 0))) (fun i _ => nl - (intOf i).toNat)
          case atStart => exact ⟨0, _, rfl, rfl, Nat.zero_le _, HL⟩
          case round =>
            clear HL
            obtain ⟨j, y, rfl, rfl, hj, HL⟩ := hrel
            by_cases hjn : j < nl
            · have b4 : (j : Int) < (nl : Int) := by omega
              have hm1 : (-9223372036854775808 : Int) ≤ -1 - (j : Int) := by omega
              have hm2 : -1 - (j : Int) ≤ (9223372036854775807 : Int) := by omega
              obtain ⟨lj, HLJ⟩ : ∃ lj, Hid (lj = (K j).length) := ⟨_, rfl⟩
              have hlj : lj ≤ 300 := by have := HK.out j; have := HLJ.out; omega
              go_upto_region 28 with fail
              go_loopw [15] (fun i wv => ∃ (p : Nat) (wr : World), wr = wv ∧ i = .int .i64 (p : Int) ∧ p ≤ lj ∧ Hid (Ls w wr (.slice al nl cl) Vs (mkd K j p))) (fun i _ => lj - (intOf i).toNat)
              case atStart => exact ⟨0, _, rfl, rfl, Nat.zero_le _, HL⟩
              case round =>
                clear HL
                obtain ⟨p, z, rfl, rfl, hp, HL⟩ := hrel
                obtain ⟨g, a, cp, rfl, k1, k2, k3, k4⟩ := HL.out.mkAt (by rw [HV.out]; exact hjn) (by rw [← HLJ.out]; exact hp)
                rw [← HLJ.out] at k1 k3 k4
                by_cases hpl : p < lj
                · obtain ⟨q1, x1, rfl, k5, k6, HL2⟩ := k4 hpl
                  have b5 : (p : Int) < (lj : Int) := by omega
                  clear k4
                  go_wp2_with fail
                  go_roundw
                  case rel => exact ⟨p + 1, _, rfl, by go_num, hpl, HL2⟩
                  case measure => simp [intOf]; omega
                · have b5 : ¬ (p : Int) < (lj : Int) := by omega
                  obtain rfl : p = lj := by omega
                  have HL2 : Hid (Ls w z (.slice (some ⟨g, 0, none⟩) nl cl) Vs (mkd K (j + 1) 0)) := by
                    have := HL.out
                    rw [HLJ.out] at this
                    exact this.mkNext
                  clear k4
                  go_wp2_with fail
                  go_roundw
                  case rel => exact ⟨j + 1, _, rfl, by go_num, hjn, HL2⟩
                  case measure => simp [intOf]; omega
            · have b4 : ¬ (j : Int) < (nl : Int) := by omega
              obtain rfl : j = nl := by omega
              have HG : Hid (Gs w y (.slice al j cl) (.slice none 0 0) Vs [] (fun j => (K j).length) ∧ ([] : List Value).length = 0) := by
                have := HL.out
                rw [← HV.out] at this ⊢
                exact ⟨this.mkEnd, rfl⟩
              have HGX : Hid (∃ Us, Gs w y (.slice al j cl) (.slice none 0 0) Vs Us (fun j => (K j).length) ∧ Us.length = 0) := ⟨[], HG.out⟩
              clear HG HL
              go_upto_region 33 with fail
              go_loopw [16, 17] (fun vm i wv => ∃ (i' nm cm : Nat) (am : Option Addr) (wr : World), wr = wv ∧ vm = .slice am nm cm ∧ i = .int .i64 (i' : Int) ∧ i' ≤ j ∧ Hid (∃ Us, Gs w wr (.slice al j cl) (.slice am nm cm) Vs Us (fun j => (K j).length) ∧ Us.length = i')) (fun _ i _ => j - (intOf i).toNat)
              case atStart => exact ⟨0, 0, 0, none, _, rfl, rfl, rfl, Nat.zero_le _, HGX⟩
              case round =>
                clear HGX
                obtain ⟨i', nm, cm, am, z, rfl, rfl, rfl, hi', HG⟩ := hrel
                by_cases hin : i' < j
                · have b5 : (i' : Int) < (j : Int) := by omega
                  have hm1 : (-9223372036854775808 : Int) ≤ -1 - (i' : Int) := by omega
                  have hm2 : -1 - (i' : Int) ≤ (9223372036854775807 : Int) := by omega
                  obtain ⟨Us, hG, hU⟩ := HG.out
                  obtain ⟨g, a, cp, rfl, k1, k2, k3, hGi⟩ := hG.begin (i := i') (by rw [HV.out]; exact hin) hU
                  obtain ⟨li, HLI⟩ : ∃ li, Hid (li = (K i').length) := ⟨_, rfl⟩
                  have hli : li ≤ 300 := by have := HK.out i'; have := HLI.out; omega
                  rw [← HLI.out] at k1 k3 hGi
                  have HGI := hid hGi
                  clear hG hU hGi HG
                  go_upto_region 37 with fail
                  go_loopw [18, 19] (fun gv i wv => ∃ (q ln : Nat) (wr : World), wr = wv ∧ gv = .slice a ln cp ∧ i = .int .i64 (q : Int) ∧ q ≤ 70000 ∧ ln ≤ 300 + q ∧ Hid (Gi w wr (.slice (some ⟨g, 0, none⟩) j cl) (.slice am nm cm) Vs Us (fun j => (K j).length) i' ln a cp)) (fun _ i _ => 70000 - (intOf i).toNat)
                  case atStart => exact ⟨0, li, _, rfl, rfl, rfl, Nat.zero_le _, by omega, HGI⟩
                  case round =>
                    clear HGI k3
                    obtain ⟨q, ln, x1, rfl, rfl, rfl, hq7, hln, HGI⟩ := hrel
                    have k3 := HGI.out.here
                    rw [← HLI.out] at k3
                    by_cases hc : ln < cp ∧ q < 70000
                    · obtain ⟨hc1, hc2⟩ := hc
                      obtain ⟨w', hr, hG2⟩ := HGI.out.grow hc1 (by omega)
                      have HR := hid hr
                      have HG2 := hid hG2
                      have b6 : (ln : Int) < (cp : Int) := by omega
                      have b7 : (q : Int) < 70000 := by omega
                      clear hr hG2
                      go_wp2_with (first | (at_builtin; refine Go.Lib.wpList_append_run _ rfl (.tmp 149) (.tmp 152) 37 37 rfl _ _ rfl rfl _ _ HR.out ?_) | fail)
                      go_roundw
                      case rel => exact ⟨q + 1, ln + 1, _, rfl, rfl, by go_num, hc2, by omega, HG2⟩
                      case measure => simp [intOf]; omega
                    · obtain ⟨a', n', c', w', hr, hG2, hU2⟩ := HGI.out.done (by omega)
                      have HR := hid hr
                      have HG2 : Hid (∃ Us, Gs w w' (.slice (some ⟨g, 0, none⟩) j cl) (.slice a' n' c') Vs Us (fun j => (K j).length) ∧ Us.length = i' + 1) := ⟨_, hG2, hU2⟩
                      clear hr hG2 hU2
                      rcases Nat.lt_or_ge ln cp with hqn | hqn
                      · have b6 : (ln : Int) < (cp : Int) := by omega
                        have b7 : ¬ (q : Int) < 70000 := by omega
                        clear hc
                        go_wp2_with (first | (at_builtin; refine Go.Lib.wpList_append_run _ rfl (.tmp 154) (.tmp 156) 64 64 rfl _ _ rfl rfl _ _ HR.out ?_) | fail)
                        go_roundw
                        case rel => exact ⟨i' + 1, n', c', a', _, rfl, rfl, by go_num, hin, HG2⟩
                        case measure => simp [intOf]; omega
                      · have b6 : ¬ (ln : Int) < (cp : Int) := by omega
                        clear hc
                        go_wp2_with (first | (at_builtin; refine Go.Lib.wpList_append_run _ rfl (.tmp 154) (.tmp 156) 64 64 rfl _ _ rfl rfl _ _ HR.out ?_) | fail)
                        go_roundw
                        case rel => exact ⟨i' + 1, n', c', a', _, rfl, rfl, by go_num, hin, HG2⟩
                        case measure => simp [intOf]; omega
                · have b5 : ¬ (i' : Int) < (j : Int) := by omega
                  obtain rfl : i' = j := by omega
                  obtain ⟨Us, hG, hU⟩ := HG.out
                  have HU := hid hU
                  have hnm : nm = i' := by
                    obtain ⟨am', cm', e, -⟩ := Me.row_len hG.ms
                    simp only [Value.slice.injEq] at e
                    rw [e.2.1, hU]
                  subst hnm
                  have HG1 := hid hG
                  clear hG hU HG
                  go_upto_region 42 with fail
                  go_loopw [20] (fun i wv => ∃ (p : Nat) (wr : World), wr = wv ∧ i = .int .i64 (p : Int) ∧ p ≤ nm ∧ Hid (Gs w wr (.slice al nm cl) (.slice am nm cm) Vs Us (fun j => (K j).length))) (fun i _ => nm - (intOf i).toNat)
                  case atStart => exact ⟨0, _, rfl, rfl, Nat.zero_le _, HG1⟩
                  case round =>
                    clear HG1
                    obtain ⟨p, x1, rfl, rfl, hp, HG⟩ := hrel
                    by_cases hpn : p < nm
                    · have b6 : (p : Int) < (nm : Int) := by omega
                      have hm1 : (-9223372036854775808 : Int) ≤ -1 - (p : Int) := by omega
                      have hm2 : -1 - (p : Int) ≤ (9223372036854775807 : Int) := by omega
                      obtain ⟨gl, gm, a, m, c, a', c', rfl, rfl, k1, k2, k3, k4, k5, k6⟩ := HG.out.look (i := p) (by rw [HU.out]; exact hpn)
                      obtain ⟨lp, HLP⟩ : ∃ lp, Hid (lp = (K p).length) := ⟨_, rfl⟩
                      rw [← HLP.out] at k2 k4 k6
                      have K5 := hid k5
                      have K6 := hid k6
                      clear k5 k6
                      go_upto_region 45 with fail
                      go_loopw [21] (fun i wv => ∃ (q : Nat), wv = x1 ∧ i = .int .i64 (q : Int) ∧ q ≤ m) (fun i _ => m - (intOf i).toNat)
                      case atStart => exact ⟨0, rfl, rfl, Nat.zero_le _⟩
                      case round =>
                        obtain ⟨q, rfl, rfl, hq⟩ := hrel
                        by_cases hqm : q < m
                        · have b7 : (q : Int) < (m : Int) := by omega
                          obtain ⟨q1, e1, c1⟩ := K5.out q hqm
                          subst e1
                          by_cases hql : q < lp
                          · have b8 : (q : Int) < (lp : Int) := by omega
                            obtain ⟨q2, e2, c2⟩ := K6.out q hql
                            subst e2
                            go_wp2_with fail
                            go_roundw
                            case rel => exact ⟨q + 1, by trivial, by go_num, hqm⟩
                            case measure => simp [intOf]; omega
                          · have b8 : ¬ (q : Int) < (lp : Int) := by omega
                            go_wp2_with fail
                            go_roundw
                            case rel => exact ⟨q + 1, by trivial, by go_num, hqm⟩
                            case measure => simp [intOf]; omega
                        · have b7 : ¬ (q : Int) < (m : Int) := by omega
                          go_wp2_with fail
                          go_roundw
                          case rel => exact ⟨p + 1, _, rfl, by go_num, hpn, HG⟩
                          case measure => simp [intOf]; omega
                    · have b6 : ¬ (p : Int) < (nm : Int) := by omega
                      have HB := hid HG.out.ls.be
                      clear HG
                      go_wp2_with fail
                      go_ret
                      exact ⟨rfl, HB.out⟩
end Go.Proofs.Ythbjfbalgejndaa
