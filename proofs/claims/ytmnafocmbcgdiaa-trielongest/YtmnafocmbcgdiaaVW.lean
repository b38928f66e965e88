/-
  TrieLongest.
-/
import Derived.Test.YtmnafocmbcgdiaaVV
namespace Go.Proofs.Ytmnafocmbcgdiaa
open Go.ChangeShapes Go.WideShapes Go.ChangeAt Go.RowKit Tri N
set_option maxHeartbeats 4000000
set_option maxRecDepth 100000

theorem TrieAt.below {w w' : World} {X : Nat → Prop} {tb : Nat} {t : Tr} (h : TrieAt w X tb t) (hb : Below w.heap.size w w') : TrieAt w' X tb t := by
  obtain ⟨h1, h2, ⟨m, h3, h4, h5⟩, h6⟩ := h
  exact ⟨h1, fun b hx => Nat.lt_of_lt_of_le (h2 b hx) hb.size, ⟨m, below_keeps hb h3 (Array.getElem?_eq_some_iff.1 h3).1, h4, h5.below hb⟩, h6⟩

/-- The slice value v shows the addresses A. -/
def SeesA (w : World) (v : Value) (L : List Nat) : Prop :=
  ∃ ao cap, v = .slice ao L.length cap ∧ L.length ≤ cap ∧ cap ≤ maxLen ∧
    ∀ j (h : j < L.length), ∃ g off, ao = some ⟨g, off, none⟩ ∧ g < w.heap.size ∧ w.cell? ⟨g, off + j, none⟩ = some (.int .u32 (L[j] : Int))

theorem SeesA.below {w w' : World} {v : Value} {L : List Nat} (h : SeesA w v L) (hb : Below w.heap.size w w') : SeesA w' v L := by
  obtain ⟨ao, cap, hv, h1, h2, h3⟩ := h
  refine ⟨ao, cap, hv, h1, h2, fun j hj => ?_⟩
  obtain ⟨g, off, ha, hg, c0⟩ := h3 j hj
  exact ⟨g, off, ha, Nat.lt_of_lt_of_le hg hb.size, (hb.cell (p := ⟨g, _, none⟩) hg).trans c0⟩

theorem SeesA.shape {w : World} {v : Value} {L : List Nat} (h : SeesA w v L) : ∃ ao n cap, v = .slice ao n cap ∧ Hid (n = L.length) ∧ n ≤ cap ∧ cap ≤ maxLen := by
  obtain ⟨ao, cap, hv, h1, h2, _⟩ := h
  exact ⟨ao, L.length, cap, hv, rfl, h1, h2⟩

theorem SeesA.at {w : World} {ao : Option Addr} {n cap : Nat} {L : List Nat} (h : SeesA w (.slice ao n cap) L) (j : Nat) (hj : j < n) : ∃ (g off a : Nat), ao = some ⟨g, off, none⟩ ∧ w.cell? ⟨g, off + j, none⟩ = some (.int .u32 (a : Int)) ∧ Hid (L[j]? = some a) := by
  obtain ⟨ao', cap', hv, h1, h2, h3⟩ := h
  simp at hv
  obtain ⟨rfl, rfl, rfl⟩ := hv
  obtain ⟨g, off, a, b, c⟩ := h3 j hj
  exact ⟨g, off, L[j], a, c, List.getElem?_eq_getElem hj⟩

theorem new_any (w : World) :
    Calls Try.prog 10 #[] w fun e w' => e = .returned (.pointer (some ⟨w.heap.size, 0, none⟩)) ∧ w' = w.alloc (.cells #[.pointer none] 77) := by
  go_enter Try.func10, Try.ntmps10
  go_wp2_with fail
  go_ret
  exact ⟨rfl, rfl⟩

/-- The best one of the first j. -/
def Best (L : List K) (a j : Nat) (b : Int) : Prop :=
  (b = -1 ∧ ∀ i k, i < j → L[i]? = some k → hasK k a = false) ∨
  ∃ m k, b = ((m : Nat) : Int) ∧ m < j ∧ L[m]? = some k ∧ hasK k a = true ∧ ∀ i k', i < j → L[i]? = some k' → hasK k' a = true → k'.n ≤ k.n

theorem has_same {p q : K} {a : Nat} (hp : p.Ok) (hq : q.Ok) (h1 : hasK p a = true) (h2 : hasK q a = true) (e : p.n = q.n) : p = q := by
  unfold hasK at h1 h2
  simp at h1 h2
  rcases nest hp hq (by omega) with h | h | h
  · exact ins_eq h e
  · omega
  · omega

theorem best_find {L : List K} {a : Nat} {b : Int} (hL : ∀ k ∈ L, k.Ok) (h : Best L a L.length b) :
    (b = -1 ∧ find (built L L.length) a = none) ∨ ∃ m k, b = ((m : Nat) : Int) ∧ m < L.length ∧ L[m]? = some k ∧ find (built L L.length) a = some (k, lastTo L k L.length) := by
  obtain ⟨hW, hE⟩ := built_facts L hL L.length (Nat.le_refl _)
  have mem : ∀ f, find (built L L.length) a = some f → ∃ i : Nat, i < L.length ∧ L[i]? = some f.1 ∧ hasK f.1 a = true ∧ f.2 = lastTo L f.1 L.length := fun f hf => by
    obtain ⟨h1, h2⟩ := find_mem hf
    obtain ⟨h3, h4⟩ := (hE f).1 h1
    obtain ⟨i, _, h6, h7⟩ := lastTo_mem (by rw [h3]; exact h4)
    exact ⟨i, h6, h7, h2, h3.symm⟩
  rcases h with ⟨rfl, h⟩ | ⟨m, k, rfl, hm, hk, hh, hbest⟩
  · left
    refine ⟨rfl, ?_⟩
    cases hf : find (built L L.length) a with
    | none => rfl
    | some f =>
      obtain ⟨i, h1, h2, h3, _⟩ := mem f hf
      rw [h i f.1 h1 h2] at h3
      cases h3
  · right
    refine ⟨m, k, rfl, hm, hk, ?_⟩
    have hin : (k, lastTo L k L.length) ∈ ents (built L L.length) := (hE _).2 ⟨rfl, lastTo_of hm hk⟩
    obtain ⟨f, hf, hle⟩ := find_best hW hin hh
    obtain ⟨i, h1, h2, h3, h4⟩ := mem f hf
    have hle2 := hbest i f.1 h1 h2 h3
    have e : f.1 = k := has_same (hL _ (List.mem_of_getElem? h2)) (hL _ (List.mem_of_getElem? hk)) h3 hh (Nat.le_antisymm hle2 hle)
    rw [hf]
    obtain ⟨f1, f2⟩ := f
    simp only at e h4
    rw [e] at h4
    rw [e, h4]

theorem valL_ok {P : List (Nat × Int)} (ha : AdrP P) : ∀ k ∈ valL P, k.Ok := fun k hk => by
  unfold valL at hk
  obtain ⟨p, hp, rfl⟩ := List.mem_map.1 hk
  exact preK_ok _ _ (ha p (List.mem_of_mem_take hp)).1

theorem longest_walk (v0 v1 : Value) (P : List (Nat × Int)) (A : List Nat) (w : World) (hs0 : Sees w v0 P) (ha : AdrP P) (hs1 : SeesA w v1 A) (hA : A.length ≤ 140737488351232) :
    Calls Try.prog 3 #[v0, v1] w fun e w' => e = .returned (.bool true) ∧ Below w.heap.size w w' := by
  have HVAL := hid (valids_any v0 P w hs0 ha)
  have hOK := valL_ok ha
  have hlen : (valL P).length ≤ 200 := by unfold valL; simp; omega
  obtain ⟨L, hL⟩ : ∃ L, L = valL P := ⟨_, rfl⟩
  rw [← hL] at HVAL hOK hlen
  obtain ⟨ao, na, cap, rfl, HNA, hna1, hna2⟩ := hs1.shape
  unfold maxLen at hna2
  have hna : na ≤ 140737488351232 := by have := HNA.out; omega
  obtain ⟨ap, np, capp, rfl, _, _, _⟩ := hs0.shape
  have HS1 := hid hs1
  have HOK := hid hOK
  clear hs0 hs1 ha hOK hL hA
  go_enter Try.func3, Try.ntmps3
  go_wp2_with fail
  refine HVAL.out.mono ?_
  rintro _ w1 ⟨vl, rfl, hown, hb1⟩
  have HSL := hid (sees_of_owns hown)
  obtain ⟨al, nl, capl, rfl, HNL0, hnl1, hnl2⟩ := HSL.out.shape
  have HNL : Hid (nl = L.length) := by have := HNL0.out; rw [List.length_map] at this; exact this
  have hnl : nl ≤ 200 := by have := HNL.out; omega
  have HB1 := hid hb1
  have HNEW := hid (new_any w1)
  obtain ⟨w2, hw2⟩ : ∃ w2, w2 = w1.alloc (.cells #[.pointer none] 77) := ⟨_, rfl⟩
  rw [← hw2] at HNEW
  have hb2 : Below w1.heap.size w1 w2 := by rw [hw2]; exact (Below.refl _ _).alloc (Nat.le_refl _) _
  have HT0 : Hid (TrieAt w2 (fun b => b = w1.heap.size) w1.heap.size (built L 0)) := by
    refine ⟨rfl, fun b hb => ?_, ⟨.nil, ?_, rfl, trivial⟩, trivial⟩
    · subst hb; rw [hw2]; simp
    · rw [hw2]; exact heap_alloc_new w1 _
  have HB2 := hid hb2
  clear hown hb1 hb2 hw2 HVAL HNL0
  go_wp2_with fail
  refine HNEW.out.mono ?_
  rintro _ _ ⟨rfl, ew⟩
  obtain rfl := ew.symm
  go_upto_region 6 with fail
  go_loopw [7] (fun i wr => ∃ (j : Nat), i = .int .i64 (j : Int) ∧ j ≤ nl ∧ TrieAt wr (fun b => b = w1.heap.size) w1.heap.size (built L j) ∧ Below w1.heap.size w1 wr) (fun i _ => nl - (intOf i).toNat)
  case atStart => exact ⟨0, rfl, by omega, HT0.out, HB2.out⟩
  case round =>
    obtain ⟨j, rfl, hj, hT, hb⟩ := hrel
    by_cases hjn : j < nl
    · obtain ⟨g, off, q, hao, hg, c0, c1, HP⟩ := (HSL.out.below hb).at j hjn
      subst hao
      obtain ⟨k, hk, rfl⟩ := kp_at HP.out
      simp only [kp] at c0 c1
      have hjn' : (j : Int) < (nl : Int) := by omega
      have hok : k.Ok := HOK.out k (List.mem_of_getElem? hk)
      have HPUT := hid (put_any k (j : Int) wr hT hok)
      have HBJ : Hid (hang (built L j) k (some (j : Int)) = built L (j + 1)) := by
        have e0 : built L (j + 1) = match L[j]? with | none => built L j | some k => hang (built L j) k (some (j : Int)) := rfl
        unfold Hid; rw [e0, hk]
      have HB := hid hb
      unfold pv at HPUT
      clear hT hb hk HP hok
      go_wp2_with fail
      refine HPUT.out.mono ?_
      rintro _ w3 ⟨rfl, hT3, hc3⟩
      rw [HBJ.out] at hT3
      have HB3 : Hid (Below w1.heap.size w1 w3) := ⟨hc3.os.trans HB.out.os, hc3.tape.trans HB.out.tape, hc3.output.trans HB.out.output, Nat.le_trans HB.out.size hc3.size, fun i hi => (hc3.block i (Nat.lt_of_lt_of_le hi HB.out.size) (by omega)).trans (HB.out.block i hi)⟩
      have HT3 := hid hT3
      clear hT3 hc3 c0 c1
      go_wp2_with fail
      go_roundw
      case rel => exact ⟨j + 1, by go_num, by omega, HT3.out, HB3.out⟩
      case measure => simp [intOf]; omega
    · have hjn' : ¬ (j : Int) < (nl : Int) := by omega
      have HT : Hid (TrieAt wr (fun b => b = w1.heap.size) w1.heap.size (built L nl)) := by rw [show nl = j by omega]; exact hT
      have HB := hid hb
      clear hT hb
      go_upto_region 11 with fail
      go_loopw [8] (fun i wr => ∃ (j : Nat), i = .int .i64 (j : Int) ∧ j ≤ na + nl ∧ TrieAt wr (fun b => b = w1.heap.size) w1.heap.size (built L nl) ∧ Below w1.heap.size w1 wr) (fun i _ => na + nl - (intOf i).toNat)
      case atStart => exact ⟨0, rfl, by omega, HT.out, HB.out⟩
      case round =>
        obtain ⟨j, rfl, hj, hT, hb⟩ := hrel
        by_cases hjn : j < na + nl
        · have hjn' : (j : Int) < (na : Int) + (nl : Int) := by omega
          have HSA := hid (HS1.out.below (HB1.out.trans (hb.mono HB1.out.size)))
          have HSB := hid (HSL.out.below hb)
          have HT := hid hT
          have HB := hid hb
          clear hT hb
          by_cases hja : j < na
          · have hja' : (j : Int) < (na : Int) := by omega
            obtain ⟨g, off, a, hao, c0, HP⟩ := HSA.out.at j hja
            subst hao
            clear HP
            go_upto_region 19 with fail
            go_loopw [10, 11] (fun b i wr => ∃ (m : Nat) (bb : Int), i = .int .i64 (m : Int) ∧ b = .int .i64 bb ∧ m ≤ nl ∧ Hid (Best L a m bb) ∧ Hid (-1 ≤ bb ∧ bb < (m : Int)) ∧ TrieAt wr (fun b => b = w1.heap.size) w1.heap.size (built L nl) ∧ Below w1.heap.size w1 wr) (fun _ i _ => nl - (intOf i).toNat)
            case atStart => exact ⟨0, -1, rfl, rfl, by omega, .inl ⟨rfl, fun i k h => by omega⟩, by unfold Hid; omega, HT.out, HB.out⟩
            case round =>
              obtain ⟨m, bb, rfl, rfl, hm, HBEST, HBB, hTz, hbz⟩ := hrel
              by_cases hmn : m < nl
              · have HSB := hid (HSL.out.below hbz)
                obtain ⟨g, off, q, hao, hg, c0, c1, HP⟩ := HSB.out.at m hmn
                subst hao
                obtain ⟨k, hk, rfl⟩ := kp_at HP.out
                simp only [kp] at c0 c1
                have hmn' : (m : Int) < (nl : Int) := by omega
                have hm0 : (0 : Int) ≤ (m : Int) := by omega
                have hok : k.Ok := HOK.out k (List.mem_of_getElem? hk)
                have HK := hid hk
                have C0 : ∀ t : Beh wr, t.wd.cell? ⟨g, off + m * 2, none⟩ = some (.int .u32 (k.x : Int)) := fun t => (t.ok.cell (p := ⟨g, _, none⟩) hg).trans c0
                have C1 : ∀ t : Beh wr, t.wd.cell? ⟨g, off + m * 2 + 1, none⟩ = some (.int .i64 (k.n : Int)) := fun t => (t.ok.cell (p := ⟨g, _, none⟩) hg).trans c1
                have HTT : Hid (∀ t : Beh wr, TrieAt t.wd (fun b => b = w1.heap.size) w1.heap.size (built L nl)) := fun t => hTz.below t.ok
                have HBW : Hid (∀ t : Beh wr, Below w1.heap.size w1 t.wd) := fun t => hbz.trans (t.ok.mono hbz.size)
                have HC : ∀ t : Beh wr, Hid (Calls Try.prog 12 #[pv k, .int .u32 (a : Int)] t.wd fun e w'' => e = .returned (.bool (hasK k a)) ∧ ∃ t' : Beh wr, w'' = t'.wd) := fun t => Calls.beh (contains_ok a _ hok)
                unfold pv at HC
                clear hTz hbz c0 c1 HP hk hok
                cases hk2 : hasK k a with
                | false =>
                  rw [hk2] at HC
                  have HBN : Hid (Best L a (m + 1) bb) := by
                    rcases HBEST.out with ⟨h1, h2⟩ | ⟨m', k', h1, h2, h3, h4, h5⟩
                    · refine .inl ⟨h1, fun i kk hi hkk => ?_⟩
                      rcases Nat.lt_or_ge i m with h | h
                      · exact h2 i kk h hkk
                      · obtain rfl : i = m := by omega
                        rw [HK.out] at hkk
                        obtain rfl := Option.some.inj hkk
                        exact hk2
                    · refine .inr ⟨m', k', h1, by omega, h3, h4, fun i kk hi hkk hh => ?_⟩
                      rcases Nat.lt_or_ge i m with h | h
                      · exact h5 i kk h hkk hh
                      · obtain rfl : i = m := by omega
                        rw [HK.out] at hkk
                        obtain rfl := Option.some.inj hkk
                        rw [hk2] at hh
                        cases hh
                  clear hk2
                  go_upto_region 21 with fail
                  refine wp_region_beh (by kernel_rfl) (by kernel_rfl) ?_
                  repeat (go_big_quiet_step (first | (go_at_call 12; exact (HC _).out)))
                  refine wpQuiet_nil ?_
                  rintro _ ⟨t, rfl⟩
                  go_wp2_with fail
                  go_roundw
                  case rel => exact ⟨m + 1, bb, by go_num, rfl, by omega, HBN, by have := HBB.out; unfold Hid; omega, HTT.out t, HBW.out t⟩
                  case measure => simp [intOf]; omega
                | true =>
                  rw [hk2] at HC
                  rcases HBEST.out with ⟨h1, h2⟩ | ⟨m', k', h1, h2, h3, h4, h5⟩
                  · have HBN : Hid (Best L a (m + 1) (m : Int)) := by
                      refine .inr ⟨m, k, rfl, by omega, HK.out, hk2, fun i kk hi hkk hh => ?_⟩
                      rcases Nat.lt_or_ge i m with h | h
                      · rw [h2 i kk h hkk] at hh; cases hh
                      · obtain rfl : i = m := by omega
                        rw [HK.out] at hkk
                        obtain rfl := Option.some.inj hkk
                        exact Nat.le_refl _
                    subst h1
                    clear h2 hk2
                    go_upto_region 21 with fail
                    refine wp_region_beh (by kernel_rfl) (by kernel_rfl) ?_
                    repeat (go_big_quiet_step (first | (go_at_call 12; exact (HC _).out)))
                    refine wpQuiet_nil ?_
                    rintro _ ⟨t, rfl⟩
                    go_wp2_with fail
                    go_roundw
                    case rel => exact ⟨m + 1, (m : Int), by go_num, rfl, by omega, HBN, by unfold Hid; omega, HTT.out t, HBW.out t⟩
                    case measure => simp [intOf]; omega
                  · subst h1
                    have hm'n : m' < nl := by omega
                    obtain ⟨g', off', q', hao', hg', d0, d1, HP'⟩ := HSB.out.at m' hm'n
                    simp at hao'
                    obtain ⟨rfl, rfl⟩ := hao'
                    obtain ⟨k2, hk2', rfl⟩ := kp_at HP'.out
                    rw [h3] at hk2'
                    obtain rfl := Option.some.inj hk2'
                    simp only [kp] at d1
                    have D1 : ∀ t : Beh wr, t.wd.cell? ⟨g, off + m' * 2 + 1, none⟩ = some (.int .i64 (k'.n : Int)) := fun t => (t.ok.cell (p := ⟨g, _, none⟩) hg').trans d1
                    have hb1 : ¬ ((m' : Int) < 0) := by omega
                    have hb2 : (m' : Int) < (nl : Int) := by omega
                    have hb3 : (0 : Int) ≤ (m' : Int) := by omega
                    by_cases hgt : k'.n < k.n
                    · have hgt' : (k'.n : Int) < (k.n : Int) := by omega
                      have HBN : Hid (Best L a (m + 1) (m : Int)) := by
                        refine .inr ⟨m, k, rfl, by omega, HK.out, hk2, fun i kk hi hkk hh => ?_⟩
                        rcases Nat.lt_or_ge i m with h | h
                        · have := h5 i kk h hkk hh; omega
                        · obtain rfl : i = m := by omega
                          rw [HK.out] at hkk
                          obtain rfl := Option.some.inj hkk
                          exact Nat.le_refl _
                      clear h2 h3 h4 h5 hk2 d0 d1 HP' hgt hk2'
                      go_upto_region 21 with fail
                      refine wp_region_beh (by kernel_rfl) (by kernel_rfl) ?_
                      repeat (go_big_quiet_step (first | (go_at_call 12; exact (HC _).out)))
                      refine wpQuiet_nil ?_
                      rintro _ ⟨t, rfl⟩
                      go_wp2_with fail
                      go_roundw
                      case rel => exact ⟨m + 1, (m : Int), by go_num, rfl, by omega, HBN, by unfold Hid; omega, HTT.out t, HBW.out t⟩
                      case measure => simp [intOf]; omega
                    · have hgt' : ¬ ((k'.n : Int) < (k.n : Int)) := by omega
                      have HBN : Hid (Best L a (m + 1) (m' : Int)) := by
                        refine .inr ⟨m', k', rfl, by omega, h3, h4, fun i kk hi hkk hh => ?_⟩
                        rcases Nat.lt_or_ge i m with h | h
                        · exact h5 i kk h hkk hh
                        · obtain rfl : i = m := by omega
                          rw [HK.out] at hkk
                          obtain rfl := Option.some.inj hkk
                          omega
                      have HBB2 : Hid (-1 ≤ (m' : Int) ∧ (m' : Int) < ((m + 1 : Nat) : Int)) := by unfold Hid; omega
                      clear h2 h3 h4 h5 hk2 d0 d1 HP' hgt hk2'
                      go_upto_region 21 with fail
                      refine wp_region_beh (by kernel_rfl) (by kernel_rfl) ?_
                      repeat (go_big_quiet_step (first | (go_at_call 12; exact (HC _).out)))
                      refine wpQuiet_nil ?_
                      rintro _ ⟨t, rfl⟩
                      go_wp2_with fail
                      go_roundw
                      case rel => exact ⟨m + 1, (m' : Int), by go_num, rfl, by omega, HBN, HBB2, HTT.out t, HBW.out t⟩
                      case measure => simp [intOf]; omega
              · have hmn' : ¬ ((m : Int) < (nl : Int)) := by omega
                have HBE : Hid (Best L a L.length bb) := by rw [← HNL.out, show nl = m by omega]; exact HBEST.out
                have HF := hid (find_any a wr hTz)
                have HTZ := hid hTz
                have HBZ := hid hbz
                clear hTz hbz
                rcases best_find HOK.out HBE.out with ⟨h1, h2⟩ | ⟨m', k', h1, h2, h3, h4⟩
                · rw [show nl = L.length from HNL.out, h2] at HF
                  simp only [findV] at HF
                  subst h1
                  clear h2
                  go_wp2_with fail
                  refine HF.out.mono ?_
                  rintro _ w5 ⟨rfl, hb5⟩
                  have HB5 := hid hb5
                  clear hb5
                  go_upto_region 24 with fail
                  obtain ⟨w6, hw6⟩ : ∃ w6, w6 = w5.alloc (.cells #[.int .u32 0, .int .i64 0] 32) := ⟨_, rfl⟩
                  rw [← hw6]
                  have hb6 : Below w5.heap.size w5 w6 := by rw [hw6]; exact (Below.refl _ _).alloc (Nat.le_refl _) _
                  have r6 : w6.heap[w5.heap.size]? = some (.cells #[.int .u32 0, .int .i64 0] 32) := by rw [hw6]; exact heap_alloc_new w5 _
                  have hlt6 := (Array.getElem?_eq_some_iff.1 r6).1
                  have HT6 : Hid (TrieAt w6 (fun b => b = w1.heap.size) w1.heap.size (built L nl)) := (HTZ.out.below HB5.out).below hb6
                  have hb56 := HB5.out.trans (hb6.mono HB5.out.size)
                  have HB6 : Hid (Below w1.heap.size w1 w6) := HBZ.out.trans (hb56.mono HBZ.out.size)
                  have P0 : ∀ t : Beh w6, t.wd.cell? ⟨w5.heap.size, 0, none⟩ = some (.int .u32 0) := fun t => by rw [cell_of_row _ _ _ _ _ _ (below_keeps t.ok r6 hlt6)]; rfl
                  have P1 : ∀ t : Beh w6, t.wd.cell? ⟨w5.heap.size, 1, none⟩ = some (.int .i64 0) := fun t => by rw [cell_of_row _ _ _ _ _ _ (below_keeps t.ok r6 hlt6)]; rfl
                  have z0 : w6.cell? ⟨w5.heap.size, 0, none⟩ = some (.int .u32 0) := P0 ⟨w6, Below.refl _ _⟩
                  have z1 : w6.cell? ⟨w5.heap.size, 1, none⟩ = some (.int .i64 0) := P1 ⟨w6, Below.refl _ _⟩
                  clear hw6 r6 hlt6 hb6 hb56
                  have hq0 : ∀ u : World, (Op.equalIn 10000 32 (.agg #[.int .u32 0, .int .i64 0]) (.agg #[.int .u32 0, .int .i64 0])).run Try.prog u = .ok true u := fun u => by rw [eqP]; rfl
                  go_upto_region 26 with fail
                  refine wp_region_beh (by kernel_rfl) (by kernel_rfl) ?_
                  repeat (go_big_quiet_step (fail))
                  refine wpQuiet_nil ?_
                  rintro _ ⟨t, rfl⟩
                  go_wp2_with fail
                  go_roundw
                  case rel => exact ⟨j + 1, by go_num, by omega, HT6.out.below t.ok, HB6.out.trans (t.ok.mono HB6.out.size)⟩
                  case measure => simp [intOf]; omega
                · rw [show nl = L.length from HNL.out, h4] at HF
                  simp only [findV] at HF
                  subst h1
                  have hm0 : ¬ ((m' : Int) < 0) := by omega
                  have hm2 : (0 : Int) ≤ (m' : Int) := by omega
                  have hmnl : m' < nl := by have := HNL.out; omega
                  have hm3 : (m' : Int) < (nl : Int) := by omega
                  obtain ⟨V, hV⟩ : ∃ V, V = lastTo L k' L.length := ⟨_, rfl⟩
                  rw [← hV] at HF
                  have HV := hid hV
                  have HK3 := hid h3
                  unfold pv at HF
                  clear h2 h3 h4 hV
                  go_wp2_with fail
                  refine HF.out.mono ?_
                  rintro _ w5 ⟨rfl, hb5⟩
                  have HB5 := hid hb5
                  clear hb5
                  go_upto_region 24 with fail
                  obtain ⟨w6, hw6⟩ : ∃ w6, w6 = w5.alloc (.cells #[.int .u32 (k'.x : Int), .int .i64 (k'.n : Int)] 32) := ⟨_, rfl⟩
                  rw [← hw6]
                  have hb6 : Below w5.heap.size w5 w6 := by rw [hw6]; exact (Below.refl _ _).alloc (Nat.le_refl _) _
                  have r6 : w6.heap[w5.heap.size]? = some (.cells #[.int .u32 (k'.x : Int), .int .i64 (k'.n : Int)] 32) := by rw [hw6]; exact heap_alloc_new w5 _
                  have hlt6 := (Array.getElem?_eq_some_iff.1 r6).1
                  have HT6 : Hid (TrieAt w6 (fun b => b = w1.heap.size) w1.heap.size (built L nl)) := (HTZ.out.below HB5.out).below hb6
                  have hb56 := HB5.out.trans (hb6.mono HB5.out.size)
                  have HB6 : Hid (Below w1.heap.size w1 w6) := HBZ.out.trans (hb56.mono HBZ.out.size)
                  have P0 : ∀ t : Beh w6, t.wd.cell? ⟨w5.heap.size, 0, none⟩ = some (.int .u32 (k'.x : Int)) := fun t => by rw [cell_of_row _ _ _ _ _ _ (below_keeps t.ok r6 hlt6)]; rfl
                  have P1 : ∀ t : Beh w6, t.wd.cell? ⟨w5.heap.size, 1, none⟩ = some (.int .i64 (k'.n : Int)) := fun t => by rw [cell_of_row _ _ _ _ _ _ (below_keeps t.ok r6 hlt6)]; rfl
                  have z0 : w6.cell? ⟨w5.heap.size, 0, none⟩ = some (.int .u32 (k'.x : Int)) := P0 ⟨w6, Below.refl _ _⟩
                  have z1 : w6.cell? ⟨w5.heap.size, 1, none⟩ = some (.int .i64 (k'.n : Int)) := P1 ⟨w6, Below.refl _ _⟩
                  clear hw6 r6 hlt6 hb6 hb56
                  have HS6 := hid (HSL.out.below HB6.out)
                  obtain ⟨g', off', q', hao', hg', d0, d1, HP'⟩ := HS6.out.at m' hmnl
                  subst hao'
                  obtain ⟨k2, hk2', rfl⟩ := kp_at HP'.out
                  rw [HK3.out] at hk2'
                  obtain rfl := Option.some.inj hk2'
                  simp only [kp] at d0 d1
                  have D0 : ∀ t : Beh w6, t.wd.cell? ⟨g', off' + m' * 2, none⟩ = some (.int .u32 (k'.x : Int)) := fun t => (t.ok.cell (p := ⟨g', _, none⟩) hg').trans d0
                  have D1 : ∀ t : Beh w6, t.wd.cell? ⟨g', off' + m' * 2 + 1, none⟩ = some (.int .i64 (k'.n : Int)) := fun t => (t.ok.cell (p := ⟨g', _, none⟩) hg').trans d1
                  have hq0 : ∀ u : World, (Op.equalIn 10000 32 (.agg #[.int .u32 (k'.x : Int), .int .i64 (k'.n : Int)]) (.agg #[.int .u32 (k'.x : Int), .int .i64 (k'.n : Int)])).run Try.prog u = .ok true u := fun u => by rw [eqP]; simp
                  have HLA : ∀ t : Beh w6, Hid (Calls Try.prog 14 #[.slice (some ⟨g', off', none⟩) nl capl, pv k'] t.wd fun e w'' => e = .returned (.int .i64 V) ∧ ∃ t' : Beh w6, w'' = t'.wd) := fun t => Calls.beh (by rw [HV.out]; exact last_any _ L k' _ (HS6.out.below t.ok))
                  unfold pv at HLA
                  clear HP' hk2' d0 d1
                  go_upto_region 26 with fail
                  refine wp_region_beh (by kernel_rfl) (by kernel_rfl) ?_
                  repeat (go_big_quiet_step (first | (go_at_call 14; exact (HLA _).out)))
                  refine wpQuiet_nil ?_
                  rintro _ ⟨t, rfl⟩
                  go_wp2_with fail
                  go_roundw
                  case rel => exact ⟨j + 1, by go_num, by omega, HT6.out.below t.ok, HB6.out.trans (t.ok.mono HB6.out.size)⟩
                  case measure => simp [intOf]; omega
          · obtain ⟨jj, hjj⟩ : ∃ jj, j = na + jj := ⟨j - na, by omega⟩
            have hja' : ¬ ((j : Int) < (na : Int)) := by omega
            have hjj1 : jj < nl := by omega
            obtain ⟨g, off, q, hao, hg, c0, c1, HP⟩ := HSB.out.at jj hjj1
            obtain ⟨a, ha⟩ : ∃ a, a = q.1 := ⟨_, rfl⟩
            rw [← ha] at c0
            have hsub : (j : Int) - (na : Int) = (jj : Int) := by omega
            have hj1 : (jj : Int) < (nl : Int) := by omega
            have hj2 : (0 : Int) ≤ (jj : Int) := by omega
            have hidx : ∀ u : World, (Instr.indexAt 22 (.slice al nl capl) (.int .i64 (jj : Int))).run Try.prog u = .ok (.pointer (some ⟨g, off + jj * 2, none⟩)) u := fun u => by rw [hao]; exact idx_pr hjj1 u
            clear HP c1 ha hjj hao
            go_upto_region 17 with fail
            clear hsub hj1 hj2 hg c0 hja' HSB hidx
            go_upto_region 19 with fail
            go_loopw [10, 11] (fun b i wr => ∃ (m : Nat) (bb : Int), i = .int .i64 (m : Int) ∧ b = .int .i64 bb ∧ m ≤ nl ∧ Hid (Best L a m bb) ∧ Hid (-1 ≤ bb ∧ bb < (m : Int)) ∧ TrieAt wr (fun b => b = w1.heap.size) w1.heap.size (built L nl) ∧ Below w1.heap.size w1 wr) (fun _ i _ => nl - (intOf i).toNat)
            case atStart => exact ⟨0, -1, rfl, rfl, by omega, .inl ⟨rfl, fun i k h => by omega⟩, by unfold Hid; omega, HT.out, HB.out⟩
            case round =>
              obtain ⟨m, bb, rfl, rfl, hm, HBEST, HBB, hTz, hbz⟩ := hrel
              by_cases hmn : m < nl
              · have HSB := hid (HSL.out.below hbz)
                obtain ⟨g, off, q, hao, hg, c0, c1, HP⟩ := HSB.out.at m hmn
                subst hao
                obtain ⟨k, hk, rfl⟩ := kp_at HP.out
                simp only [kp] at c0 c1
                have hmn' : (m : Int) < (nl : Int) := by omega
                have hm0 : (0 : Int) ≤ (m : Int) := by omega
                have hok : k.Ok := HOK.out k (List.mem_of_getElem? hk)
                have HK := hid hk
                have C0 : ∀ t : Beh wr, t.wd.cell? ⟨g, off + m * 2, none⟩ = some (.int .u32 (k.x : Int)) := fun t => (t.ok.cell (p := ⟨g, _, none⟩) hg).trans c0
                have C1 : ∀ t : Beh wr, t.wd.cell? ⟨g, off + m * 2 + 1, none⟩ = some (.int .i64 (k.n : Int)) := fun t => (t.ok.cell (p := ⟨g, _, none⟩) hg).trans c1
                have HTT : Hid (∀ t : Beh wr, TrieAt t.wd (fun b => b = w1.heap.size) w1.heap.size (built L nl)) := fun t => hTz.below t.ok
                have HBW : Hid (∀ t : Beh wr, Below w1.heap.size w1 t.wd) := fun t => hbz.trans (t.ok.mono hbz.size)
                have HC : ∀ t : Beh wr, Hid (Calls Try.prog 12 #[pv k, .int .u32 (a : Int)] t.wd fun e w'' => e = .returned (.bool (hasK k a)) ∧ ∃ t' : Beh wr, w'' = t'.wd) := fun t => Calls.beh (contains_ok a _ hok)
                unfold pv at HC
                clear hTz hbz c0 c1 HP hk hok
                cases hk2 : hasK k a with
                | false =>
                  rw [hk2] at HC
                  have HBN : Hid (Best L a (m + 1) bb) := by
                    rcases HBEST.out with ⟨h1, h2⟩ | ⟨m', k', h1, h2, h3, h4, h5⟩
                    · refine .inl ⟨h1, fun i kk hi hkk => ?_⟩
                      rcases Nat.lt_or_ge i m with h | h
                      · exact h2 i kk h hkk
                      · obtain rfl : i = m := by omega
                        rw [HK.out] at hkk
                        obtain rfl := Option.some.inj hkk
                        exact hk2
                    · refine .inr ⟨m', k', h1, by omega, h3, h4, fun i kk hi hkk hh => ?_⟩
                      rcases Nat.lt_or_ge i m with h | h
                      · exact h5 i kk h hkk hh
                      · obtain rfl : i = m := by omega
                        rw [HK.out] at hkk
                        obtain rfl := Option.some.inj hkk
                        rw [hk2] at hh
                        cases hh
                  clear hk2
                  go_upto_region 21 with fail
                  refine wp_region_beh (by kernel_rfl) (by kernel_rfl) ?_
                  repeat (go_big_quiet_step (first | (go_at_call 12; exact (HC _).out)))
                  refine wpQuiet_nil ?_
                  rintro _ ⟨t, rfl⟩
                  go_wp2_with fail
                  go_roundw
                  case rel => exact ⟨m + 1, bb, by go_num, rfl, by omega, HBN, by have := HBB.out; unfold Hid; omega, HTT.out t, HBW.out t⟩
                  case measure => simp [intOf]; omega
                | true =>
                  rw [hk2] at HC
                  rcases HBEST.out with ⟨h1, h2⟩ | ⟨m', k', h1, h2, h3, h4, h5⟩
                  · have HBN : Hid (Best L a (m + 1) (m : Int)) := by
                      refine .inr ⟨m, k, rfl, by omega, HK.out, hk2, fun i kk hi hkk hh => ?_⟩
                      rcases Nat.lt_or_ge i m with h | h
                      · rw [h2 i kk h hkk] at hh; cases hh
                      · obtain rfl : i = m := by omega
                        rw [HK.out] at hkk
                        obtain rfl := Option.some.inj hkk
                        exact Nat.le_refl _
                    subst h1
                    clear h2 hk2
                    go_upto_region 21 with fail
                    refine wp_region_beh (by kernel_rfl) (by kernel_rfl) ?_
                    repeat (go_big_quiet_step (first | (go_at_call 12; exact (HC _).out)))
                    refine wpQuiet_nil ?_
                    rintro _ ⟨t, rfl⟩
                    go_wp2_with fail
                    go_roundw
                    case rel => exact ⟨m + 1, (m : Int), by go_num, rfl, by omega, HBN, by unfold Hid; omega, HTT.out t, HBW.out t⟩
                    case measure => simp [intOf]; omega
                  · subst h1
                    have hm'n : m' < nl := by omega
                    obtain ⟨g', off', q', hao', hg', d0, d1, HP'⟩ := HSB.out.at m' hm'n
                    simp at hao'
                    obtain ⟨rfl, rfl⟩ := hao'
                    obtain ⟨k2, hk2', rfl⟩ := kp_at HP'.out
                    rw [h3] at hk2'
                    obtain rfl := Option.some.inj hk2'
                    simp only [kp] at d1
                    have D1 : ∀ t : Beh wr, t.wd.cell? ⟨g, off + m' * 2 + 1, none⟩ = some (.int .i64 (k'.n : Int)) := fun t => (t.ok.cell (p := ⟨g, _, none⟩) hg').trans d1
                    have hb1 : ¬ ((m' : Int) < 0) := by omega
                    have hb2 : (m' : Int) < (nl : Int) := by omega
                    have hb3 : (0 : Int) ≤ (m' : Int) := by omega
                    by_cases hgt : k'.n < k.n
                    · have hgt' : (k'.n : Int) < (k.n : Int) := by omega
                      have HBN : Hid (Best L a (m + 1) (m : Int)) := by
                        refine .inr ⟨m, k, rfl, by omega, HK.out, hk2, fun i kk hi hkk hh => ?_⟩
                        rcases Nat.lt_or_ge i m with h | h
                        · have := h5 i kk h hkk hh; omega
                        · obtain rfl : i = m := by omega
                          rw [HK.out] at hkk
                          obtain rfl := Option.some.inj hkk
                          exact Nat.le_refl _
                      clear h2 h3 h4 h5 hk2 d0 d1 HP' hgt hk2'
                      go_upto_region 21 with fail
                      refine wp_region_beh (by kernel_rfl) (by kernel_rfl) ?_
                      repeat (go_big_quiet_step (first | (go_at_call 12; exact (HC _).out)))
                      refine wpQuiet_nil ?_
                      rintro _ ⟨t, rfl⟩
                      go_wp2_with fail
                      go_roundw
                      case rel => exact ⟨m + 1, (m : Int), by go_num, rfl, by omega, HBN, by unfold Hid; omega, HTT.out t, HBW.out t⟩
                      case measure => simp [intOf]; omega
                    · have hgt' : ¬ ((k'.n : Int) < (k.n : Int)) := by omega
                      have HBN : Hid (Best L a (m + 1) (m' : Int)) := by
                        refine .inr ⟨m', k', rfl, by omega, h3, h4, fun i kk hi hkk hh => ?_⟩
                        rcases Nat.lt_or_ge i m with h | h
                        · exact h5 i kk h hkk hh
                        · obtain rfl : i = m := by omega
                          rw [HK.out] at hkk
                          obtain rfl := Option.some.inj hkk
                          omega
                      have HBB2 : Hid (-1 ≤ (m' : Int) ∧ (m' : Int) < ((m + 1 : Nat) : Int)) := by unfold Hid; omega
                      clear h2 h3 h4 h5 hk2 d0 d1 HP' hgt hk2'
                      go_upto_region 21 with fail
                      refine wp_region_beh (by kernel_rfl) (by kernel_rfl) ?_
                      repeat (go_big_quiet_step (first | (go_at_call 12; exact (HC _).out)))
                      refine wpQuiet_nil ?_
                      rintro _ ⟨t, rfl⟩
                      go_wp2_with fail
                      go_roundw
                      case rel => exact ⟨m + 1, (m' : Int), by go_num, rfl, by omega, HBN, HBB2, HTT.out t, HBW.out t⟩
                      case measure => simp [intOf]; omega
              · have hmn' : ¬ ((m : Int) < (nl : Int)) := by omega
                have HBE : Hid (Best L a L.length bb) := by rw [← HNL.out, show nl = m by omega]; exact HBEST.out
                have HF := hid (find_any a wr hTz)
                have HTZ := hid hTz
                have HBZ := hid hbz
                clear hTz hbz
                rcases best_find HOK.out HBE.out with ⟨h1, h2⟩ | ⟨m', k', h1, h2, h3, h4⟩
                · rw [show nl = L.length from HNL.out, h2] at HF
                  simp only [findV] at HF
                  subst h1
                  clear h2
                  go_wp2_with fail
                  refine HF.out.mono ?_
                  rintro _ w5 ⟨rfl, hb5⟩
                  have HB5 := hid hb5
                  clear hb5
                  go_upto_region 24 with fail
                  obtain ⟨w6, hw6⟩ : ∃ w6, w6 = w5.alloc (.cells #[.int .u32 0, .int .i64 0] 32) := ⟨_, rfl⟩
                  rw [← hw6]
                  have hb6 : Below w5.heap.size w5 w6 := by rw [hw6]; exact (Below.refl _ _).alloc (Nat.le_refl _) _
                  have r6 : w6.heap[w5.heap.size]? = some (.cells #[.int .u32 0, .int .i64 0] 32) := by rw [hw6]; exact heap_alloc_new w5 _
                  have hlt6 := (Array.getElem?_eq_some_iff.1 r6).1
                  have HT6 : Hid (TrieAt w6 (fun b => b = w1.heap.size) w1.heap.size (built L nl)) := (HTZ.out.below HB5.out).below hb6
                  have hb56 := HB5.out.trans (hb6.mono HB5.out.size)
                  have HB6 : Hid (Below w1.heap.size w1 w6) := HBZ.out.trans (hb56.mono HBZ.out.size)
                  have P0 : ∀ t : Beh w6, t.wd.cell? ⟨w5.heap.size, 0, none⟩ = some (.int .u32 0) := fun t => by rw [cell_of_row _ _ _ _ _ _ (below_keeps t.ok r6 hlt6)]; rfl
                  have P1 : ∀ t : Beh w6, t.wd.cell? ⟨w5.heap.size, 1, none⟩ = some (.int .i64 0) := fun t => by rw [cell_of_row _ _ _ _ _ _ (below_keeps t.ok r6 hlt6)]; rfl
                  have z0 : w6.cell? ⟨w5.heap.size, 0, none⟩ = some (.int .u32 0) := P0 ⟨w6, Below.refl _ _⟩
                  have z1 : w6.cell? ⟨w5.heap.size, 1, none⟩ = some (.int .i64 0) := P1 ⟨w6, Below.refl _ _⟩
                  clear hw6 r6 hlt6 hb6 hb56
                  have hq0 : ∀ u : World, (Op.equalIn 10000 32 (.agg #[.int .u32 0, .int .i64 0]) (.agg #[.int .u32 0, .int .i64 0])).run Try.prog u = .ok true u := fun u => by rw [eqP]; rfl
                  go_upto_region 26 with fail
                  refine wp_region_beh (by kernel_rfl) (by kernel_rfl) ?_
                  repeat (go_big_quiet_step (fail))
                  refine wpQuiet_nil ?_
                  rintro _ ⟨t, rfl⟩
                  go_wp2_with fail
                  go_roundw
                  case rel => exact ⟨j + 1, by go_num, by omega, HT6.out.below t.ok, HB6.out.trans (t.ok.mono HB6.out.size)⟩
                  case measure => simp [intOf]; omega
                · rw [show nl = L.length from HNL.out, h4] at HF
                  simp only [findV] at HF
                  subst h1
                  have hm0 : ¬ ((m' : Int) < 0) := by omega
                  have hm2 : (0 : Int) ≤ (m' : Int) := by omega
                  have hmnl : m' < nl := by have := HNL.out; omega
                  have hm3 : (m' : Int) < (nl : Int) := by omega
                  obtain ⟨V, hV⟩ : ∃ V, V = lastTo L k' L.length := ⟨_, rfl⟩
                  rw [← hV] at HF
                  have HV := hid hV
                  have HK3 := hid h3
                  unfold pv at HF
                  clear h2 h3 h4 hV
                  go_wp2_with fail
                  refine HF.out.mono ?_
                  rintro _ w5 ⟨rfl, hb5⟩
                  have HB5 := hid hb5
                  clear hb5
                  go_upto_region 24 with fail
                  obtain ⟨w6, hw6⟩ : ∃ w6, w6 = w5.alloc (.cells #[.int .u32 (k'.x : Int), .int .i64 (k'.n : Int)] 32) := ⟨_, rfl⟩
                  rw [← hw6]
                  have hb6 : Below w5.heap.size w5 w6 := by rw [hw6]; exact (Below.refl _ _).alloc (Nat.le_refl _) _
                  have r6 : w6.heap[w5.heap.size]? = some (.cells #[.int .u32 (k'.x : Int), .int .i64 (k'.n : Int)] 32) := by rw [hw6]; exact heap_alloc_new w5 _
                  have hlt6 := (Array.getElem?_eq_some_iff.1 r6).1
                  have HT6 : Hid (TrieAt w6 (fun b => b = w1.heap.size) w1.heap.size (built L nl)) := (HTZ.out.below HB5.out).below hb6
                  have hb56 := HB5.out.trans (hb6.mono HB5.out.size)
                  have HB6 : Hid (Below w1.heap.size w1 w6) := HBZ.out.trans (hb56.mono HBZ.out.size)
                  have P0 : ∀ t : Beh w6, t.wd.cell? ⟨w5.heap.size, 0, none⟩ = some (.int .u32 (k'.x : Int)) := fun t => by rw [cell_of_row _ _ _ _ _ _ (below_keeps t.ok r6 hlt6)]; rfl
                  have P1 : ∀ t : Beh w6, t.wd.cell? ⟨w5.heap.size, 1, none⟩ = some (.int .i64 (k'.n : Int)) := fun t => by rw [cell_of_row _ _ _ _ _ _ (below_keeps t.ok r6 hlt6)]; rfl
                  have z0 : w6.cell? ⟨w5.heap.size, 0, none⟩ = some (.int .u32 (k'.x : Int)) := P0 ⟨w6, Below.refl _ _⟩
                  have z1 : w6.cell? ⟨w5.heap.size, 1, none⟩ = some (.int .i64 (k'.n : Int)) := P1 ⟨w6, Below.refl _ _⟩
                  clear hw6 r6 hlt6 hb6 hb56
                  have HS6 := hid (HSL.out.below HB6.out)
                  obtain ⟨g', off', q', hao', hg', d0, d1, HP'⟩ := HS6.out.at m' hmnl
                  subst hao'
                  obtain ⟨k2, hk2', rfl⟩ := kp_at HP'.out
                  rw [HK3.out] at hk2'
                  obtain rfl := Option.some.inj hk2'
                  simp only [kp] at d0 d1
                  have D0 : ∀ t : Beh w6, t.wd.cell? ⟨g', off' + m' * 2, none⟩ = some (.int .u32 (k'.x : Int)) := fun t => (t.ok.cell (p := ⟨g', _, none⟩) hg').trans d0
                  have D1 : ∀ t : Beh w6, t.wd.cell? ⟨g', off' + m' * 2 + 1, none⟩ = some (.int .i64 (k'.n : Int)) := fun t => (t.ok.cell (p := ⟨g', _, none⟩) hg').trans d1
                  have hq0 : ∀ u : World, (Op.equalIn 10000 32 (.agg #[.int .u32 (k'.x : Int), .int .i64 (k'.n : Int)]) (.agg #[.int .u32 (k'.x : Int), .int .i64 (k'.n : Int)])).run Try.prog u = .ok true u := fun u => by rw [eqP]; simp
                  have HLA : ∀ t : Beh w6, Hid (Calls Try.prog 14 #[.slice (some ⟨g', off', none⟩) nl capl, pv k'] t.wd fun e w'' => e = .returned (.int .i64 V) ∧ ∃ t' : Beh w6, w'' = t'.wd) := fun t => Calls.beh (by rw [HV.out]; exact last_any _ L k' _ (HS6.out.below t.ok))
                  unfold pv at HLA
                  clear HP' hk2' d0 d1
                  go_upto_region 26 with fail
                  refine wp_region_beh (by kernel_rfl) (by kernel_rfl) ?_
                  repeat (go_big_quiet_step (first | (go_at_call 14; exact (HLA _).out)))
                  refine wpQuiet_nil ?_
                  rintro _ ⟨t, rfl⟩
                  go_wp2_with fail
                  go_roundw
                  case rel => exact ⟨j + 1, by go_num, by omega, HT6.out.below t.ok, HB6.out.trans (t.ok.mono HB6.out.size)⟩
                  case measure => simp [intOf]; omega
        · have hjn' : ¬ ((j : Int) < (na : Int) + (nl : Int)) := by omega
          have HBF : Hid (Below w.heap.size w wr) := HB1.out.trans (hb.mono HB1.out.size)
          clear hb hT
          go_wp2_with fail
          go_ret
          exact ⟨rfl, HBF.out⟩
end Go.Proofs.Ytmnafocmbcgdiaa
