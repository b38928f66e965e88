/-
  The net's calls: Put, Copy, Lose.
-/
import Derived.Test.YtaelfhjhinfikabDD
namespace Go.Proofs.Ytaelfhjhinfikab
open Go.ChangeShapes Go.WideShapes Go.ChangeAt Go.RowKit Me
set_option maxHeartbeats 2000000
set_option maxRecDepth 100000

/-- A net that holds the packets S; F: its blocks. -/
def Ho (ty : TypeId) (mk : Nat → Value → Array Value) (w : World) (pb m : Nat) (S : List Pk) (F : Nat → Prop) : Prop :=
  ∃ v E, HAt ty (mk m) w pb v E ∧ S = E.map En.pk ∧ (∀ k, F k ↔ fpH pb v E k) ∧ S.length ≤ m ∧ m ≤ 4096
/-- What a call leaves. -/
def HoD (ty : TypeId) (mk : Nat → Value → Array Value) (w w' : World) (pb m : Nat) (S' : List Pk) (F : Nat → Prop) : Prop :=
  ∃ F', Ho ty mk w' pb m S' F' ∧ (∀ k, F' k → F k ∨ w.heap.size ≤ k) ∧ Keeps F w w'

section
variable {ty : TypeId} {mk : Nat → Value → Array Value} {w w' w'' : World} {pb m : Nat} {S S' S'' : List Pk} {F : Nat → Prop}
theorem Ho.lt (h : Ho ty mk w pb m S F) {k : Nat} (hk : F k) : k < w.heap.size := by
  obtain ⟨v, E, h1, -, h2, -⟩ := h
  exact h1.lt ((h2 k).1 hk)
theorem Ho.keeps {X : Nat → Prop} (h : Ho ty mk w pb m S F) (hk : Keeps X w w') (hn : ∀ k, F k → ¬ X k) : Ho ty mk w' pb m S F := by
  obtain ⟨v, E, h1, h2, h3, h4⟩ := h
  exact ⟨v, E, h1.keeps hk fun k hk => hn k ((h3 k).2 hk), h2, h3, h4⟩
theorem Ho.below (h : Ho ty mk w pb m S F) (hb : Below w.heap.size w w') : Ho ty mk w' pb m S F := h.keeps (X := fun _ => False) (Keeps.of hb) fun _ _ e => e
theorem Ho.le (h : Ho ty mk w pb m S F) : S.length ≤ m ∧ m ≤ 4096 := by
  obtain ⟨v, E, h1, h2, h3, h4⟩ := h
  exact h4
theorem HoD.same (h : Ho ty mk w pb m S F) (hb : Below w.heap.size w w') : HoD ty mk w w' pb m S F := ⟨F, h.below hb, fun _ h => .inl h, Keeps.of hb⟩
theorem HoD.turn {v v' : Value} {E E' : List En} (h : HTurn ty (mk m) w w' pb v E v' E') (hF : ∀ k, F k ↔ fpH pb v E k) (hS : S' = E'.map En.pk) (hl : S'.length ≤ m) (hm : m ≤ 4096) : HoD ty mk w w' pb m S' F :=
  ⟨fpH pb v' E', ⟨v', E', h.net, hS, fun _ => Iff.rfl, hl, hm⟩, fun k hk => by
    rcases hk with rfl | hk
    · exact .inl ((hF _).2 (.inl rfl))
    · exact (h.new k hk).imp (fun e => (hF k).2 (.inr e)) id, h.keeps.mono fun k _ e => (hF k).2 e⟩
theorem HoD.from (hb : Below w.heap.size w w') (h : HoD ty mk w' w'' pb m S' F) : HoD ty mk w w'' pb m S' F := by
  obtain ⟨F', h1, h2, h3⟩ := h
  exact ⟨F', h1, fun k hk => (h2 k hk).imp id fun e => Nat.le_trans hb.size e, (Keeps.of hb).trans h3⟩
theorem HoD.more (h : HoD ty mk w w' pb m S' F) (hb : Below w'.heap.size w' w'') : HoD ty mk w w'' pb m S' F := by
  obtain ⟨F', h1, h2, h3⟩ := h
  exact ⟨F', h1.below hb, h2, h3.trans (Keeps.of hb)⟩
end

abbrev Nt := Ho 60 mkN
abbrev NtD := HoD 60 mkN

theorem joS_len {m : Nat} {S : List Pk} {p : Pk} (h : S.length ≤ m) : (joS m S p).length ≤ m := by
  unfold joS
  split
  · rename_i h1
    unfold joE at h1
    split at h1
    · cases h1
    · split at h1
      · cases h1
      · rw [List.length_append]; simp; omega
  · exact h

theorem map_erase {α β : Type} (f : α → β) (L : List α) (j : Nat) : (L.map f).eraseIdx j = (L.eraseIdx j).map f := by
  rw [List.eraseIdx_eq_take_drop_succ, List.eraseIdx_eq_take_drop_succ, List.map_append, List.map_take, List.map_drop]
theorem drop_nil {α : Type} {L : List α} {j : Nat} (h : L.length ≤ j) : L.drop j = [] := List.drop_eq_nil_of_le h

theorem put_any (w : World) (K F : Nat → Prop) (pb m : Nat) (v : Value) (S L : List Pk) (h : Nt w pb m S F) (hv : SeesS K w v L) (hK : ∀ k, F k → ¬ K k) :
    Calls Try.prog 16 #[.pointer (some ⟨pb, 0, none⟩), v] w fun e w' => e = .returned (.tuple #[.int .i64 ((puN m S L : Nat) : Int), .int .i64 ((puE m S L : Nat) : Int)]) ∧ NtD w w' pb m (puS m S L) F := by
  obtain ⟨vf, E, hat, hS, hF, hle, hm⟩ := h
  have HF := hid hF
  have HV := hid hv
  have HK := hid hK
  have HAT := hid hat
  have HSE := hid hS
  have HMM := hid hm
  have HLE := hid hle
  obtain ⟨ao, n, cap, rfl, HN, hn1, hn2⟩ := hv.shape
  unfold maxLen at hn2
  obtain ⟨AN, HAN⟩ : ∃ x, Hid (x = puN m S L) := ⟨_, rfl⟩
  obtain ⟨AE, HAE⟩ : ∃ x, Hid (x = puE m S L) := ⟨_, rfl⟩
  obtain ⟨AS, HAS⟩ : ∃ x, Hid (x = puS m S L) := ⟨_, rfl⟩
  rw [← HAN.out, ← HAE.out, ← HAS.out]
  clear hF hv hK hat hS hm hle
  go_enter Try.func16, Try.ntmps16
  go_upto_region 2 with fail
  go_loopw [11] (fun i wr => ∃ j : Nat, i = .int .i64 (j : Int) ∧ j ≤ n ∧ Hid (∃ v1 E1, HTurn 60 (mkN m) w wr pb vf E v1 E1 ∧ (E1.map En.pk).length ≤ m ∧ AN = j + puN m (E1.map En.pk) (L.drop j) ∧ AE = puE m (E1.map En.pk) (L.drop j) ∧ AS = puS m (E1.map En.pk) (L.drop j))) (fun i _ => n - (intOf i).toNat)
  case atStart => exact ⟨0, rfl, Nat.zero_le _, vf, E, HTurn.same HAT.out (Below.refl _ _), by rw [← HSE.out]; exact HLE.out, by rw [HAN.out, HSE.out]; simp, by rw [HAE.out, HSE.out]; simp, by rw [HAS.out, HSE.out]; simp⟩
  case round =>
    obtain ⟨j, rfl, hj, HI⟩ := hrel
    obtain ⟨v1, E1, ht1, hl1, hn1', he1, hs1⟩ := HI.out
    by_cases hlt : j < n
    · have hlt' : (j : Int) < (n : Int) := int_lt hlt
      have HVr : Hid (SeesS K wr (.slice ao n cap) L) := HV.out.keeps ht1.keeps fun k h1 h2 => HK.out k ((HF.out k).2 h2) h1
      obtain ⟨g, off, u, p, rfl, hg, c0, c1, hub, had, HP⟩ := HVr.out.at j hlt
      obtain ⟨ad, bb⟩ := p
      simp only at c0 hub had
      obtain ⟨ua, un, uc, rfl, -, -, -⟩ := hub.shape
      have HDR : Hid (L.drop j = ⟨ad, bb⟩ :: L.drop (j + 1)) := drop_cons HP.out
      obtain ⟨w1, HW1⟩ : ∃ w1, Hid (w1 = wr.alloc (.cells #[.int .u32 (ad : Int), .slice ua un uc] 41)) := ⟨_, rfl⟩
      have hb1 : Below wr.heap.size wr w1 := by rw [HW1.out]; exact (Below.refl _ _).alloc (Nat.le_refl _) _
      obtain ⟨b, HB⟩ : ∃ b, Hid (b = wr.heap.size) := ⟨_, rfl⟩
      have r1 : w1.heap[b]? = some (.cells #[.int .u32 (ad : Int), .slice ua un uc] 41 (0, 0)) := by rw [HW1.out, HB.out]; exact heap_alloc_new wr _
      have d0 : w1.cell? ⟨b, 0, none⟩ = some (.int .u32 (ad : Int)) := by rw [cell_of_row _ _ _ _ _ _ r1]; rfl
      have d1 : w1.cell? ⟨b, 1, none⟩ = some (.slice ua un uc) := by rw [cell_of_row _ _ _ _ _ _ r1]; rfl
      have HJ := hid (join_any w1 K pb m ad v1 _ E1 bb (ht1.net.below hb1) (hub.below hb1) had (by have := HMM.out; rw [List.length_map] at hl1; omega))
      obtain ⟨J, HJE⟩ : ∃ J, Hid (J = joE m (E1.map En.pk) ⟨ad, bb⟩) := ⟨_, rfl⟩
      rw [← HJE.out] at HJ
      have HT1 := hid (ht1.more hb1)
      rw [HDR.out] at hn1' he1 hs1
      by_cases hJ : J = 0
      · have hj0 : joE m (E1.map En.pk) ⟨ad, bb⟩ = 0 := by rw [← HJE.out]; exact hJ
        rw [puN_step hj0] at hn1'
        rw [puE_step hj0] at he1
        rw [puS_step hj0] at hs1
        have hjs : joS m (E1.map En.pk) ⟨ad, bb⟩ = E1.map En.pk ++ [⟨ad, bb⟩] := by unfold joS; rw [if_pos hj0]
        have HNX : Hid (∀ (w2 : World) (v2 : Value) (E2 : List En), HTurn 60 (mkN m) w1 w2 pb v1 E1 v2 E2 → E2.map En.pk = joS m (E1.map En.pk) ⟨ad, bb⟩ → ∃ v1 E1, HTurn 60 (mkN m) w w2 pb vf E v1 E1 ∧ (E1.map En.pk).length ≤ m ∧ AN = (j + 1) + puN m (E1.map En.pk) (L.drop (j + 1)) ∧ AE = puE m (E1.map En.pk) (L.drop (j + 1)) ∧ AS = puS m (E1.map En.pk) (L.drop (j + 1))) := fun w2 v2 E2 h1 h2 => by
          refine ⟨v2, E2, HT1.out.trans h1, by rw [h2]; exact joS_len hl1, ?_, ?_, ?_⟩
          · rw [h2, hjs]; omega
          · rw [h2, hjs]; exact he1
          · rw [h2, hjs]; exact hs1
        subst hJ
        clear HI ht1 hl1 hn1' he1 hs1 hub hb1 r1 hj0 hjs
        go_upto_region 4 with fail
        rw [← HW1.out, ← HB.out]
        clear c0 c1
        go_wp2_with fail
        refine HJ.out.mono ?_
        rintro _ w2 ⟨rfl, v2, E2, ht2, hs2⟩
        have HN2 := hid (HNX.out w2 v2 E2 ht2 hs2)
        clear ht2 hs2 HJ HNX d0 d1
        go_wp2_with fail
        go_roundw
        case rel => exact ⟨j + 1, by go_num, hlt, HN2⟩
        case measure => simp [intOf]; omega
      · have hj0 : joE m (E1.map En.pk) ⟨ad, bb⟩ ≠ 0 := by rw [← HJE.out]; exact hJ
        rw [puN_stop hj0] at hn1'
        rw [puE_stop hj0, ← HJE.out] at he1
        rw [puS_stop hj0] at hs1
        have hjs : joS m (E1.map En.pk) ⟨ad, bb⟩ = E1.map En.pk := by unfold joS; rw [if_neg hj0]
        have q1 : ((J : Int) == 0) = false := by simp; omega
        have q2 : ¬ (J : Int) = 0 := by omega
        have HNX : Hid (∀ (w2 : World) (v2 : Value) (E2 : List En), HTurn 60 (mkN m) w1 w2 pb v1 E1 v2 E2 → E2.map En.pk = joS m (E1.map En.pk) ⟨ad, bb⟩ → AN = j ∧ AE = J ∧ NtD w w2 pb m AS F) := fun w2 v2 E2 h1 h2 => by
          refine ⟨by omega, he1, HoD.turn (HT1.out.trans h1) HF.out (by rw [h2, hjs, hs1]) (by rw [hs1]; exact hl1) HMM.out⟩
        clear HI ht1 hl1 hn1' he1 hs1 hub hb1 r1 hj0 hjs
        go_upto_region 4 with fail
        rw [← HW1.out, ← HB.out]
        clear c0 c1
        go_wp2_with fail
        refine HJ.out.mono ?_
        rintro _ w2 ⟨rfl, v2, E2, ht2, hs2⟩
        have HN2 := hid (HNX.out w2 v2 E2 ht2 hs2)
        clear ht2 hs2 HJ HNX d0 d1
        go_wp2_with fail
        go_ret2
        exact ⟨by rw [HN2.out.1, HN2.out.2.1]; rfl, HN2.out.2.2⟩
    · have hlt' : ¬ (j : Int) < (n : Int) := int_nlt hlt
      have hdn : L.drop j = [] := drop_nil (by have := HN.out; omega)
      rw [hdn] at hn1' he1 hs1
      have hjn : j = n := by omega
      have HFIN : Hid (AN = n ∧ AE = 0 ∧ NtD w wr pb m AS F) := by
        refine ⟨by rw [hn1']; unfold puN; omega, by rw [he1]; rfl, ?_⟩
        refine HoD.turn ht1 HF.out (by rw [hs1]; unfold puS; simp) ?_ HMM.out
        rw [hs1]; unfold puS; simpa using hl1
      clear HI ht1 hl1 hn1' he1 hs1 hdn hjn
      go_wp2_with fail
      go_ret2
      exact ⟨by rw [HFIN.out.1, HFIN.out.2.1]; rfl, HFIN.out.2.2⟩

theorem copy_any (w : World) (F : Nat → Prop) (pb m : Nat) (S : List Pk) (i : Int) (h : Nt w pb m S F) :
    Calls Try.prog 18 #[.pointer (some ⟨pb, 0, none⟩), .int .i64 i] w fun e w' => e = .returned (.int .i64 ((coE m S i : Nat) : Int)) ∧ NtD w w' pb m (coS m S i) F := by
  have HH := hid h
  obtain ⟨v, E, hat, hS, hF, hle, hm⟩ := h
  have HHA := hid (has_any w pb m v E i hat)
  have hlen : E.length = S.length := by rw [hS, List.length_map]
  rw [hlen] at HHA
  cases hi : inR i S.length with
  | false =>
    have HE : Hid (coE m S i = 3 ∧ coS m S i = S) := by
      have : coE m S i = 3 := by unfold coE; rw [hi]; rfl
      exact ⟨this, by unfold coS; rw [this]; rfl⟩
    rw [HE.out.1, HE.out.2]
    rw [hi] at HHA
    have HFIN : Hid (NtD w w pb m S F) := HoD.same HH.out (Below.refl _ _)
    clear hat hS hF hle hm hlen hi
    go_enter Try.func18, Try.ntmps18
    go_wp2_with fail
    refine HHA.out.mono ?_
    rintro _ _ ⟨rfl, ew⟩
    obtain rfl := ew.symm
    clear ew HHA
    go_wp2_with fail
    go_ret
    exact ⟨rfl, HFIN.out⟩
  | true =>
    obtain ⟨j, rfl, hj⟩ := inR_true hi
    obtain ⟨-, c1, -⟩ := hat.cellsN
    obtain ⟨a, n, cap, rfl, HN, hn1, hn2, -⟩ := hat.fl.shape
    unfold maxLen at hn2
    have hjE : j < E.length := by omega
    obtain ⟨g, rfl, hg, hc⟩ := hat.fl.at (List.getElem?_eq_getElem hjE)
    obtain ⟨d0, d1, -⟩ := hc w rfl
    have hmem := List.getElem_mem hjE
    have hown := hat.fl.own _ hmem
    have hok := hat.fl.ok _ hmem
    have hpk : S.getD j ⟨0, []⟩ = E[j].pk := by rw [hS]; simp [hjE]
    generalize E[j] = e at *
    obtain ⟨ea, eb, eu⟩ := e
    simp only at d0 d1 hown hok
    obtain ⟨ua, un, uc, rfl, -, -, -⟩ := hown.shape
    have HJ := hid (join_any w _ pb m ea _ _ E eb hat (hown.sees hok.2.2) hok.1 (by omega))
    rw [← hS] at HJ
    have hjE2 : joE m S ⟨ea, eb⟩ = coE m S (j : Int) := by
      unfold joE coE; rw [hi]; simp only [if_true]
      rw [if_neg (by omega)]
    have hjS2 : joS m S ⟨ea, eb⟩ = coS m S (j : Int) := by
      unfold joS coS; rw [hjE2, Int.toNat_natCast, hpk]; rfl
    rw [hjE2, hjS2] at HJ
    have HFIN : Hid (∀ (w2 : World) (v2 : Value) (E2 : List En), HTurn 60 (mkN m) w w2 pb (.slice (some ⟨g, 0, none⟩) n cap) E v2 E2 → E2.map En.pk = coS m S (j : Int) → NtD w w2 pb m (coS m S (j : Int)) F) := fun w2 v2 E2 h1 h2 => HoD.turn h1 hF h2.symm (by rw [← hjS2]; exact joS_len hle) hm
    rw [hi] at HHA
    have hj1 : (j : Int) < (n : Int) := by have := HN.out; omega
    have hj2 : (0 : Int) ≤ (j : Int) := by omega
    generalize coE m S (j : Int) = J at *
    generalize coS m S (j : Int) = T at *
    clear hat hS hF hle hm hlen hi hc hmem hown hok hpk hjE2 hjS2 hj hjE hg
    go_enter Try.func18, Try.ntmps18
    go_wp2_with fail
    refine HHA.out.mono ?_
    rintro _ _ ⟨rfl, ew⟩
    obtain rfl := ew.symm
    clear ew HHA
    go_wp2_with fail
    refine HJ.out.mono ?_
    rintro _ w2 ⟨rfl, v2, E2, ht2, hs2⟩
    have HN2 := hid (HFIN.out w2 v2 E2 ht2 hs2)
    clear ht2 hs2 HJ HFIN
    go_wp2_with fail
    go_ret
    exact ⟨rfl, HN2.out⟩

theorem lose_any (w : World) (F : Nat → Prop) (pb m : Nat) (S : List Pk) (i : Int) (h : Nt w pb m S F) :
    Calls Try.prog 28 #[.pointer (some ⟨pb, 0, none⟩), .int .i64 i] w fun e w' => e = .returned (.int .i64 ((tkE S i : Nat) : Int)) ∧ NtD w w' pb m (tkS S i) F := by
  have HH := hid h
  obtain ⟨v, E, hat, hS, hF, hle, hm⟩ := h
  have HHA := hid (has_any w pb m v E i hat)
  have hlen : E.length = S.length := by rw [hS, List.length_map]
  rw [hlen] at HHA
  cases hi : inR i S.length with
  | false =>
    have HE : Hid (tkE S i = 3 ∧ tkS S i = S) := by
      exact ⟨by unfold tkE; rw [hi]; rfl, by unfold tkS; rw [hi]; rfl⟩
    rw [HE.out.1, HE.out.2]
    rw [hi] at HHA
    have HFIN : Hid (NtD w w pb m S F) := HoD.same HH.out (Below.refl _ _)
    clear hat hS hF hle hm hlen hi
    go_enter Try.func28, Try.ntmps28
    go_wp2_with fail
    refine HHA.out.mono ?_
    rintro _ _ ⟨rfl, ew⟩
    obtain rfl := ew.symm
    clear ew HHA
    go_wp2_with fail
    go_ret
    exact ⟨rfl, HFIN.out⟩
  | true =>
    obtain ⟨j, rfl, hj⟩ := inR_true hi
    have HD := hid (drop_any w pb m j v E hat (by omega))
    have hE : tkE S (j : Int) = 0 := by unfold tkE; rw [hi]; rfl
    have hT : tkS S (j : Int) = S.eraseIdx j := by unfold tkS; rw [hi]; rfl
    rw [hE, hT]
    have HFIN : Hid (∀ (w2 : World) (v2 : Value), HTurn 60 (mkN m) w w2 pb v E v2 (E.eraseIdx j) → NtD w w2 pb m (S.eraseIdx j) F) := fun w2 v2 h1 => HoD.turn h1 hF (by rw [hS, map_erase]) (by rw [List.length_eraseIdx]; split <;> omega) hm
    rw [hi] at HHA
    clear hat hS hF hle hm hlen hi hE hT hj
    go_enter Try.func28, Try.ntmps28
    go_wp2_with fail
    refine HHA.out.mono ?_
    rintro _ _ ⟨rfl, ew⟩
    obtain rfl := ew.symm
    clear ew HHA
    go_wp2_with fail
    refine HD.out.mono ?_
    rintro _ w2 ⟨rfl, v2, ht2⟩
    have HN2 := hid (HFIN.out w2 v2 ht2)
    clear ht2 HD HFIN
    go_wp2_with fail
    go_ret
    exact ⟨rfl, HN2.out⟩
end Go.Proofs.Ytaelfhjhinfikab
