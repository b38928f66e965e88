/-
  The net's calls: Spoil, List.
-/
import Derived.Test.YtaelfhjhinfikabDF
namespace Go.Proofs.Ytaelfhjhinfikab
open Go.ChangeShapes Go.WideShapes Go.ChangeAt Go.RowKit Me
set_option maxHeartbeats 2000000
set_option maxRecDepth 100000

theorem set_map {α β : Type} (f : α → β) (L : List α) (j : Nat) (x : α) : (L.set j x).map f = (L.map f).set j (f x) := List.map_set ..

/-- A byte is turned over. -/
theorem HAt.spoil {ty : TypeId} {mk : Nat → Value → Array Value} {w : World} {pb m : Nat} {v : Value} {E : List En} {S : List Pk} {F : Nat → Prop} {j a x g n cap : Nat} {e : En} (h : HAt ty (mk m) w pb v E) (hty : ty ≠ 41 ∧ ty ≠ 5) (hS : S = E.map En.pk) (hF : ∀ k, F k ↔ fpH pb v E k) (hle : S.length ≤ m) (hm : m ≤ 4096)
    (hj : E[j]? = some e) (hu : e.u = .slice (some ⟨g, 0, none⟩) n cap) (hx : x < 256) {T : List Pk} (hsp : S.set j ⟨e.ad, e.bs.set a x⟩ = T) : HoD ty mk w (w.setCell ⟨g, a, none⟩ (.int .u8 (x : Int))) pb m T F := by
  obtain ⟨h1, h2⟩ := h.fl.byte (at_ := a) hj hu hx
  have hg : e.u.ownBlock = some g := by rw [hu]; rfl
  refine HoD.turn (h.turn hty h2 (fun k e1 => .inr ⟨e, List.mem_of_getElem? hj, by rw [hg, e1]⟩) h1 fun k hk => ?_) hF ?_ ?_ hm
  · rcases hk with hk | ⟨y, hy, hk⟩
    · exact .inl hk
    · rcases List.mem_or_eq_of_mem_set hy with hy | rfl
      · exact .inr ⟨y, hy, hk⟩
      · exact .inr ⟨e, List.mem_of_getElem? hj, hk⟩
  · rw [← hsp, hS, set_map]; rfl
  · rw [← hsp, List.length_set]; exact hle

theorem spoil_any (w : World) (F : Nat → Prop) (pb m x : Nat) (S : List Pk) (i a : Int) (h : Nt w pb m S F) (hx : x < 256) :
    Calls Try.prog 17 #[.pointer (some ⟨pb, 0, none⟩), .int .i64 i, .int .i64 a, .int .u8 (x : Int)] w fun e w' => e = .returned (.int .i64 ((spE S i a x : Nat) : Int)) ∧ NtD w w' pb m (spS S i a x) F := by
  have HH := hid h
  obtain ⟨v, E, hat, hS, hF, hle, hm⟩ := h
  have HHA := hid (has_any w pb m v E i hat)
  have hlen : E.length = S.length := by rw [hS, List.length_map]
  rw [hlen] at HHA
  cases hi : inR i S.length with
  | false =>
    have h3 : spE S i a x = 3 := by unfold spE; rw [hi]; rfl
    have h4 : spS S i a x = S := by unfold spS; rw [h3]; rfl
    rw [h3, h4]
    rw [hi] at HHA
    have HFIN : Hid (NtD w w pb m S F) := HoD.same HH.out (Below.refl _ _)
    clear hat hS hF hle hm hlen hi h3 h4
    go_enter Try.func17, Try.ntmps17
    go_wp2_with fail
    refine HHA.out.mono ?_
    rintro _ _ ⟨rfl, ew⟩
    obtain rfl := ew.symm
    clear ew HHA
    go_wp2_with fail
    go_ret
    exact ⟨rfl, HFIN.out⟩
  | true =>
    obtain ⟨j, rfl, hj⟩ := inR_true hi
    obtain ⟨-, c1, -⟩ := hat.cellsN
    obtain ⟨va, n, cap, rfl, HN, hn1, hn2, -⟩ := hat.fl.shape
    unfold maxLen at hn2
    have hjE : j < E.length := by omega
    have hjs : E[j]? = some E[j] := List.getElem?_eq_getElem hjE
    obtain ⟨g, rfl, hg, hc⟩ := hat.fl.at hjs
    obtain ⟨d0, d1, -⟩ := hc w rfl
    have hmem := List.getElem_mem hjE
    have hown := hat.fl.own _ hmem
    have hok := hat.fl.ok _ hmem
    have hpk : S.getD j ⟨0, []⟩ = E[j].pk := by rw [hS]; simp [hjE]
    have hsj : S[j]? = some E[j].pk := by rw [hS, List.getElem?_map, hjs]; rfl
    generalize E[j] = e at *
    obtain ⟨ea, eb, eu⟩ := e
    simp only at d0 d1 hown hok
    obtain ⟨ua, un, uc, rfl, HUN, hu1, hu2⟩ := hown.shape
    unfold maxLen at hu2
    have hj1 : (j : Int) < (n : Int) := by have := HN.out; omega
    have hj2 : (0 : Int) ≤ (j : Int) := by omega
    rw [hi] at HHA
    have hbs : (S.getD j ⟨0, []⟩).bs = eb := by rw [hpk]; rfl
    have hspe : spE S (j : Int) a x = if inR a eb.length && decide (x ≠ 0) then 0 else 1 := by
      unfold spE; rw [hi, Int.toNat_natCast, hbs]; rfl
    cases ha : (inR a eb.length && decide (x ≠ 0)) with
    | false =>
      have h3 : spE S (j : Int) a x = 1 := by rw [hspe, ha]; rfl
      have h4 : spS S (j : Int) a x = S := by unfold spS; rw [h3]; rfl
      rw [h3, h4]
      have HFIN : Hid (NtD w w pb m S F) := HoD.same HH.out (Below.refl _ _)
      have hcs : a < 0 ∨ (¬ a < 0 ∧ (un : Int) ≤ a) ∨ (¬ a < 0 ∧ ¬ (un : Int) ≤ a ∧ x = 0) := by
        rw [Bool.and_eq_false_iff] at ha
        rcases ha with ha | ha
        · rcases inR_false ha with h | h
          · exact .inl h
          · by_cases h0 : a < 0
            · exact .inl h0
            · exact .inr (.inl ⟨h0, by have := HUN.out; omega⟩)
        · by_cases h0 : a < 0
          · exact .inl h0
          · by_cases h1 : (un : Int) ≤ a
            · exact .inr (.inl ⟨h0, h1⟩)
            · exact .inr (.inr ⟨h0, h1, by simpa using ha⟩)
      clear hat hS hF hle hm hlen hi hc hmem hown hok hpk hsj hbs hspe ha h3 h4 hj hjE hjs hg
      rcases hcs with h0 | ⟨h0, h1⟩ | ⟨h0, h1, rfl⟩
      · have q0 : decide (a < 0) = true := by simpa using h0
        go_enter Try.func17, Try.ntmps17
        go_wp2_with fail
        refine HHA.out.mono ?_
        rintro _ _ ⟨rfl, ew⟩
        obtain rfl := ew.symm
        clear ew HHA
        go_wp2_with fail
        go_ret
        exact ⟨rfl, HFIN.out⟩
      · have q0 : decide (a < 0) = false := by simpa using h0
        have q1 : decide ((un : Int) ≤ a) = true := by simpa using h1
        go_enter Try.func17, Try.ntmps17
        go_wp2_with fail
        refine HHA.out.mono ?_
        rintro _ _ ⟨rfl, ew⟩
        obtain rfl := ew.symm
        clear ew HHA
        go_wp2_with fail
        go_ret
        exact ⟨rfl, HFIN.out⟩
      · have q0 : decide (a < 0) = false := by simpa using h0
        have q1 : decide ((un : Int) ≤ a) = false := by simpa using h1
        go_enter Try.func17, Try.ntmps17
        go_wp2_with fail
        refine HHA.out.mono ?_
        rintro _ _ ⟨rfl, ew⟩
        obtain rfl := ew.symm
        clear ew HHA
        go_wp2_with fail
        go_ret
        exact ⟨rfl, HFIN.out⟩
    | true =>
      rw [Bool.and_eq_true] at ha
      obtain ⟨k, rfl, hk⟩ := inR_true ha.1
      have hx0 : x ≠ 0 := by simpa using ha.2
      have h3 : spE S (j : Int) (k : Int) x = 0 := by rw [hspe, ha.1, ha.2]; rfl
      obtain ⟨y, hy⟩ : ∃ y, eb[k]? = some y := ⟨_, List.getElem?_eq_getElem hk⟩
      have hyb : y < 256 := hok.2.2 y (List.mem_of_getElem? hy)
      have h4 : spS S (j : Int) (k : Int) x = S.set j ⟨ea, eb.set k (y ^^^ x)⟩ := by
        unfold spS; rw [h3, if_pos rfl, Int.toNat_natCast, Int.toNat_natCast, hpk]
        unfold spP En.pk
        simp only
        rw [List.getD_eq_getElem?_getD, hy]; rfl
      have hne : eb ≠ [] := fun e => by rw [e] at hk; simp at hk
      obtain ⟨gu, nu, cu, hue, HNU, -, hcu, hcm, hfz⟩ := hown.grip hne
      simp only [Value.slice.injEq] at hue
      obtain ⟨rfl, rfl, rfl⟩ := hue
      have hcell : w.cell? ⟨gu, k, none⟩ = some (.int .u8 (y : Int)) := by
        obtain ⟨g2, o2, p2, hp2, -, hcl, -, HP2⟩ := (hown.sees hok.2.2).at k (by have := HUN.out; omega)
        simp only [Option.some.injEq, Addr.mk.injEq, and_true] at hp2
        obtain ⟨rfl, rfl⟩ := hp2
        have := HP2.out
        rw [hy] at this
        cases this
        rw [Nat.zero_add] at hcl
        exact hcl
      have hfr := hfz k
      have hxor : bits .xor .u8 (y : Int) (x : Int) = ((y ^^^ x : Nat) : Int) := u8_xor_nat y x hyb hx
      have hzb : y ^^^ x < 256 := Nat.xor_lt_two_pow (n := 8) hyb hx
      rw [h3, h4]
      have HFIN := hid (hat.spoil (F := F) (a := k) (x := y ^^^ x) (by decide) hS hF hle hm hjs rfl hzb rfl)
      obtain ⟨z, HZ⟩ : ∃ z, Hid (z = y ^^^ x) := ⟨_, rfl⟩
      rw [← HZ.out] at hxor HFIN ⊢
      have q0 : decide ((k : Int) < 0) = false := by simp
      have hkn : k < un := by have := HUN.out; omega
      have q1 : decide ((un : Int) ≤ (k : Int)) = false := by simp; omega
      have q2 : ((x : Int) == 0) = false := by simp; omega
      have q3 : (k : Int) < (un : Int) := by omega
      have q4 : (0 : Int) ≤ (k : Int) := by omega
      have q5 : ¬ (x : Int) = 0 := by omega
      have q6 : ¬ (un : Int) ≤ (k : Int) := by omega
      clear hat hS hF hle hm hlen hi hc hmem hown hok hpk hsj hbs hspe ha h3 h4 hj hjE hjs hg hy hyb hne hfz hzb hx hx0 hk
      go_enter Try.func17, Try.ntmps17
      go_wp2_with fail
      refine HHA.out.mono ?_
      rintro _ _ ⟨rfl, ew⟩
      obtain rfl := ew.symm
      clear ew HHA
      go_wp2_with fail
      go_ret
      exact ⟨rfl, HFIN.out⟩

/-- Of a list's place that is written: the second cell behind the first store. -/
theorem Fl.slot {w : World} {g n cap i : Nat} {E : List En} (h : Fl w (.slice (some ⟨g, 0, none⟩) n cap) E) (hi : i < E.length) (z : Value) :
    ∃ x y, w.cell? ⟨g, i * 2, none⟩ = some x ∧ w.frozen? ⟨g, i * 2, none⟩ = false ∧ w.cell? ⟨g, i * 2 + 1, none⟩ = some y ∧ w.frozen? ⟨g, i * 2 + 1, none⟩ = false ∧ (w.setCell ⟨g, i * 2, none⟩ z).cell? ⟨g, i * 2 + 1, none⟩ = some y ∧ (w.setCell ⟨g, i * 2, none⟩ z).frozen? ⟨g, i * 2 + 1, none⟩ = false := by
  obtain ⟨g', hg', -, hc⟩ := h.at (List.getElem?_eq_getElem hi)
  simp only [Option.some.injEq, Addr.mk.injEq, and_true] at hg'
  subst hg'
  obtain ⟨c0, c1, cf⟩ := hc w rfl
  obtain ⟨cs, hk⟩ := row_kind h.row (k := g) rfl
  have hk2 := set_cells (i := i * 2) (v := z) hk
  refine ⟨_, _, c0, cf _, c1, cf _, ?_, frozen_of_row _ _ _ _ _ hk2⟩
  rw [cell_of_row _ _ _ _ _ _ hk] at c1
  rw [cell_of_row _ _ _ _ _ _ hk2]
  rw [← c1]
  simp

/-- What List answers. -/
def LsD (w w' : World) (v : Value) (S : List Pk) (e : Ending) : Prop := e = .returned v ∧ Below w.heap.size w w' ∧ ∃ E, Fl w' v E ∧ E.map En.pk = S ∧ ∀ k, fpF v E k → w.heap.size ≤ k

theorem list_any (w : World) (F : Nat → Prop) (pb m : Nat) (S : List Pk) (h : Nt w pb m S F) :
    Calls Try.prog 20 #[.pointer (some ⟨pb, 0, none⟩)] w fun e w' => ∃ a n c, LsD w w' (.slice a n c) S e := by
  obtain ⟨v, E, hat, hS, hF, hle, hm⟩ := h
  obtain ⟨-, c1, -⟩ := hat.cellsN
  obtain ⟨va, n, cap, rfl, HN, hn1, hn2, -⟩ := hat.fl.shape
  unfold maxLen at hn2
  have hn : n ≤ 4096 := by have := HN.out; rw [hS, List.length_map] at hle; omega
  have hmk := make_sents n (by omega) w
  have hfl := Fl.made n (by omega) w
  obtain ⟨w1, HW1⟩ : ∃ w1, Hid (w1 = w.alloc (.cells (ec (List.replicate n zE)).toArray 41)) := ⟨_, rfl⟩
  rw [← HW1.out] at hmk hfl
  have hb1 : Below w.heap.size w w1 := by rw [HW1.out]; exact (Below.refl _ _).alloc (Nat.le_refl _) _
  obtain ⟨b, HB⟩ : ∃ b, Hid (b = w.heap.size) := ⟨_, rfl⟩
  rw [← HB.out] at hmk hfl
  have d1 := (hat.below hb1).cellsN.2.1
  have HM := hid hmk
  have HFL := hid hfl
  have HB1 := hid hb1
  have HAT := hid hat
  have HSE := hid hS
  have hc1 : w.cell? ⟨pb, 1, none⟩ = some (.slice va n cap) := c1
  clear hat hS hF hle hm hmk hfl hb1
  go_enter Try.func20, Try.ntmps20
  go_upto_region 3 with (first | (refine wpList_make_run _ rfl _ _ _ rfl _ _ rfl rfl HM.out ?_) | fail)
  go_loopw [17] (fun i wr => ∃ j : Nat, i = .int .i64 (j : Int) ∧ j ≤ n ∧ Hid (Below w.heap.size w wr ∧ ∃ E1 : List En, Fl wr (.slice (some ⟨b, 0, none⟩) n n) E1 ∧ E1.length = n ∧ (E1.map En.pk).take j = S.take j ∧ ∀ e ∈ E1, ∀ k, e.u.ownBlock = some k → w.heap.size ≤ k)) (fun i _ => n - (intOf i).toNat)
  case atStart => exact ⟨0, rfl, Nat.zero_le _, HB1.out, _, HFL.out, by simp, by simp, fun e he k hk => by rw [List.eq_of_mem_replicate he] at hk; cases hk⟩
  case round =>
    obtain ⟨j, rfl, hj, HI⟩ := hrel
    obtain ⟨hbr, E1, hf1, hl1, ht1, hnw1⟩ := HI.out
    by_cases hlt : j < n
    · have hlt' : (j : Int) < (n : Int) := int_lt hlt
      have h2 : (0 : Int) ≤ (j : Int) := by omega
      have hatr := HAT.out.below hbr
      have hjE : j < E.length := by have := HN.out; omega
      obtain ⟨g, rfl, hg, hc⟩ := hatr.fl.at (List.getElem?_eq_getElem hjE)
      obtain ⟨e0, e1, -⟩ := hc wr rfl
      have hmem := List.getElem_mem hjE
      have hown := hatr.fl.own _ hmem
      have hok := hatr.fl.ok _ hmem
      have hsj : S[j]? = some E[j].pk := by rw [HSE.out, List.getElem?_map, List.getElem?_eq_getElem hjE]; rfl
      generalize E[j] = e at *
      obtain ⟨ea, eb, eu⟩ := e
      simp only at e0 e1 hown hok
      obtain ⟨ua, un, uc, rfl, -, -, -⟩ := hown.shape
      obtain ⟨w2, HW2⟩ : ∃ w2, Hid (w2 = wr.alloc (.cells #[.int .u32 (ea : Int), .slice ua un uc] 41)) := ⟨_, rfl⟩
      have hb2 : Below wr.heap.size wr w2 := by rw [HW2.out]; exact (Below.refl _ _).alloc (Nat.le_refl _) _
      obtain ⟨b2, HB2⟩ : ∃ b, Hid (b = wr.heap.size) := ⟨_, rfl⟩
      have r2 : w2.heap[b2]? = some (.cells #[.int .u32 (ea : Int), .slice ua un uc] 41 (0, 0)) := by rw [HW2.out, HB2.out]; exact heap_alloc_new wr _
      have f0 : w2.cell? ⟨b2, 0, none⟩ = some (.int .u32 (ea : Int)) := by rw [cell_of_row _ _ _ _ _ _ r2]; rfl
      have f1 : w2.cell? ⟨b2, 1, none⟩ = some (.slice ua un uc) := by rw [cell_of_row _ _ _ _ _ _ r2]; rfl
      have HTW := hid (twin_any w2 _ ea _ eb ((hown.below hb2).sees hok.2.2) hok.2.1)
      have HNX : Hid (∀ (w3 : World) (a3 : Option Addr) (n3 c3 : Nat), OwnB w3 w2.heap.size (.slice a3 n3 c3) eb → Below w2.heap.size w2 w3 → (∃ x y, w3.cell? ⟨b, j * 2, none⟩ = some x ∧ w3.frozen? ⟨b, j * 2, none⟩ = false ∧ w3.cell? ⟨b, j * 2 + 1, none⟩ = some y ∧ w3.frozen? ⟨b, j * 2 + 1, none⟩ = false ∧ (w3.setCell ⟨b, j * 2, none⟩ (.int .u32 (ea : Int))).cell? ⟨b, j * 2 + 1, none⟩ = some y ∧ (w3.setCell ⟨b, j * 2, none⟩ (.int .u32 (ea : Int))).frozen? ⟨b, j * 2 + 1, none⟩ = false) ∧ (Below w.heap.size w ((w3.setCell ⟨b, j * 2, none⟩ (.int .u32 (ea : Int))).setCell ⟨b, j * 2 + 1, none⟩ (.slice a3 n3 c3)) ∧ ∃ E1 : List En, Fl ((w3.setCell ⟨b, j * 2, none⟩ (.int .u32 (ea : Int))).setCell ⟨b, j * 2 + 1, none⟩ (.slice a3 n3 c3)) (.slice (some ⟨b, 0, none⟩) n n) E1 ∧ E1.length = n ∧ (E1.map En.pk).take (j + 1) = S.take (j + 1) ∧ ∀ e ∈ E1, ∀ k, e.u.ownBlock = some k → w.heap.size ≤ k)) := by
        intro w3 a3 n3 c3 h3 h4
        have hb3 : Below wr.heap.size wr w3 := hb2.trans (h4.mono hb2.size)
        have hf3 := hf1.below hb3
        refine ⟨hf3.slot (by omega) _, ?_⟩
        obtain ⟨p1, p2⟩ := hf3.put (i := j) ⟨ea, eb, .slice a3 n3 c3⟩ (h3.low (Nat.zero_le _)) hok (fun x hx k hk hk2 => by
          have := (h3.lt hk2).1; have := hf1.lt (.inr ⟨x, hx, hk⟩); have := hb2.size; omega)
        refine ⟨p2.below' (hbr.trans (hb3.mono hbr.size)) (fun k e => by have := HB.out; omega) (Nat.le_refl _), _, p1, by simpa using hl1, ?_, fun e he k hk => ?_⟩
        · have hjm : j < (E1.map En.pk).length := by rw [List.length_map]; omega
          rw [set_map, take_snoc hsj, List.take_add_one, List.getElem?_set_self hjm, List.take_set_of_le (Nat.le_refl _), ht1]; rfl
        · rcases List.mem_or_eq_of_mem_set he with he | rfl
          · exact hnw1 e he k hk
          · have := (h3.lt hk).1; have := hb2.size; have := hbr.size; omega
      clear HI hbr hf1 hl1 ht1 hnw1 hatr hjE hg hc hmem hown hok hsj hb2 r2 d1 c1 hc1
      go_upto_region 5 with fail
      rw [← HW2.out, ← HB2.out]
      clear e0 e1
      go_wp2_with fail
      refine HTW.out.mono ?_
      rintro _ w3 ⟨a3, n3, c3, rfl, ho3, hb3⟩
      obtain ⟨⟨x3, y3, s0, s1, s2, s3, s4, s5⟩, hnx⟩ := HNX.out w3 a3 n3 c3 ho3 hb3
      have HN3 := hid hnx
      clear HNX ho3 hb3 hnx HTW f0 f1
      go_wp2_with fail
      go_roundw
      case rel => exact ⟨j + 1, by go_num, hlt, HN3⟩
      case measure => simp [intOf]; omega
    · have hlt' : ¬ (j : Int) < (n : Int) := int_nlt hlt
      have HFIN : Hid (LsD w wr (.slice (some ⟨b, 0, none⟩) n n) S (.returned (.slice (some ⟨b, 0, none⟩) n n))) := by
        refine ⟨rfl, hbr, E1, hf1, ?_, fun k hk => ?_⟩
        · have hsl : S.length = n := by rw [HSE.out, List.length_map]; exact HN.out.symm
          rw [List.take_of_length_le (by rw [List.length_map]; omega), List.take_of_length_le (by omega)] at ht1
          exact ht1
        · rcases hk with hk | ⟨e, he, hk⟩
          · simp [Value.ownBlock] at hk; have := HB.out; omega
          · exact hnw1 e he k hk
      clear HI hbr hf1 hl1 ht1 hnw1
      go_wp2_with fail
      go_ret
      exact ⟨_, _, _, HFIN.out⟩
end Go.Proofs.Ytaelfhjhinfikab
