import Derived.Test.YtenhofbhkchjoabDoorE
namespace Go.Proofs.YtenhofbhkchjoabDoor
open Go.ChangeShapes Go.WideShapes Go.ChangeAt Go.RowKit
set_option maxHeartbeats 400000

theorem index_upTo (c : UInt8) (n : Nat) (hn : c.toNat = n) : ∀ (l : List UInt8), Lib.indexByte l c = if (l.takeWhile (notc n)).length < l.length then ((l.takeWhile (notc n)).length : Int) else -1 := by
  intro l
  induction l with
  | nil => rfl
  | cons b t ih =>
    simp only [Lib.indexByte]
    by_cases h : b = c
    · subst h
      rw [if_pos (by simp), List.takeWhile_cons_of_neg (by simp [notc, hn])]; simp
    · have hb : b.toNat ≠ n := fun e => h (by rw [← UInt8.toNat_inj, hn, e])
      rw [if_neg (by simpa using h), ih, List.takeWhile_cons_of_pos (by simp [notc, hb])]
      simp only [List.length_cons]
      by_cases g : (t.takeWhile (notc n)).length < t.length
      · rw [if_pos g, if_neg (by simp), if_pos (by omega)]; omega
      · rw [if_neg g, if_pos (by simp), if_neg (by omega)]

theorem upTo_zero (l : List UInt8) (c : Nat) : upTo l 0 c = (l.takeWhile (notc c)).length := by unfold upTo; simp

/-- What strings.Cut at a stroke answers. -/
def Cuts (s b a : ByteArray) : Prop :=
  (upTo s.data.toList 0 47 < s.size ∧ b.data.toList = s.data.toList.take (upTo s.data.toList 0 47) ∧ a.data.toList = s.data.toList.drop (upTo s.data.toList 0 47 + 1)) ∨
  (¬ upTo s.data.toList 0 47 < s.size ∧ a.data.toList = [])

theorem cutIn_any (s : ByteArray) (w : World) (hs : s.size ≤ maxLen) :
    Calls Tryd.prog 53 #[.string s, .string ⟨#[47]⟩] w fun e w' => (∃ (b a : ByteArray) (f : Bool), e = .returned (.tuple #[.string b, .string a, .bool f]) ∧ b.size ≤ s.size ∧ a.size ≤ s.size ∧ Cuts s b a) ∧ ∃ q, w' = w.drewN q := by
  unfold maxLen at hs
  have HL : Hid (s.data.toList.length = s.size) := by simp [Hid]
  have hcon := fun W => Any.stringslite_Index_one Tryd.layIndex s 47 W
  change ∀ W, Calls Tryd.prog 59 _ _ _ at hcon
  have HC := hid hcon
  have hidx := index_upTo 47 47 rfl s.data.toList
  rw [← upTo_zero, HL.out] at hidx
  have HX := hid hidx
  clear hcon hidx
  by_cases hlt : upTo s.data.toList 0 47 < s.size
  · have HX2 : Hid (Lib.indexByte s.data.toList 47 = ((upTo s.data.toList 0 47 : Nat) : Int)) := by have h1 := HX.out; rwa [if_pos hlt] at h1
    obtain ⟨to, hto⟩ : ∃ to, to = upTo s.data.toList 0 47 := ⟨_, rfl⟩
    rw [← hto] at hlt HX2
    have HTO := hid hto
    clear HX hto
    go_enter Tryd.func53, Tryd.ntmps53
    go_wp2_with fail
    refine (HC.out _).mono ?_
    rintro e w1 ⟨rfl, rfl⟩
    rw [HX2.out]
    go_wp2
    go_quiet (fail)
    go_wp2
    go_ret3
    refine ⟨⟨_, _, _, rfl, ?_, ?_, .inl ?_⟩, _, rfl⟩
    · rw [ext_size s 0 to (by omega)]; omega
    · rw [sub_size]; omega
    · rw [← HTO.out]
      exact ⟨hlt, by rw [ext_list]; simp, sub_list s (to + 1)⟩
  · have HX2 : Hid (Lib.indexByte s.data.toList 47 = -1) := by have h1 := HX.out; rwa [if_neg hlt] at h1
    have HLT := hid hlt
    clear HX hlt
    go_enter Tryd.func53, Tryd.ntmps53
    go_wp2_with fail
    refine (HC.out _).mono ?_
    rintro e w1 ⟨rfl, rfl⟩
    rw [HX2.out]
    go_wp2
    go_ret3
    exact ⟨⟨_, _, _, rfl, Nat.le_refl _, Nat.zero_le _, .inr ⟨HLT.out, rfl⟩⟩, 0, rfl⟩

theorem cut_any (s : ByteArray) (w : World) (hs : s.size ≤ maxLen) :
    Calls Tryd.prog 40 #[.string s, .string ⟨#[47]⟩] w fun e w' => (∃ (b a : ByteArray) (f : Bool), e = .returned (.tuple #[.string b, .string a, .bool f]) ∧ b.size ≤ s.size ∧ a.size ≤ s.size ∧ Cuts s b a) ∧ ∃ q, w' = w.drewN q := by
  go_enter Tryd.func40, Tryd.ntmps40
  go_wp2_with fail
  refine (cutIn_any s _ hs).mono ?_
  rintro e w1 ⟨⟨b, a, f, rfl, h1, h2, h3⟩, q, rfl⟩
  have H3 := hid h3
  clear h3
  go_wp2_with fail
  go_ret3
  exact ⟨⟨b, a, f, rfl, h1, h2, H3.out⟩, q, rfl⟩

/-- The address and the length whose texts stand ahead of and behind the stroke. -/
def pre (l : List UInt8) : Option (Nat × Nat) :=
  if upTo l 0 47 < l.length then (match S.pa (l.take (upTo l 0 47)), S.num (l.drop (upTo l 0 47 + 1)) 32 with | some a, some n => some (a, n) | _, _ => none) else none

def pfx (a : Nat) (n : Int) (e : Int) : Value := .tuple #[.agg #[.int .u32 (a : Int), .int .i64 n], .int .i64 e]

/-- ParsePrefix's answer. -/
def ansP (l : List UInt8) : Value := match pre l with
  | some (a, n) => if err (a, (n : Int)) = 0 then pfx a n 0 else pfx 0 0 (err (a, (n : Int)))
  | none => pfx 0 0 11

theorem run_all_of {l : List UInt8} (h : (S.run l).length = l.length) : S.run l = l := by
  have e := S.split_run l
  have h2 := congrArg List.length e
  rw [List.length_append, h] at h2
  have h3 : l.dropWhile S.isDig = [] := List.eq_nil_of_length_eq_zero (by omega)
  rw [h3, List.append_nil] at e
  exact e.symm

/-- The digits are all of the text just if the text is a number's. -/
theorem lead_all (l : List UInt8) (most : Nat) (hm : most < 256) : (((S.lead l most).2 = 0 ∨ (S.lead l most).2 < l.length) → S.num l most = none) ∧ (¬ ((S.lead l most).2 = 0 ∨ (S.lead l most).2 < l.length) → S.num l most = some (S.lead l most).1 ∧ (S.lead l most).1 ≤ most) := by
  have hle : (S.run l).length ≤ l.length := (List.takeWhile_sublist _).length_le
  have hnum : S.num l most ≠ none → S.run l = l := by
    intro h
    cases e : S.num l most with
    | none => exact absurd e h
    | some n =>
      have h1 := (S.num_some hm).1 e
      have f := (S.dec_facts (n := n) (by omega)).1
      rw [h1.2] at f
      unfold S.run
      have := List.takeWhile_append_of_pos (p := S.isDig) (l₁ := l) (l₂ := []) f
      simpa using this
  rw [S.lead_num l most hm]
  constructor
  · intro h
    cases e : S.num l most with
    | none => rfl
    | some n =>
      exfalso
      have hr := hnum (by rw [e]; simp)
      rw [hr, e] at h
      simp only at h
      have f := (S.dec_facts (n := n) (by have := ((S.num_some hm).1 e).1; omega)).2.2.1
      rw [((S.num_some hm).1 e).2] at f
      omega
  · intro h
    cases e : S.num (S.run l) most with
    | none => rw [e] at h; simp at h
    | some n =>
      rw [e] at h
      simp only at h
      have hr := run_all_of (l := l) (by omega)
      rw [hr] at e
      exact ⟨e, ((S.num_some hm).1 e).1⟩

theorem two_blocks {w w4 : World} {o1 o2 : Obj} {q : Nat} (hb : Below (((w.alloc o1).drewN q).alloc o2).heap.size (((w.alloc o1).drewN q).alloc o2) w4) :
    w4.heap[w.heap.size]? = some o1 ∧ w4.heap[w.heap.size + 1]? = some o2 ∧ Below w.heap.size w w4 := by
  have e1 : ((w.alloc o1).drewN q).heap.size = w.heap.size + 1 := by show (w.alloc o1).heap.size = _; simp
  have hsz : (((w.alloc o1).drewN q).alloc o2).heap.size = w.heap.size + 2 := by
    rw [show (((w.alloc o1).drewN q).alloc o2).heap.size = ((w.alloc o1).drewN q).heap.size + 1 from by simp, e1]
  refine ⟨?_, ?_, ?_⟩
  · rw [hb.block _ (by omega), Below.heap_alloc _ _ _ (by omega)]
    exact heap_alloc_new w o1
  · rw [hb.block _ (by omega), ← e1]
    exact heap_alloc_new _ o2
  · exact ((below_drewN ((Below.refl _ w).alloc (Nat.le_refl _) o1) q).alloc (by omega) o2).trans (hb.mono (by omega))

theorem row_two {w : World} {b : Nat} {x y : Value} {T : TypeId} (h : w.heap[b]? = some (.cells #[x, y] T (0, 0))) : w.cell? ⟨b, 0, none⟩ = some x ∧ w.cell? ⟨b, 1, none⟩ = some y ∧ w.frozen? ⟨b, 0, none⟩ = false ∧ w.frozen? ⟨b, 1, none⟩ = false ∧ b < w.heap.size := by
  refine ⟨by rw [cell_of_row w b 0 _ _ _ h]; rfl, by rw [cell_of_row w b 1 _ _ _ h]; rfl, by simp [World.frozen?, h], by simp [World.frozen?, h], (Array.getElem?_eq_some_iff.1 h).1⟩

theorem back_two {w : World} {b : Nat} {x y : Value} {T : TypeId} (h : w.heap[b]? = some (.cells #[x, y] T (0, 0))) (X Y : Value) : (w.setCell ⟨b, 0, none⟩ X).cell? ⟨b, 0, none⟩ = some X ∧ ((w.setCell ⟨b, 0, none⟩ X).setCell ⟨b, 1, none⟩ Y).cell? ⟨b, 1, none⟩ = some Y := by
  have h1 : (w.setCell ⟨b, 0, none⟩ X).heap[b]? = some (.cells #[X, y] T (0, 0)) := by simp [World.setCell, Array.getElem?_modify, h]
  have h2 : ((w.setCell ⟨b, 0, none⟩ X).setCell ⟨b, 1, none⟩ Y).heap[b]? = some (.cells #[X, Y] T (0, 0)) := by
    generalize (w.setCell ⟨b, 0, none⟩ X) = W at h1 ⊢
    simp [World.setCell, Array.getElem?_modify, h1]
  exact ⟨(row_two h1).1, (row_two h2).2.1⟩

set_option maxHeartbeats 2000000 in
theorem parsePrefix_any (s : ByteArray) (w : World) (hs : s.size ≤ maxLen) :
    Calls Tryd.prog 14 #[.string s] w fun e w' => e = .returned (ansP s.data.toList) ∧ Below w.heap.size w w' := by
  have hs' := hs
  unfold maxLen at hs'
  have HL : Hid (s.data.toList.length = s.size) := by simp [Hid]
  go_enter Tryd.func14, Tryd.ntmps14
  go_wp2_with fail
  refine (cut_any s _ hs).mono ?_
  rintro e w1 ⟨⟨b, a, f, rfl, hb, ha, hcut⟩, q, rfl⟩
  have HC := hid hcut
  clear hcut
  go_wp2_with fail
  refine (parse_any b _ (by unfold maxLen; omega)).mono ?_
  rintro e w2 ⟨rfl, rfl⟩
  cases hpa : S.pa b.data.toList with
  | none =>
    simp only [ansA]
    have HN : Hid (pre s.data.toList = none) := by
      unfold Hid pre
      rcases HC.out with ⟨h1, h2, h3⟩ | ⟨h1, h2⟩
      · rw [HL.out, if_pos h1, ← h2, hpa]
      · rw [HL.out, if_neg h1]
    clear hpa
    go_wp2_with fail
    refine (lead_any a 32 _ (by unfold maxLen; omega) (by omega)).mono ?_
    rintro e w3 ⟨rfl, rfl⟩
    generalize (S.lead a.data.toList 32).1 = n
    generalize (S.lead a.data.toList 32).2 = wd
    go_wp2_with fail
    refine bodyPost_ret (v := pfx 0 0 11) (by simp [results, Tryd.results14, go_sem, pfx]) rfl ⟨by unfold ansP; rw [HN.out], ?_⟩
    exact ((below_drewN ((Below.refl _ _).alloc (Nat.le_refl _) _) _).setCell (Nat.le_refl _) _).setCell (Nat.le_refl _) _
  | some av =>
    simp only [ansA]
    have HPA := hid hpa
    have hav := (S.pa_len hpa).2
    clear hpa
    go_wp2_with fail
    refine (lead_any a 32 _ (by unfold maxLen; omega) (by omega)).mono ?_
    rintro e w3 ⟨rfl, rfl⟩
    obtain ⟨l1, l2⟩ := lead_all a.data.toList 32 (by omega)
    have hal : a.data.toList.length = a.size := by simp
    rw [hal] at l1 l2
    generalize (S.lead a.data.toList 32).1 = n at l1 l2 ⊢
    generalize (S.lead a.data.toList 32).2 = wd at l1 l2 ⊢
    by_cases hbad : wd = 0 ∨ wd < a.size
    · have HN : Hid (pre s.data.toList = none) := by
        have h0 := l1 hbad
        unfold Hid pre
        rcases HC.out with ⟨h1, h2, h3⟩ | ⟨h1, h2⟩
        · rw [HL.out, if_pos h1, ← h2, ← h3, HPA.out, h0]
        · rw [HL.out, if_neg h1]
      clear l1 l2 hal
      by_cases hw0 : wd = 0
      · subst hw0
        clear hbad
        go_wp2_with fail
        refine bodyPost_ret (v := pfx 0 0 11) (by simp [results, Tryd.results14, go_sem, pfx]) rfl ⟨by unfold ansP; rw [HN.out], ?_⟩
        exact ((below_drewN ((Below.refl _ _).alloc (Nat.le_refl _) _) _).setCell (Nat.le_refl _) _).setCell (Nat.le_refl _) _
      · have hw1 : ((wd : Int) == 0) = false := by rw [beq_eq_false_iff_ne]; omega
        have hw2 : wd < a.size := by omega
        clear hbad
        go_wp2_with fail
        refine bodyPost_ret (v := pfx 0 0 11) (by simp [results, Tryd.results14, go_sem, pfx]) rfl ⟨by unfold ansP; rw [HN.out], ?_⟩
        exact ((below_drewN ((Below.refl _ _).alloc (Nat.le_refl _) _) _).setCell (Nat.le_refl _) _).setCell (Nat.le_refl _) _
    · have hnn := l2 hbad
      have hn32 := hnn.2
      have HP : Hid (pre s.data.toList = some (av, n)) := by
        have h0 := hnn.1
        unfold Hid pre
        rcases HC.out with ⟨h1, h2, h3⟩ | ⟨h1, h2⟩
        · rw [HL.out, if_pos h1, ← h2, ← h3, HPA.out, h0]
        · exfalso
          have : a.size = 0 := by rw [← hal, h2]; rfl
          rw [h2, S.num_none (by omega)] at h0
          · cases h0
          · intro m hm e
            have f := (S.dec_facts (n := m) (by omega)).2.2.1
            rw [e] at f; simp at f
      have hw1 : ((wd : Int) == 0) = false := by rw [beq_eq_false_iff_ne]; omega
      have hw2 : ¬ wd < a.size := by omega
      clear l1 l2 hal hbad hnn
      go_wp2_with fail
      refine (check_any av (n : Int) _ hav).mono ?_
      rintro e w4 ⟨rfl, hb4⟩
      obtain ⟨r1, r2, hbz⟩ := two_blocks hb4
      obtain ⟨c0, c1, f0, f1, _⟩ := row_two r1
      obtain ⟨d0, d1, _, _, _⟩ := row_two r2
      have HB1 := hid (back_two r1 (.int .u32 (av : Int)) (.int .i64 (n : Int)))
      have HB0 := hid (back_two r1 (.int .u32 0) (.int .i64 0))
      clear hb4 r1 r2
      by_cases he : err (av, (n : Int)) = 0
      · have HA : Hid (ansP s.data.toList = pfx av n 0) := by unfold Hid ansP; rw [HP.out]; simp only; rw [if_pos he]
        rw [he]
        clear he
        go_wp2_with fail
        obtain ⟨k0, k1⟩ := HB1.out
        refine bodyPost_ret (v := pfx av n 0) (by simp [results, Tryd.results14, go_sem, pfx, k0, k1]) rfl ⟨by rw [HA.out], ?_⟩
        exact (hbz.setCell (Nat.le_refl _) _).setCell (Nat.le_refl _) _
      · have HA : Hid (ansP s.data.toList = pfx 0 0 (err (av, (n : Int)))) := by unfold Hid ansP; rw [HP.out]; simp only; rw [if_neg he]
        have hq : (err (av, (n : Int)) != 0) = true := by rw [bne_iff_ne]; exact he
        generalize err (av, (n : Int)) = er at HA hq ⊢
        clear he
        go_wp2_with fail
        obtain ⟨k0, k1⟩ := HB0.out
        refine bodyPost_ret (v := pfx 0 0 er) (by simp [results, Tryd.results14, go_sem, pfx, k0, k1]) rfl ⟨by rw [HA.out], ?_⟩
        exact (hbz.setCell (Nat.le_refl _) _).setCell (Nat.le_refl _) _
end Go.Proofs.YtenhofbhkchjoabDoor
