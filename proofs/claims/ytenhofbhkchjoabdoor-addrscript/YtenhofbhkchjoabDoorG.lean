import Derived.Test.YtenhofbhkchjoabDoorF
namespace Go.Proofs.YtenhofbhkchjoabDoor
open Go.ChangeShapes Go.WideShapes Go.ChangeAt Go.RowKit
set_option maxHeartbeats 400000

theorem dec_two : ∀ n, n < 33 → (Lib.decDigits n).length ≤ 2 := by decide +kernel

theorem pre_len {l : List UInt8} {p : Nat × Nat} (h : pre l = some p) : l.length ≤ 18 := by
  unfold pre at h
  split at h
  · rename_i hlt
    cases e1 : S.pa (l.take (upTo l 0 47)) with
    | none => rw [e1] at h; cases h
    | some a =>
      cases e2 : S.num (l.drop (upTo l 0 47 + 1)) 32 with
      | none => rw [e1, e2] at h; cases h
      | some n =>
        have h1 := (S.pa_len e1).1
        have h2 := (S.num_some (by omega)).1 e2
        have h3 := dec_two n (by omega)
        rw [h2.2, List.length_drop] at h3
        rw [List.length_take] at h1
        omega
  · cases h

theorem one_block {w w4 : World} {o1 o2 : Obj} {w1 : World} (hb1 : Below (w.alloc o1).heap.size (w.alloc o1) w1) (hb : Below (w1.alloc o2).heap.size (w1.alloc o2) w4) :
    w4.heap[w.heap.size]? = some o1 ∧ w4.heap[w1.heap.size]? = some o2 ∧ Below w.heap.size w w4 ∧ w.heap.size < w1.heap.size := by
  have e1 : (w.alloc o1).heap.size = w.heap.size + 1 := by simp
  have e2 : (w1.alloc o2).heap.size = w1.heap.size + 1 := by simp
  have h1 := hb1.size
  refine ⟨?_, ?_, ?_, by omega⟩
  · rw [hb.block _ (by omega), Below.heap_alloc _ _ _ (by omega), hb1.block _ (by omega)]
    exact heap_alloc_new w o1
  · rw [hb.block _ (by omega)]
    exact heap_alloc_new w1 o2
  · exact ((((Below.refl _ w).alloc (Nat.le_refl _) o1).trans (hb1.mono (by omega))).alloc (by omega) o2).trans (hb.mono (by omega))

set_option maxHeartbeats 2000000 in
theorem refParsePrefix_any (s : ByteArray) (w : World) (hs : s.size ≤ maxLen) (ht : Tab w) :
    Calls Tryd.prog 15 #[.string s] w fun e w' => e = .returned (ansP s.data.toList) ∧ Below w.heap.size w w' := by
  have hs' := hs
  unfold maxLen at hs'
  have HL : Hid (s.data.toList.length = s.size) := by simp [Hid]
  have HTB := hid ht
  clear ht
  by_cases h18 : 18 < s.size
  · have HN : Hid (pre s.data.toList = none) := by
      unfold Hid
      cases e : pre s.data.toList with
      | none => rfl
      | some p => have := pre_len e; rw [HL.out] at this; omega
    go_enter Tryd.func15, Tryd.ntmps15
    go_wp2
    refine bodyPost_ret (v := pfx 0 0 11) (by simp [results, Tryd.results15, go_sem, pfx]) rfl ⟨by unfold ansP; rw [HN.out], ?_⟩
    exact (Below.refl _ _).alloc (Nat.le_refl _) _
  · have hul := upTo_le s.data.toList 0 47 (by omega)
    rw [HL.out] at hul
    have hu2 := hul.2
    have HPRE : Hid (pre s.data.toList = if upTo s.data.toList 0 47 < s.size then (match S.pa (s.data.toList.take (upTo s.data.toList 0 47)), S.num (s.data.toList.drop (upTo s.data.toList 0 47 + 1)) 32 with | some a, some n => some (a, n) | _, _ => none) else none) := by
      unfold Hid pre; rw [HL.out]; rfl
    clear hul
    go_enter Tryd.func15, Tryd.ntmps15
    go_wp2_with fail
    refine (until_any s 0 47 _ hs (by omega)).mono ?_
    rintro e w1 ⟨rfl, rfl⟩
    generalize upTo s.data.toList 0 47 = to at HPRE hu2 ⊢
    by_cases hto : to = s.size
    · have hq : ((to : Int) == (s.size : Int)) = true := by simp [hto]
      have HN : Hid (pre s.data.toList = none) := by have h1 := HPRE.out; rwa [if_neg (by omega)] at h1
      clear hto HPRE
      go_wp2_with fail
      refine bodyPost_ret (v := pfx 0 0 11) (by simp [results, Tryd.results15, go_sem, pfx]) rfl ⟨by unfold ansP; rw [HN.out], ?_⟩
      exact (Below.refl _ _).alloc (Nat.le_refl _) _
    · have hq : ((to : Int) == (s.size : Int)) = false := by rw [beq_eq_false_iff_ne]; omega
      have hlt : to < s.size := by omega
      have HP2 := HPRE.out
      rw [if_pos hlt] at HP2
      have HP3 := hid HP2
      clear hto HPRE HP2
      have hbw : Below w.heap.size w (w.alloc (.cells #[.int .u32 0, .int .i64 0] 31)) := (Below.refl _ _).alloc (Nat.le_refl _) _
      go_wp2_with fail
      have hbs := ext_size s 0 to hu2
      have hbl := ext_list s 0 to
      simp only [List.drop_zero, Nat.sub_zero] at hbl hbs
      generalize s.extract 0 to = b at hbs hbl ⊢
      have hbs' : b.size ≤ s.size := by omega
      rw [← hbl] at HP3
      clear hbl hbs
      refine (refParse_any b _ (by unfold maxLen; omega) (HTB.out.below hbw)).mono ?_
      rintro e w2 ⟨rfl, hb2⟩
      have hbw2 : Below w.heap.size w w2 := hbw.trans (hb2.mono hbw.size)
      obtain ⟨pb, hpb⟩ : ∃ pb, pb = S.pa b.data.toList := ⟨_, rfl⟩
      rw [← hpb] at HP3 ⊢
      have hpb32 : ∀ a, pb = some a → a < 4294967296 := fun a h => (S.pa_len (hpb ▸ h)).2
      clear hpb
      have hansA : ∃ a0 e0 : Int, ansA pb = .tuple #[.int .u32 a0, .int .i64 e0] := by
        cases pb with
        | none => exact ⟨0, 10, rfl⟩
        | some a => exact ⟨a, 0, rfl⟩
      obtain ⟨a0, e0, hA⟩ := hansA
      have HAN := hid hA
      rw [hA]
      clear hA
      go_wp2_with fail
      have hcs := sub_size s (to + 1)
      have hcl := sub_list s (to + 1)
      generalize s.extract (to + 1) s.size = c at hcs hcl ⊢
      have hcs' : c.size ≤ s.size := by omega
      rw [← hcl] at HP3
      clear hcl hcs
      refine (number_any c 32 _ (by unfold maxLen; omega) (by omega) (HTB.out.below hbw2)).mono ?_
      rintro e w3 ⟨rfl, hb3⟩
      have hb23 : Below (w.alloc (.cells #[.int .u32 0, .int .i64 0] 31)).heap.size (w.alloc (.cells #[.int .u32 0, .int .i64 0] 31)) w3 := hb2.trans (hb3.mono hb2.size)
      obtain ⟨nc, hnc⟩ : ∃ nc, nc = S.num c.data.toList 32 := ⟨_, rfl⟩
      rw [← hnc] at HP3 ⊢
      have hnc32 : ∀ n, nc = some n → n ≤ 32 := fun n h => ((S.num_some (by omega)).1 (hnc ▸ h)).1
      clear hnc
      have hr0 : w3.heap[w.heap.size]? = some (.cells #[.int .u32 0, .int .i64 0] 31) := by
        rw [hb23.block _ (by simp)]; exact heap_alloc_new w _
      obtain ⟨c0, c1, f0, f1, _⟩ := row_two hr0
      have HB0 := hid (back_two hr0 (.int .u32 0) (.int .i64 0))
      have hbw3 : Below w.heap.size w w3 := hbw.trans (hb23.mono hbw.size)
      cases pb with
      | none =>
        have HN : Hid (pre s.data.toList = none) := HP3.out
        have he0 : a0 = 0 ∧ e0 = 10 := by have h1 := HAN.out; simp [ansA] at h1; exact ⟨h1.1.symm, h1.2.symm⟩
        obtain ⟨rfl, rfl⟩ := he0
        generalize numI nc = ni
        clear hr0
        go_wp2_with fail
        obtain ⟨k0, k1⟩ := HB0.out
        refine bodyPost_ret (v := pfx 0 0 11) (by simp [results, Tryd.results15, go_sem, pfx, k0, k1]) rfl ⟨by unfold ansP; rw [HN.out], ?_⟩
        exact (hbw3.setCell (Nat.le_refl _) _).setCell (Nat.le_refl _) _
      | some av =>
        have hav := hpb32 av rfl
        have he0 : a0 = (av : Int) ∧ e0 = 0 := by have h1 := HAN.out; simp [ansA] at h1; exact ⟨h1.1.symm, h1.2.symm⟩
        obtain ⟨rfl, rfl⟩ := he0
        cases nc with
        | none =>
          have HN : Hid (pre s.data.toList = none) := HP3.out
          simp only [numI]
          clear hr0
          go_wp2_with fail
          obtain ⟨k0, k1⟩ := HB0.out
          refine bodyPost_ret (v := pfx 0 0 11) (by simp [results, Tryd.results15, go_sem, pfx, k0, k1]) rfl ⟨by unfold ansP; rw [HN.out], ?_⟩
          exact (hbw3.setCell (Nat.le_refl _) _).setCell (Nat.le_refl _) _
        | some n =>
          have HP : Hid (pre s.data.toList = some (av, n)) := HP3.out
          have hn32 := hnc32 n rfl
          simp only [numI]
          clear hr0 c0 c1 f0 f1 HB0
          go_wp2_with fail
          refine (fault_any av (n : Int) _ hav).mono ?_
          rintro e w4 ⟨rfl, hb4⟩
          obtain ⟨r1, r2, hbz, hlw⟩ := one_block hb23 hb4
          obtain ⟨c0, c1, f0, f1, _⟩ := row_two r1
          obtain ⟨d0, d1, _, _, _⟩ := row_two r2
          have HB1 := hid (back_two r1 (.int .u32 (av : Int)) (.int .i64 (n : Int)))
          have HB0 := hid (back_two r1 (.int .u32 0) (.int .i64 0))
          clear hb4 r1 r2
          by_cases he : err (av, (n : Int)) = 0
          · have HA : Hid (ansP s.data.toList = pfx av n 0) := by unfold Hid ansP; rw [HP.out]; simp only; rw [if_pos he]
            rw [he]
            clear he
            go_wp2_with fail
            obtain ⟨k0, k1⟩ := HB1.out
            refine bodyPost_ret (v := pfx av n 0) (by simp [results, Tryd.results15, go_sem, pfx, k0, k1]) rfl ⟨by rw [HA.out], ?_⟩
            exact (hbz.setCell (Nat.le_refl _) _).setCell (Nat.le_refl _) _
          · have HA : Hid (ansP s.data.toList = pfx 0 0 (err (av, (n : Int)))) := by unfold Hid ansP; rw [HP.out]; simp only; rw [if_neg he]
            have hqe : (err (av, (n : Int)) != 0) = true := by rw [bne_iff_ne]; exact he
            generalize err (av, (n : Int)) = er at HA hqe ⊢
            clear he
            go_wp2_with fail
            obtain ⟨k0, k1⟩ := HB0.out
            refine bodyPost_ret (v := pfx 0 0 er) (by simp [results, Tryd.results15, go_sem, pfx, k0, k1]) rfl ⟨by rw [HA.out], ?_⟩
            exact (hbz.setCell (Nat.le_refl _) _).setCell (Nat.le_refl _) _
end Go.Proofs.YtenhofbhkchjoabDoor
