/-
  The law's begun.
-/
import Derived.Test.YtahoileampdnkaaOV
namespace Go.Proofs.Ytahoileampdnkaa
open Go.ChangeShapes Go.WideShapes Go.ChangeAt Go.RowKit Ru N Tri
set_option maxHeartbeats 1000000
set_option maxRecDepth 100000

theorem Turned.below {pb sub lo hi : Nat} {vk vt vt' : Value} {ks ts' : List R} {w u u' : World} (hp : w.heap.size ≤ pb) (hv : ∀ g, vt.ownBlock = some g → w.heap.size ≤ g) (hb : Below w.heap.size w u) (h : Turned pb vk vt sub lo hi ks u u' vt' ts') : Below w.heap.size w u' :=
  ⟨h.keeps.os.trans hb.os, h.keeps.tape.trans hb.tape, h.keeps.output.trans hb.output, Nat.le_trans hb.size h.keeps.size, fun k hk => (h.keeps.block k (Nat.lt_of_lt_of_le hk hb.size) (by
    rintro (e | e)
    · omega
    · have := hv k e; omega)).trans (hb.block k hk)⟩

theorem begun_any (w : World) : Calls Try.prog 9 #[] w fun e w' => e = .returned (.bool true) ∧ Below w.heap.size w w' := by
  obtain ⟨w1, HW1⟩ : ∃ w1, Hid (w1 = w.alloc (.cells #[.int .u32 167772160, .int .i64 24] 25)) := ⟨_, rfl⟩
  have hb1 : Below w.heap.size w w1 := by rw [HW1.out]; exact (Below.refl _ _).alloc (Nat.le_refl _) _
  have r1 : w1.heap[w.heap.size]? = some (.cells #[.int .u32 167772160, .int .i64 24] 25) := by rw [HW1.out]; exact heap_alloc_new w _
  have hlt : w.heap.size < w1.heap.size := (Array.getElem?_eq_some_iff.1 r1).1
  have hS : Sees w1 (.slice (some ⟨w.heap.size, 0, none⟩) 1 1) [(167772160, 24)] := by
    refine ⟨_, 1, rfl, by decide, by decide, fun j hj => ?_⟩
    have : j = 0 := by simp at hj; exact hj
    subst this
    exact ⟨w.heap.size, 0, rfl, hlt, by rw [cell_of_row _ _ _ _ _ _ r1]; rfl, by rw [cell_of_row _ _ _ _ _ _ r1]; rfl⟩
  have HN := hid (new_any 167772160 167772160 167772672 8 24 _ [(167772160, 24)] w1 (by decide) (by decide) (by decide) hS (by simp))
  have HB1 := hid hb1
  clear hb1 r1 hS hlt
  go_enter Try.func9, Try.ntmps9
  go_wp2_with fail
  rw [← HW1.out]
  refine HN.out.mono ?_
  rintro e w2 (⟨h, -⟩ | ⟨-, pb, sub, vk, ks, hs, rfl, hmk, hmem⟩)
  · exact absurd (show newE 167772160 8 24 167772160 167772672 [(167772160, 24)] = 0 by decide +kernel) h
  · obtain rfl : sub = 24 := by omega
    have e1 : num 24 167772160 = 655360 := by decide +kernel
    have e2 : num 24 167772672 = 655362 := by decide +kernel
    rw [e1, e2] at hmk
    have hm : ∀ n, Mem ks n ↔ n = 655360 := fun n => by rw [hmem n]; simp [e1]
    have HMK := hid hmk
    have HM := hid hm
    have HT := hid (take_any pb 24 655360 655362 vk (.slice none 0 0) ks [] w2 hmk.pool)
    clear hs hmem hmk hm HN e1 e2
    go_wp2_with fail
    refine HT.out.mono ?_
    rintro e w3 (⟨a, vt', ts', rfl, h1, h2, h3, h4, h5, h6, h7⟩ | ⟨rfl, h1, -⟩)
    · have ha : a = 655361 := by
        have h8 : a ≠ 655360 := fun e => h3 ((HM.out a).2 e)
        rcases Nat.lt_or_ge 655361 a with h9 | h9
        · rcases h5 655361 (by omega) h9 with h | h
          · have := (HM.out _).1 h; omega
          · exact absurd h mem_nil
        · omega
      subst ha
      have hcnt : cnt ks ts' 655360 (655362 + 1) = 1 := by
        rw [cnt_add ks ts' (show 655360 ≤ 655362 by decide) (show 655362 ≤ 655362 + 1 by decide), cnt_used (fun x k1 k2 => ?_), cnt_free (fun x k1 k2 => ?_)]
        · refine ⟨fun h => ?_, fun h => ?_⟩
          · have := (HM.out x).1 h; omega
          · rcases (h7 x).1 h with h | h
            · omega
            · exact absurd h mem_nil
        · rcases Nat.eq_or_lt_of_le k1 with h | h
          · exact .inl ((HM.out x).2 h.symm)
          · exact .inr ((h7 x).2 (.inl (by omega)))
      have e3 : adr 24 655361 = 167772416 := by decide +kernel
      rw [e3]
      have HTN := hid h6
      have HBW : Hid (Below w.heap.size w w3) := by
        have hb := Turned.below HMK.out.new (fun g hg => by cases hg) HMK.out.be h6
        exact HB1.out.trans (hb.mono HB1.out.size)
      clear h1 h2 h3 h4 h5 h6 h7 e3
      obtain ⟨w4, HW4⟩ : ∃ w4, Hid (w4 = w3.alloc (.cells #[.int .u32 167772416, .int .i64 24] 25)) := ⟨_, rfl⟩
      have hb4 : Below w3.heap.size w3 w4 := by rw [HW4.out]; exact (Below.refl _ _).alloc (Nat.le_refl _) _
      have r4 : w4.heap[w3.heap.size]? = some (.cells #[.int .u32 167772416, .int .i64 24] 25) := by rw [HW4.out]; exact heap_alloc_new w3 _
      have R4 := hid r4
      have HB4 := hid hb4
      have HR := hid (room_any pb 24 655360 655362 vk vt' ks ts' w4 (HTN.out.pool.below hb4))
      rw [hcnt] at HR
      clear hb4 r4 hcnt
      obtain ⟨sb, HSB⟩ : ∃ sb, Hid (sb = w3.heap.size) := ⟨_, rfl⟩
      go_upto_region 5 with fail
      rw [← HW4.out, ← HSB.out]
      go_wp2_with fail
      refine HR.out.mono ?_
      rintro _ w5 ⟨rfl, hb5⟩
      have r5 := below_keeps hb5 R4.out (Array.getElem?_eq_some_iff.1 R4.out).1
      rw [← HSB.out] at r5
      have k0 : w5.cell? ⟨sb, 0, none⟩ = some (.int .u32 167772416) := by rw [cell_of_row _ _ _ _ _ _ r5]; rfl
      have k1 : w5.cell? ⟨sb, 1, none⟩ = some (.int .i64 24) := by rw [cell_of_row _ _ _ _ _ _ r5]; rfl
      have HB5 : Hid (Below w.heap.size w w5) := (HBW.out.trans (HB4.out.mono HBW.out.size)).trans (hb5.mono (Nat.le_trans HBW.out.size HB4.out.size))
      clear r5 hb5
      go_wp2_with fail
      go_ret
      exact ⟨rfl, HB5.out⟩
    · exfalso
      rcases h1 655361 (by omega) (by omega) with h | h
      · have := (HM.out _).1 h; omega
      · exact mem_nil h
end Go.Proofs.Ytahoileampdnkaa
