/-
  plays: Find, Len.
-/
import Derived.Test.YtmnafocmbcgdiabWT
import Derived.Test.YtmnafocmbcgdiabWS
namespace Go.Proofs.Ytmnafocmbcgdiab
open Go.ChangeShapes Go.WideShapes Go.ChangeAt Go.RowKit Tri N
set_option maxHeartbeats 2000000
set_option maxRecDepth 100000

theorem playsOk_puts : PlaysOk 1 3 := fun _ _ _ _ _ _ _ _ _ _ _ _ hD hx _ _ hlen hk => plays_low hD hx hlen (by omega)

theorem findV_is (o : Option (K × Int)) : ∃ (q : K) (fv er : Int), findV o = .tuple #[.agg #[.int .u32 (q.x : Int), .int .i64 (q.n : Int)], .int .i64 fv, .int .i64 er] := by
  cases o with
  | none => exact ⟨⟨0, 0⟩, 0, 3, rfl⟩
  | some e => exact ⟨e.1, e.2, 0, rfl⟩

theorem plays_find {w : World} {tb rb x A : Nat} {s y a : Int} {v : Value} {t : Tr} {L : List (K × Int)} (hD : Duo w tb rb v t L) (hA : A < 4294967296) :
    Calls Try.prog 30 #[.pointer (some ⟨tb, 0, none⟩), .pointer (some ⟨rb, 0, none⟩), .agg (oCells 4 s x y A a)] w fun e w' => e = .returned (.bool true) ∧ Stepped w w' tb rb v L.length := by
  obtain ⟨wa, HWA⟩ : ∃ wa, Hid (wa = w.alloc (.cells (oCells 4 s x y A a) 71)) := ⟨_, rfl⟩
  have hba : Below w.heap.size w wa := by rw [HWA.out]; exact (Below.refl _ _).alloc (Nat.le_refl _) _
  have r1 : wa.heap[w.heap.size]? = some (.cells (oCells 4 s x y A a) 71) := by rw [HWA.out]; exact heap_alloc_new w _
  have x4 : wa.cell? ⟨w.heap.size, 4, none⟩ = some (.int .u32 (A : Int)) := by rw [cell_of_row _ _ _ _ _ _ r1]; rfl
  obtain ⟨q, fv, er, hq⟩ := findV_is (find t A)
  have hDa := hD.below hba
  have hc := find_any A wa hDa.tr
  rw [hq] at hc
  have HC := hid hc
  have HBA := hid hba
  have R1 := hid r1
  have HDA := hid hDa
  have HQ := hid hq
  have HA := hid hA
  have HST : Hid (∀ w', Below w.heap.size w w' → Stepped w w' tb rb v L.length) := fun w' hb => Stepped.same hD hb
  have hqq : ∀ u : World, (Op.equalIn 10000 31 (.agg #[.int .u32 (q.x : Int), .int .i64 (q.n : Int)]) (.agg #[.int .u32 (q.x : Int), .int .i64 (q.n : Int)])).run Try.prog u = .ok true u := fun u => (eqK q q u).trans (by simp)
  unfold oCells at HWA ⊢
  clear hba r1 hc hD hDa hq hA
  go_enter Try.func30, Try.ntmps30
  go_upto_region 15 with fail
  rw [← HWA.out]
  go_wp2_with fail
  refine HC.out.mono ?_
  rintro _ w1 ⟨rfl, hb1⟩
  obtain ⟨w2, HW2⟩ : ∃ w2, Hid (w2 = w1.alloc (.cells #[.int .u32 (q.x : Int), .int .i64 (q.n : Int)] 31)) := ⟨_, rfl⟩
  have hb2 : Below w1.heap.size w1 w2 := by rw [HW2.out]; exact (Below.refl _ _).alloc (Nat.le_refl _) _
  have r2 : w2.heap[w1.heap.size]? = some (.cells #[.int .u32 (q.x : Int), .int .i64 (q.n : Int)] 31) := by rw [HW2.out]; exact heap_alloc_new w1 _
  have hba2 : Below wa.heap.size wa w2 := hb1.trans (hb2.mono hb1.size)
  have r1' := below_keeps hba2 R1.out (Array.getElem?_eq_some_iff.1 R1.out).1
  have y4 : w2.cell? ⟨w.heap.size, 4, none⟩ = some (.int .u32 (A : Int)) := by rw [cell_of_row _ _ _ _ _ _ r1']; rfl
  have hD2 := HDA.out.below hba2
  have hc := findR_any A w2 hD2.ref HA.out hD2.same hD2.tr.wf
  rw [HQ.out] at hc
  have HX := hid hc
  have R2 := hid r2
  have HB2 : Hid (Below w.heap.size w w2) := HBA.out.trans (hba2.mono HBA.out.size)
  clear hb1 hb2 r2 hba2 r1' hD2 hc x4
  go_upto_region 16 with fail
  rw [← HW2.out]
  go_wp2_with fail
  refine HX.out.mono ?_
  rintro _ w3 ⟨rfl, hb3⟩
  obtain ⟨w4, HW4⟩ : ∃ w4, Hid (w4 = w3.alloc (.cells #[.int .u32 (q.x : Int), .int .i64 (q.n : Int)] 31)) := ⟨_, rfl⟩
  have hb4 : Below w3.heap.size w3 w4 := by rw [HW4.out]; exact (Below.refl _ _).alloc (Nat.le_refl _) _
  have r4 : w4.heap[w3.heap.size]? = some (.cells #[.int .u32 (q.x : Int), .int .i64 (q.n : Int)] 31) := by rw [HW4.out]; exact heap_alloc_new w3 _
  have hb24 : Below w2.heap.size w2 w4 := hb3.trans (hb4.mono hb3.size)
  have r2' := below_keeps hb24 R2.out (Array.getElem?_eq_some_iff.1 R2.out).1
  have u0 : w4.cell? ⟨w1.heap.size, 0, none⟩ = some (.int .u32 (q.x : Int)) := by rw [cell_of_row _ _ _ _ _ _ r2']; rfl
  have u1 : w4.cell? ⟨w1.heap.size, 1, none⟩ = some (.int .i64 (q.n : Int)) := by rw [cell_of_row _ _ _ _ _ _ r2']; rfl
  have u2 : w4.cell? ⟨w3.heap.size, 0, none⟩ = some (.int .u32 (q.x : Int)) := by rw [cell_of_row _ _ _ _ _ _ r4]; rfl
  have u3 : w4.cell? ⟨w3.heap.size, 1, none⟩ = some (.int .i64 (q.n : Int)) := by rw [cell_of_row _ _ _ _ _ _ r4]; rfl
  have HS := hid (HST.out w4 (HB2.out.trans (hb24.mono HB2.out.size)))
  clear hb3 hb4 hb24 r4 r2' y4
  go_upto_region 17 with fail
  rw [← HW4.out]
  go_wp2_with fail
  go_ret
  exact ⟨rfl, HS.out⟩

theorem playsOk_finds : PlaysOk 4 4 := fun _ _ _ _ _ k _ _ _ _ _ _ hD hx hA _ hlen hk => by
  by_cases h : k ≤ 3
  · exact plays_low hD hx hlen h
  · obtain rfl : k = 4 := by omega
    exact plays_find hD hA
end Go.Proofs.Ytmnafocmbcgdiab
