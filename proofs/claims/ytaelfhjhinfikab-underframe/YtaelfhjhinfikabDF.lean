/-
  The net's calls: Take, Spoil, List.
-/
import Derived.Test.YtaelfhjhinfikabDE
namespace Go.Proofs.Ytaelfhjhinfikab
open Go.ChangeShapes Go.WideShapes Go.ChangeAt Go.RowKit Me
set_option maxHeartbeats 2000000
set_option maxRecDepth 100000

/-- What Take leaves. -/
def TkD (ty : TypeId) (mk : Nat → Value → Array Value) (w w' : World) (pb m : Nat) (S : List Pk) (i : Int) (F : Nat → Prop) (u : Value) : Prop :=
  OwnB w' w.heap.size u (tkP S i).bs ∧ ∃ F', Ho ty mk w' pb m (tkS S i) F' ∧ (∀ k, F' k → F k ∨ w.heap.size ≤ k) ∧ Keeps F w w' ∧ ∀ k, u.ownBlock = some k → ¬ F' k

theorem take_any (w : World) (F : Nat → Prop) (pb m : Nat) (S : List Pk) (i : Int) (h : Nt w pb m S F) :
    Calls Try.prog 24 #[.pointer (some ⟨pb, 0, none⟩), .int .i64 i] w fun e w' => ∃ a n c, e = .returned (.tuple #[.agg #[.int .u32 (((tkP S i).ad : Nat) : Int), .slice a n c], .int .i64 ((tkE S i : Nat) : Int)]) ∧ TkD 60 mkN w w' pb m S i F (.slice a n c) := by
  have HH := hid h
  obtain ⟨w1, HW1⟩ : ∃ w1, Hid (w1 = w.alloc (.cells #[.int .u32 0, .slice none 0 0] 41)) := ⟨_, rfl⟩
  have hb1 : Below w.heap.size w w1 := by rw [HW1.out]; exact (Below.refl _ _).alloc (Nat.le_refl _) _
  obtain ⟨b, HB⟩ : ∃ b, Hid (b = w.heap.size) := ⟨_, rfl⟩
  have r1 : w1.heap[b]? = some (.cells #[.int .u32 0, .slice none 0 0] 41 (0, 0)) := by rw [HW1.out, HB.out]; exact heap_alloc_new w _
  have R1 := hid r1
  have hbl : b < w1.heap.size := (Array.getElem?_eq_some_iff.1 r1).1
  have HB1 := hid hb1
  obtain ⟨v, E, hat, hS, hF, hle, hm⟩ := h
  have hat1 := hat.below hb1
  have HHA := hid (has_any w1 pb m v E i hat1)
  have hlen : E.length = S.length := by rw [hS, List.length_map]
  rw [hlen] at HHA
  have HCR : Hid (∀ (u : World) (x y : Value), u.heap[b]? = some (.cells #[x, y] 41 (0, 0)) → u.cell? ⟨b, 0, none⟩ = some x ∧ u.cell? ⟨b, 1, none⟩ = some y ∧ u.frozen? ⟨b, 0, none⟩ = false ∧ u.frozen? ⟨b, 1, none⟩ = false) := fun u x y hr => by
    refine ⟨?_, ?_, frozen_of_row _ _ _ _ _ hr, frozen_of_row _ _ _ _ _ hr⟩ <;> (rw [cell_of_row _ _ _ _ _ _ hr]; rfl)
  cases hi : inR i S.length with
  | false =>
    have HE : Hid (tkE S i = 3 ∧ tkP S i = ⟨0, []⟩ ∧ tkS S i = S) := by
      exact ⟨by unfold tkE; rw [hi]; rfl, by unfold tkP; rw [hi]; rfl, by unfold tkS; rw [hi]; rfl⟩
    obtain ⟨w2, HW2⟩ : ∃ w2, Hid (w2 = (w1.setCell ⟨b, 0, none⟩ (.int .u32 0)).setCell ⟨b, 1, none⟩ (.slice none 0 0)) := ⟨_, rfl⟩
    have r2 : w2.heap[b]? = some (.cells #[.int .u32 0, .slice none 0 0] 41 (0, 0)) := by
      rw [HW2.out]; exact set_cells (i := 1) (set_cells (i := 0) r1)
    have k2 : Keeps (fun k => k = b) w1 w2 := by
      rw [HW2.out]; exact Keeps.set (S := fun k => k = b) (Keeps.set (S := fun k => k = b) (Keeps.refl _ _) ⟨b, 0, none⟩ rfl _) ⟨b, 1, none⟩ rfl _
    have hb2 : Below w.heap.size w w2 := k2.below' hb1 (fun k e => by have := HB.out; omega) (Nat.le_refl _)
    have HFIN : Hid (TkD 60 mkN w w2 pb m S i F (.slice none 0 0)) := by
      unfold Hid TkD
      rw [HE.out.2.1, HE.out.2.2]
      exact ⟨ownB_nil _ _, F, HH.out.below hb2, fun _ h => .inl h, Keeps.of hb2, fun k e => by cases e⟩
    obtain ⟨c0, c1, c2, c3⟩ := HCR.out w1 _ _ r1
    obtain ⟨d0, d1, -, -⟩ := HCR.out w2 _ _ r2
    rw [hi] at HHA
    have e1 : (tkP S i).ad = 0 := by rw [HE.out.2.1]
    rw [HE.out.1, e1]
    clear hat hS hF hle hm hlen hi r1 r2 k2 hb1 hb2 hat1 e1
    go_enter Try.func24, Try.ntmps24
    go_upto_region 1 with fail
    rw [← HW1.out, ← HB.out]
    go_wp2_with fail
    refine HHA.out.mono ?_
    rintro _ _ ⟨rfl, ew⟩
    obtain rfl := ew.symm
    clear ew HHA
    go_wp2_with fail
    rw [← HW2.out]
    refine bodyPost_ret (v := .tuple #[.agg #[.int .u32 0, .slice none 0 0], .int .i64 3]) (by simp [results, Try.results24, go_sem, d0, d1]) rfl ⟨_, _, _, rfl, HFIN.out⟩
  | true =>
    obtain ⟨j, rfl, hj⟩ := inR_true hi
    obtain ⟨-, c1, -⟩ := hat1.cellsN
    obtain ⟨a, n, cap, rfl, HN, hn1, hn2, -⟩ := hat.fl.shape
    unfold maxLen at hn2
    have hjE : j < E.length := by omega
    obtain ⟨g, rfl, hg, hc⟩ := hat1.fl.at (List.getElem?_eq_getElem hjE)
    obtain ⟨d0, d1, -⟩ := hc w1 rfl
    have hmem := List.getElem_mem hjE
    have hown := hat1.fl.own _ hmem
    have hok := hat1.fl.ok _ hmem
    have hpk : tkP S (j : Int) = E[j].pk := by unfold tkP; rw [hi, hS]; simp [hjE]
    have hE0 : tkE S (j : Int) = 0 := by unfold tkE; rw [hi]; rfl
    have hT : tkS S (j : Int) = S.eraseIdx j := by unfold tkS; rw [hi]; rfl
    generalize E[j] = e at *
    obtain ⟨ea, eb, eu⟩ := e
    simp only at d0 d1 hown hok
    obtain ⟨ua, un, uc, rfl, -, -, -⟩ := hown.shape
    have hpa : (tkP S (j : Int)).ad = ea := by rw [hpk]; rfl
    have hpb : (tkP S (j : Int)).bs = eb := by rw [hpk]; rfl
    rw [hpa, hE0]
    have HTW := hid (twin_any w1 _ ea _ eb (hown.sees hok.2.2) hok.2.1)
    have HDR : Hid (∀ u : World, Below w1.heap.size w1 u → Calls Try.prog 38 #[.pointer (some ⟨pb, 0, none⟩), .int .i64 (j : Int)] u fun e w' => e = .returned (.tuple #[]) ∧ ∃ v', HTurn 60 (mkN m) u w' pb (.slice (some ⟨g, 0, none⟩) n cap) E v' (E.eraseIdx j)) := fun u hu => drop_any u pb m j _ E (hat1.below hu) (by omega)
    have HFPB : Hid (∀ k, fpH pb (.slice (some ⟨g, 0, none⟩) n cap) E k → k < w.heap.size) := fun k hk => hat.lt hk
    have HFIN : Hid (∀ (u1 u2 u3 : World) (v' : Value) (a3 : Option Addr) (n3 c3 : Nat), Below w1.heap.size w1 u1 → OwnB u1 w1.heap.size (.slice a3 n3 c3) eb → HTurn 60 (mkN m) u1 u2 pb (.slice (some ⟨g, 0, none⟩) n cap) E v' (E.eraseIdx j) → Keeps (fun k => k = b) u2 u3 → TkD 60 mkN w u3 pb m S (j : Int) F (.slice a3 n3 c3)) := by
      intro u1 u2 u3 v' a3 n3 c3 h1 h2 h3 h4
      have hbu : Below w.heap.size w u1 := HB1.out.trans (h1.mono HB1.out.size)
      have hlt3 : ∀ k, fpH pb v' (E.eraseIdx j) k → k < w.heap.size ∨ u1.heap.size ≤ k := fun k hk => by
        rcases hk with rfl | hk
        · exact .inl (HFPB.out _ (.inl rfl))
        · exact (h3.new k hk).imp (fun e => HFPB.out k (.inr e)) id
      have hnb : ∀ k, fpH pb v' (E.eraseIdx j) k → ¬ k = b := fun k hk e => by
        have := HB.out; have := h1.size
        rcases hlt3 k hk with h | h <;> omega
      have hn3 := h3.net.keeps h4 hnb
      have hne : ∀ k, Value.ownBlock (.slice a3 n3 c3) = some k → w1.heap.size ≤ k ∧ k < u1.heap.size := fun k hk => h2.lt hk
      refine ⟨?_, fpH pb v' (E.eraseIdx j), ⟨v', _, hn3, by rw [hT, hS, map_erase], fun _ => Iff.rfl, by rw [hT, List.length_eraseIdx]; split <;> omega, hm⟩, fun k hk => ?_, ?_, fun k hk hk2 => ?_⟩
      · rw [hpb]
        refine (OwnB.keeps (h2.keeps h3.keeps fun k hk hk2 => ?_) h4 fun k hk e => ?_).low HB1.out.size
        · have := (hne k hk).1; have := HFPB.out k hk2; have := HB1.out.size; omega
        · have := (hne k hk).1; have := HB.out; omega
      · rcases hk with rfl | hk
        · exact .inl ((hF _).2 (.inl rfl))
        · exact (h3.new k hk).imp (fun e => (hF k).2 (.inr e)) fun e => Nat.le_trans hbu.size e
      · exact ((Keeps.of hbu).trans (h3.keeps.mono fun k _ e => (hF k).2 e)).then h4 fun k e => .inr (by have := HB.out; omega)
      · have := hne k hk
        rcases hlt3 k hk2 with h | h <;> (have := HB1.out.size; omega)
    rw [hi] at HHA
    have hj1 : (j : Int) < (n : Int) := by have := HN.out; omega
    have hj2 : (0 : Int) ≤ (j : Int) := by omega
    have HNB : Hid (¬ fpH pb (.slice (some ⟨g, 0, none⟩) n cap) E b) := fun e => by have := HFPB.out b e; have := HB.out; omega
    clear hat hS hF hle hm hlen hi hc hmem hown hok hpk hpa hpb hE0 hT hj hjE hg r1 hb1 hat1
    go_enter Try.func24, Try.ntmps24
    go_upto_region 1 with fail
    rw [← HW1.out, ← HB.out]
    go_wp2_with fail
    refine HHA.out.mono ?_
    rintro _ _ ⟨rfl, ew⟩
    obtain rfl := ew.symm
    clear ew HHA
    go_wp2_with fail
    refine HTW.out.mono ?_
    rintro _ w3 ⟨a3, n3, c3, rfl, ho3, hb3⟩
    clear HTW d0 d1 c1
    go_upto_region 4 with fail
    obtain ⟨w4, HW4⟩ : ∃ w4, Hid (w4 = w3.alloc (.cells #[.int .u32 (ea : Int), .slice a3 n3 c3] 41)) := ⟨_, rfl⟩
    obtain ⟨b4, HB4⟩ : ∃ b4, Hid (b4 = w3.heap.size) := ⟨_, rfl⟩
    rw [← HW4.out, ← HB4.out]
    have hb34 : Below w3.heap.size w3 w4 := by rw [HW4.out]; exact (Below.refl _ _).alloc (Nat.le_refl _) _
    have r4 : w4.heap[b4]? = some (.cells #[.int .u32 (ea : Int), .slice a3 n3 c3] 41 (0, 0)) := by rw [HW4.out, HB4.out]; exact heap_alloc_new w3 _
    have hb4 : Below w1.heap.size w1 w4 := hb3.trans (hb34.mono hb3.size)
    have HD4 := hid (HDR.out w4 hb4)
    have HO4 := hid (ho3.below hb34)
    have HB14 := hid hb4
    have R4 := hid r4
    have HR4 : Hid (w4.heap[b]? = some (.cells #[.int .u32 0, .slice none 0 0] 41 (0, 0))) := (hb4.block b hbl).trans R1.out
    have hb4l : b4 < w4.heap.size := (Array.getElem?_eq_some_iff.1 r4).1
    have HNB4 : Hid (¬ fpH pb (.slice (some ⟨g, 0, none⟩) n cap) E b4) := fun e => by have := HFPB.out b4 e; have := HB4.out; have := hb3.size; have := HB1.out.size; omega
    have hbb : b ≠ b4 := by have := HB4.out; have := hb3.size; omega
    clear ho3 hb3 hb34 r4 hb4 HDR
    go_wp2_with fail
    refine HD4.out.mono ?_
    rintro _ w5 ⟨rfl, v5, ht5⟩
    have r5 : w5.heap[b4]? = _ := ht5.keeps.mem R4.out HNB4.out
    have r5' : w5.heap[b]? = _ := ht5.keeps.mem HR4.out HNB.out
    have e0 : w5.cell? ⟨b4, 0, none⟩ = some (.int .u32 (ea : Int)) := by rw [cell_of_row _ _ _ _ _ _ r5]; rfl
    have e1 : w5.cell? ⟨b4, 1, none⟩ = some (.slice a3 n3 c3) := by rw [cell_of_row _ _ _ _ _ _ r5]; rfl
    obtain ⟨f0, f1, f2, f3⟩ := HCR.out w5 _ _ r5'
    obtain ⟨w6, HW6⟩ : ∃ w6, Hid (w6 = (w5.setCell ⟨b, 0, none⟩ (.int .u32 (ea : Int))).setCell ⟨b, 1, none⟩ (.slice a3 n3 c3)) := ⟨_, rfl⟩
    have r6 : w6.heap[b]? = some (.cells #[.int .u32 (ea : Int), .slice a3 n3 c3] 41 (0, 0)) := by
      rw [HW6.out]; exact set_cells (i := 1) (set_cells (i := 0) r5')
    have k6 : Keeps (fun k => k = b) w5 w6 := by
      rw [HW6.out]; exact Keeps.set (S := fun k => k = b) (Keeps.set (S := fun k => k = b) (Keeps.refl _ _) ⟨b, 0, none⟩ rfl _) ⟨b, 1, none⟩ rfl _
    have HE6 := hid (HFIN.out w4 w5 w6 v5 a3 n3 c3 HB14.out HO4.out ht5 k6)
    obtain ⟨g0, g1, -, -⟩ := HCR.out w6 _ _ r6
    clear ht5 r5 r5' r6 k6 HD4 HFIN HO4
    go_wp2_with fail
    rw [← HW6.out]
    refine bodyPost_ret (v := .tuple #[.agg #[.int .u32 (ea : Int), .slice a3 n3 c3], .int .i64 0]) (by simp [results, Try.results24, go_sem, g0, g1]) rfl ⟨_, _, _, rfl, HE6.out⟩
end Go.Proofs.Ytaelfhjhinfikab
