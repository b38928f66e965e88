/-
  weftlaw6.flip: a bit that is turned over is told.
-/
import Derived.Test.YtcboenmmkaochaaLA
import Derived.RegionTactic
import Derived.ChangeAlike
import Derived.Laws.BitsAllLaws
namespace Go.Proofs.Ytcboenmmkaochaa.N
open Go.ChangeShapes Go.WideShapes Go.ChangeAt Go.RowKit
set_option maxHeartbeats 8000000
set_option maxRecDepth 100000

theorem xor_fin : ∀ (x : Fin 256) (k : Fin 8), (x.val ^^^ 2 ^ k.val = x.val + 2 ^ k.val ∨ x.val = (x.val ^^^ 2 ^ k.val) + 2 ^ k.val) ∧ x.val ^^^ 2 ^ k.val < 256 := by decide +kernel

theorem xor_bit {x q : Nat} (hx : x < 256) (hq : q < 8) : ∃ y : Nat, bits .xor .u8 (x : Int) ((2 ^ q : Nat) : Int) = (y : Int) ∧ y < 256 ∧ (y = x + 2 ^ q ∨ x = y + 2 ^ q) := by
  obtain ⟨h1, h2⟩ := xor_fin ⟨x, hx⟩ ⟨q, hq⟩
  have h8 : 2 ^ q < 256 := Nat.pow_lt_pow_right (by omega) (show q < 8 from hq)
  exact ⟨x ^^^ 2 ^ q, u8_xor_nat x (2 ^ q) hx h8, h2, h1⟩

theorem isBit_pow {q : Nat} (hq : q < 8) : Im.IsBit (2 ^ q) := by
  unfold Im.IsBit
  match q, hq with
  | 0, _ => decide
  | 1, _ => decide
  | 2, _ => decide
  | 3, _ => decide
  | 4, _ => decide
  | 5, _ => decide
  | 6, _ => decide
  | 7, _ => decide

theorem pr_none {L : List Nat} (h : Im.prE L ≠ 0) : Im.prC L = Im.none0 := by unfold Im.prC; rw [if_neg h]

theorem flip_any (m : Im.Ct) (vm : Value) (K : Nat) (w : World) (hok : m.Ok) (hvm : SeesB w vm m.B) (_hK : K ≤ 9223372036854775807) :
    Calls Try.prog 6 #[.agg (ctCells m vm), .int .i64 (K : Int)] w fun e w' => e = .returned (.bool true) ∧ Below w.heap.size w w' := by
  obtain ⟨am, nm, capm, rfl, HNM, hnm1, hnm2⟩ := hvm.shape
  unfold maxLen at hnm2
  obtain ⟨w1, hw1⟩ : ∃ w1, w1 = w.alloc (.cells (ctCells m (.slice am nm capm)) 25) := ⟨_, rfl⟩
  have hs1 : w1.heap.size = w.heap.size + 1 := by rw [hw1]; simp
  have hb1 : Below w.heap.size w w1 := by rw [hw1]; exact (Below.refl _ _).alloc (Nat.le_refl _) _
  have k1 : w1.heap[w.heap.size]? = some (.cells (ctCells m (.slice am nm capm)) 25 (0, 0)) := by rw [hw1]; exact heap_alloc_new w _
  have HL1 := hid (row_load Try.underlying25 k1 size_ct)
  have HBL := hid (ibuild_any m _ w1 hok (hvm.below hb1))
  have HBY := hid hvm.bytes
  have HW1 := hid hw1
  have HB1 := hid hb1
  clear hw1 hs1 hb1 k1 hvm
  generalize ctCells m (.slice am nm capm) = ct at *
  go_enter Try.func6, Try.ntmps6
  go_upto_region 1 with fail
  rw [← HW1.out]
  go_wp2_with (first | (refine wpList_ld 25 ⟨w.heap.size, 0, none⟩ (.tmp 2) rfl rfl HL1.out rfl ?_) | fail)
  refine HBL.out.mono ?_
  rintro _ w2 ⟨a2, n2, c2, rfl, hs2, hg2, hb2⟩
  have hn2 : n2 = (Im.bdL m).length := by
    obtain ⟨_, _, hv, _⟩ := hs2
    simp at hv
    exact hv.2.1
  by_cases hbig : 65507 < nm
  · have hbig' : 65507 < m.B.length := by rw [← HNM.out]; exact hbig
    have he : Im.bdE m = 37 := by unfold Im.bdE; rw [if_pos hbig']
    rw [he]
    have HB2 := hid hb2
    clear hs2 hb2 he hn2 hbig' HBL HL1 hg2
    go_wp2_with fail
    go_ret
    exact ⟨rfl, HB1.out.trans (HB2.out.mono HB1.out.size)⟩
  · have hbig' : m.B.length ≤ 65507 := by rw [← HNM.out]; omega
    have he : Im.bdE m = 0 := by unfold Im.bdE; rw [if_neg (by omega)]
    have hL : Im.bdL m = Im.laid m := by unfold Im.bdL; rw [if_neg (by omega)]
    obtain ⟨g, rfl, rfl, hB2, hg⟩ := hg2 he
    rw [hL] at hn2 hB2
    rw [Im.laid_len, ← HNM.out] at hn2
    obtain ⟨l, hl⟩ : ∃ l, l = 8 + nm := ⟨_, rfl⟩
    rw [← hl] at hn2
    subst hn2
    have hl8 : 8 ≤ c2 := by omega
    have hl16 : c2 ≤ 65515 := by omega
    have hlen : (Im.laid m).length = c2 := by rw [Im.laid_len, ← HNM.out]; exact hl.symm
    have hby := Im.laid_bytes hok HBY.out
    have hcs := Im.csum_laid m
    rw [he]
    generalize Im.laid m = BL at *
    obtain ⟨r, hr⟩ : ∃ r, r = K % (8 * c2) := ⟨_, rfl⟩
    have hrl : r < 8 * c2 := by rw [hr]; exact Nat.mod_lt _ (by omega)
    have e1 : (K : Int) % (8 * (c2 : Int)) = (r : Int) := by rw [hr]; simp
    have e1' : (K : Int).tmod (8 * (c2 : Int)) = (r : Int) := by
      rw [hr, show (8 * (c2 : Int)) = ((8 * c2 : Nat) : Int) by omega]; rfl
    obtain ⟨a, ha⟩ : ∃ a, a = r / 8 := ⟨_, rfl⟩
    obtain ⟨q, hq⟩ : ∃ q, q = r % 8 := ⟨_, rfl⟩
    have hq8 : q < 8 := by omega
    have hal : a < c2 := by omega
    have e2 : (r : Int) / 8 = (a : Int) := by omega
    have e3 : (r : Int) % 8 = (q : Int) := by omega
    have e2' : (r : Int).tdiv 8 = (a : Int) := by rw [ha]; rfl
    have e3' : (r : Int).tmod 8 = (q : Int) := by rw [hq]; rfl
    have hx := byt_lt hby a
    obtain ⟨y, hy, hy256, hxy⟩ := xor_bit hx hq8
    have hbit := isBit_pow hq8
    have em : (2 : Int) ^ q % 256 = ((2 ^ q : Nat) : Int) := by
      match q, hq8 with
      | 0, _ => decide
      | 1, _ => decide
      | 2, _ => decide
      | 3, _ => decide
      | 4, _ => decide
      | 5, _ => decide
      | 6, _ => decide
      | 7, _ => decide
    obtain ⟨m', hm⟩ : ∃ m' : Nat, m' = 2 ^ q := ⟨_, rfl⟩
    rw [← hm] at hy hxy hbit em
    have hm256 : m' < 256 := by unfold Im.IsBit at hbit; omega
    have hbad : M.csum (BL.set a y) ≠ 0 := Im.csum_flip (by omega) rfl hbit hxy hcs
    have HPE : Hid (Im.prE (BL.set a y) = 33) := by
      unfold Hid Im.prE
      rw [List.length_set, hlen, if_neg (by omega), if_neg (by omega), if_neg hbad]
    have hcl : w2.cell? ⟨g, a, none⟩ = some (.int .u8 ((byt BL a : Nat) : Int)) := hB2.cell a (by omega)
    have hfz : w2.frozen? ⟨g, a, none⟩ = false := hB2.free a
    have HB2 := hid hB2
    have HB12 := hid hb2
    have HG := hid hg
    have HSB : Hid (∀ x ∈ BL.set a y, x < 256) := fun x hx => by
      rcases List.mem_or_eq_of_mem_set hx with hx | rfl
      · exact hby x hx
      · exact hy256
    have HLEN := hid hlen
    generalize byt BL a = x at *
    clear hs2 hg2 hb2 he hL hg hB2 hl HBL HL1 hr ha hq hm hbit hxy hbad hcs hby hlen hbig
    go_upto_region 5 with fail
    go_region
    have hB3 : Blk (w2.setCell ⟨g, a, none⟩ (.int .u8 (y : Int))).drew g (BL.set a y) := (HB2.out.set a y).below (below_drew (Below.refl _ _))
    have hb13 : Below w1.heap.size w1 (w2.setCell ⟨g, a, none⟩ (.int .u8 (y : Int))).drew := below_drew (HB12.out.setCell (p := ⟨g, a, none⟩) HG.out _)
    generalize (w2.setCell ⟨g, a, none⟩ (.int .u8 (y : Int))).drew = w3 at hB3 hb13 ⊢
    have hs3 : SeesB w3 (.slice (some ⟨g, 0, none⟩) c2 c2) (BL.set a y) := by
      have := hB3.sees HSB.out 0 c2 c2 (by rw [List.length_set, HLEN.out]; omega) (Nat.le_refl _) (by unfold maxLen; omega)
      rwa [List.drop_zero, List.take_of_length_le (by rw [List.length_set, HLEN.out]; exact Nat.le_refl _)] at this
    have HPR := hid (iparse_any _ _ w3 hs3)
    rw [pr_none (by rw [HPE.out]; decide), HPE.out] at HPR
    have HB13 := hid hb13
    clear hB3 hb13 hs3 hcl hfz hy em e1 e1' e2 e2' e3 e3' hrl hal hq8 hx hy256 hm256 HB2 HB12 HG HSB HPE
    go_wp2_with fail
    refine HPR.out.mono ?_
    rintro _ w4 ⟨a4, n4, c4, rfl, hs4, _, hb4⟩
    obtain ⟨pa, hpa⟩ : ∃ pa : Array Value, pa = ctCells Im.none0 (.slice a4 n4 c4) := ⟨_, rfl⟩
    obtain ⟨w5, hw5⟩ : ∃ w5, w5 = (w4.alloc (.cells zeroC 25)).setCells w4.heap.size 0 pa.toList := ⟨_, rfl⟩
    have HZA : Hid ((Try.prog.info? 25).map (·.size) = some pa.size) := by unfold Hid; rw [hpa]; exact size_ct
    have HOA : Hid (pa.all (·.oneCell') = true) := by unfold Hid; rw [hpa]; simp [ctCells, Value.oneCell']
    have HTA : Hid ((w4.alloc (.cells zeroC 25)).there w4.heap.size 0 pa.size) := by unfold Hid; rw [hpa]; exact there_blk (C := zeroC) (t := 25) (heap_alloc_new w4 _) rfl
    have r5 : w5.heap[w4.heap.size]? = some (.cells pa 25 (0, 0)) := by
      rw [hw5]
      have := heap_setCells_row (b := w4.heap.size) (T := 25) pa.toList 0 _ zeroC (heap_alloc_new w4 (.cells zeroC 25))
      rwa [show wr zeroC 0 pa.toList = pa by rw [hpa]; simp [wr, zeroC, ctCells]] at this
    have hb45 : Below w4.heap.size w4 w5 := by rw [hw5]; exact below_setCells (Nat.le_refl _) _ _ _ ((Below.refl _ _).alloc (Nat.le_refl _) _)
    have hb35 := hb4.trans (hb45.mono hb4.size)
    have hb15 := HB13.out.trans (hb35.mono HB13.out.size)
    have HL5 := hid (row_load Try.underlying25 r5 HZA.out)
    have HX : Hid (Calls Try.prog 12 #[.agg pa, .agg #[.int .u8 0, .int .u8 0, .int .u32 0, .slice none 0 0]] w5 fun e w' => e = .returned (.bool true) ∧ Below w5.heap.size w5 w') := by
      unfold Hid
      rw [hpa]
      exact controls_same Im.none0 _ _ w5 (hs4.below hb45) (sees_nil _)
    have HW5 : Hid (w5 = (w4.alloc (.cells #[.int .u8 0, .int .u8 0, .int .u32 0, .slice none 0 0] 25)).setCells w4.heap.size 0 pa.toList) := hw5
    have HB15 := hid hb15
    rw [← hpa]
    clear hpa hw5 r5 hb4 hb45 hb35 hb15 hs4 HPR
    go_upto_region 7 with (first
      | (refine wpList_store_mid rfl 25 (.tmp 7) (.tmp 44) rfl w4.heap.size 0 pa rfl rfl HTA.out HZA.out HOA.out ?_)
      | fail)
    rw [← HW5.out]
    go_wp2_with (first | (refine wpList_ld 25 ⟨w4.heap.size, 0, none⟩ (.tmp 7) rfl rfl HL5.out rfl ?_) | fail)
    refine HX.out.mono ?_
    rintro _ w6 ⟨rfl, hb6⟩
    go_wp2_with fail
    go_ret
    exact ⟨rfl, HB1.out.trans ((HB15.out.trans (hb6.mono HB15.out.size)).mono HB1.out.size)⟩
end Go.Proofs.Ytcboenmmkaochaa.N
