import Derived.Test.YtjjmopmdiflffaaNMathG
import Derived.Test.YtjjmopmdiflffaaNWF
import Derived.Test.YtjjmopmdiflffaaNBL
namespace Go.Proofs.Ytjjmopmdiflffaa.N
open Go.ChangeShapes Go.WideShapes Go.ChangeAt Go.RowKit
set_option maxHeartbeats 1000000
set_option maxRecDepth 100000

theorem again_bad (v : Value) (L : List Nat) (w : World) (hv : SeesB w v L) (hl : L.length ≤ 140737488355328) (he : (exam L true).2.2 ≠ 0) :
    Calls Try.prog 19 #[v, .bool true] w fun e w' => e = .returned (.bool true) ∧ Below w.heap.size w w' := by
  have HPR := parse_code v L w hv hl
  have hp : parsed L = (zeroH, [], (exam L true).2.2) := by unfold parsed; rw [if_neg he]
  rw [hp] at HPR
  have HPR := hid HPR
  obtain ⟨ao, n, cap, rfl, _, _, _⟩ := hv.shape
  generalize (exam L true).2.2 = z at *
  have hq : (z != 0) = true := by simp [he]
  clear hv hl hp he
  go_enter Try.func19, Try.ntmps19
  go_wp2_with fail
  refine HPR.out.mono ?_
  rintro _ w2 ⟨vo, vb, rfl, hso, hsb, hb2⟩
  obtain ⟨a1, n1, c1, rfl, _, _, _⟩ := hso.shape
  obtain ⟨a2, n2, c2, rfl, _, _, _⟩ := hsb.shape
  obtain ⟨pa, hpa⟩ : ∃ pa : Array Value, pa = pkCells zeroH (.slice a1 n1 c1) (.slice a2 n2 c2) := ⟨_, rfl⟩
  have hpz : pa.size = Z29.size := by rw [hpa]; rfl
  have HZA : Hid ((Try.prog.info? 43).map (·.size) = some pa.size) := by unfold Hid; rw [hpa]; exact size29'
  have HOA : Hid (pa.all (·.oneCell') = true) := by unfold Hid; rw [hpa]; simp [pkCells, Value.oneCell']
  have HTA := hid (new_there (u := w2) (T := 43) hpz)
  have HNW := new_put (u := w2) (T := 43) hpz
  obtain ⟨w3, hw3⟩ : ∃ w3, w3 = (w2.alloc (.cells Z29 43)).setCells w2.heap.size 0 pa.toList := ⟨_, rfl⟩
  rw [← hw3] at HNW
  have HW3 : Hid (w3 = (w2.alloc (.cells #[.int .u8 0, .int .u16 0, .bool false, .bool false, .int .i64 0, .int .u8 0, .int .u8 0, .int .u32 0, .int .u32 0, .slice none 0 0, .slice none 0 0] 43)).setCells w2.heap.size 0 pa.toList) := hw3
  have hb3 : Below w.heap.size w w3 := hb2.trans (HNW.below.mono hb2.size)
  have HLA := hid (load_range HNW.range und29 HZA.out)
  have HPKT : Hid (Calls Try.prog 31 #[.agg pa, .agg #[.int .u8 0, .int .u16 0, .bool false, .bool false, .int .i64 0, .int .u8 0, .int .u8 0, .int .u32 0, .int .u32 0, .slice none 0 0, .slice none 0 0]] w3 fun e w' => e = .returned (.bool true) ∧ Below w3.heap.size w3 w') := by
    unfold Hid
    rw [hpa]
    exact packets_same zeroH [] (.slice a1 n1 c1) (.slice none 0 0) (.slice a2 n2 c2) (.slice none 0 0) w3 (hso.below HNW.below) (sees_nil _) (hsb.below HNW.below) (sees_nil _)
  have HB3 := hid hb3
  rw [← hpa]
  clear hpa hpz hw3 HNW hb3 hso hsb hb2 HPR
  go_upto_region 2 with (first
    | (refine wpList_store_mid rfl 43 (.tmp 5) (.tmp 13) rfl w2.heap.size 0 pa rfl rfl HTA.out HZA.out HOA.out ?_)
    | fail)
  rw [← HW3.out]
  go_wp2_with (first
    | (refine wpList_ld 43 ⟨w2.heap.size, 0, none⟩ (.tmp 5) rfl rfl HLA.out rfl ?_)
    | fail)
  refine HPKT.out.mono ?_
  rintro _ w4 ⟨rfl, hb4⟩
  go_wp2_with fail
  go_ret
  exact ⟨rfl, HB3.out.trans (hb4.mono HB3.out.size)⟩

set_option maxHeartbeats 2000000 in
theorem again_good (v : Value) (L : List Nat) (refused : Bool) (w : World) (hv : SeesB w v L) (hl : L.length ≤ 140737488355328) (he : (exam L true).2.2 = 0) :
    Calls Try.prog 19 #[v, .bool refused] w fun e w' => e = .returned (.bool true) ∧ Below w.heap.size w w' := by
  obtain ⟨l, hp, hok, hr, h20, hlL, hl16, hlen, hw2, hby, hsum⟩ := again_facts hv.bytes he
  have HPR := parse_code v L w hv hl
  rw [show (parsed L).2.2 = 0 from congrArg (·.2.2) hp] at HPR
  have HPR := hid HPR
  obtain ⟨H, hH⟩ : ∃ H, H = (parsed L).1 := ⟨_, rfl⟩
  obtain ⟨B, hB⟩ : ∃ B, B = (parsed L).2.1 := ⟨_, rfl⟩
  rw [← hH, ← hB] at HPR hr hlen hby hsum
  rw [← hH] at hok
  have hlo := refE_ok hr
  have HBD : Hid (∀ (u : World) (vo vb : Value), SeesB u vo H.opts → SeesB u vb B → Calls Try.prog 16 #[.agg (pkCells H vo vb)] u fun e w' => ∃ ao n cap, e = .returned (.tuple #[.slice ao n cap, .int .i64 0]) ∧ SeesB w' (.slice ao n cap) (builtL H B) ∧ Below u.heap.size u w') := fun u vo vb h1 h2 => by
    have := build_code H vo vb B u hok h1 h2 (by omega) (by omega)
    rw [hr] at this
    exact this
  generalize builtL H B = C at *
  have HVV := hid hv
  have HWL : Hid (∀ u, Below w.heap.size w u → Calls Try.prog 13 #[v, .int .i64 2] u fun e w' => e = .returned (.int .i64 (l : Int)) ∧ w' = u.drew) := fun u hu => by
    have := word_x v 2 2 L u (hv.below hu) rfl (by omega) (by omega)
    rw [hw2] at this
    exact this
  have HWT : Hid (∀ u, Below w.heap.size w u → Calls Try.prog 13 #[v, .int .i64 10] u fun e w' => e = .returned (.int .i64 ((w16 L 10 : Nat) : Int)) ∧ w' = u.drew) := fun u hu =>
    word_x v 10 10 L u (hv.below hu) rfl (by omega) (by omega)
  have HWC : Hid (∀ (u : World) (a : Value), SeesB u a C → Calls Try.prog 13 #[a, .int .i64 10] u fun e w' => e = .returned (.int .i64 ((w16 C 10 : Nat) : Int)) ∧ w' = u.drew) := fun u a hu =>
    word_x a 10 10 C u hu rfl (by omega) (by omega)
  obtain ⟨ao, n, cap, rfl, HN, hn1, hn2⟩ := hv.shape
  have hln : l ≤ n := by have := HN.out; omega
  have hne : ao ≠ none := by
    obtain ⟨g, off, _, h, _⟩ := hv.at 0 (by omega)
    rw [h]; simp
  have HBY := hid hby
  have HSUM := hid hsum
  have HLEN := hid hlen
  generalize w16 C 10 = sC at *
  generalize w16 L 10 = sL at *
  clear hv hl he hp hok hr hlL hlen hw2 hby hsum hlo hH hB
  go_enter Try.func19, Try.ntmps19
  go_wp2_with fail
  refine HPR.out.mono ?_
  rintro _ w2 ⟨vo, vb, rfl, hso, hsb, hb2⟩
  obtain ⟨a1, n1, c1, rfl, _, _, _⟩ := hso.shape
  obtain ⟨a2, n2, c2, rfl, _, _, _⟩ := hsb.shape
  obtain ⟨pa, hpa⟩ : ∃ pa : Array Value, pa = pkCells H (.slice a1 n1 c1) (.slice a2 n2 c2) := ⟨_, rfl⟩
  have hpz : pa.size = Z29.size := by rw [hpa]; rfl
  have HZA : Hid ((Try.prog.info? 43).map (·.size) = some pa.size) := by unfold Hid; rw [hpa]; exact size29'
  have HOA : Hid (pa.all (·.oneCell') = true) := by unfold Hid; rw [hpa]; simp [pkCells, Value.oneCell']
  have HTA := hid (new_there (u := w2) (T := 43) hpz)
  have HNW := new_put (u := w2) (T := 43) hpz
  obtain ⟨w3, hw3⟩ : ∃ w3, w3 = (w2.alloc (.cells Z29 43)).setCells w2.heap.size 0 pa.toList := ⟨_, rfl⟩
  rw [← hw3] at HNW
  have HW3 : Hid (w3 = (w2.alloc (.cells #[.int .u8 0, .int .u16 0, .bool false, .bool false, .int .i64 0, .int .u8 0, .int .u8 0, .int .u32 0, .int .u32 0, .slice none 0 0, .slice none 0 0] 43)).setCells w2.heap.size 0 pa.toList) := hw3
  have hb3 : Below w.heap.size w w3 := hb2.trans (HNW.below.mono hb2.size)
  have HLA := hid (load_range HNW.range und29 HZA.out)
  have HBB := HBD.out w3 _ _ (hso.below HNW.below) (hsb.below HNW.below)
  rw [← hpa] at HBB
  have HBB := hid HBB
  have HB3 := hid hb3
  rw [← hpa]
  clear hpa hpz hw3 HNW hb3 hso hsb hb2 HPR HBD
  go_upto_region 2 with (first
    | (refine wpList_store_mid rfl 43 (.tmp 5) (.tmp 13) rfl w2.heap.size 0 pa rfl rfl HTA.out HZA.out HOA.out ?_)
    | fail)
  rw [← HW3.out]
  go_wp2_with (first
    | (refine wpList_ld 43 ⟨w2.heap.size, 0, none⟩ (.tmp 5) rfl rfl HLA.out rfl ?_)
    | fail)
  refine HBB.out.mono ?_
  rintro _ w4 ⟨a4, n4, c4, rfl, hs4, hb4⟩
  have hn4 : n4 = l := by
    obtain ⟨_, _, hv, _⟩ := hs4
    simp at hv
    rw [hv.2.1]; exact HLEN.out
  subst hn4
  have hb04 := HB3.out.trans (hb4.mono HB3.out.size)
  have HWW := hid (HWL.out w4 hb04)
  have HS4 := hid hs4
  have HB4 := hid hb04
  clear hb4 hb04 hs4 HBB HLA
  go_wp2_with fail
  refine HWW.out.mono ?_
  rintro _ _ ⟨rfl, rfl⟩
  have hb5 : Below w.heap.size w w4.drew := below_drew HB4.out
  have h45 : Below w4.heap.size w4 w4.drew := below_drew (Below.refl _ _)
  generalize hw5 : w4.drew = w5 at hb5 h45 ⊢
  have HB5 := hid hb5
  have HB45 := hid h45
  clear hb5 h45 hw5 HWW
  go_wp2_with fail
  go_loopw [9] (fun i wr => ∃ k : Nat, i = .int .i64 k ∧ k ≤ n4 ∧ Below w5.heap.size w5 wr) (fun i _ => n4 - (intOf i).toNat)
  case atStart => exact ⟨0, rfl, by omega, Below.refl _ _⟩
  case round =>
    obtain ⟨k, rfl, hk, hb⟩ := hrel
    have hb4k := HB45.out.trans (hb.mono HB45.out.size)
    have hb0k := HB5.out.trans (hb.mono HB5.out.size)
    have hs4k := HS4.out.below hb4k
    have hvk := HVV.out.below hb0k
    by_cases hlt : k < n4
    · obtain ⟨g, off, rfl, hg, hc⟩ := hs4k.atB k hlt
      obtain ⟨g2, off2, rfl, hg2, hc2⟩ := hvk.atB k (by omega)
      have hx := byt_lt hs4k.bytes k
      have hy := byt_lt hvk.bytes k
      have hkk := HBY.out k hlt
      clear hs4k hvk
      generalize byt C k = x at *
      generalize byt L k = y at *
      have hkn : k < n := by omega
      by_cases hxy : x = y
      · subst hxy
        have hq : ((x : Int) != (x : Int)) = false := by simp
        clear hkk
        go_wp2
        go_region
        go_wp2
        go_roundw
        case rel => exact ⟨k + 1, by go_num, by omega, below_drew hb⟩
        case measure => simp [intOf]; omega
      · have hk1 : k = 10 ∨ k = 11 := by
          by_cases h1 : k = 10
          · exact .inl h1
          · by_cases h2 : k = 11
            · exact .inr h2
            · exact absurd (hkk h1 h2) hxy
        have hq : ((x : Int) != (y : Int)) = true := by simp; omega
        have hd1 : decide ((k : Int) < 10) = false := by simp; omega
        have hd2 : decide ((11 : Int) < (k : Int)) = false := by simp; omega
        clear hkk hxy
        go_wp2
        go_region
        go_wp2
        go_roundw
        case rel => exact ⟨k + 1, by go_num, by omega, below_drew hb⟩
        case measure => simp [intOf]; omega
    · have HW1 := hid (HWC.out _ _ hs4k)
      have HW2 := hid (HWT.out _ (below_drew hb0k))
      have HW3 := hid (HWT.out _ (below_drew (below_drew hb0k)))
      have HW4 := hid (HWC.out _ _ ((hs4k.below (below_drew (Below.refl _ _))).below (below_drew (Below.refl _ _)) |>.below (below_drew (Below.refl _ _))))
      have HBE := hid hb0k
      clear hs4k hvk hb hb4k hb0k
      go_wp2_with fail
      refine HW1.out.mono ?_
      rintro _ _ ⟨rfl, rfl⟩
      go_wp2_with fail
      refine HW2.out.mono ?_
      rintro _ _ ⟨rfl, rfl⟩
      rcases HSUM.out with hs | ⟨hs1, hs2⟩
      · subst hs
        go_wp2_with fail
        go_ret
        exact ⟨rfl, below_drew (below_drew HBE.out)⟩
      · subst hs1 hs2
        go_wp2_with fail
        refine HW3.out.mono ?_
        rintro _ _ ⟨rfl, rfl⟩
        go_wp2_with fail
        refine HW4.out.mono ?_
        rintro _ _ ⟨rfl, rfl⟩
        go_wp2_with fail
        go_ret
        exact ⟨rfl, below_drew (below_drew (below_drew (below_drew HBE.out)))⟩
end Go.Proofs.Ytjjmopmdiflffaa.N
