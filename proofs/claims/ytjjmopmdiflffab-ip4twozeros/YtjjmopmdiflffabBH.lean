import Derived.Test.YtjjmopmdiflffabBG
import Derived.Test.YtjjmopmdiflffabWH
namespace Go.Proofs.Ytjjmopmdiflffab
open Go.ChangeShapes Go.WideShapes Go.ChangeAt Go.RowKit
set_option maxHeartbeats 1000000
set_option maxRecDepth 100000

theorem rdH_ok {X : List Nat} (hx : ∀ x ∈ X, x < 256) (h t : Nat) (ht : t < 256) : ((rdH X h).withTTL t).Ok where
  tos := byt_lt hx 1
  id := w16_lt hx 4
  off := by
    show -9223372036854775808 ≤ ((w16 X 6 % 8192 * 8 : Nat) : Int) ∧ ((w16 X 6 % 8192 * 8 : Nat) : Int) ≤ 9223372036854775807
    omega
  ttl := ht
  proto := byt_lt hx 9
  src := w32_lt hx 12
  dst := w32_lt hx 16

theorem there_set {w : World} {b k : Nat} {vs : List Value} (h : w.there b 0 k) : (w.setCells b 0 vs).there b 0 k := by
  have key : ∀ (vs : List Value) (o : Nat) (w : World), w.there b 0 k → (w.setCells b o vs).there b 0 k := by
    intro vs
    induction vs with
    | nil => intro o w h; exact h
    | cons v vs ih =>
      intro o w h
      rw [World.setCells]
      refine ih (o + 1) _ fun i hi => ?_
      obtain ⟨h1, h2⟩ := h i hi
      constructor
      · by_cases e : 0 + i = o
        · subst e
          have hth : w.there b (0 + i) 1 := fun j hj => by
            obtain rfl : j = 0 := by omega
            exact ⟨h1, h2⟩
          have := World.rangeAt_setCells_same w b (0 + i) [v] hth 0 v rfl
          rw [show (w.setCell ⟨b, 0 + i, none⟩ v).cell? ⟨b, 0 + i, none⟩ = some v from this]
          rfl
        · have := World.cell?_setCells_out b [v] o w ⟨b, 0 + i, none⟩ (fun _ _ => by simp; omega)
          rw [show (w.setCell ⟨b, o, none⟩ v).cell? ⟨b, 0 + i, none⟩ = _ from this]
          exact h1
      · rw [World.frozen?_setCell]; exact h2
  exact key vs 0 w h

theorem age_code (v : Value) (L : List Nat) (w : World) (hv : SeesB w v L) (hl : L.length ≤ 140737488355328) :
    Calls Try.prog 26 #[v] w fun e w' => ∃ ao n cap, e = .returned (.tuple #[.slice ao n cap, .int .i64 (ageL L).2]) ∧ SeesB w' (.slice ao n cap) (ageL L).1 ∧ Below w.heap.size w w' := by
  by_cases he : (exam L true).2.2 = 0
  · obtain ⟨m, l, hex, f1, f2, f3, f4, f5, f6, f7, f8, f9, hp⟩ := read_facts hv.bytes he
    have hz : (parsed L).2.2 = 0 := by rw [hp]
    have htt : (parsed L).1.ttl = byt L 8 := by rw [hp]; show byt (L.take l) 8 = _; exact byt_take (by omega)
    by_cases ht : byt L 8 < 2
    · have e : ageL L = ([], 35) := by unfold ageL; rw [if_neg (by simp [hz]), if_pos (by rw [htt]; exact ht)]
      rw [e]
      refine (age_old v L w hv hl he (by omega) ht).mono ?_
      rintro _ w' ⟨rfl, hb⟩
      exact ⟨none, 0, 0, rfl, sees_nil _, hb⟩
    · have e : ageL L = (builtL ((parsed L).1.withTTL (byt L 8 - 1)) (parsed L).2.1, 0) := by
        unfold ageL
        rw [if_neg (by simp [hz]), if_neg (by rw [htt]; exact ht), htt]
        have : refE ((parsed L).1.withTTL (byt L 8 - 1)) (parsed L).2.1.length = 0 := by rw [hp]; exact f9 _
        rw [this]
      rw [e]
      exact age_good v L w hv hl he (by omega)
  · have hp : parsed L = (zeroH, [], (exam L true).2.2) := by unfold parsed; rw [if_neg he]
    have e : ageL L = ([], (exam L true).2.2) := by unfold ageL; rw [hp, if_pos he]
    rw [e]
    refine (age_bad v L w hv hl he).mono ?_
    rintro _ w' ⟨rfl, hb⟩
    exact ⟨none, 0, 0, rfl, sees_nil _, hb⟩

set_option maxHeartbeats 1000000 in
theorem age_ref (v : Value) (L : List Nat) (w : World) (hv : SeesB w v L) (hl : L.length ≤ 140737488355328) :
    Calls Try.prog 41 #[v] w fun e w' => ∃ ao n cap, e = .returned (.tuple #[.slice ao n cap, .int .i64 (ageL L).2]) ∧ SeesB w' (.slice ao n cap) (ageL L).1 ∧ Below w.heap.size w w' := by
  have HPR := hid (parse_ref v L w hv hl)
  have HBY := hid hv.bytes
  obtain ⟨HOK, HBL⟩ : Hid ((parsed L).2.2 = 0 → (parsed L).1.ttl < 256 ∧ ((parsed L).1.withTTL ((parsed L).1.ttl - 1)).Ok) ∧ Hid ((parsed L).2.1.length ≤ 140737488355328) := by
    by_cases he : (exam L true).2.2 = 0
    · obtain ⟨m, l, hex, f1, f2, f3, f4, f5, f6, f7, f8, f9, hp⟩ := read_facts hv.bytes he
      have hb : ∀ x ∈ L.take l, x < 256 := fun x hx => HBY.out x (List.mem_of_mem_take hx)
      have ht : byt (L.take l) 8 < 256 := byt_lt hb 8
      refine ⟨fun _ => ?_, ?_⟩
      · rw [hp]
        exact ⟨ht, rdH_ok hb _ _ (by show byt (L.take l) 8 - 1 < 256; omega)⟩
      · rw [hp]
        show ((L.take l).drop (m + 20)).length ≤ _
        rw [List.length_drop]; omega
    · have hp : parsed L = (zeroH, [], (exam L true).2.2) := by unfold parsed; rw [if_neg he]
      refine ⟨fun h => ?_, ?_⟩
      · rw [hp] at h; exact absurd h he
      · rw [hp]; show ([] : List Nat).length ≤ 140737488355328; simp
  have HAG : Hid (ageL L = if (parsed L).2.2 ≠ 0 then ([], (parsed L).2.2) else if (parsed L).1.ttl < 2 then ([], 35) else (builtL ((parsed L).1.withTTL ((parsed L).1.ttl - 1)) (parsed L).2.1, refE ((parsed L).1.withTTL ((parsed L).1.ttl - 1)) (parsed L).2.1.length)) := rfl
  obtain ⟨ao, n, cap, rfl, _, _, _⟩ := hv.shape
  generalize ageL L = R at *
  generalize parsed L = t at *
  obtain ⟨H, B, z⟩ := t
  simp only at *
  clear hv hl HBY
  go_enter Try.func41, Try.ntmps41
  go_wp2_with fail
  refine HPR.out.mono ?_
  rintro _ w2 ⟨vo, vb, rfl, hso, hsb, hb2⟩
  obtain ⟨a1, n1, c1, rfl, _, _, _⟩ := hso.shape
  obtain ⟨a2, n2, c2, rfl, _, _, _⟩ := hsb.shape
  obtain ⟨pa, hpa⟩ : ∃ pa : Array Value, pa = pkCells H (.slice a1 n1 c1) (.slice a2 n2 c2) := ⟨_, rfl⟩
  have hpz : pa.size = Z29.size := by rw [hpa]; rfl
  have HZA : Hid ((Try.prog.info? 29).map (·.size) = some pa.size) := by unfold Hid; rw [hpa]; exact size29'
  have HOA : Hid (pa.all (·.oneCell') = true) := by unfold Hid; rw [hpa]; simp [pkCells, Value.oneCell']
  have HTA := hid (new_there (u := w2) (T := 29) hpz)
  have HNW := new_put (u := w2) (T := 29) hpz
  obtain ⟨w3, hw3⟩ : ∃ w3, w3 = (w2.alloc (.cells Z29 29)).setCells w2.heap.size 0 pa.toList := ⟨_, rfl⟩
  rw [← hw3] at HNW
  have HW3 : Hid (w3 = (w2.alloc (.cells #[.int .u8 0, .int .u16 0, .bool false, .bool false, .int .i64 0, .int .u8 0, .int .u8 0, .int .u32 0, .int .u32 0, .slice none 0 0, .slice none 0 0] 29)).setCells w2.heap.size 0 pa.toList) := hw3
  have hb3 : Below w.heap.size w w3 := hb2.trans (HNW.below.mono hb2.size)
  have r5 : w3.cell? ⟨w2.heap.size, 5, none⟩ = some (.int .u8 (H.ttl : Int)) := by
    have := HNW.range 5 (.int .u8 (H.ttl : Int)) (by rw [Array.getElem?_toList, hpa]; rfl)
    rwa [Nat.zero_add] at this
  have hth : w3.there w2.heap.size 0 pa.size := by
    rw [hw3]
    exact there_set (new_there hpz)
  have f5 : w3.frozen? ⟨w2.heap.size, 5, none⟩ = false := (hth 5 (by rw [hpz]; decide)).2
  by_cases hz : z = 0
  case neg =>
    have HE : Hid (R = ([], z)) := by unfold Hid; rw [HAG.out, if_pos hz]
    have hq : (z != 0) = true := by simp [hz]
    rw [← hpa]
    clear hpa hpz hw3 HAG HOK HNW hth
    go_upto_region 2 with (first
      | (refine wpList_store_mid rfl 29 (.tmp 4) (.tmp 9) rfl w2.heap.size 0 pa rfl rfl HTA.out HZA.out HOA.out ?_)
      | fail)
    rw [← HW3.out]
    go_wp2_with fail
    refine bodyPost_ret (results_tmp2 Try.results41 _ _ _) rfl ?_
    exact ⟨none, 0, 0, by rw [HE.out]; rfl, by rw [HE.out]; exact sees_nil _, hb3⟩
  subst hz
  obtain ⟨ht256, hok⟩ := HOK.out rfl
  by_cases ht : H.ttl < 2
  · have HE : Hid (R = ([], 35)) := by unfold Hid; rw [HAG.out, if_neg (by simp), if_pos ht]
    rw [← hpa]
    generalize H.ttl = tt at *
    clear hpa hpz hw3 HAG HOK HNW hth hok
    go_upto_region 2 with (first
      | (refine wpList_store_mid rfl 29 (.tmp 4) (.tmp 9) rfl w2.heap.size 0 pa rfl rfl HTA.out HZA.out HOA.out ?_)
      | fail)
    rw [← HW3.out]
    go_wp2_with fail
    refine bodyPost_ret (results_tmp2 Try.results41 _ _ _) rfl ?_
    exact ⟨none, 0, 0, by rw [HE.out]; rfl, by rw [HE.out]; exact sees_nil _, hb3⟩
  · have HE : Hid (R = (builtL (H.withTTL (H.ttl - 1)) B, refE (H.withTTL (H.ttl - 1)) B.length)) := by unfold Hid; rw [HAG.out, if_neg (by simp), if_neg ht]
    obtain ⟨pb, hpb⟩ : ∃ pb : Array Value, pb = pkCells (H.withTTL (H.ttl - 1)) (.slice a1 n1 c1) (.slice a2 n2 c2) := ⟨_, rfl⟩
    obtain ⟨w4, hw4⟩ : ∃ w4, w4 = w3.setCell ⟨w2.heap.size, 5, none⟩ (.int .u8 ((H.ttl - 1 : Nat) : Int)) := ⟨_, rfl⟩
    have hb24 : Below w2.heap.size w2 w4 := by rw [hw4]; exact HNW.below.setCell (p := ⟨w2.heap.size, 5, none⟩) (Nat.le_refl _) _
    have hb4 : Below w.heap.size w w4 := hb2.trans (hb24.mono hb2.size)
    have hrg : w4.rangeAt w2.heap.size 0 pb.toList := fun j v hv => by
      rw [hpb, Array.getElem?_toList] at hv
      have hj : j < 11 := (Array.getElem?_eq_some_iff.1 hv).1
      rw [hw4]
      by_cases h5 : j = 5
      · subst h5
        have e : v = .int .u8 ((H.ttl - 1 : Nat) : Int) := by
          have h' : some (Value.int .u8 ((H.ttl - 1 : Nat) : Int)) = some v := hv
          cases h'; rfl
        subst e
        have hth1 : w3.there w2.heap.size 5 1 := fun i hi => by
          obtain rfl : i = 0 := by omega
          exact ⟨by rw [Nat.add_zero, r5]; rfl, f5⟩
        exact World.rangeAt_setCells_same w3 w2.heap.size 5 [.int .u8 ((H.ttl - 1 : Nat) : Int)] hth1 0 _ rfl
      · have e := World.cell?_setCells_out w2.heap.size [.int .u8 ((H.ttl - 1 : Nat) : Int)] 5 w3 ⟨w2.heap.size, 0 + j, none⟩ (fun _ _ => by simp; omega)
        refine (show (w3.setCell ⟨w2.heap.size, 5, none⟩ _).cell? _ = _ from e).trans ?_
        refine HNW.range j v ?_
        rw [Array.getElem?_toList, hpa, ← hv]
        match j, hj, h5 with
        | 0, _, _ => rfl
        | 1, _, _ => rfl
        | 2, _, _ => rfl
        | 3, _, _ => rfl
        | 4, _, _ => rfl
        | 6, _, _ => rfl
        | 7, _, _ => rfl
        | 8, _, _ => rfl
        | 9, _, _ => rfl
        | 10, _, _ => rfl
    have HZB : Hid ((Try.prog.info? 29).map (·.size) = some pb.size) := by unfold Hid; rw [hpb]; exact size29'
    have HLD := hid (load_range hrg und29 HZB.out)
    have HBD : Hid (Calls Try.prog 37 #[.agg pb] w4 fun e w' => ∃ ao n cap, e = .returned (.tuple #[.slice ao n cap, .int .i64 (refE (H.withTTL (H.ttl - 1)) B.length)]) ∧ SeesB w' (.slice ao n cap) (builtL (H.withTTL (H.ttl - 1)) B) ∧ Below w4.heap.size w4 w') := by
      unfold Hid
      rw [hpb]
      exact build_refS _ _ _ B w4 hok (hso.below hb24) (hsb.below hb24) HBL.out
    have HW4 := hid hw4
    have HB4 := hid hb4
    rw [← hpa]
    have ht2 : ¬ H.ttl < 2 := ht
    generalize builtL (H.withTTL (H.ttl - 1)) B = bl at *
    generalize refE (H.withTTL (H.ttl - 1)) B.length = re at *
    generalize H.ttl = tt at *
    have hv8 : ((tt : Int) - 1) = ((tt - 1 : Nat) : Int) := by omega
    have HV8 := hid hv8
    clear hpa hpz hw3 HAG HOK HNW hth hok hpb hw4 hrg hso hsb hb24 hb4 hv8 ht
    go_upto_region 2 with (first
      | (refine wpList_store_mid rfl 29 (.tmp 4) (.tmp 9) rfl w2.heap.size 0 pa rfl rfl HTA.out HZA.out HOA.out ?_)
      | fail)
    rw [← HW3.out]
    go_upto_region 7 with fail
    rw [HV8.out, ← HW4.out]
    go_wp2_with (first
      | (refine wpList_ld 29 ⟨w2.heap.size, 0, none⟩ (.tmp 4) rfl rfl HLD.out rfl ?_)
      | fail)
    refine HBD.out.mono ?_
    rintro _ w5 ⟨a5, n5, c5, rfl, hs5, hb5⟩
    go_wp2_with fail
    refine bodyPost_ret (results_tmp2 Try.results41 _ _ _) rfl ?_
    exact ⟨a5, n5, c5, by rw [HE.out]; rfl, by rw [HE.out]; exact hs5, HB4.out.trans (hb5.mono HB4.out.size)⟩
end Go.Proofs.Ytjjmopmdiflffab
