import Derived.Test.YtjjmopmdiflffacBP
import Derived.Test.YtjjmopmdiflffacBK
import Derived.Test.YtjjmopmdiflffacMathD
import Derived.Test.YtjjmopmdiflffacWG
import Derived.Test.YtjjmopmdiflffacBE
import Derived.Deep.CutRange
namespace Go.Proofs.Ytjjmopmdiflffac
open Go.ChangeShapes Go.WideShapes Go.ChangeAt Go.RowKit
set_option maxHeartbeats 1000000
set_option maxRecDepth 100000

/-- A byte of a list of the call's own is written. -/
theorem OwnB.put {w : World} {base g n cap : Nat} {C : List Nat} (h : OwnB w base (.slice (some ⟨g, 0, none⟩) n cap) C) (i x : Nat) :
    OwnB (w.setCell ⟨g, i, none⟩ (.int .u8 (x : Int))) base (.slice (some ⟨g, 0, none⟩) n cap) (C.set i x) ∧ Below base w (w.setCell ⟨g, i, none⟩ (.int .u8 (x : Int))) := by
  rcases h.2 with ⟨h1, _⟩ | ⟨g', cap', cur, h1, hb, hg, hnc, hcm, hcs, ht⟩
  · cases h1
  · simp at h1
    obtain ⟨rfl, hn, rfl⟩ := h1
    have h2 := heap_setCell_same w g i cur 5 (.int .u8 (x : Int)) hg
    refine ⟨⟨by simp [bs], .inr ⟨g, cap, _, by rw [List.length_set, hn], hb, h2, by rw [List.length_set]; exact hnc, hcm, by simpa using hcs, ?_⟩⟩, (Below.refl _ _).setCell (p := ⟨g, i, none⟩) hb _⟩
    rw [List.length_set]
    simp only [Array.toList_setIfInBounds, List.take_set]
    rw [ht]
    simp [bs, List.map_set]

theorem OwnB.grip {w : World} {base : Nat} {v : Value} {C : List Nat} (h : OwnB w base v C) (hne : C ≠ []) : ∃ g n cap, v = .slice (some ⟨g, 0, none⟩) n cap ∧ Hid (n = C.length) ∧ base ≤ g ∧ n ≤ cap ∧ cap ≤ maxLen ∧ (∀ j, w.frozen? ⟨g, j, none⟩ = false) := by
  rcases h.2 with ⟨rfl, hn⟩ | ⟨g, cap, cur, rfl, hb, hg, hnc, hcm, hcs, ht⟩
  · exact absurd (List.eq_nil_of_length_eq_zero hn) hne
  · exact ⟨g, _, cap, rfl, rfl, hb, hnc, hcm, fun j => frozen_of_row _ _ _ _ _ hg⟩

theorem But.cell {g : Nat} {w w' : World} (hb : But g w w') {p : Addr} (h1 : p.block < w.heap.size) (h2 : p.block ≠ g) : w'.cell? p = w.cell? p := by
  simp only [World.cell?, hb.block _ h1 h2]

theorem SeesB.but {g : Nat} {w w' : World} {v : Value} {L : List Nat} (h : SeesB w v L) (hb : But g w w') (hne : ∀ a n c, v = .slice (some a) n c → a.block ≠ g) : SeesB w' v L := by
  obtain ⟨ao, cap, hv, h1, h2, h3⟩ := h
  refine ⟨ao, cap, hv, h1, h2, fun j hj => ?_⟩
  obtain ⟨b, off, ha, hg, c0, c1⟩ := h3 j hj
  have hgb : b ≠ g := hne ⟨b, off, none⟩ L.length cap (by rw [hv, ha])
  exact ⟨b, off, ha, Nat.lt_of_lt_of_le hg hb.size, (hb.cell (p := ⟨b, off + j, none⟩) hg hgb).trans c0, c1⟩

theorem OwnB.put' {w : World} {base g n cap : Nat} {C : List Nat} (h : OwnB w base (.slice (some ⟨g, 0, none⟩) n cap) C) (i x : Nat) :
    OwnB (w.setCell ⟨g, i, none⟩ (.int .u8 (x : Int))) base (.slice (some ⟨g, 0, none⟩) n cap) (C.set i x) := (h.put i x).1

theorem apart_bad (h : Hd) (vo vb : Value) (B : List Nat) (w : World) (hok : h.Ok) (hvo : SeesB w vo h.opts) (hvb : SeesB w vb B) (hlo : h.opts.length ≤ 140737488355328) (hlb : B.length ≤ 140737488355328) (he : refE h B.length ≠ 0) :
    Calls Try.prog 8 #[.agg (pkCells h vo vb)] w fun e w' => e = .returned (.bool true) ∧ Below w.heap.size w w' := by
  obtain ⟨w1, hw1⟩ : ∃ w1, w1 = w.alloc (.cells (pkCells h vo vb) 32) := ⟨_, rfl⟩
  have hb1 : Below w.heap.size w w1 := by rw [hw1]; exact (Below.refl _ _).alloc (Nat.le_refl _) _
  have hs1 : w1.heap.size = w.heap.size + 1 := by rw [hw1]; simp
  have HLK : Hid (∀ u, Below w1.heap.size w1 u → (Instr.loadAt 32 (.pointer (some ⟨w.heap.size, 0, none⟩))).run Try.prog u = .ok (.agg (pkCells h vo vb)) u) := fun u hu => pk_load (by rw [hu.block _ (by omega), hw1]; exact heap_alloc_new w _)
  have HBW : Hid (∀ u, Below w1.heap.size w1 u → Below w.heap.size w u) := fun u hu => hb1.trans (hu.mono hb1.size)
  have HNIL : Hid (builtL h B = []) := by unfold Hid builtL; rw [if_neg he]
  have HBD : Hid (∀ u, Below w1.heap.size w1 u → Calls Try.prog 11 #[.agg (pkCells h vo vb)] u fun e w' => ∃ ao n cap, e = .returned (.tuple #[.slice ao n cap, .int .i64 (refE h B.length)]) ∧ SeesB w' (.slice ao n cap) (builtL h B) ∧ Below u.heap.size u w') := fun u hu =>
    build_code h vo vb B u hok (hvo.below (HBW.out _ hu)) (hvb.below (HBW.out _ hu)) hlo hlb
  have HH5 := hid (head_build w1)
  have HW1 := hid hw1
  generalize refE h B.length = q at *
  have hq : (q != 0) = true := by simp [he]
  generalize pkCells h vo vb = pk at *
  clear hw1 hb1 hs1 hvo hvb he
  go_enter Try.func8, Try.ntmps8
  go_upto_region 1 with fail
  rw [← HW1.out]
  go_wp2_with fail
  refine HH5.out.mono ?_
  rintro _ w2 ⟨rfl, hb2⟩
  have HH3 := hid (head_parse w2)
  have HB2 := hid hb2
  clear hb2
  go_wp2_with fail
  refine HH3.out.mono ?_
  rintro _ w3 ⟨rfl, hb3⟩
  have hb13 := HB2.out.trans (hb3.mono HB2.out.size)
  have HL3 := hid (HLK.out _ hb13)
  have HBD3 := hid (HBD.out _ hb13)
  have HB3 := hid hb13
  clear hb3 hb13
  go_wp2_with (first | (refine wpList_ld 32 ⟨w.heap.size, 0, none⟩ (.tmp 1) rfl rfl HL3.out rfl ?_) | fail)
  refine HBD3.out.mono ?_
  rintro _ w4 ⟨a1, n1, c1, rfl, h1, hb4⟩
  rw [HNIL.out] at h1
  obtain rfl : n1 = 0 := by
    obtain ⟨_, _, hv, _⟩ := h1
    simp at hv; exact hv.2.1
  clear h1
  go_wp2_with fail
  go_ret
  exact ⟨rfl, HBW.out _ (HB3.out.trans (hb4.mono HB3.out.size))⟩

set_option maxHeartbeats 2000000 in
theorem apart_good (h : Hd) (vo vb : Value) (B : List Nat) (w : World) (hok : h.Ok) (hvo : SeesB w vo h.opts) (hvb : SeesB w vb B) (he : refE h B.length = 0) :
    Calls Try.prog 8 #[.agg (pkCells h vo vb)] w fun e w' => e = .returned (.bool true) ∧ Below w.heap.size w w' := by
  obtain ⟨r1, r2, r3⟩ := refE_ok he
  obtain ⟨w1, hw1⟩ : ∃ w1, w1 = w.alloc (.cells (pkCells h vo vb) 32) := ⟨_, rfl⟩
  have hb1 : Below w.heap.size w w1 := by rw [hw1]; exact (Below.refl _ _).alloc (Nat.le_refl _) _
  have hs1 : w1.heap.size = w.heap.size + 1 := by rw [hw1]; simp
  have HLK : Hid (∀ u, Below w1.heap.size w1 u → (Instr.loadAt 32 (.pointer (some ⟨w.heap.size, 0, none⟩))).run Try.prog u = .ok (.agg (pkCells h vo vb)) u) := fun u hu => pk_load (by rw [hu.block _ (by omega), hw1]; exact heap_alloc_new w _)
  have HBW : Hid (∀ u, Below w1.heap.size w1 u → Below w.heap.size w u) := fun u hu => hb1.trans (hu.mono hb1.size)
  have HBD : Hid (∀ u, Below w1.heap.size w1 u → Calls Try.prog 11 #[.agg (pkCells h vo vb)] u fun e w' => ∃ ao n cap, e = .returned (.tuple #[.slice ao n cap, .int .i64 0]) ∧ SeesB w' (.slice ao n cap) (builtL h B) ∧ Below u.heap.size u w') := fun u hu =>
    build_good h vo vb B u hok (hvo.below (HBW.out _ hu)) (hvb.below (HBW.out _ hu)) he
  have HBN : Hid (∀ u va xa, SeesB u va h.opts → SeesB u xa B → Calls Try.prog 11 #[.agg (pkCells h va xa)] u fun e w' => ∃ g n, e = .returned (.tuple #[.slice (some ⟨g, 0, none⟩) n n, .int .i64 0]) ∧ Blk w' g (builtL h B) ∧ n = (builtL h B).length ∧ u.heap.size < g ∧ Below u.heap.size u w') := fun u va xa h1 h2 =>
    build_new h va xa B u hok h1 h2 he
  obtain ⟨x1, x2, x3, x4⟩ := parse_built h B [] hok he true
  rw [List.append_nil] at x1
  have x2' : (builtL h B).length = 20 + h.opts.length + B.length := x2
  have hp : parsed (builtL h B) = (h, B, 0) := by
    unfold parsed
    rw [x1]
    simp only
    rw [if_pos trivial, List.take_of_length_le (by rw [x2]; exact Nat.le_refl _), x3, x4]
  have HPC : Hid (∀ (u : World) (a : Value), SeesB u a (builtL h B) → Calls Try.prog 13 #[a] u fun e w' => ∃ va xa, e = .returned (.tuple #[.agg (pkCells h va xa), .int .i64 0]) ∧ SeesB w' va h.opts ∧ SeesB w' xa B ∧ (∀ a n c, va = .slice (some a) n c → u.heap.size < a.block) ∧ (∀ a n c, xa = .slice (some a) n c → u.heap.size < a.block) ∧ Below u.heap.size u w') := fun u a ha => by
    have := parse_new a _ u ha (by omega) (by rw [x1])
    rw [hp] at this
    exact this
  have HPK : Hid (∀ (u : World) (va xa : Value), Below w1.heap.size w1 u → SeesB u va h.opts → SeesB u xa B → Calls Try.prog 14 #[.agg (pkCells h vo vb), .agg (pkCells h va xa)] u fun e w' => e = .returned (.bool true) ∧ Below u.heap.size u w') := fun u va xa hu h1 h2 =>
    packets_same h B vo va vb xa u (hvo.below (HBW.out _ hu)) h1 (hvb.below (HBW.out _ hu)) h2
  have HBY : Hid (∀ x ∈ builtL h B, x < 256) := built_bytes hok hvo.bytes hvb.bytes
  obtain ⟨l, hl⟩ : ∃ l, l = (builtL h B).length := ⟨_, rfl⟩
  have HLEN : Hid ((builtL h B).length = l) := hl.symm
  have hl16 : l ≤ 65535 := by omega
  have hl20 : 20 ≤ l := by omega
  have HH5 := hid (head_build w1)
  have HW1 := hid hw1
  generalize builtL h B = bl at *
  generalize hpk : pkCells h vo vb = pk at *
  clear hw1 hb1 hs1 hvo hvb he r1 r2 r3 x1 x2 x2' x3 x4 hp hl hok hpk
  go_enter Try.func8, Try.ntmps8
  go_upto_region 1 with fail
  rw [← HW1.out]
  go_wp2_with fail
  refine HH5.out.mono ?_
  rintro _ w2 ⟨rfl, hb2⟩
  have HH3 := hid (head_parse w2)
  have HB2 := hid hb2
  clear hb2
  go_wp2_with fail
  refine HH3.out.mono ?_
  rintro _ w3 ⟨rfl, hb3⟩
  have hb13 := HB2.out.trans (hb3.mono HB2.out.size)
  have HL3 := hid (HLK.out _ hb13)
  have HBD3 := hid (HBD.out _ hb13)
  have HB3 := hid hb13
  clear hb3 hb13 HH5 HH3 HB2
  go_wp2_with (first | (refine wpList_ld 32 ⟨w.heap.size, 0, none⟩ (.tmp 1) rfl rfl HL3.out rfl ?_) | fail)
  refine HBD3.out.mono ?_
  rintro _ w4 ⟨a4, n4, c4, rfl, hs4, hb4⟩
  obtain rfl : n4 = l := by
    obtain ⟨_, _, hv, _⟩ := hs4
    simp at hv
    rw [hv.2.1, HLEN.out]
  have hb14 := HB3.out.trans (hb4.mono HB3.out.size)
  have HCA := hid (lclone_any _ bl w4 hs4 (by rw [HLEN.out]; omega))
  have HS4 := hid hs4
  have HB14 := hid hb14
  clear hb4 hb14 hs4 HBD3 HL3 HB3
  go_wp2_with fail
  refine HCA.out.mono ?_
  rintro _ w5 ⟨v5, rfl, hO5, hb5⟩
  obtain ⟨g5, n5, c5, rfl, HN5, hg5, hnc5, hcm5, _⟩ := hO5.grip (fun e => by have := HLEN.out; rw [e] at this; simp at this; omega)
  obtain rfl : n5 = n4 := by rw [HN5.out, HLEN.out]
  have hg5lt : g5 < w5.heap.size := by
    obtain ⟨b, off, e, hb, _⟩ := (hO5.sees HBY.out).atB 0 (by omega)
    simp at e
    rw [e.1]; exact hb
  have HCB := hid (lclone_any _ bl w5 (HS4.out.below hb5) (by rw [HLEN.out]; omega))
  have HO5 := hid hO5
  have HB45 := hid hb5
  have HG5 := hid hg5
  have HGL := hid hg5lt
  clear hO5 hb5 hg5 hg5lt HCA HN5
  go_wp2_with fail
  refine HCB.out.mono ?_
  rintro _ w6 ⟨v6, rfl, hO6, hb6⟩
  obtain ⟨g6, n6, c6, rfl, HN6, hg6, _, _, _⟩ := hO6.grip (fun e => by have := HLEN.out; rw [e] at this; simp at this; omega)
  obtain rfl : n6 = n5 := by rw [HN6.out, HLEN.out]
  have hs6 := hO6.sees HBY.out
  have hO56 : OwnB w6 w4.heap.size (.slice (some ⟨g5, 0, none⟩) n6 c5) bl := HO5.out.below hb6
  have HPR := hid (HPC.out w6 _ (hO56.sees HBY.out))
  have HS6 := hid hs6
  have HO6 := hid hO56
  have HB46 := hid (HB45.out.trans (hb6.mono HB45.out.size))
  have HG56 : Hid (g5 < w6.heap.size ∧ g5 ≠ g6) := by have := HGL.out; have := hb6.size; unfold Hid; omega
  clear hO6 hb6 hs6 hO56 HCB HN6 hg6 HO5 HB45
  go_wp2_with fail
  refine HPR.out.mono ?_
  rintro _ w7 ⟨va, xa, rfl, ha, ka, hfa, hfx, hb7⟩
  obtain ⟨a9, n9, c9, rfl, _, _, _⟩ := ha.shape
  obtain ⟨a10, n10, c10, rfl, _, _, _⟩ := ka.shape
  obtain ⟨pa, hpa⟩ : ∃ pa : Array Value, pa = pkCells h (.slice a9 n9 c9) (.slice a10 n10 c10) := ⟨_, rfl⟩
  have hpz : pa.size = Z29.size := by rw [hpa]; rfl
  have HZA : Hid ((Try.prog.info? 32).map (·.size) = some pa.size) := by unfold Hid; rw [hpa]; exact size29'
  have HOA : Hid (pa.all (·.oneCell') = true) := by unfold Hid; rw [hpa]; simp [pkCells, Value.oneCell']
  have HTA := hid (new_there (u := w7) (T := 32) hpz)
  have HNA := new_put (u := w7) (T := 32) hpz
  obtain ⟨w8, hw8⟩ : ∃ w8, w8 = (w7.alloc (.cells Z29 32)).setCells w7.heap.size 0 pa.toList := ⟨_, rfl⟩
  rw [← hw8] at HNA
  have HW8 : Hid (w8 = (w7.alloc (.cells #[.int .u8 0, .int .u16 0, .bool false, .bool false, .int .i64 0, .int .u8 0, .int .u8 0, .int .u32 0, .int .u32 0, .slice none 0 0, .slice none 0 0] 32)).setCells w7.heap.size 0 pa.toList) := hw8
  have hb68 : Below w6.heap.size w6 w8 := hb7.trans (HNA.below.mono hb7.size)
  have hb48 : Below w4.heap.size w4 w8 := HB46.out.trans (hb68.mono HB46.out.size)
  have HO8 := hid (HO6.out.below hb68)
  -- whatever is written into c: all else stands
  have HAFT : Hid (∀ u, But g5 w8 u → Below w1.heap.size w1 u ∧ SeesB u (.slice a4 n6 c4) bl ∧ SeesB u (.slice (some ⟨g6, 0, none⟩) n6 c6) bl ∧ SeesB u (.slice a9 n9 c9) h.opts ∧ SeesB u (.slice a10 n10 c10) B ∧ u.rangeAt w7.heap.size 0 pa.toList ∧ w7.heap.size < u.heap.size) := fun u hu => by
    have h4u : Below w4.heap.size w4 u := hu.below hb48 hb48.size HG5.out
    refine ⟨HB14.out.trans (h4u.mono HB14.out.size), HS4.out.below h4u, (HS6.out.below hb68).but hu (fun a n c e => by cases e; exact fun e => HG56.out.2 e.symm), (ha.below HNA.below).but hu (fun a n c e => by have := hfa a n c e; have := HG56.out.1; omega), (ka.below HNA.below).but hu (fun a n c e => by have := hfx a n c e; have := HG56.out.1; omega), fun j v hv => ?_, Nat.lt_of_lt_of_le HNA.lt hu.size⟩
    have := HNA.range j v hv
    rw [← this]
    exact hu.cell (p := ⟨w7.heap.size, 0 + j, none⟩) HNA.lt (by have := HG56.out.1; have := hb7.size; show w7.heap.size ≠ g5; omega)
  have HPA := hid hpa
  rw [← hpa]
  clear hpa hpz hw8 hb7 hb68 hb48 ha ka hfa hfx HPR HNA HS4 HS6 HO6 HB46 HB14
  go_upto_region 9 with (first
    | (refine wpList_store_mid rfl 32 (.tmp 7) (.tmp 36) rfl w7.heap.size 0 pa rfl rfl HTA.out HZA.out HOA.out ?_)
    | fail)
  rw [← HW8.out]
  go_wp2_with fail
  go_loopw [9] (fun i wv => ∃ (k : Nat) (C : List Nat) (wr : World), wr = wv ∧ i = .int .i64 k ∧ k ≤ n6 ∧ Hid (OwnB wr w4.heap.size (.slice (some ⟨g5, 0, none⟩) n6 c5) C) ∧ Hid (∀ x ∈ C, x < 256) ∧ Hid (But g5 w8 wr)) (fun i _ => n6 - (intOf i).toNat)
  case atStart => exact ⟨0, bl, _, rfl, rfl, by omega, HO8, HBY, But.refl _ _⟩
  case round =>
    clear HO8
    obtain ⟨k, C, u, rfl, rfl, hk, HO, HCB, HBU⟩ := hrel
    by_cases hlt : k < n6
    · obtain ⟨g', off', hgo, _, hck⟩ := (HO.out.sees HCB.out).atB k hlt
      simp at hgo
      obtain ⟨rfl, rfl⟩ := hgo
      rw [Nat.zero_add] at hck
      obtain ⟨_, _, _, hgr, _, _, _, _, hfz⟩ := HO.out.grip (fun e => by
        have h1 := HO.out.sees HCB.out
        obtain ⟨_, _, hv, _⟩ := h1
        simp at hv
        have := hv.2.1
        rw [e] at this; simp at this; omega)
      simp at hgr
      obtain ⟨rfl, _, _⟩ := hgr
      have hfk := hfz k
      obtain ⟨x, hx⟩ : ∃ x, x = k % 256 := ⟨_, rfl⟩
      have hx256 : x < 256 := by omega
      have ex : (k : Int) % 256 = (x : Int) := by omega
      have hy : bits .xor .u8 (x : Int) 85 = ((x ^^^ 85 : Nat) : Int) := u8_xor_nat x 85 hx256 (by omega)
      have hy256 : x ^^^ 85 < 256 := Nat.xor_lt_two_pow (n := 8) hx256 (by decide)
      generalize x ^^^ 85 = y at *
      generalize byt C k = z at hck
      have HO2 := hid (HO.out.put' k y)
      have HCB2 : Hid (∀ x ∈ C.set k y, x < 256) := fun x hx => by
        rcases List.mem_or_eq_of_mem_set hx with hx | rfl
        · exact HCB.out x hx
        · exact hy256
      have HBU2 := hid (HBU.out.trans (But.set g5 k u (.int .u8 (y : Int))))
      clear hx hfz
      go_wp2_with fail
      go_roundw
      case rel => exact ⟨k + 1, C.set k y, _, rfl, by go_num, by omega, HO2, HCB2, HBU2⟩
      case measure => simp [intOf]; omega
    · obtain ⟨hb1u, hs4, hs6, ha, ka, hrg, hsz⟩ := HAFT.out u HBU.out
      have HLP := hid (HLK.out _ hb1u)
      have HLQ := hid (load_range hrg und29 HZA.out)
      have HPT := HPK.out u _ _ hb1u ha ka
      rw [← HPA.out] at HPT
      have HPT := hid HPT
      have HS4 := hid hs4
      have HS6 := hid hs6
      have HA := hid ha
      have HK := hid ka
      have HRG := hid hrg
      have HSZ := hid hsz
      have HB1U := hid hb1u
      clear hb1u hs4 hs6 ha ka hrg hsz HO HCB HBU HAFT
      go_wp2_with (first
        | (refine wpList_ld 32 ⟨w.heap.size, 0, none⟩ (.tmp 1) rfl rfl HLP.out rfl ?_)
        | (refine wpList_ld 32 ⟨w7.heap.size, 0, none⟩ (.tmp 7) rfl rfl HLQ.out rfl ?_)
        | fail)
      refine HPT.out.mono ?_
      rintro _ w10 ⟨rfl, hb10⟩
      have HBN10 := HBN.out w10 _ _ (HA.out.below hb10) (HK.out.below hb10)
      rw [← HPA.out] at HBN10
      have HBN10 := hid HBN10
      have HLQ10 := hid (load_range (range_grow HRG.out hb10 HSZ.out) und29 HZA.out)
      have HB10 := hid hb10
      clear hb10 HPT HLP HLQ
      go_wp2_with (first
        | (refine wpList_ld 32 ⟨w7.heap.size, 0, none⟩ (.tmp 7) rfl rfl HLQ10.out rfl ?_)
        | fail)
      refine HBN10.out.mono ?_
      rintro _ w11 ⟨g11, n11, rfl, hB11, hn11, hg11, hb11⟩
      obtain rfl : n11 = n6 := by rw [hn11, HLEN.out]
      have HBL := hid hB11
      have HBR := hid hb11
      have HG11 := hid hg11
      clear hB11 hn11 hg11 hb11 HBN10 HLQ10
      go_wp2_with fail
      go_loopw [12] (fun i wv => ∃ (k : Nat) (X : List Nat) (wr : World), wr = wv ∧ i = .int .i64 k ∧ k ≤ n11 ∧ Hid (Blk wr g11 X) ∧ Hid (X.length = n11) ∧ Hid (But g11 w11 wr)) (fun i _ => n11 - (intOf i).toNat)
      case atStart => exact ⟨0, bl, _, rfl, rfl, by omega, HBL, HLEN, But.refl _ _⟩
      case round =>
        clear HBL
        obtain ⟨k, X, u', rfl, rfl, hk, HB, HXL, HBU⟩ := hrel
        by_cases hlt : k < n11
        · have hck := HB.out.cell k (by rw [HXL.out]; exact hlt)
          have hfk := HB.out.free k
          generalize byt X k = z at hck
          have HB2 : Hid (Blk (u'.setCell ⟨g11, k, none⟩ (.int .u8 0)) g11 (X.set k 0)) := HB.out.set k 0
          have HXL2 : Hid ((X.set k 0).length = n11) := by unfold Hid; rw [List.length_set]; exact HXL.out
          have HBU2 := hid (HBU.out.trans (But.set g11 k u' (.int .u8 0)))
          go_wp2_with fail
          go_roundw
          case rel => exact ⟨k + 1, X.set k 0, _, rfl, by go_num, by omega, HB2, HXL2, HBU2⟩
          case measure => simp [intOf]; omega
        · have hb10u : Below w10.heap.size w10 u' := HBU.out.below HBR.out HBR.out.size (Nat.le_of_lt HG11.out)
          have hbu : Below u.heap.size u u' := HB10.out.trans (hb10u.mono HB10.out.size)
          have hb1u := HB1U.out.trans (hbu.mono HB1U.out.size)
          have HLP := hid (HLK.out _ hb1u)
          have HLQ := hid (load_range (range_grow HRG.out hbu HSZ.out) und29 HZA.out)
          have HPT := HPK.out u' _ _ hb1u (HA.out.below hbu) (HK.out.below hbu)
          rw [← HPA.out] at HPT
          have HPT := hid HPT
          have HSA : Hid (∀ v, Below u'.heap.size u' v → Calls Try.prog 15 #[.slice a4 n11 c4, .slice (some ⟨g6, 0, none⟩) n11 c6] v fun e w' => e = .returned (.bool true) ∧ Below v.heap.size v w') := fun v hv => by
            have := same_any (.slice a4 n11 c4) (.slice (some ⟨g6, 0, none⟩) n11 c6) bl bl v ((HS4.out.below hbu).below hv) ((HS6.out.below hbu).below hv)
            rw [decide_eq_true rfl] at this
            exact this
          have HBF := hid (HBW.out _ hb1u)
          clear hb10u hbu hb1u HB HXL HBU
          go_wp2_with (first
            | (refine wpList_ld 32 ⟨w.heap.size, 0, none⟩ (.tmp 1) rfl rfl HLP.out rfl ?_)
            | (refine wpList_ld 32 ⟨w7.heap.size, 0, none⟩ (.tmp 7) rfl rfl HLQ.out rfl ?_)
            | fail)
          refine HPT.out.mono ?_
          rintro _ w14 ⟨rfl, hb14⟩
          have HSB := hid (HSA.out _ hb14)
          have HB14 := hid (HBF.out.trans (hb14.mono HBF.out.size))
          clear hb14
          go_wp2_with fail
          refine HSB.out.mono ?_
          rintro _ w15 ⟨rfl, hb15⟩
          go_wp2_with fail
          go_ret
          exact ⟨rfl, HB14.out.trans (hb15.mono HB14.out.size)⟩

theorem apart_walk (h : Hd) (vo vb : Value) (B : List Nat) (w : World) (hok : h.Ok) (hvo : SeesB w vo h.opts) (hvb : SeesB w vb B) (hlo : h.opts.length ≤ 140737488355328) (hlb : B.length ≤ 140737488355328) :
    Calls Try.prog 8 #[.agg (pkCells h vo vb)] w fun e w' => e = .returned (.bool true) ∧ Below w.heap.size w w' := by
  by_cases he : refE h B.length = 0
  · exact apart_good h vo vb B w hok hvo hvb he
  · exact apart_bad h vo vb B w hok hvo hvb hlo hlb he
end Go.Proofs.Ytjjmopmdiflffac
