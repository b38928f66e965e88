import Derived.Test.YtjjmopmdiflffaaNMathG
import Derived.Test.YtjjmopmdiflffaaNWF
import Derived.Test.YtjjmopmdiflffaaNBL
import Derived.Deep.CutRange
namespace Go.Proofs.Ytjjmopmdiflffaa.N
open Go.ChangeShapes Go.WideShapes Go.ChangeAt Go.RowKit
set_option maxHeartbeats 1000000
set_option maxRecDepth 100000

theorem xor_fin : ∀ (x : Fin 256) (k : Fin 8), (x.val ^^^ 2 ^ k.val = x.val + 2 ^ k.val ∨ x.val = (x.val ^^^ 2 ^ k.val) + 2 ^ k.val) ∧ x.val ^^^ 2 ^ k.val < 256 := by decide +kernel

theorem xor_bit {x q : Nat} (hx : x < 256) (hq : q < 8) : ∃ y : Nat, bits .xor .u8 (x : Int) ((2 ^ q : Nat) : Int) = (y : Int) ∧ y < 256 ∧ (y = x + 2 ^ q ∨ x = y + 2 ^ q) := by
  obtain ⟨h1, h2⟩ := xor_fin ⟨x, hx⟩ ⟨q, hq⟩
  have h8 : 2 ^ q < 256 := Nat.pow_lt_pow_right (by omega) (show q < 8 from hq)
  exact ⟨x ^^^ 2 ^ q, u8_xor_nat x (2 ^ q) hx h8, h2, h1⟩

theorem isBit_pow {q : Nat} (hq : q < 8) : IsBit (2 ^ q) := by
  unfold IsBit
  match q, hq with
  | 0, _ => decide
  | 1, _ => decide
  | 2, _ => decide
  | 3, _ => decide
  | 4, _ => decide
  | 5, _ => decide
  | 6, _ => decide
  | 7, _ => decide

/-- A byte of a list of the call's own is written. -/
theorem OwnB.put {w : World} {base g n cap : Nat} {C : List Nat} (h : OwnB w base (.slice (some ⟨g, 0, none⟩) n cap) C) (i x : Nat) :
    OwnB (w.setCell ⟨g, i, none⟩ (.int .u8 (x : Int))) base (.slice (some ⟨g, 0, none⟩) n cap) (C.set i x) ∧ Below base w (w.setCell ⟨g, i, none⟩ (.int .u8 (x : Int))) := by
  rcases h.2 with ⟨h1, _⟩ | ⟨g', cap', cur, h1, hb, hg, hnc, hcm, hcs, ht⟩
  · cases h1
  · simp at h1
    obtain ⟨rfl, hn, rfl⟩ := h1
    have h2 := heap_setCell_same w g i cur 5 (.int .u8 (x : Int)) hg
    refine ⟨⟨by simp [bs], .inr ⟨g, cap, _, by rw [List.length_set, hn], hb, h2, by rw [List.length_set]; exact hnc, hcm, by simpa using hcs, ?_⟩⟩, (Below.refl _ _).setCell (p := ⟨g, i, none⟩) hb _⟩
    rw [List.length_set]
    simp only [Array.toList_setIfInBounds, List.take_set]
    rw [ht]
    simp [bs, List.map_set]

theorem OwnB.grip {w : World} {base : Nat} {v : Value} {C : List Nat} (h : OwnB w base v C) (hne : C ≠ []) : ∃ g n cap, v = .slice (some ⟨g, 0, none⟩) n cap ∧ Hid (n = C.length) ∧ base ≤ g ∧ n ≤ cap ∧ cap ≤ maxLen ∧ (∀ j, w.frozen? ⟨g, j, none⟩ = false) := by
  rcases h.2 with ⟨rfl, hn⟩ | ⟨g, cap, cur, rfl, hb, hg, hnc, hcm, hcs, ht⟩
  · exact absurd (List.eq_nil_of_length_eq_zero hn) hne
  · exact ⟨g, _, cap, rfl, rfl, hb, hnc, hcm, fun j => frozen_of_row _ _ _ _ _ hg⟩

theorem range_hd {u : World} {b : Nat} {h : Hd} {vo vb : Value} (hr : u.rangeAt b 0 (pkCells h vo vb).toList) : u.rangeAt b 0 (hdCells h vo).toList := fun j v hv => by
  refine hr j v ?_
  rw [Array.getElem?_toList] at hv ⊢
  have hj : j < 10 := (Array.getElem?_eq_some_iff.1 hv).1
  match j, hj with
  | 0, _ => exact hv
  | 1, _ => exact hv
  | 2, _ => exact hv
  | 3, _ => exact hv
  | 4, _ => exact hv
  | 5, _ => exact hv
  | 6, _ => exact hv
  | 7, _ => exact hv
  | 8, _ => exact hv
  | 9, _ => exact hv

theorem set_bytes {L : List Nat} (h : ∀ x ∈ L, x < 256) (i : Nat) {y : Nat} (hy : y < 256) : ∀ x ∈ L.set i y, x < 256 := fun x hx => by
  rcases List.mem_or_eq_of_mem_set hx with hx | rfl
  · exact h x hx
  · exact hy

theorem told_bad (h : Hd) (vo vb : Value) (B : List Nat) (k : Int) (w : World) (hok : h.Ok) (hvo : SeesB w vo h.opts) (hvb : SeesB w vb B) (hlo : h.opts.length ≤ 140737488355328) (hlb : B.length ≤ 140737488355328) (he : refE h B.length ≠ 0) :
    Calls Try.prog 20 #[.agg (pkCells h vo vb), .int .i64 k] w fun e w' => e = .returned (.bool true) ∧ Below w.heap.size w w' := by
  obtain ⟨w1, hw1⟩ : ∃ w1, w1 = w.alloc (.cells (pkCells h vo vb) 43) := ⟨_, rfl⟩
  have hb1 : Below w.heap.size w w1 := by rw [hw1]; exact (Below.refl _ _).alloc (Nat.le_refl _) _
  have hk1 : w1.heap[w.heap.size]? = some (.cells (pkCells h vo vb) 43) := by rw [hw1]; exact heap_alloc_new w _
  have HBD := hid (build_code h vo vb B w1 hok (hvo.below hb1) (hvb.below hb1) hlo hlb)
  have HL1 := hid (pk_load hk1)
  have HNIL : Hid (builtL h B = []) := by unfold Hid builtL; rw [if_neg he]
  have HW1 := hid hw1
  have HB1 := hid hb1
  generalize refE h B.length = q at *
  have hq : (q != 0) = true := by simp [he]
  generalize pkCells h vo vb = pk at *
  clear hw1 hb1 hk1 hvo hvb he
  go_enter Try.func20, Try.ntmps20
  go_upto_region 1 with fail
  rw [← HW1.out]
  go_wp2_with (first | (refine wpList_ld 43 ⟨w.heap.size, 0, none⟩ (.tmp 2) rfl rfl HL1.out rfl ?_) | fail)
  refine HBD.out.mono ?_
  rintro _ w2 ⟨a1, n1, c1, rfl, h1, hb2⟩
  rw [HNIL.out] at h1
  obtain rfl : n1 = 0 := by
    obtain ⟨_, _, hv, _⟩ := h1
    simp at hv; exact hv.2.1
  clear h1
  go_wp2_with fail
  go_ret
  exact ⟨rfl, HB1.out.trans (hb2.mono HB1.out.size)⟩

set_option maxHeartbeats 2000000 in
theorem told_good (h : Hd) (vo vb : Value) (B : List Nat) (K : Nat) (w : World) (hok : h.Ok) (hvo : SeesB w vo h.opts) (hvb : SeesB w vb B) (_hK : K ≤ 9223372036854775807) (he : refE h B.length = 0) :
    Calls Try.prog 20 #[.agg (pkCells h vo vb), .int .i64 (K : Int)] w fun e w' => e = .returned (.bool true) ∧ Below w.heap.size w w' := by
  obtain ⟨r1, r2, r3⟩ := refE_ok he
  obtain ⟨w1, hw1⟩ : ∃ w1, w1 = w.alloc (.cells (pkCells h vo vb) 43) := ⟨_, rfl⟩
  have hb1 : Below w.heap.size w w1 := by rw [hw1]; exact (Below.refl _ _).alloc (Nat.le_refl _) _
  have hs1 : w1.heap.size = w.heap.size + 1 := by rw [hw1]; simp
  have HK : Hid (∀ u, Below w1.heap.size w1 u → u.heap[w.heap.size]? = some (.cells (pkCells h vo vb) 43)) := fun u hu => by
    rw [hu.block _ (by omega), hw1]; exact heap_alloc_new w _
  have HLK : Hid (∀ u, Below w1.heap.size w1 u → (Instr.loadAt 43 (.pointer (some ⟨w.heap.size, 0, none⟩))).run Try.prog u = .ok (.agg (pkCells h vo vb)) u) := fun u hu => pk_load (HK.out u hu)
  have HLH : Hid (∀ u, Below w1.heap.size w1 u → (Instr.loadAt 41 (.pointer (some ⟨w.heap.size, 0, none⟩))).run Try.prog u = .ok (.agg (hdCells h vo)) u) := fun u hu => pk_loadH (HK.out u hu)
  have HBD := build_code h vo vb B w1 hok (hvo.below hb1) (hvb.below hb1) (by omega) (by omega)
  rw [he] at HBD
  have HBD := hid HBD
  obtain ⟨_, x2, _, _⟩ := parse_built h B [] hok he true
  have x2' : (builtL h B).length = 20 + h.opts.length + B.length := x2
  obtain ⟨l, hl⟩ : ∃ l, l = 20 + h.opts.length + B.length := ⟨_, rfl⟩
  rw [← hl] at x2'
  have HBY : Hid (∀ x ∈ builtL h B, x < 256) := built_bytes hok hvo.bytes hvb.bytes
  obtain ⟨r, hr⟩ : ∃ r, r = K % (8 * l) := ⟨_, rfl⟩
  have hrl : r < 8 * l := by rw [hr]; exact Nat.mod_lt _ (by omega)
  have e1 : (K : Int) % (8 * (l : Int)) = (r : Int) := by rw [hr]; simp
  have e1' : (K : Int).tmod (8 * (l : Int)) = (r : Int) := by
    rw [hr, show (8 * (l : Int)) = ((8 * l : Nat) : Int) by omega]; rfl
  obtain ⟨a, ha⟩ : ∃ a, a = r / 8 := ⟨_, rfl⟩
  obtain ⟨q, hq⟩ : ∃ q, q = r % 8 := ⟨_, rfl⟩
  have hq8 : q < 8 := by omega
  have hal : a < l := by omega
  have e2 : (r : Int) / 8 = (a : Int) := by omega
  have e3 : (r : Int) % 8 = (q : Int) := by omega
  have e2' : (r : Int).tdiv 8 = (a : Int) := by rw [ha]; rfl
  have e3' : (r : Int).tmod 8 = (q : Int) := by rw [hq]; rfl
  have hx := byt_lt HBY.out a
  obtain ⟨y, hy, hy256, hxy⟩ := xor_bit hx hq8
  have hbit := isBit_pow hq8
  have em : (2 : Int) ^ q % 256 = ((2 ^ q : Nat) : Int) := by
    match q, hq8 with
    | 0, _ => decide
    | 1, _ => decide
    | 2, _ => decide
    | 3, _ => decide
    | 4, _ => decide
    | 5, _ => decide
    | 6, _ => decide
    | 7, _ => decide
  obtain ⟨m, hm⟩ : ∃ m : Nat, m = 2 ^ q := ⟨_, rfl⟩
  rw [← hm] at hy hxy hbit em
  have hm256 : m < 256 := by unfold IsBit at hbit; omega
  -- what is read of the bytes with the bit turned over
  have HPB : Hid (a < 20 + h.opts.length → ¬ (a = 0 ∧ m < 16) → ∃ z, z ≠ 0 ∧ parsed ((builtL h B).set a y) = (zeroH, [], z)) := fun h1 h2 => by
    have := flip_head h B a _ y m hok he h1 rfl hbit hxy (fun h0 => by omega)
    exact ⟨_, this, by unfold parsed; rw [if_neg this]⟩
  have HPG : Hid (∀ j, a = 20 + h.opts.length + j → parsed ((builtL h B).set a y) = (h, B.set j y, 0)) := fun j hj => by
    rw [hj, flip_body]
    have := parsed_built h (B.set j y) [] hok (by rw [List.length_set]; exact he)
    rwa [List.append_nil] at this
  have HXB : Hid (∀ j, a = 20 + h.opts.length + j → byt B j = byt (builtL h B) a) := fun j hj => by
    unfold builtL
    rw [if_pos he, hj]
    unfold byt
    rw [List.getD_eq_getElem?_getD, List.getD_eq_getElem?_getD, List.getElem?_append_right (by rw [hdBytes_len]; omega), hdBytes_len, Nat.add_sub_cancel_left]
  generalize hbx : byt (builtL h B) a = x at *
  have HBX := hid hbx
  have HVO := hid hvo
  have HVB := hid hvb
  obtain ⟨ao, n, cap, rfl, HN, hn1, hn2⟩ := hvo.shape
  obtain ⟨ab, nb, capb, rfl, HNB, hnb1, hnb2⟩ := hvb.shape
  have HCC : Hid (∀ u, Below w1.heap.size w1 u → u.cell? ⟨w.heap.size, 9, none⟩ = some (.slice ao n cap) ∧ u.cell? ⟨w.heap.size, 10, none⟩ = some (.slice ab nb capb)) := fun u hu => ⟨pk_at (HK.out u hu) 9 (by omega), pk_at (HK.out u hu) 10 (by omega)⟩
  have HBW : Hid (∀ u, Below w1.heap.size w1 u → Below w.heap.size w u) := fun u hu => hb1.trans (hu.mono hb1.size)
  have HL1 := hid (HLK.out _ (Below.refl _ _))
  have HW1 := hid hw1
  have HLEN := hid x2'
  rw [← HN.out] at HPB HPG HXB
  have hle : l = 20 + n + nb := by have := HN.out; have := HNB.out; omega
  have hl16 : l ≤ 65535 := by omega
  have HLE := hid hle
  have hll : 0 < l := by omega
  have hnn : n + nb ≤ 65515 := by omega
  have HNB' := hid HNB.out
  clear hw1 hb1 hs1 hvo hvb he r1 r2 r3 x2 x2' HK hok hr hbx hm hl hbit hxy ha hq HN hle
  generalize builtL h B = bl at *
  generalize hpk : pkCells h (.slice ao n cap) (.slice ab nb capb) = pk at *
  clear hpk
  go_enter Try.func20, Try.ntmps20
  go_upto_region 1 with fail
  rw [← HW1.out]
  go_wp2_with (first | (refine wpList_ld 43 ⟨w.heap.size, 0, none⟩ (.tmp 2) rfl rfl HL1.out rfl ?_) | fail)
  refine HBD.out.mono ?_
  rintro _ w2 ⟨a1, n1, c1, rfl, h1, hb2⟩
  have hn1e : n1 = l := by
    obtain ⟨_, _, hv, _⟩ := h1
    simp at hv
    rw [hv.2.1, HLEN.out]
  subst hn1e
  have HS1 := hid h1
  have HB2 := hid hb2
  clear h1 hb2 HL1 HBD
  by_cases hA : a = 0 ∧ m < 16
  · obtain ⟨ha0, hm16⟩ := hA
    have hq0 : ((a : Int) == 0) = true := by simp [ha0]
    clear ha0
    go_wp2
    go_region
    go_wp2
    go_ret
    exact ⟨rfl, HBW.out _ (below_drew HB2.out)⟩
  have hbl0 : bl ≠ [] := fun e => by have := HLEN.out; rw [e] at this; simp at this; omega
  have HYB : Hid (∀ x ∈ bl.set a y, x < 256) := set_bytes HBY.out a hy256
  by_cases hh : a < 20 + n
  · obtain ⟨z, hz, hpz⟩ := HPB.out hh hA
    have hqz : (z != 0) = true := by simp [hz]
    have HPZ := hid hpz
    have hcase : (a = 0 ∧ 16 ≤ m) ∨ a ≠ 0 := by omega
    clear HPB HPG HXB hA hpz hz
    rcases hcase with ⟨ha0, hm16⟩ | ha0
    · have hq0 : ((a : Int) == 0) = true := by simp [ha0]
      clear ha0
      go_wp2
      go_region
      have hb3 : Below w1.heap.size w1 w2.drew := below_drew HB2.out
      have h3 : SeesB w2.drew (.slice a1 n1 c1) bl := HS1.out.below (below_drew (Below.refl _ _))
      generalize w2.drew = w3 at hb3 h3 ⊢
      have HCA := hid (lclone_any _ bl w3 h3 (by rw [HLEN.out]; omega))
      have HB3 := hid hb3
      clear hb3 h3
      go_wp2_with fail
      refine HCA.out.mono ?_
      rintro _ w4 ⟨v4, rfl, hO4, hb4⟩
      obtain ⟨g, n4, c4, rfl, HN4, hg4, hnc4, hcm4, hfz⟩ := hO4.grip hbl0
      obtain rfl : n4 = n1 := by rw [HN4.out, HLEN.out]
      have hs4 := hO4.sees HBY.out
      obtain ⟨g', off', hgo, hgl, hcl⟩ := hs4.atB a hal
      simp at hgo
      obtain ⟨rfl, rfl⟩ := hgo
      rw [HBX.out, Nat.zero_add] at hcl
      have hf4 := hfz a
      obtain ⟨hO5, hb5⟩ := hO4.put a y
      obtain ⟨w5, hw5⟩ : ∃ w5, w5 = w4.setCell ⟨g, a, none⟩ (.int .u8 (y : Int)) := ⟨_, rfl⟩
      rw [← hw5] at hO5 hb5
      have HW5 := hid hw5
      have hs5 := hO5.sees HYB.out
      have hb35 : Below w3.heap.size w3 w5 := hb4.trans hb5
      have hb15 : Below w1.heap.size w1 w5 := HB3.out.trans (hb35.mono HB3.out.size)
      have HPR := parse_code _ _ w5 hs5 (by rw [List.length_set, HLEN.out]; omega)
      rw [HPZ.out] at HPR
      have HPR := hid HPR
      have HB15 := hid hb15
      clear hw5 hO4 hO5 hb4 hb5 hs4 hs5 hb35 hb15 HCA hfz hgl
      go_upto_region 10 with fail
      rw [← HW5.out]
      clear hcl hf4
      go_wp2_with fail
      refine HPR.out.mono ?_
      rintro _ w6 ⟨va, xa, rfl, ha, ka, hb6⟩
      obtain ⟨a6, n6, c6, rfl, _, _, _⟩ := ha.shape
      obtain ⟨a7, n7, c7, rfl, _, _, _⟩ := ka.shape
      obtain ⟨pa, hpa⟩ : ∃ pa : Array Value, pa = pkCells zeroH (.slice a6 n6 c6) (.slice a7 n7 c7) := ⟨_, rfl⟩
      have hpz : pa.size = Z29.size := by rw [hpa]; rfl
      have HZA : Hid ((Try.prog.info? 43).map (·.size) = some pa.size) := by unfold Hid; rw [hpa]; exact size29'
      have HOA : Hid (pa.all (·.oneCell') = true) := by unfold Hid; rw [hpa]; simp [pkCells, Value.oneCell']
      have HTA := hid (new_there (u := w6) (T := 43) hpz)
      have HNA := new_put (u := w6) (T := 43) hpz
      obtain ⟨w7, hw7⟩ : ∃ w7, w7 = (w6.alloc (.cells Z29 43)).setCells w6.heap.size 0 pa.toList := ⟨_, rfl⟩
      rw [← hw7] at HNA
      have HW7 : Hid (w7 = (w6.alloc (.cells #[.int .u8 0, .int .u16 0, .bool false, .bool false, .int .i64 0, .int .u8 0, .int .u8 0, .int .u32 0, .int .u32 0, .slice none 0 0, .slice none 0 0] 43)).setCells w6.heap.size 0 pa.toList) := hw7
      have hb57 : Below w5.heap.size w5 w7 := hb6.trans (HNA.below.mono hb6.size)
      have hb17 : Below w1.heap.size w1 w7 := HB15.out.trans (hb57.mono HB15.out.size)
      have HLA := hid (load_range HNA.range und29 HZA.out)
      obtain ⟨e9, e10⟩ := HCC.out _ hb17
      have HPKT : Hid (Calls Try.prog 31 #[.agg pa, .agg #[.int .u8 0, .int .u16 0, .bool false, .bool false, .int .i64 0, .int .u8 0, .int .u8 0, .int .u32 0, .int .u32 0, .slice none 0 0, .slice none 0 0]] w7 fun e w' => e = .returned (.bool true) ∧ Below w7.heap.size w7 w') := by
        unfold Hid
        rw [hpa]
        exact packets_same zeroH [] _ (.slice none 0 0) _ (.slice none 0 0) w7 (ha.below HNA.below) (sees_nil _) (ka.below HNA.below) (sees_nil _)
      have HB17 := hid hb17
      rw [← hpa]
      clear hpa hpz hw7 hb6 hb57 hb17 ha ka HPR HNA
      go_upto_region 11 with (first
        | (refine wpList_store_mid rfl 43 (.tmp 10) (.tmp 63) rfl w6.heap.size 0 pa rfl rfl HTA.out HZA.out HOA.out ?_)
        | fail)
      rw [← HW7.out]
      go_wp2_with (first
        | (refine wpList_ld 43 ⟨w6.heap.size, 0, none⟩ (.tmp 10) rfl rfl HLA.out rfl ?_)
        | fail)
      refine HPKT.out.mono ?_
      rintro _ w8 ⟨rfl, hb8⟩
      go_wp2_with fail
      go_ret
      exact ⟨rfl, HBW.out _ (HB17.out.trans (hb8.mono HB17.out.size))⟩
    · have hq0 : ((a : Int) == 0) = false := by simp; omega
      clear ha0
      go_wp2
      go_region
      have hb3 : Below w1.heap.size w1 w2.drew := below_drew HB2.out
      have h3 : SeesB w2.drew (.slice a1 n1 c1) bl := HS1.out.below (below_drew (Below.refl _ _))
      generalize w2.drew = w3 at hb3 h3 ⊢
      have HCA := hid (lclone_any _ bl w3 h3 (by rw [HLEN.out]; omega))
      have HB3 := hid hb3
      clear hb3 h3
      go_wp2_with fail
      refine HCA.out.mono ?_
      rintro _ w4 ⟨v4, rfl, hO4, hb4⟩
      obtain ⟨g, n4, c4, rfl, HN4, hg4, hnc4, hcm4, hfz⟩ := hO4.grip hbl0
      obtain rfl : n4 = n1 := by rw [HN4.out, HLEN.out]
      have hs4 := hO4.sees HBY.out
      obtain ⟨g', off', hgo, hgl, hcl⟩ := hs4.atB a hal
      simp at hgo
      obtain ⟨rfl, rfl⟩ := hgo
      rw [HBX.out, Nat.zero_add] at hcl
      have hf4 := hfz a
      obtain ⟨hO5, hb5⟩ := hO4.put a y
      obtain ⟨w5, hw5⟩ : ∃ w5, w5 = w4.setCell ⟨g, a, none⟩ (.int .u8 (y : Int)) := ⟨_, rfl⟩
      rw [← hw5] at hO5 hb5
      have HW5 := hid hw5
      have hs5 := hO5.sees HYB.out
      have hb35 : Below w3.heap.size w3 w5 := hb4.trans hb5
      have hb15 : Below w1.heap.size w1 w5 := HB3.out.trans (hb35.mono HB3.out.size)
      have HPR := parse_code _ _ w5 hs5 (by rw [List.length_set, HLEN.out]; omega)
      rw [HPZ.out] at HPR
      have HPR := hid HPR
      have HB15 := hid hb15
      clear hw5 hO4 hO5 hb4 hb5 hs4 hs5 hb35 hb15 HCA hfz hgl
      go_upto_region 10 with fail
      rw [← HW5.out]
      clear hcl hf4
      go_wp2_with fail
      refine HPR.out.mono ?_
      rintro _ w6 ⟨va, xa, rfl, ha, ka, hb6⟩
      obtain ⟨a6, n6, c6, rfl, _, _, _⟩ := ha.shape
      obtain ⟨a7, n7, c7, rfl, _, _, _⟩ := ka.shape
      obtain ⟨pa, hpa⟩ : ∃ pa : Array Value, pa = pkCells zeroH (.slice a6 n6 c6) (.slice a7 n7 c7) := ⟨_, rfl⟩
      have hpz : pa.size = Z29.size := by rw [hpa]; rfl
      have HZA : Hid ((Try.prog.info? 43).map (·.size) = some pa.size) := by unfold Hid; rw [hpa]; exact size29'
      have HOA : Hid (pa.all (·.oneCell') = true) := by unfold Hid; rw [hpa]; simp [pkCells, Value.oneCell']
      have HTA := hid (new_there (u := w6) (T := 43) hpz)
      have HNA := new_put (u := w6) (T := 43) hpz
      obtain ⟨w7, hw7⟩ : ∃ w7, w7 = (w6.alloc (.cells Z29 43)).setCells w6.heap.size 0 pa.toList := ⟨_, rfl⟩
      rw [← hw7] at HNA
      have HW7 : Hid (w7 = (w6.alloc (.cells #[.int .u8 0, .int .u16 0, .bool false, .bool false, .int .i64 0, .int .u8 0, .int .u8 0, .int .u32 0, .int .u32 0, .slice none 0 0, .slice none 0 0] 43)).setCells w6.heap.size 0 pa.toList) := hw7
      have hb57 : Below w5.heap.size w5 w7 := hb6.trans (HNA.below.mono hb6.size)
      have hb17 : Below w1.heap.size w1 w7 := HB15.out.trans (hb57.mono HB15.out.size)
      have HLA := hid (load_range HNA.range und29 HZA.out)
      obtain ⟨e9, e10⟩ := HCC.out _ hb17
      have HPKT : Hid (Calls Try.prog 31 #[.agg pa, .agg #[.int .u8 0, .int .u16 0, .bool false, .bool false, .int .i64 0, .int .u8 0, .int .u8 0, .int .u32 0, .int .u32 0, .slice none 0 0, .slice none 0 0]] w7 fun e w' => e = .returned (.bool true) ∧ Below w7.heap.size w7 w') := by
        unfold Hid
        rw [hpa]
        exact packets_same zeroH [] _ (.slice none 0 0) _ (.slice none 0 0) w7 (ha.below HNA.below) (sees_nil _) (ka.below HNA.below) (sees_nil _)
      have HB17 := hid hb17
      rw [← hpa]
      clear hpa hpz hw7 hb6 hb57 hb17 ha ka HPR HNA
      go_upto_region 11 with (first
        | (refine wpList_store_mid rfl 43 (.tmp 10) (.tmp 63) rfl w6.heap.size 0 pa rfl rfl HTA.out HZA.out HOA.out ?_)
        | fail)
      rw [← HW7.out]
      go_wp2_with (first
        | (refine wpList_ld 43 ⟨w6.heap.size, 0, none⟩ (.tmp 10) rfl rfl HLA.out rfl ?_)
        | fail)
      refine HPKT.out.mono ?_
      rintro _ w8 ⟨rfl, hb8⟩
      go_wp2_with fail
      go_ret
      exact ⟨rfl, HBW.out _ (HB17.out.trans (hb8.mono HB17.out.size))⟩
  · obtain ⟨j, hj⟩ : ∃ j, a = 20 + n + j := ⟨a - (20 + n), by omega⟩
    have HPZ := hid (HPG.out j hj)
    have hxj := HXB.out j hj
    have hq0 : ((a : Int) == 0) = false := by simp; omega
    have hjn : j < nb := by have := HLE.out; omega
    have ej : (a : Int) - (20 + (n : Int)) = (j : Int) := by omega
    have hB0 : B ≠ [] := fun e => by have := HNB.out; rw [e] at this; simp at this; omega
    have HWB : Hid (∀ x ∈ B.set j y, x < 256) := set_bytes HVB.out.bytes j hy256
    have HXJ := hid hxj
    have hhn : ¬ (a : Int) < 20 + (n : Int) := by omega
    clear HPB HPG HXB hA hj hh hxj
    go_wp2
    go_region
    have hb3 : Below w1.heap.size w1 w2.drew := below_drew HB2.out
    have h3 : SeesB w2.drew (.slice a1 n1 c1) bl := HS1.out.below (below_drew (Below.refl _ _))
    generalize w2.drew = w3 at hb3 h3 ⊢
    have HCA := hid (lclone_any _ bl w3 h3 (by rw [HLEN.out]; omega))
    have HB3 := hid hb3
    clear hb3 h3
    go_wp2_with fail
    refine HCA.out.mono ?_
    rintro _ w4 ⟨v4, rfl, hO4, hb4⟩
    obtain ⟨g, n4, c4, rfl, HN4, hg4, hnc4, hcm4, hfz⟩ := hO4.grip hbl0
    obtain rfl : n4 = n1 := by rw [HN4.out, HLEN.out]
    have hs4 := hO4.sees HBY.out
    obtain ⟨g', off', hgo, hgl, hcl⟩ := hs4.atB a hal
    simp at hgo
    obtain ⟨rfl, rfl⟩ := hgo
    rw [HBX.out, Nat.zero_add] at hcl
    have hf4 := hfz a
    obtain ⟨hO5, hb5⟩ := hO4.put a y
    obtain ⟨w5, hw5⟩ : ∃ w5, w5 = w4.setCell ⟨g, a, none⟩ (.int .u8 (y : Int)) := ⟨_, rfl⟩
    rw [← hw5] at hO5 hb5
    have HW5 := hid hw5
    have hs5 := hO5.sees HYB.out
    have hb35 : Below w3.heap.size w3 w5 := hb4.trans hb5
    have hb15 : Below w1.heap.size w1 w5 := HB3.out.trans (hb35.mono HB3.out.size)
    have HPR := parse_code _ _ w5 hs5 (by rw [List.length_set, HLEN.out]; omega)
    rw [HPZ.out] at HPR
    have HPR := hid HPR
    have HB15 := hid hb15
    clear hw5 hO4 hO5 hb4 hb5 hs4 hs5 hb35 hb15 HCA hfz hgl
    go_upto_region 10 with fail
    rw [← HW5.out]
    clear hcl hf4
    go_wp2_with fail
    refine HPR.out.mono ?_
    rintro _ w6 ⟨va, xa, rfl, ha, ka, hb6⟩
    obtain ⟨a6, n6, c6, rfl, _, _, _⟩ := ha.shape
    obtain ⟨a7, n7, c7, rfl, _, _, _⟩ := ka.shape
    obtain ⟨pa, hpa⟩ : ∃ pa : Array Value, pa = pkCells h (.slice a6 n6 c6) (.slice a7 n7 c7) := ⟨_, rfl⟩
    have hpz : pa.size = Z29.size := by rw [hpa]; rfl
    have HZA : Hid ((Try.prog.info? 43).map (·.size) = some pa.size) := by unfold Hid; rw [hpa]; exact size29'
    have HOA : Hid (pa.all (·.oneCell') = true) := by unfold Hid; rw [hpa]; simp [pkCells, Value.oneCell']
    have HTA := hid (new_there (u := w6) (T := 43) hpz)
    have HNA := new_put (u := w6) (T := 43) hpz
    obtain ⟨w7, hw7⟩ : ∃ w7, w7 = (w6.alloc (.cells Z29 43)).setCells w6.heap.size 0 pa.toList := ⟨_, rfl⟩
    rw [← hw7] at HNA
    have HW7 : Hid (w7 = (w6.alloc (.cells #[.int .u8 0, .int .u16 0, .bool false, .bool false, .int .i64 0, .int .u8 0, .int .u8 0, .int .u32 0, .int .u32 0, .slice none 0 0, .slice none 0 0] 43)).setCells w6.heap.size 0 pa.toList) := hw7
    have hb57 : Below w5.heap.size w5 w7 := hb6.trans (HNA.below.mono hb6.size)
    have hb17 : Below w1.heap.size w1 w7 := HB15.out.trans (hb57.mono HB15.out.size)
    have HLA := hid (load_range HNA.range und29 HZA.out)
    obtain ⟨e9, e10⟩ := HCC.out _ hb17
    have HL41 : Hid (∀ u, Below w7.heap.size w7 u → (Instr.loadAt 41 (.pointer (some ⟨w6.heap.size, 0, none⟩))).run Try.prog u = .ok (.agg (hdCells h (.slice a6 n6 c6))) u) := fun u hu => by
      have hr := range_grow HNA.range hu HNA.lt
      rw [hpa] at hr
      exact load_range (range_hd hr) und27 size27
    have HC10 : Hid (∀ u, Below w7.heap.size w7 u → u.cell? ⟨w6.heap.size, 10, none⟩ = some (.slice a7 n7 c7)) := fun u hu => by
      have hr := range_grow HNA.range hu HNA.lt
      have := hr 10 (.slice a7 n7 c7) (by rw [Array.getElem?_toList, hpa]; rfl)
      rwa [Nat.zero_add] at this
    have HBC := hid (lclone_any _ B w7 (HVB.out.below (HBW.out _ hb17)) (by have := HNB.out; omega))
    have HA7 := hid (ha.below HNA.below)
    have HK7 := hid (ka.below HNA.below)
    have HB17 := hid hb17
    rw [← hpa]
    clear hpa hpz hw7 hb6 hb57 hb17 ha ka HPR HNA HLA
    go_upto_region 11 with (first
      | (refine wpList_store_mid rfl 43 (.tmp 10) (.tmp 63) rfl w6.heap.size 0 pa rfl rfl HTA.out HZA.out HOA.out ?_)
      | fail)
    rw [← HW7.out]
    go_wp2_with fail
    refine HBC.out.mono ?_
    rintro _ w8 ⟨v8, rfl, hO8, hb8⟩
    obtain ⟨g8, n8, c8, rfl, HN8, hg8, hnc8, hcm8, hfz8⟩ := hO8.grip hB0
    obtain rfl : n8 = nb := by rw [HN8.out, HNB.out]
    have hs8 := hO8.sees HVB.out.bytes
    obtain ⟨g', off', hgo, hgl8, hcl8⟩ := hs8.atB j hjn
    simp at hgo
    obtain ⟨rfl, rfl⟩ := hgo
    rw [HXJ.out, Nat.zero_add] at hcl8
    have hf8 := hfz8 j
    obtain ⟨hO9, hb9⟩ := hO8.put j y
    obtain ⟨w9, hw9⟩ : ∃ w9, w9 = w8.setCell ⟨g8, j, none⟩ (.int .u8 (y : Int)) := ⟨_, rfl⟩
    rw [← hw9] at hO9 hb9
    have HW9 := hid hw9
    have hs9 := hO9.sees HWB.out
    have hb79 : Below w7.heap.size w7 w9 := hb8.trans hb9
    have hb19 : Below w1.heap.size w1 w9 := HB17.out.trans (hb79.mono HB17.out.size)
    have HLQ := hid (HL41.out _ hb79)
    have HLP := hid (HLH.out _ hb19)
    have HHD : Hid (Calls Try.prog 32 #[.agg (hdCells h (.slice a6 n6 c6)), .agg (hdCells h (.slice ao n cap))] w9 fun e w' => e = .returned (.bool true) ∧ Below w9.heap.size w9 w') := heads_same h _ _ w9 (HA7.out.below hb79) (HVO.out.below (HBW.out _ hb19))
    have HSA : Hid (∀ u, Below w9.heap.size w9 u → Calls Try.prog 15 #[.slice a7 n7 c7, .slice (some ⟨g8, 0, none⟩) n8 c8] u fun e w' => e = .returned (.bool true) ∧ Below u.heap.size u w') := fun u hu => by
      have := same_any (.slice a7 n7 c7) (.slice (some ⟨g8, 0, none⟩) n8 c8) (B.set j y) (B.set j y) u ((HK7.out.below hb79).below hu) (hs9.below hu)
      rw [decide_eq_true rfl] at this
      exact this
    have HC9 : Hid (∀ u, Below w9.heap.size w9 u → u.cell? ⟨w6.heap.size, 10, none⟩ = some (.slice a7 n7 c7)) := fun u hu => HC10.out u (hb79.trans (hu.mono hb79.size))
    have HB19 := hid hb19
    generalize hdCells h (.slice a6 n6 c6) = hq1 at *
    generalize hdCells h (.slice ao n cap) = hq2 at *
    clear hw9 hO8 hO9 hb8 hb9 hs8 hs9 hb79 hb19 HBC hfz8 hgl8 e9 e10
    go_upto_region 18 with fail
    rw [← HW9.out]
    clear hcl8 hf8
    go_wp2_with (first
      | (refine wpList_ld 41 ⟨w6.heap.size, 0, none⟩ (.tmp 105) rfl rfl HLQ.out rfl ?_)
      | (refine wpList_ld 41 ⟨w.heap.size, 0, none⟩ (.tmp 107) rfl rfl HLP.out rfl ?_)
      | fail)
    refine HHD.out.mono ?_
    rintro _ w10 ⟨rfl, hb10⟩
    have e10 := HC9.out _ hb10
    have HS10 := hid (HSA.out _ hb10)
    have HB110 := hid (HB19.out.trans (hb10.mono HB19.out.size))
    clear hb10
    go_wp2_with fail
    refine HS10.out.mono ?_
    rintro _ w11 ⟨rfl, hb11⟩
    go_wp2_with fail
    go_ret
    exact ⟨rfl, HBW.out _ (HB110.out.trans (hb11.mono HB110.out.size))⟩
end Go.Proofs.Ytjjmopmdiflffaa.N
