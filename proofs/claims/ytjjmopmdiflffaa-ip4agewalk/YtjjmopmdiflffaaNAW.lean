import Derived.Test.YtjjmopmdiflffaaNAA
namespace Go.Proofs.Ytjjmopmdiflffaa.N
open Go.ChangeShapes Go.WideShapes Go.ChangeAt Go.RowKit
set_option maxHeartbeats 1000000
set_option maxRecDepth 100000

theorem walk_bad (h : Hd) (vo vb : Value) (B : List Nat) (k : Int) (w : World) (hok : h.Ok) (hvo : SeesB w vo h.opts) (hvb : SeesB w vb B) (hlo : h.opts.length ≤ 140737488355328) (hlb : B.length ≤ 140737488355328) (he : refE h B.length ≠ 0) :
    Calls Try.prog 21 #[.agg (pkCells h vo vb), .int .i64 k] w fun e w' => e = .returned (.bool true) ∧ Below w.heap.size w w' := by
  obtain ⟨w1, hw1⟩ : ∃ w1, w1 = w.alloc (.cells (pkCells h vo vb) 43) := ⟨_, rfl⟩
  have hb1 : Below w.heap.size w w1 := by rw [hw1]; exact (Below.refl _ _).alloc (Nat.le_refl _) _
  have hk1 : w1.heap[w.heap.size]? = some (.cells (pkCells h vo vb) 43) := by rw [hw1]; exact heap_alloc_new w _
  have HBD := hid (build_code h vo vb B w1 hok (hvo.below hb1) (hvb.below hb1) hlo hlb)
  have HL1 := hid (pk_load hk1)
  have HNIL : Hid (builtL h B = []) := by unfold Hid builtL; rw [if_neg he]
  have HW1 := hid hw1
  have HB1 := hid hb1
  generalize refE h B.length = q at *
  have hq : (q != 0) = true := by simp [he]
  generalize pkCells h vo vb = pk at *
  clear hw1 hb1 hk1 hvo hvb he
  go_enter Try.func21, Try.ntmps21
  go_upto_region 1 with fail
  rw [← HW1.out]
  go_wp2_with (first | (refine wpList_ld 43 ⟨w.heap.size, 0, none⟩ (.tmp 2) rfl rfl HL1.out rfl ?_) | fail)
  refine HBD.out.mono ?_
  rintro _ w2 ⟨a1, n1, c1, rfl, h1, hb2⟩
  rw [HNIL.out] at h1
  obtain rfl : n1 = 0 := by
    obtain ⟨_, _, hv, _⟩ := h1
    simp at hv; exact hv.2.1
  clear h1
  go_wp2_with fail
  go_ret
  exact ⟨rfl, HB1.out.trans (hb2.mono HB1.out.size)⟩

set_option maxHeartbeats 2000000 in
theorem walk_good (h : Hd) (vo vb : Value) (B : List Nat) (N : Nat) (w : World) (hok : h.Ok) (hvo : SeesB w vo h.opts) (hvb : SeesB w vb B) (hN : N ≤ 300) (he : refE h B.length = 0) :
    Calls Try.prog 21 #[.agg (pkCells h vo vb), .int .i64 (N : Int)] w fun e w' => e = .returned (.bool true) ∧ Below w.heap.size w w' := by
  obtain ⟨r1, r2, r3⟩ := refE_ok he
  obtain ⟨w1, hw1⟩ : ∃ w1, w1 = w.alloc (.cells (pkCells h vo vb) 43) := ⟨_, rfl⟩
  have hb1 : Below w.heap.size w w1 := by rw [hw1]; exact (Below.refl _ _).alloc (Nat.le_refl _) _
  have hs1 : w1.heap.size = w.heap.size + 1 := by rw [hw1]; simp
  have hrow1 : w1.heap[w.heap.size]? = some (.cells (pkCells h vo vb) 43 (0, 0)) := by rw [hw1]; exact heap_alloc_new w _
  have HBD := build_code h vo vb B w1 hok (hvo.below hb1) (hvb.below hb1) (by omega) (by omega)
  rw [he] at HBD
  have HBD := hid HBD
  have HLEN : Hid (∀ t, t < 256 → (builtL (h.withTTL t) B).length ≤ 65535 ∧ (builtL (h.withTTL t) B) ≠ [] ∧ ∀ x ∈ builtL (h.withTTL t) B, x < 256) := fun t ht => by
    obtain ⟨_, x2, _, _⟩ := parse_built (h.withTTL t) B [] (withTTL_ok hok ht) he true
    have x2' : (builtL (h.withTTL t) B).length = 20 + h.opts.length + B.length := x2
    refine ⟨by omega, fun e => ?_, built_bytes (withTTL_ok hok ht) hvo.bytes hvb.bytes⟩
    rw [e] at x2'; simp at x2'; omega
  -- the calls, by the time to live
  have HAGE : Hid (∀ (u : World) (a : Value) (t x : Nat), t < 256 → SeesB u a (builtL (h.withTTL t) B ++ [x]) → Calls Try.prog 33 #[a] u fun e w' => ∃ ao n cap, e = .returned (.tuple #[.slice ao n cap, .int .i64 (if t < 2 then 35 else 0)]) ∧ SeesB w' (.slice ao n cap) (if t < 2 then [] else builtL (h.withTTL (t - 1)) B) ∧ (∀ a, ao = some a → u.heap.size ≤ a.block) ∧ Below u.heap.size u w') := fun u a t x ht hs =>
    age_built (h.withTTL t) a B [x] u (withTTL_ok hok ht) he hs (by simp)
  have HBT : Hid (∀ (u : World) (t : Nat), t < 256 → Below w.heap.size w u → Calls Try.prog 16 #[.agg (pkCells (h.withTTL t) vo vb)] u fun e w' => ∃ ao n cap, e = .returned (.tuple #[.slice ao n cap, .int .i64 0]) ∧ SeesB w' (.slice ao n cap) (builtL (h.withTTL t) B) ∧ Below u.heap.size u w') := fun u t ht hu => by
    have hv1 : SeesB u vo (h.withTTL t).opts := hvo.below hu
    have := build_code (h.withTTL t) vo vb B u (withTTL_ok hok ht) hv1 (hvb.below hu) (by show h.opts.length ≤ _; omega) (by omega)
    rw [show refE (h.withTTL t) B.length = 0 from he] at this
    exact this
  have HPC : Hid (∀ (u : World) (a : Value) (t : Nat), t < 256 → SeesB u a (builtL (h.withTTL t) B) → Calls Try.prog 30 #[a] u fun e w' => ∃ va xa, e = .returned (.tuple #[.agg (pkCells (h.withTTL t) va xa), .int .i64 0]) ∧ SeesB w' va h.opts ∧ SeesB w' xa B ∧ Below u.heap.size u w') := fun u a t ht hs => by
    have hp := parsed_built (h.withTTL t) B [] (withTTL_ok hok ht) he
    rw [List.append_nil] at hp
    have := parse_code a _ u hs (by have := (HLEN.out t ht).1; omega)
    rw [hp] at this
    exact this
  have HPK : Hid (∀ (u : World) (t : Nat) (va xa : Value), Below w.heap.size w u → SeesB u va h.opts → SeesB u xa B → Calls Try.prog 31 #[.agg (pkCells (h.withTTL t) vo vb), .agg (pkCells (h.withTTL t) va xa)] u fun e w' => e = .returned (.bool true) ∧ Below u.heap.size u w') := fun u t va xa hu h1 h2 =>
    packets_same (h.withTTL t) B vo va vb xa u (hvo.below hu) h1 (hvb.below hu) h2
  obtain ⟨ao, n, cap, rfl, _, hn1, hn2⟩ := hvo.shape
  obtain ⟨ab, nb, capb, rfl, _, hnb1, hnb2⟩ := hvb.shape
  obtain ⟨t0, ht0, ht256⟩ : ∃ t0, t0 = h.ttl ∧ t0 < 256 := ⟨_, rfl, hok.ttl⟩
  have hself : h = h.withTTL t0 := by rw [ht0]; rfl
  have HL1 := hid (pk_load hrow1)
  rw [hself] at hrow1
  have HROW1 := hid hrow1
  have HSELF : Hid (builtL h B = builtL (h.withTTL t0) B) := by unfold Hid; rw [← hself]
  have HBW : Hid (∀ u, Below w1.heap.size w1 u → Below w.heap.size w u) := fun u hu => hb1.trans (hu.mono hb1.size)
  have HW1 := hid hw1
  have HS1 := hid hs1
  rw [HSELF.out] at HBD
  generalize hpk : pkCells h (.slice ao n cap) (.slice ab nb capb) = pk at *
  clear hw1 hb1 hs1 hvo hvb he r1 r2 r3 hok hself hrow1 ht0 hpk HSELF
  go_enter Try.func21, Try.ntmps21
  go_upto_region 1 with fail
  rw [← HW1.out]
  go_wp2_with (first | (refine wpList_ld 43 ⟨w.heap.size, 0, none⟩ (.tmp 2) rfl rfl HL1.out rfl ?_) | fail)
  refine HBD.out.mono ?_
  rintro _ w2 ⟨a1, n1, c1, rfl, h1, hb2⟩
  have HR2 : Hid (w2.heap[w.heap.size]? = some (.cells (pkCells (h.withTTL t0) (.slice ao n cap) (.slice ab nb capb)) 43 (0, 0))) := by
    unfold Hid; rw [hb2.block _ (by have := HS1.out; omega)]; exact HROW1.out
  have HS2 := hid h1
  have HB2 := hid (HBW.out _ hb2)
  have HLT : Hid (w.heap.size < w2.heap.size) := by have := hb2.size; have := HS1.out; unfold Hid; omega
  clear h1 hb2 HL1 HBD HROW1 HS1 HBW HW1
  go_wp2_with fail
  go_loopw [5, 7] (fun b i wv => ∃ (t k : Nat) (wr : World), wr = wv ∧ i = .int .i64 k ∧ k ≤ N ∧ t < 256 ∧ Hid (SeesB wr b (builtL (h.withTTL t) B)) ∧ Hid (wr.heap[w.heap.size]? = some (.cells (pkCells (h.withTTL t) (.slice ao n cap) (.slice ab nb capb)) 43 (0, 0))) ∧ Hid (w.heap.size < wr.heap.size) ∧ Hid (Below w.heap.size w wr)) (fun _ i _ => N - (intOf i).toNat)
  case atStart => exact ⟨t0, 0, _, rfl, rfl, by omega, ht256, HS2, HR2, HLT, HB2⟩
  case round =>
    clear HS2 HR2 HB2 HLT
    obtain ⟨t, k, u, rfl, rfl, hk, ht, HS, HR, HLT, HBB⟩ := hrel
    obtain ⟨a2, n2, c2, rfl, _, _, _⟩ := HS.out.shape
    by_cases hlt : k < N
    · obtain ⟨hl1, hl2, hl3⟩ := HLEN.out t ht
      have HCA := hid (lclone_any _ _ _ HS.out (by omega))
      have HBY : Hid (∀ x ∈ builtL (h.withTTL t) B, x < 256) := hl3
      obtain ⟨x, hx⟩ : ∃ x, x = k % 256 := ⟨_, rfl⟩
      have hx256 : x < 256 := by omega
      have ex : (k : Int) % 256 = (x : Int) := by omega
      clear hl2 hl3 hx
      go_wp2_with fail
      refine HCA.out.mono ?_
      rintro _ w4 ⟨v4, rfl, hO4, hb4⟩
      have hs4 := hO4.sees HBY.out
      obtain ⟨a4, n4, c4, rfl, _, _, _⟩ := hs4.shape
      have HO4 := hid hO4
      have HB4 := hid hb4
      clear hO4 hb4 hs4 HCA
      go_wp2_with (at_builtin; refine wpList_append_bytes rfl _ _ rfl u.heap.size _ _ rfl (HO4.out.alloc _) _ [x] rfl (sees_one rfl x hx256 _) ?c1 ?c2 ?_)
      case c1 => simp only [List.length_cons, List.length_nil]; omega
      case c2 => have := HB4.out.size; simp; omega
      intro v5 w5 hO5 hb5
      have hs5 := hO5.sees (fun y hy => by
        rcases List.mem_append.1 hy with hy | hy
        · exact HBY.out y hy
        · rw [List.mem_singleton.1 hy]; exact hx256)
      obtain ⟨a5, n5, c5, rfl, _, _, _⟩ := hs5.shape
      have hbu5 : Below u.heap.size u w5 := (HB4.out.alloc HB4.out.size _).trans hb5
      have HAG := HAGE.out w5 _ t x ht hs5
      have HBU5 := hid hbu5
      clear hO5 hb5 hs5 hbu5 HO4 HB4
      by_cases h2 : t < 2
      · rw [if_pos h2, if_pos h2] at HAG
        have HAG := hid HAG
        go_wp2_with fail
        refine HAG.out.mono ?_
        rintro _ w6 ⟨a6, n6, c6, rfl, hs6, _, hb6⟩
        obtain rfl : n6 = 0 := by
          obtain ⟨_, _, hv, _⟩ := hs6
          simp at hv; exact hv.2.1
        have hbu6 : Below u.heap.size u w6 := HBU5.out.trans (hb6.mono HBU5.out.size)
        have hrow6 : w6.heap[w.heap.size]? = some (.cells (pkCells (h.withTTL t) (.slice ao n cap) (.slice ab nb capb)) 43 (0, 0)) := (hbu6.block _ HLT.out).trans HR.out
        have e5 : w6.cell? ⟨w.heap.size, 5, none⟩ = some (.int .u8 (t : Int)) := pk_at hrow6 5 (by omega)
        have HB6 := hid (HBB.out.trans (hbu6.mono HBB.out.size))
        clear hs6 hb6 hbu6 hrow6
        go_wp2_with fail
        go_ret
        exact ⟨rfl, HB6.out⟩
      · rw [if_neg h2, if_neg h2] at HAG
        have HAG := hid HAG
        go_wp2_with fail
        refine HAG.out.mono ?_
        rintro _ w6 ⟨a6, n6, c6, rfl, hs6, hfr, hb6⟩
        have hbu6 : Below u.heap.size u w6 := HBU5.out.trans (hb6.mono HBU5.out.size)
        have hrow6 : w6.heap[w.heap.size]? = some (.cells (pkCells (h.withTTL t) (.slice ao n cap) (.slice ab nb capb)) 43 (0, 0)) := (hbu6.block _ HLT.out).trans HR.out
        have e5 : w6.cell? ⟨w.heap.size, 5, none⟩ = some (.int .u8 (t : Int)) := pk_at hrow6 5 (by omega)
        have f5 : w6.frozen? ⟨w.heap.size, 5, none⟩ = false := frozen_of_row _ _ _ _ _ hrow6
        have hb06 := HBB.out.trans (hbu6.mono HBB.out.size)
        have hv8 : ((t : Int) - 1) = ((t - 1 : Nat) : Int) := by omega
        have HV8 := hid hv8
        have hs7 : SeesB (w6.setCell ⟨w.heap.size, 5, none⟩ (.int .u8 ((t - 1 : Nat) : Int))) (.slice a6 n6 c6) (builtL (h.withTTL (t - 1)) B) := hs6.setNe (fun a n c e => by
          cases e
          have h1 := hfr _ rfl
          have h2 := HBU5.out.size
          have h3 := HLT.out
          omega)
        have hrow7 := row_ttl (t := t - 1) hrow6
        have hb07 : Below w.heap.size w (w6.setCell ⟨w.heap.size, 5, none⟩ (.int .u8 ((t - 1 : Nat) : Int))) := hb06.setCell (p := ⟨w.heap.size, 5, none⟩) (Nat.le_refl _) _
        have hlt7 : w.heap.size < (w6.setCell ⟨w.heap.size, 5, none⟩ (.int .u8 ((t - 1 : Nat) : Int))).heap.size := by
          have h1 := hbu6.size
          have h2 := HLT.out
          simp [World.setCell]
          omega
        obtain ⟨w7, hw7⟩ : ∃ w7, w7 = w6.setCell ⟨w.heap.size, 5, none⟩ (.int .u8 ((t - 1 : Nat) : Int)) := ⟨_, rfl⟩
        rw [← hw7] at hs7 hrow7 hb07 hlt7
        have HW7 := hid hw7
        obtain ⟨s, hs⟩ : ∃ s, s = t - 1 := ⟨_, rfl⟩
        have hrow7 : w7.heap[w.heap.size]? = some (.cells (pkCells (h.withTTL s) (.slice ao n cap) (.slice ab nb capb)) 43 (0, 0)) := by rw [hs]; exact hrow7
        rw [← hs] at hs7
        have hs256 : s < 256 := by omega
        obtain ⟨pk7, hpk7⟩ : ∃ pk7 : Array Value, pk7 = pkCells (h.withTTL s) (.slice ao n cap) (.slice ab nb capb) := ⟨_, rfl⟩
        have HBD7 := HBT.out w7 s hs256 hb07
        rw [← hpk7] at HBD7
        have HBD7 := hid HBD7
        have HLD : Hid (∀ v, Below w7.heap.size w7 v → (Instr.loadAt 43 (.pointer (some ⟨w.heap.size, 0, none⟩))).run Try.prog v = .ok (.agg pk7) v) := fun v hv => by
          rw [hpk7]; exact pk_load ((hv.block _ hlt7).trans hrow7)
        have HROW : Hid (∀ v, Below w7.heap.size w7 v → v.heap[w.heap.size]? = some (.cells (pkCells (h.withTTL s) (.slice ao n cap) (.slice ab nb capb)) 43 (0, 0))) := fun v hv => (hv.block _ hlt7).trans hrow7
        have HL7 := hid (HLD.out w7 (Below.refl _ _))
        have HS7 := hid hs7
        have HB07 := hid hb07
        have HLT7 := hid hlt7
        have HPK7 := hid hpk7
        clear hs6 hb6 hbu6 hrow6 hb06 hs7 hrow7 hb07 hlt7 hw7 hs hpk7 hfr hv8 HAG HS HR HLT HBB HBU5
        go_upto_region 11 with fail
        rw [HV8.out, ← HW7.out]
        clear e5 f5
        go_wp2_with (first | (refine wpList_ld 43 ⟨w.heap.size, 0, none⟩ (.tmp 2) rfl rfl HL7.out rfl ?_) | fail)
        refine HBD7.out.mono ?_
        rintro _ w8 ⟨a8, n8, c8, rfl, hs8, hb8⟩
        have HPR := hid (HPC.out w8 _ s hs256 (HS7.out.below hb8))
        have HS8 := hid hs8
        have HB8 := hid hb8
        clear hs8 hb8 HBD7 HL7
        go_wp2_with fail
        refine HPR.out.mono ?_
        rintro _ w9 ⟨va, xa, rfl, ha, ka, hb9⟩
        obtain ⟨a9, n9, c9, rfl, _, _, _⟩ := ha.shape
        obtain ⟨a10, n10, c10, rfl, _, _, _⟩ := ka.shape
        obtain ⟨pa, hpa⟩ : ∃ pa : Array Value, pa = pkCells (h.withTTL s) (.slice a9 n9 c9) (.slice a10 n10 c10) := ⟨_, rfl⟩
        have hpz : pa.size = Z29.size := by rw [hpa]; rfl
        have HZA : Hid ((Try.prog.info? 43).map (·.size) = some pa.size) := by unfold Hid; rw [hpa]; exact size29'
        have HOA : Hid (pa.all (·.oneCell') = true) := by unfold Hid; rw [hpa]; simp [pkCells, Value.oneCell']
        have HTA := hid (new_there (u := w9) (T := 43) hpz)
        have HNA := new_put (u := w9) (T := 43) hpz
        obtain ⟨w10, hw10⟩ : ∃ w10, w10 = (w9.alloc (.cells Z29 43)).setCells w9.heap.size 0 pa.toList := ⟨_, rfl⟩
        rw [← hw10] at HNA
        have HW10 : Hid (w10 = (w9.alloc (.cells #[.int .u8 0, .int .u16 0, .bool false, .bool false, .int .i64 0, .int .u8 0, .int .u8 0, .int .u32 0, .int .u32 0, .slice none 0 0, .slice none 0 0] 43)).setCells w9.heap.size 0 pa.toList) := hw10
        have hb89 : Below w8.heap.size w8 w10 := hb9.trans (HNA.below.mono hb9.size)
        have hb710 : Below w7.heap.size w7 w10 := HB8.out.trans (hb89.mono HB8.out.size)
        have HSA := same_any (.slice a6 n6 c6) (.slice a8 n8 c8) _ _ w10 (HS7.out.below hb710) (HS8.out.below hb89)
        rw [decide_eq_true rfl] at HSA
        have HSA := hid HSA
        have HLQ : Hid (∀ v, Below w10.heap.size w10 v → (Instr.loadAt 43 (.pointer (some ⟨w9.heap.size, 0, none⟩))).run Try.prog v = .ok (.agg pa) v) := fun v hv => load_range (range_grow HNA.range hv HNA.lt) und29 HZA.out
        have HPKT : Hid (∀ v, Below w10.heap.size w10 v → Calls Try.prog 31 #[.agg pk7, .agg pa] v fun e w' => e = .returned (.bool true) ∧ Below v.heap.size v w') := fun v hv => by
          rw [hpa, HPK7.out]
          have h1 := hb710.trans (hv.mono hb710.size)
          exact HPK.out v s _ _ (HB07.out.trans (h1.mono HB07.out.size)) ((ha.below HNA.below).below hv) ((ka.below HNA.below).below hv)
        have HB710 := hid hb710
        rw [← hpa]
        clear hpa hpz hw10 hb9 hb89 hb710 ha ka HPR HNA
        go_upto_region 13 with (first
          | (refine wpList_store_mid rfl 43 (.tmp 12) (.tmp 64) rfl w9.heap.size 0 pa rfl rfl HTA.out HZA.out HOA.out ?_)
          | fail)
        rw [← HW10.out]
        go_wp2_with fail
        refine HSA.out.mono ?_
        rintro _ w11 ⟨rfl, hb11⟩
        have HB711 := hid (HB710.out.trans (hb11.mono HB710.out.size))
        have HLP11 := hid (HLD.out _ HB711.out)
        have HLQ11 := hid (HLQ.out _ hb11)
        have HPK11 := hid (HPKT.out _ hb11)
        clear hb11 HSA
        go_wp2_with (first
          | (refine wpList_ld 43 ⟨w.heap.size, 0, none⟩ (.tmp 2) rfl rfl HLP11.out rfl ?_)
          | (refine wpList_ld 43 ⟨w9.heap.size, 0, none⟩ (.tmp 12) rfl rfl HLQ11.out rfl ?_)
          | fail)
        refine HPK11.out.mono ?_
        rintro _ w12 ⟨rfl, hb12⟩
        have hb712 := HB711.out.trans (hb12.mono HB711.out.size)
        have HS12 := hid (HS7.out.below hb712)
        have HR12 := hid (HROW.out _ hb712)
        have HLT12 : Hid (w.heap.size < w12.heap.size) := Nat.lt_of_lt_of_le HLT7.out hb712.size
        have HB12 := hid (HB07.out.trans (hb712.mono HB07.out.size))
        clear hb12 hb712
        go_wp2_with fail
        go_roundw
        case rel => exact ⟨s, k + 1, _, rfl, by go_num, by omega, hs256, HS12, HR12, HLT12, HB12⟩
        case measure => simp [intOf]; omega
    · go_wp2_with fail
      go_ret
      exact ⟨rfl, HBB.out⟩
end Go.Proofs.Ytjjmopmdiflffaa.N
