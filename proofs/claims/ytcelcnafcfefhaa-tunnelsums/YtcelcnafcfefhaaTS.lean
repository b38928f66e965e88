/-
  TunnelSums: the walk.
-/
import Derived.Test.YtcelcnafcfefhaaTG
import Derived.Test.YtcelcnafcfefhaaTI
import Derived.RegionTactic
import Derived.ChangeAlike
import Derived.Laws.BitsAllLaws
namespace Go.Proofs.Ytcelcnafcfefhaa.N
open Go.ChangeShapes Go.WideShapes Go.ChangeAt Go.RowKit
set_option maxHeartbeats 8000000
set_option maxRecDepth 100000

theorem xor8 {x q : Nat} (hx : x < 256) (hq : q < 8) : ∃ y : Nat, bits .xor .u8 (x : Int) ((2 ^ q : Nat) : Int) = (y : Int) ∧ y < 256 ∧ (y = x + 2 ^ q ∨ x = y + 2 ^ q) := by
  obtain ⟨h1, h2⟩ := Tn.xor_fin ⟨x, hx⟩ ⟨q, hq⟩
  have h8 : 2 ^ q < 256 := Nat.pow_lt_pow_right (by omega) (show q < 8 from hq)
  exact ⟨x ^^^ 2 ^ q, u8_xor_nat x (2 ^ q) hx h8, h2, h1⟩

theorem pow8 {q : Nat} (hq : q < 8) : (2 : Int) ^ q % 256 = ((2 ^ q : Nat) : Int) ∧ 2 ^ q < 256 := by
  match q, hq with
  | 0, _ => decide
  | 1, _ => decide
  | 2, _ => decide
  | 3, _ => decide
  | 4, _ => decide
  | 5, _ => decide
  | 6, _ => decide
  | 7, _ => decide

theorem pow32 {q : Nat} (hq : q < 32) : (2 : Int) ^ q % 4294967296 = ((2 ^ q : Nat) : Int) ∧ 2 ^ q < 4294967296 := by
  have h : 2 ^ q < 2 ^ 32 := Nat.pow_lt_pow_right (by omega) hq
  have h2 : (2 : Int) ^ q = ((2 ^ q : Nat) : Int) := (Int.natCast_pow 2 q).symm
  refine ⟨?_, h⟩
  rw [h2]
  exact Int.emod_eq_of_lt (Int.natCast_nonneg _) (Int.ofNat_lt.2 h)

theorem builtU_bytes {src dst : Nat} {x : Tn.Dg} {sum : Bool} (hb : ∀ y ∈ x.B, y < 256) : ∀ y ∈ Tn.builtU src dst x sum, y < 256 := fun y hy => by
  have hS : (if sum then Tn.usum src dst x else 0) < 65536 := by
    split
    · exact (Tn.usum_lt src dst x).1
    · omega
  unfold Tn.builtU at hy
  generalize (if sum then Tn.usum src dst x else 0) = S at *
  simp only [Tn.udp, List.mem_cons] at hy
  rcases hy with rfl | rfl | rfl | rfl | rfl | rfl | rfl | rfl | hy
  · omega
  · omega
  · omega
  · omega
  · omega
  · omega
  · omega
  · omega
  · exact hb y hy

theorem blk_sees {w : World} {g n : Nat} {X : List Nat} (h : Blk w g X) (hl : X.length = n) (hn : n ≤ 65535) (hb : ∀ x ∈ X, x < 256) : SeesB w (.slice (some ⟨g, 0, none⟩) n n) X := sees_blk h hl (by omega) hb

theorem tunnelSums_walk (src dst : Nat) (x : Tn.Dg) (vb : Value) (at_ bit : Int) (w : World) (hs : src < 4294967296) (hd : dst < 4294967296) (hx : x.Ok) (hvb : SeesB w vb x.B) (hat : -9223372036854775808 ≤ at_ ∧ at_ ≤ 9223372036854775807) (hbit : -9223372036854775808 ≤ bit ∧ bit ≤ 9223372036854775807) :
    Calls Try.prog 3 #[.int .u32 (src : Int), .int .u32 (dst : Int), .agg (dgCells x vb), .int .i64 at_, .int .i64 bit] w fun e w' => e = .returned (.bool true) ∧ Below w.heap.size w w' := by
  obtain ⟨ab, nb, capb, rfl, HNB, hnb1, hnb2⟩ := hvb.shape
  unfold maxLen at hnb2
  obtain ⟨w1, hw1⟩ : ∃ w1, w1 = w.alloc (.cells (dgCells x (.slice ab nb capb)) 27) := ⟨_, rfl⟩
  have hs1 : w1.heap.size = w.heap.size + 1 := by rw [hw1]; simp
  have hb1 : Below w.heap.size w w1 := by rw [hw1]; exact (Below.refl _ _).alloc (Nat.le_refl _) _
  have hr1 : w1.heap[w.heap.size]? = some (.cells (dgCells x (.slice ab nb capb)) 27 (0, 0)) := by rw [hw1]; exact heap_alloc_new w _
  have HC : Hid (∀ u, Below w1.heap.size w1 u → u.cell? ⟨w.heap.size, 0, none⟩ = some (.int .u16 (x.s : Int)) ∧ u.cell? ⟨w.heap.size, 1, none⟩ = some (.int .u16 (x.d : Int)) ∧ u.cell? ⟨w.heap.size, 2, none⟩ = some (.slice ab nb capb)) := fun u hu => dg_at ((hu.block _ (by omega)).trans hr1)
  have hi3 : (Try.prog.info? 27).map (·.size) = some 3 := by kernel_rfl
  obtain ⟨dg, hdg⟩ : ∃ dg, dg = dgCells x (.slice ab nb capb) := ⟨_, rfl⟩
  have HLD : Hid (∀ u, Below w1.heap.size w1 u → (Instr.loadAt 27 (.pointer (some ⟨w.heap.size, 0, none⟩))).run Try.prog u = .ok (.agg dg) u) := fun u hu => by
    rw [hdg]
    exact load_rowAt ((hu.block _ (by omega)).trans hr1) Try.underlying27 rfl (by exact hi3)
  have HV1 := hid (hvb.below hb1)
  have HBY := hid hvb.bytes
  have HBE := hid (begun_any w1)
  have HW1 : Hid (w1 = w.alloc (.cells dg 27)) := by unfold Hid; rw [hdg]; exact hw1
  have HB1 := hid hb1
  have HI3 := hid hi3
  have HS1 := hid hs1
  obtain ⟨c0, c1, c2⟩ := HC.out _ (Below.refl _ _)
  rw [← hdg]
  have HDG := hid hdg
  clear hw1 hb1 hr1 hs1 hvb hi3 hdg
  by_cases hbad : 65527 < nb ∨ at_ < 0 ∨ bit < 0 ∨ 31 < bit
  · as_aux_lemma =>
    go_enter Try.func3, Try.ntmps3
    go_upto_region 1 with fail
    rw [← HW1.out]
    go_wp2_with fail
    refine HBE.out.mono ?_
    rintro _ w2 ⟨rfl, hb2⟩
    obtain ⟨d0, d1, d2⟩ := HC.out _ hb2
    have HF := hid (HB1.out.trans (hb2.mono HB1.out.size))
    clear hb2 c0 c1 c2
    by_cases h1 : 65527 < nb
    · have h1' : (65527 : Int) < (nb : Int) := by omega
      go_wp2_with fail
      go_ret
      exact ⟨rfl, HF.out⟩
    have h1' : ¬ (65527 : Int) < (nb : Int) := by omega
    by_cases h2 : at_ < 0
    · go_wp2_with fail
      go_ret
      exact ⟨rfl, HF.out⟩
    by_cases h3 : bit < 0
    · go_wp2_with fail
      go_ret
      exact ⟨rfl, HF.out⟩
    have h4 : 31 < bit := by omega
    go_wp2_with fail
    go_ret
    exact ⟨rfl, HF.out⟩
  have hnb : nb ≤ 65527 := by omega
  obtain ⟨K, hK⟩ : ∃ K : Nat, at_ = (K : Int) := ⟨at_.toNat, by omega⟩
  obtain ⟨q, hq⟩ : ∃ q : Nat, bit = (q : Int) := ⟨bit.toNat, by omega⟩
  subst hK
  subst hq
  have hq31 : q < 32 := by omega
  obtain ⟨n, hn⟩ : ∃ n, n = 8 + nb := ⟨_, rfl⟩
  have hn2 : (8 : Int) + (nb : Int) = (n : Int) := by omega
  have hn16 : n ≤ 65535 := by omega
  have hn8 : 8 ≤ n := by omega
  have hxl : x.B.length ≤ 65527 := by rw [← HNB.out]; exact hnb
  have hbe : Tn.buE x = 0 := by unfold Tn.buE; rw [if_neg (by omega)]
  have hbl : ∀ sum, Tn.buL src dst x sum = Tn.builtU src dst x sum := fun sum => by unfold Tn.buL; rw [if_neg (by omega)]
  have hlen : ∀ sum, (Tn.builtU src dst x sum).length = n := fun sum => by unfold Tn.builtU; rw [Tn.udp_len, ← HNB.out, hn]
  have HBU : Hid (∀ (sum : Bool) (u : World), Below w1.heap.size w1 u → Calls Try.prog 10 #[.int .u32 (src : Int), .int .u32 (dst : Int), .agg dg, .bool sum] u fun e w' => ∃ g, e = .returned (.tuple #[.slice (some ⟨g, 0, none⟩) n n, .int .i64 0]) ∧ Blk w' g (Tn.builtU src dst x sum) ∧ u.heap.size ≤ g ∧ Below u.heap.size u w') := fun sum u hu => by
    rw [HDG.out]
    refine (buildU_any x _ src dst sum u hx (HV1.out.below hu) hs hd).mono ?_
    rintro e w' ⟨ao, m, cap, rfl, hsee, hg, hb⟩
    obtain ⟨g, rfl, rfl, hB, hgs⟩ := hg hbe
    rw [hbl] at hB hsee
    have hm : cap = n := by
      obtain ⟨_, _, hv, _⟩ := hsee
      simp at hv
      rw [hv.2.1, hlen]
    subst hm
    exact ⟨g, by rw [hbe], hB, hgs, hb⟩
  have HPA : Hid (∀ (s' d' : Nat) (L : List Nat) (v : Value) (u : World), s' < 4294967296 → d' < 4294967296 → SeesB u v L → Calls Try.prog 11 #[.int .u32 (s' : Int), .int .u32 (d' : Int), v] u fun e w' => ∃ a m c, e = .returned (.tuple #[.agg (dgCells (Tn.puD s' d' L) (.slice a m c)), .int .i64 (Tn.puE s' d' L)]) ∧ SeesB w' (.slice a m c) (Tn.puD s' d' L).B ∧ Below u.heap.size u w') := fun s' d' L v u h1 h2 hv => by
    refine (parseU_any v L s' d' u hv h1 h2).mono ?_
    rintro e w' ⟨a, m, c, rfl, h3, _, h4⟩
    exact ⟨a, m, c, rfl, h3, h4⟩
  obtain ⟨hp32, hm32⟩ := pow32 hq31
  have hxs : bits .xor .u32 (src : Int) ((2 ^ q : Nat) : Int) = ((src ^^^ 2 ^ q : Nat) : Int) := u32_xor_nat src (2 ^ q) hs hm32
  have hxd : bits .xor .u32 (dst : Int) ((2 ^ q : Nat) : Int) = ((dst ^^^ 2 ^ q : Nat) : Int) := u32_xor_nat dst (2 ^ q) hd hm32
  have hs' : src ^^^ 2 ^ q < 4294967296 := Nat.xor_lt_two_pow (n := 32) hs hm32
  have hd' : dst ^^^ 2 ^ q < 4294967296 := Nat.xor_lt_two_pow (n := 32) hd hm32
  have hpe := Tn.puE_built src dst x hx hxl
  have HPD := hid (Tn.puD_built src dst src dst x true hx hxl hpe)
  have HPE := hid hpe
  obtain ⟨hbs, hbd⟩ := Tn.puE_src src dst q x hx hxl hq31
  have HBS := hid hbs
  have HBD := hid hbd
  have hpp := Tn.puE_plain src dst (dst ^^^ 2 ^ q) src x hx hxl
  have HPP := hid hpp
  have HPQ := hid (Tn.puD_built src dst (dst ^^^ 2 ^ q) src x false hx hxl hpp)
  have HBB : Hid (∀ sum, ∀ y ∈ Tn.builtU src dst x sum, y < 256) := fun sum => builtU_bytes HBY.out
  have HLN := hid hlen
  have HCS := hid (Tn.csum_built src dst x)
  obtain ⟨kk, hkk⟩ : ∃ kk, kk = K % n := ⟨_, rfl⟩
  have hkl : kk < n := by rw [hkk]; exact Nat.mod_lt _ (by omega)
  have e1 : (K : Int) % (n : Int) = (kk : Int) := by rw [hkk]; simp
  have e1' : (K : Int).tmod (n : Int) = (kk : Int) := by rw [hkk]; rfl
  obtain ⟨q8, hq8⟩ : ∃ q8, q8 = q % 8 := ⟨_, rfl⟩
  have hq8l : q8 < 8 := by omega
  have e2 : (q : Int) % 8 = (q8 : Int) := by omega
  have e2' : (q : Int).tmod 8 = (q8 : Int) := by rw [hq8]; rfl
  obtain ⟨hp8, hm8⟩ := pow8 hq8l
  have HNUM : Hid (Tn.num2 (Tn.builtU src dst x true) 4 = n ∧ Tn.num2 (Tn.builtU src dst x true) 6 ≠ 0) := by
    unfold Hid
    rw [Tn.built_sum]
    obtain ⟨_, _, h3, h4⟩ := Tn.num_udp hx (8 + x.B.length) (Tn.usum src dst x) (by omega)
    rw [h3, h4]
    exact ⟨by rw [← HNB.out, hn], (Tn.usum_lt src dst x).2⟩
  have HFL : Hid (∀ y : Nat, kk ≠ 4 → kk ≠ 5 → (y = byt (Tn.builtU src dst x true) kk + 2 ^ q8 ∨ byt (Tn.builtU src dst x true) kk = y + 2 ^ q8) → Tn.num2 ((Tn.builtU src dst x true).set kk y) 6 ≠ 0 → Tn.puE src dst ((Tn.builtU src dst x true).set kk y) = 73) := fun y h4 h5 hy h6 => by
    refine Tn.flip_body src dst (Tn.builtU src dst x true) kk _ y (2 ^ q8) (by rw [hlen]; exact hn16) (by rw [hlen]; exact hn8) (by rw [HNUM.out.1, hlen]) (by rw [hlen]; exact hkl) h4 h5 rfl (Tn.isBit_pow hq8l) hy ?_ h6
    rw [hlen, hn, HNB.out]
    exact HCS.out
  have HX := hid (And.intro hs' hd')
  obtain ⟨s', hsv⟩ : ∃ s', s' = src ^^^ 2 ^ q := ⟨_, rfl⟩
  obtain ⟨d', hdv⟩ : ∃ d', d' = dst ^^^ 2 ^ q := ⟨_, rfl⟩
  rw [← hsv] at hxs hs' HBS
  rw [← hdv] at hxd hd' HBD HPP HPQ
  obtain ⟨m32, hm32e⟩ : ∃ m : Nat, m = 2 ^ q := ⟨_, rfl⟩
  rw [← hm32e] at hp32 hxs hxd hm32
  have HM8 : Hid (∃ m8 : Nat, m8 = 2 ^ q8) := ⟨_, rfl⟩
  clear hbad hbe hbl hlen hpe hbs hbd hpp hkk hq8 hsv hdv hm32e hn hx hxl
  generalize hBT : Tn.builtU src dst x true = BT at *
  generalize hBF : Tn.builtU src dst x false = BF at *
  have HBT := hid hBT
  have HBF := hid hBF
  have hBUT : ∀ u, Below w1.heap.size w1 u → Calls Try.prog 10 #[.int .u32 (src : Int), .int .u32 (dst : Int), .agg dg, .bool true] u fun e w' => ∃ g, e = .returned (.tuple #[.slice (some ⟨g, 0, none⟩) n n, .int .i64 0]) ∧ Blk w' g BT ∧ u.heap.size ≤ g ∧ Below u.heap.size u w' := fun u hu => by rw [← HBT.out]; exact HBU.out true u hu
  have hBUF : ∀ u, Below w1.heap.size w1 u → Calls Try.prog 10 #[.int .u32 (src : Int), .int .u32 (dst : Int), .agg dg, .bool false] u fun e w' => ∃ g, e = .returned (.tuple #[.slice (some ⟨g, 0, none⟩) n n, .int .i64 0]) ∧ Blk w' g BF ∧ u.heap.size ≤ g ∧ Below u.heap.size u w' := fun u hu => by rw [← HBF.out]; exact HBU.out false u hu
  have HBUT := hid hBUT
  have HBUF := hid hBUF
  have HBBT : Hid (∀ y ∈ BT, y < 256) := by unfold Hid; rw [← HBT.out]; exact HBB.out true
  have HBBF : Hid (∀ y ∈ BF, y < 256) := by unfold Hid; rw [← HBF.out]; exact HBB.out false
  have HLNT : Hid (BT.length = n) := by unfold Hid; rw [← HBT.out]; exact HLN.out true
  have HLNF : Hid (BF.length = n) := by unfold Hid; rw [← HBF.out]; exact HLN.out false
  clear hBT hBF hBUT hBUF HBU HBB HLN
  go_enter Try.func3, Try.ntmps3
  go_upto_region 1 with fail
  rw [← HW1.out]
  go_wp2_with fail
  refine HBE.out.mono ?_
  rintro _ w2 ⟨rfl, hb2⟩
  obtain ⟨d0, d1, d2⟩ := HC.out _ hb2
  have HB2 := hid hb2
  have HL2 := hid (HLD.out _ hb2)
  have X2 := hid (HBUT.out _ hb2)
  clear hb2 c0 c1 c2 HBE HBUT
  have g1 : ¬ (65527 : Int) < (nb : Int) := by omega
  have g2 : ¬ (K : Int) < 0 := by omega
  have g3 : ¬ (q : Int) < 0 := by omega
  have g4 : ¬ (31 : Int) < (q : Int) := by omega
  go_wp2_with (first
    | (refine wpList_ld 27 ⟨w.heap.size, 0, none⟩ _ rfl rfl HL2.out rfl ?_)
    | fail)
  refine X2.out.mono ?_
  rintro _ w3 ⟨g, rfl, hB3, hg3, hb3⟩
  have HB3 := hid (HB2.out.trans (hb3.mono HB2.out.size))
  obtain ⟨d0, d1, d2⟩ := HC.out _ HB3.out
  have c6 := hB3.cell 6 (by rw [HLNT.out]; omega)
  have c7 := hB3.cell 7 (by rw [HLNT.out]; omega)
  have hy67 : ¬ (byt BT 6 = 0 ∧ byt BT 7 = 0) := fun h => HNUM.out.2 (by rw [num2_byt, h.1, h.2])
  have hsT := blk_sees hB3 HLNT.out hn16 HBBT.out
  have HS3 := hid hsT
  have HBK3 := hid hB3
  have HG3 := hid (show w1.heap.size ≤ g from Nat.le_trans HB2.out.size hg3)
  have HPA3 := hid (HPA.out src dst BT _ w3 hs hd hsT)
  rw [HPE.out, HPD.out] at HPA3
  have HY6 := hid (And.intro (byt_lt HBBT.out 6) (byt_lt HBBT.out 7))
  obtain ⟨y6, hy6⟩ : ∃ y6, y6 = byt BT 6 := ⟨_, rfl⟩
  obtain ⟨y7, hy7⟩ : ∃ y7, y7 = byt BT 7 := ⟨_, rfl⟩
  rw [← hy6] at c6 hy67
  rw [← hy7] at c7 hy67
  clear hb3 hB3 hg3 hsT X2 HL2 hy6 hy7
  have b6 : (6 : Int) < (n : Int) := by omega
  have b7 : (7 : Int) < (n : Int) := by omega
  go_upto_region 7 with fail
  go_cut [66] from 18 (fun c wx => c = .bool false ∧ wx = w3)
  case first =>
    by_cases h6 : y6 = 0
    · have h7 : ¬ y7 = 0 := fun h => hy67 ⟨h6, h⟩
      subst h6
      have r1 : ((y7 : Int) == 0) = false := by simp; omega
      go_wp2_with fail
      go_meet
      case rel => exact ⟨rfl, rfl⟩
    · have r1 : ((y6 : Int) == 0) = false := by simp; omega
      go_wp2_with fail
      go_meet
      case rel => exact ⟨rfl, rfl⟩
  case rest =>
  as_aux_lemma =>
  obtain ⟨rfl, hwc⟩ := hcut
  rw [hwc]
  clear hwc
  go_wp2_with fail
  refine HPA3.out.mono ?_
  rintro _ w4 ⟨a4, m4, k4, rfl, hs4, hb4⟩
  obtain ⟨pa, hpa⟩ : ∃ pa, pa = dgCells x (.slice a4 m4 k4) := ⟨_, rfl⟩
  obtain ⟨p, hp⟩ : ∃ p, p = w4.heap.size := ⟨_, rfl⟩
  obtain ⟨w5, hw5⟩ : ∃ w5, w5 = (w4.alloc (.cells zeroD 27)).setCells p 0 pa.toList := ⟨_, rfl⟩
  have hps : pa.size = 3 := by rw [hpa]; rfl
  have HIP : Hid ((Try.prog.info? 27).map (·.size) = some pa.size) := by unfold Hid; rw [hps]; exact HI3.out
  have hrp : (w4.alloc (.cells zeroD 27)).heap[p]? = some (.cells zeroD 27 (0, 0)) := by rw [hp]; exact heap_alloc_new w4 _
  have HTP : Hid ((w4.alloc (.cells zeroD 27)).there p 0 pa.size) := there_blk hrp (by rw [hps]; rfl)
  have HOP : Hid (pa.all (·.oneCell') = true) := by unfold Hid; rw [hpa]; simp [dgCells, Value.oneCell']
  have hr5 : w5.heap[p]? = some (.cells (dgCells x (.slice a4 m4 k4)) 27 (0, 0)) := by rw [hw5, ← hpa]; exact row_put hrp (by rw [hps]; rfl)
  have hb45 : Below w4.heap.size w4 w5 := by rw [hw5]; exact below_setCells' (by omega) _ _ _ ((Below.refl _ _).alloc (Nat.le_refl _) _)
  have hb35 : Below w3.heap.size w3 w5 := hb4.trans (hb45.mono hb4.size)
  have HB35 := hid hb35
  have HB15 := hid (HB3.out.trans (hb35.mono HB3.out.size))
  have HR5 := hid hr5
  have HPG : Hid (p ≠ g) := by
    unfold Hid
    have h1 := HBK3.out.lt
    have h2 := hb4.size
    omega
  have HPL : Hid (w1.heap.size ≤ p) := by
    unfold Hid
    have h1 := HB3.out.size
    have h2 := hb4.size
    omega
  obtain ⟨f0, f1, f2⟩ := dg_at hr5
  obtain ⟨d0, d1, d2⟩ := HC.out _ HB15.out
  have HSA := hid (same_self _ _ _ w5 (hs4.below hb45) (HV1.out.below HB15.out))
  have HW5 : Hid (w5 = (w4.alloc (.cells #[.int .u16 0, .int .u16 0, .slice none 0 0] 27)).setCells p 0 pa.toList) := hw5
  have HP := hid hp
  unfold zeroD at HTP
  rw [← hpa]
  clear hpa hp hw5 hps hrp hb4 hb45 hb35 hr5 hs4 HPA3
  go_upto_region 10 with (first
    | (rw [← HP.out]; refine wpList_store_mid rfl 27 (.tmp 14) (.tmp 72) rfl p 0 pa rfl rfl HTP.out HIP.out HOP.out ?_; rw [← HW5.out])
    | fail)
  go_wp2_with fail
  refine HSA.out.mono ?_
  rintro _ w6 ⟨rfl, hb6⟩
  have HB56 := hid hb6
  have hb36 := HB35.out.trans (hb6.mono HB35.out.size)
  have HPA6 := hid (HPA.out s' dst BT _ w6 hs' hd (HS3.out.below hb36))
  rw [HBS.out] at HPA6
  have HB36 := hid hb36
  clear hb6 hb36 HSA
  as_aux_lemma =>
  go_wp2_with fail
  refine HPA6.out.mono ?_
  rintro _ w7 ⟨a7, m7, k7, rfl, _, hb7⟩
  have hb37 := HB36.out.trans (hb7.mono HB36.out.size)
  have hb57 := HB56.out.trans (hb7.mono HB56.out.size)
  have HPA7 := hid (HPA.out src d' BT _ w7 hs hd' (HS3.out.below hb37))
  rw [HBD.out] at HPA7
  have HB37 := hid hb37
  have HB57 := hid hb57
  clear hb7 hb37 hb57 HPA6 HB36 HB56
  go_wp2_with fail
  refine HPA7.out.mono ?_
  rintro _ w8 ⟨a8, m8, k8, rfl, _, hb8⟩
  obtain ⟨pb, hpb⟩ : ∃ pb, pb = dgCells (Tn.puD src d' BT) (.slice a8 m8 k8) := ⟨_, rfl⟩
  obtain ⟨p2, hp2⟩ : ∃ p2, p2 = w8.heap.size := ⟨_, rfl⟩
  obtain ⟨w9, hw9⟩ : ∃ w9, w9 = (w8.alloc (.cells zeroD 27)).setCells p2 0 pb.toList := ⟨_, rfl⟩
  have hps : pb.size = 3 := by rw [hpb]; rfl
  have HIP2 : Hid ((Try.prog.info? 27).map (·.size) = some pb.size) := by unfold Hid; rw [hps]; exact HI3.out
  have hrp : (w8.alloc (.cells zeroD 27)).heap[p2]? = some (.cells zeroD 27 (0, 0)) := by rw [hp2]; exact heap_alloc_new w8 _
  have HTP2 : Hid ((w8.alloc (.cells zeroD 27)).there p2 0 pb.size) := there_blk hrp (by rw [hps]; rfl)
  have HOP2 : Hid (pb.all (·.oneCell') = true) := by unfold Hid; rw [hpb]; simp [dgCells, Value.oneCell']
  have hb89 : Below w8.heap.size w8 w9 := by rw [hw9]; exact below_setCells' (by omega) _ _ _ ((Below.refl _ _).alloc (Nat.le_refl _) _)
  have hb79 := hb8.trans (hb89.mono hb8.size)
  have HB39 := hid (HB37.out.trans (hb79.mono HB37.out.size))
  have HB59 := hid (HB57.out.trans (hb79.mono HB57.out.size))
  have HB19 := hid (HB3.out.trans (HB39.out.mono HB3.out.size))
  have HW9 : Hid (w9 = (w8.alloc (.cells #[.int .u16 0, .int .u16 0, .slice none 0 0] 27)).setCells p2 0 pb.toList) := hw9
  have HP2 := hid hp2
  unfold zeroD at HTP2
  rw [← hpb]
  clear hpb hp2 hw9 hps hrp hb8 hb89 hb79 HPA7
  go_upto_region 14 with (first
    | (rw [← HP2.out]; refine wpList_store_mid rfl 27 (.tmp 15) (.tmp 116) rfl p2 0 pb rfl rfl HTP2.out HIP2.out HOP2.out ?_; rw [← HW9.out])
    | fail)
  as_aux_lemma =>
  have hr9 : w9.heap[p]? = some (.cells (dgCells x (.slice a4 m4 k4)) 27 (0, 0)) := (HB59.out.block p (Array.getElem?_eq_some_iff.1 HR5.out).1).trans HR5.out
  have HR9 := hid hr9
  have hB9 : Blk w9 g BT := (HB39.out.block g HBK3.out.lt).trans HBK3.out
  have HBK9 := hid hB9
  clear hr9 hB9
  have HGD : Hid (∃ B : Bool, B = decide (kk ≠ 4 ∧ kk ≠ 5)) := ⟨_, rfl⟩
  obtain ⟨GB, hGB⟩ := HGD.out
  have HGB := hid hGB
  clear hGB HGD
  go_upto_region 17 with fail
  go_cut [133] from 18 (fun c wx => c = .bool GB ∧ wx = w9)
  case first =>
    by_cases h4 : kk = 4
    · have hg : GB = false := by rw [HGB.out]; simp [h4]
      subst h4
      subst hg
      go_wp2_with fail
      go_meet
      case rel => exact ⟨rfl, rfl⟩
    by_cases h5 : kk = 5
    · have hg : GB = false := by rw [HGB.out]; simp [h5]
      subst h5
      subst hg
      go_wp2_with fail
      go_meet
      case rel => exact ⟨rfl, rfl⟩
    have hg : GB = true := by rw [HGB.out]; simp [h4, h5]
    subst hg
    have r4 : ((kk : Int) == 4) = false := by simp; omega
    have r5 : ((kk : Int) == 5) = false := by simp; omega
    have r4' : ((kk : Int) != 4) = true := by simp; omega
    have r5' : ((kk : Int) != 5) = true := by simp; omega
    go_wp2_with fail
    go_meet
    case rel => exact ⟨rfl, rfl⟩
  case rest =>
  as_aux_lemma =>
  obtain ⟨rfl, hwc⟩ := hcut
  rw [hwc]
  clear hwc
  go_upto_if 133 with fail
  go_cut [13] from 18 (fun _ wx => Hid (Below w1.heap.size w1 wx ∧ wx.heap[p]? = some (.cells (dgCells x (.slice a4 m4 k4)) 27 (0, 0))))
  case first =>
    cases GB with
    | false =>
      go_wp2_with fail
      go_meet
      case rel => exact ⟨HB19.out, HR9.out⟩
    | true =>
    as_aux_lemma =>
    obtain ⟨h4, h5⟩ : kk ≠ 4 ∧ kk ≠ 5 := of_decide_eq_true HGB.out.symm
    have hyk := byt_lt HBBT.out kk
    obtain ⟨y, hy, hy256, hxy⟩ := xor8 hyk hq8l
    obtain ⟨m8', hm8'⟩ := HM8.out
    have hfl := HFL.out y h4 h5 hxy
    rw [← hm8'] at hy hp8 hm8
    have HFL2 := hid hfl
    have hck : w9.cell? ⟨g, kk, none⟩ = some (.int .u8 ((byt BT kk : Nat) : Int)) := HBK9.out.cell kk (by rw [HLNT.out]; exact hkl)
    have hfz : w9.frozen? ⟨g, kk, none⟩ = false := HBK9.out.free kk
    have bk : (kk : Int) < (n : Int) := by omega
    have bk0 : (0 : Int) ≤ (kk : Int) := by omega
    have HSB : Hid (∀ z ∈ BT.set kk y, z < 256) := fun z hz => by
      rcases List.mem_or_eq_of_mem_set hz with hz | rfl
      · exact HBBT.out z hz
      · exact hy256
    generalize byt BT kk = yk at *
    clear hm8' hxy hfl h4 h5 f0 f1 f2 d0 d1 d2 c6 c7
    go_upto_region 18 with fail
    go_region
    have hB10 : Blk (w9.setCell ⟨g, kk, none⟩ (.int .u8 (y : Int))).drew g (BT.set kk y) := (HBK9.out.set kk y).below (below_drew (Below.refl _ _))
    have hb10 : Below w1.heap.size w1 (w9.setCell ⟨g, kk, none⟩ (.int .u8 (y : Int))).drew := below_drew (HB19.out.setCell (p := ⟨g, kk, none⟩) HG3.out _)
    have hr10 : (w9.setCell ⟨g, kk, none⟩ (.int .u8 (y : Int))).drew.heap[p]? = some (.cells (dgCells x (.slice a4 m4 k4)) 27 (0, 0)) := by
      show (w9.setCell ⟨g, kk, none⟩ (.int .u8 (y : Int))).heap[p]? = _
      rw [show (w9.setCell ⟨g, kk, none⟩ (.int .u8 (y : Int))).heap[p]? = w9.heap[p]? by simp [World.setCell, Array.getElem?_modify, Ne.symm HPG.out]]
      exact HR9.out
    generalize (w9.setCell ⟨g, kk, none⟩ (.int .u8 (y : Int))).drew = w10 at hB10 hb10 hr10 ⊢
    have hs10 := blk_sees hB10 (by rw [List.length_set, HLNT.out]) hn16 HSB.out
    have XP := hid (HPA.out src dst (BT.set kk y) _ w10 hs hd hs10)
    obtain ⟨PE, hPE⟩ : ∃ PE, PE = Tn.puE src dst (BT.set kk y) := ⟨_, rfl⟩
    rw [← hPE] at XP HFL2
    have HB10 := hid hb10
    have HR10 := hid hr10
    have HBK10 := hid hB10
    clear hb10 hr10 hB10 hs10 hck hfz hy hPE
    go_wp2_with fail
    refine XP.out.mono ?_
    rintro _ w11 ⟨a11, m11, k11, rfl, _, hb11⟩
    have hB11 : Blk w11 g (BT.set kk y) := (hb11.block g HBK10.out.lt).trans HBK10.out
    have HB11 := hid (HB10.out.trans (hb11.mono HB10.out.size))
    have HR11 : Hid (w11.heap[p]? = some (.cells (dgCells x (.slice a4 m4 k4)) 27 (0, 0))) := (hb11.block p (Array.getElem?_eq_some_iff.1 HR10.out).1).trans HR10.out
    have c6 := hB11.cell 6 (by rw [List.length_set, HLNT.out]; omega)
    have c7 := hB11.cell 7 (by rw [List.length_set, HLNT.out]; omega)
    have hfl : ¬ (byt (BT.set kk y) 6 = 0 ∧ byt (BT.set kk y) 7 = 0) → PE = 73 := fun h => HFL2.out (fun h2 => by
      rw [num2_byt] at h2
      have h3 : byt (BT.set kk y) 6 * 256 + byt (BT.set kk y) 7 = 0 := h2
      exact h ⟨by omega, by omega⟩)
    have HFL3 := hid hfl
    generalize byt (BT.set kk y) 6 = z6 at *
    generalize byt (BT.set kk y) 7 = z7 at *
    clear hfl hb11 hB11 XP HFL2 HBK10 HR10 HB10
    as_aux_lemma =>
    go_upto_region 20 with fail
    go_cut [165] from 18 (fun c wx => c = .bool false ∧ wx = w11)
    case first =>
      by_cases h6 : z6 = 0
      · by_cases h7 : z7 = 0
        · subst h6
          subst h7
          go_wp2_with fail
          go_meet
          case rel => exact ⟨rfl, rfl⟩
        · have hPE := HFL3.out (fun h => h7 h.2)
          subst hPE
          subst h6
          have r1 : ((z7 : Int) == 0) = false := by simp; omega
          have r2 : ((z7 : Int) != 0) = true := by simp; omega
          go_wp2_with fail
          go_meet
          case rel => exact ⟨rfl, rfl⟩
      · have hPE := HFL3.out (fun h => h6 h.1)
        subst hPE
        have r1 : ((z6 : Int) == 0) = false := by simp; omega
        have r2 : ((z6 : Int) != 0) = true := by simp; omega
        go_wp2_with fail
        go_meet
        case rel => exact ⟨rfl, rfl⟩
    case rest =>
    obtain ⟨rfl, hwc⟩ := hcut
    rw [hwc]
    clear hwc
    go_wp2_with fail
    go_meet
    case rel => exact ⟨HB11.out, HR11.out⟩
  case rest =>
  as_aux_lemma =>
  have HHC := hcut
  obtain ⟨w12, hw12⟩ : ∃ w12, w12 = wc := ⟨_, rfl⟩
  rw [← hw12] at HHC ⊢
  have HB12 := hid HHC.out.1
  have HR12 := hid HHC.out.2
  have X12 := hid (HBUF.out w12 HB12.out)
  have HL12 := hid (HLD.out w12 HB12.out)
  clear hw12 hcut HHC f0 f1 f2 d0 d1 d2 c6 c7 HFL HNUM HBS HBD HPE HPD HCS
  go_wp2_with (first
    | (refine wpList_ld 27 ⟨w.heap.size, 0, none⟩ _ rfl rfl HL12.out rfl ?_)
    | fail)
  as_aux_lemma =>
  refine X12.out.mono ?_
  rintro _ w13 ⟨g2, rfl, hB13, hg13, hb13⟩
  have HB13 := hid (HB12.out.trans (hb13.mono HB12.out.size))
  have hr13 : w13.heap[p]? = some (.cells (dgCells x (.slice a4 m4 k4)) 27 (0, 0)) := (hb13.block p (Array.getElem?_eq_some_iff.1 HR12.out).1).trans HR12.out
  obtain ⟨d0, d1, d2⟩ := HC.out _ HB13.out
  have hs13 := blk_sees hB13 HLNF.out hn16 HBBF.out
  have XP := hid (parseU_any _ BF d' src w13 hs13 hd' hs)
  rw [HPP.out, HPQ.out] at XP
  have HR13 := hid hr13
  clear hB13 hg13 hb13 hr13 hs13 X12
  go_wp2_with fail
  refine XP.out.mono ?_
  rintro _ w14 ⟨a14, m14, k14, rfl, hs14, hn14, hb14⟩
  obtain ⟨pc, hpc⟩ : ∃ pc, pc = dgCells x (.slice a14 m14 k14) := ⟨_, rfl⟩
  have hps : pc.size = 3 := by rw [hpc]; rfl
  have hpl := (Array.getElem?_eq_some_iff.1 HR13.out).1
  have hr14 : w14.heap[p]? = some (.cells (dgCells x (.slice a4 m4 k4)) 27 (0, 0)) := (hb14.block p hpl).trans HR13.out
  have HIP3 : Hid ((Try.prog.info? 27).map (·.size) = some pc.size) := by unfold Hid; rw [hps]; exact HI3.out
  have HTP3 : Hid (w14.there p 0 pc.size) := there_blk hr14 (by rw [hps]; rfl)
  have HOP3 : Hid (pc.all (·.oneCell') = true) := by unfold Hid; rw [hpc]; simp [dgCells, Value.oneCell']
  obtain ⟨w15, hw15⟩ : ∃ w15, w15 = w14.setCells p 0 pc.toList := ⟨_, rfl⟩
  have hr15 : w15.heap[p]? = some (.cells (dgCells x (.slice a14 m14 k14)) 27 (0, 0)) := by rw [hw15, ← hpc]; exact row_put hr14 (by rw [hps]; rfl)
  have hb114 := HB13.out.trans (hb14.mono HB13.out.size)
  have hb115 : Below w1.heap.size w1 w15 := by rw [hw15]; exact below_setCells' HPL.out _ _ _ hb114
  obtain ⟨f0, f1, f2⟩ := dg_at hr15
  obtain ⟨d0, d1, d2⟩ := HC.out _ hb115
  have hs15 : SeesB w15 (.slice a14 m14 k14) x.B := by
    rw [hw15]
    exact sees_set' hs14 (fun a ha => by have := hn14 a ha; omega)
  have HSA := hid (same_self _ _ _ w15 hs15 (HV1.out.below hb115))
  have HB115 := hid (HB1.out.trans (hb115.mono HB1.out.size))
  have HW15 := hid hw15
  rw [← hpc]
  clear hpc hps hpl hr14 hw15 hr15 hb114 hb115 hs15 hs14 hn14 hb14 XP
  go_upto_region 26 with (first
    | (refine wpList_store_mid rfl 27 (.tmp 14) (.tmp 192) rfl p 0 pc rfl rfl HTP3.out HIP3.out HOP3.out ?_; rw [← HW15.out])
    | fail)
  go_wp2_with fail
  refine HSA.out.mono ?_
  rintro _ w16 ⟨rfl, hb16⟩
  go_wp2_with fail
  go_ret
  exact ⟨rfl, HB115.out.trans (hb16.mono HB115.out.size)⟩
end Go.Proofs.Ytcelcnafcfefhaa.N
