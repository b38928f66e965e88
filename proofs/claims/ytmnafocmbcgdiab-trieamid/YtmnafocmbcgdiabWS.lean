/-
  play, over any contract of plays.
-/
import Derived.Test.YtmnafocmbcgdiabWR
import Derived.Test.YtmnafocmbcgdiabVT
namespace Go.Proofs.Ytmnafocmbcgdiab
open Go.ChangeShapes Go.WideShapes Go.ChangeAt Go.RowKit Tri N
set_option maxHeartbeats 2000000
set_option maxRecDepth 100000

structure O where
  k : Int
  s : Int
  x : Nat
  y : Int
  A : Nat
  a : Int

/-- The slice value v shows, in the world w, the steps Os. -/
def SeesO (w : World) (v : Value) (Os : List O) : Prop :=
  ∃ ao cap, v = .slice ao Os.length cap ∧ Os.length ≤ cap ∧ cap ≤ maxLen ∧
    ∀ j (h : j < Os.length), ∃ g off, ao = some ⟨g, off, none⟩ ∧ g < w.heap.size ∧ w.cell? ⟨g, off + j * 6, none⟩ = some (.int .i64 Os[j].k) ∧ w.cell? ⟨g, off + j * 6 + 1, none⟩ = some (.int .i64 Os[j].s) ∧ w.cell? ⟨g, off + j * 6 + 2, none⟩ = some (.int .u32 (Os[j].x : Int)) ∧ w.cell? ⟨g, off + j * 6 + 3, none⟩ = some (.int .i64 Os[j].y) ∧ w.cell? ⟨g, off + j * 6 + 4, none⟩ = some (.int .u32 (Os[j].A : Int)) ∧ w.cell? ⟨g, off + j * 6 + 5, none⟩ = some (.int .i64 Os[j].a)

def O.Ok (o : O) : Prop := o.x < 4294967296 ∧ o.A < 4294967296 ∧ In64 o.a ∧ In64 o.s

theorem SeesO.shape {w : World} {v : Value} {L : List O} (h : SeesO w v L) : ∃ ao n cap, v = .slice ao n cap ∧ Hid (n = L.length) ∧ n ≤ cap ∧ cap ≤ maxLen := by
  obtain ⟨ao, cap, hv, h1, h2, _⟩ := h
  exact ⟨ao, L.length, cap, hv, rfl, h1, h2⟩

theorem SeesO.at {w : World} {ao : Option Addr} {n cap : Nat} {L : List O} (h : SeesO w (.slice ao n cap) L) (j : Nat) (hj : j < n) : ∃ g off p, ao = some ⟨g, off, none⟩ ∧ g < w.heap.size ∧ w.cell? ⟨g, off + j * 6, none⟩ = some (.int .i64 p.k) ∧ w.cell? ⟨g, off + j * 6 + 1, none⟩ = some (.int .i64 p.s) ∧ w.cell? ⟨g, off + j * 6 + 2, none⟩ = some (.int .u32 (p.x : Int)) ∧ w.cell? ⟨g, off + j * 6 + 3, none⟩ = some (.int .i64 p.y) ∧ w.cell? ⟨g, off + j * 6 + 4, none⟩ = some (.int .u32 (p.A : Int)) ∧ w.cell? ⟨g, off + j * 6 + 5, none⟩ = some (.int .i64 p.a) ∧ p ∈ L := by
  obtain ⟨ao', cap', hv, h1, h2, h3⟩ := h
  simp at hv
  obtain ⟨rfl, rfl, rfl⟩ := hv
  obtain ⟨g, off, a, b, c⟩ := h3 j hj
  exact ⟨g, off, L[j], a, b, c.1, c.2.1, c.2.2.1, c.2.2.2.1, c.2.2.2.2.1, c.2.2.2.2.2, List.getElem_mem hj⟩

theorem SeesO.below {w w' : World} {v : Value} {L : List O} (h : SeesO w v L) (hb : Below w.heap.size w w') : SeesO w' v L := by
  obtain ⟨ao, cap, hv, h1, h2, h3⟩ := h
  refine ⟨ao, cap, hv, h1, h2, fun j hj => ?_⟩
  obtain ⟨g, off, ha, hg, c0, c1, c2, c3, c4, c5⟩ := h3 j hj
  exact ⟨g, off, ha, Nat.lt_of_lt_of_le hg hb.size, (hb.cell (p := ⟨g, _, none⟩) hg).trans c0, (hb.cell (p := ⟨g, _, none⟩) hg).trans c1, (hb.cell (p := ⟨g, _, none⟩) hg).trans c2, (hb.cell (p := ⟨g, _, none⟩) hg).trans c3, (hb.cell (p := ⟨g, _, none⟩) hg).trans c4, (hb.cell (p := ⟨g, _, none⟩) hg).trans c5⟩

theorem none8 {i : Nat} {s : Sl} (h : (List.replicate 8 (none : Option Sl))[i]? = some (some s)) : False := by
  have h1 := List.eq_of_mem_replicate (List.mem_of_getElem? h)
  cases h1

theorem row_new (w : World) : RowAt (w.alloc (.cells (rowCells (List.replicate 8 none)) 82)) w.heap.size (List.replicate 8 none) 0 :=
  ⟨rfl, heap_alloc_new w _, fun _ _ h => (none8 h).elim, fun _ _ _ _ _ h => (none8 h).elim⟩

theorem plays_low {w : World} {tb rb x A : Nat} {k s y a : Int} {v : Value} {t : Tr} {L : List (K × Int)} (hD : Duo w tb rb v t L) (hx : x < 4294967296) (hlen : L.length ≤ 4000000000000) (hk : k ≤ 3) :
    Calls Try.prog 30 #[.pointer (some ⟨tb, 0, none⟩), .pointer (some ⟨rb, 0, none⟩), .agg (oCells k s x y A a)] w fun e w' => e = .returned (.bool true) ∧ Stepped w w' tb rb v L.length := by
  by_cases h1 : k = 1
  · subst h1; exact plays_put hD hx hlen
  by_cases h2 : k = 2
  · subst h2; exact plays_del hD hx hlen
  by_cases h3 : k = 3
  · subst h3; exact plays_get hD hx
  exact plays_none hD (.inl hk) h1 h2 h3

/-- What a step at both is for the kinds from lo to hi (and the lowest three). -/
def PlaysOk (lo hi : Int) : Prop := ∀ (u : World) (tb rb x A : Nat) (k s y a : Int) (v : Value) (t : Tr) (L : List (K × Int)), Duo u tb rb v t L → x < 4294967296 → A < 4294967296 → In64 a → L.length ≤ 4000000000000 → (k ≤ 3 ∨ (lo ≤ k ∧ k ≤ hi)) →
    Calls Try.prog 30 #[.pointer (some ⟨tb, 0, none⟩), .pointer (some ⟨rb, 0, none⟩), .agg (oCells k s x y A a)] u fun e w' => e = .returned (.bool true) ∧ Stepped u w' tb rb v L.length

theorem play_any {w : World} {v : Value} {Os : List O} {lo hi : Int} (hPL : PlaysOk lo hi) (hv : SeesO w v Os) (hok : ∀ o ∈ Os, o.Ok) (hn : Os.length ≤ 3000000000000) :
    Calls Try.prog 19 #[v, .int .i64 lo, .int .i64 hi] w fun e w' => e = .returned (.bool true) ∧ Below w.heap.size w w' := by
  obtain ⟨ao, n, cap, rfl, HN, hn1, hn2⟩ := hv.shape
  unfold maxLen at hn2
  have hn4 : n ≤ 3000000000000 := by have := HN.out; omega
  have HV := hid hv
  have HOK := hid hok
  have HPL := hid hPL
  obtain ⟨w1, HW1⟩ : ∃ w1, Hid (w1 = w.alloc (.cells (rowCells (List.replicate 8 none)) 82)) := ⟨_, rfl⟩
  have HB1 : Hid (Below w.heap.size w w1) := by rw [HW1.out]; exact (Below.refl _ _).alloc (Nat.le_refl _) _
  have HR1 : Hid (RowAt w1 w.heap.size (List.replicate 8 none) 0) := by rw [HW1.out]; exact row_new w
  have HF1 : Hid (From w.heap.size (List.replicate 8 none)) := fun _ _ h => (none8 h).elim
  have HC1 := hid (begin_any (k := 0) HR1.out (by omega))
  have HW1' : Hid (w1 = w.alloc (.cells #[.pointer none, .pointer none, .pointer none, .pointer none, .pointer none, .pointer none, .pointer none, .pointer none, .pointer none, .pointer none, .pointer none, .pointer none, .pointer none, .pointer none, .pointer none, .pointer none] 82)) := HW1.out
  clear hv hok hn hPL
  go_enter Try.func19, Try.ntmps19
  go_upto_region 2 with fail
  rw [← HW1'.out]
  go_wp2_with fail
  refine HC1.out.mono ?_
  rintro _ w2 ⟨rfl, ⟨S2, s2, hs2, hr2, hf2⟩, hc2⟩
  have HF2 : Hid (From w.heap.size S2) := hf2 _ HB1.out.size HF1.out
  have HB2 : Hid (Below w.heap.size w w2) := HB1.out.trans (hc2.behind HB1.out.size (fun b hb => by omega))
  have HC2 := hid (begin_any (k := 1) hr2 (by omega))
  clear hs2 hr2 hf2 hc2
  go_wp2_with fail
  refine HC2.out.mono ?_
  rintro _ w3 ⟨rfl, ⟨S3, s3, hs3, hr3, hf3⟩, hc3⟩
  have HF3 : Hid (From w.heap.size S3) := hf3 _ HB2.out.size HF2.out
  have HB3 : Hid (Below w.heap.size w w3) := HB2.out.trans (hc3.behind HB2.out.size (fun b hb => by omega))
  have HC3 := hid (begun_any w3)
  have HR3 := hid hr3
  clear hs3 hr3 hf3 hc3
  go_wp2_with fail
  refine HC3.out.mono ?_
  rintro _ w4 ⟨rfl, hb4⟩
  have HB4 : Hid (Below w.heap.size w w4) := HB3.out.trans (hb4.mono HB3.out.size)
  have HR4 := hid (HR3.out.below hb4)
  clear hb4
  go_upto_region 4 with fail
  go_upto_region 5 with fail
  go_loopw [8] (fun i wr => ∃ (j : Nat) (S : List (Option Sl)), i = .int .i64 (j : Int) ∧ j ≤ n ∧ Hid (RowAt wr w.heap.size S j) ∧ Hid (From w.heap.size S) ∧ Hid (Below w.heap.size w wr)) (fun i _ => n - (intOf i).toNat)
  case atStart => exact ⟨0, S3, rfl, by omega, HR4, HF3, HB4⟩
  case round =>
    obtain ⟨j, S, rfl, hj, HR, HF, HB⟩ := hrel
    have hvr := HV.out.below HB.out
    by_cases hjn : j < n
    · have b1 : (j : Int) < (n : Int) := by omega
      have b2 : (0 : Int) ≤ (j : Int) := by omega
      obtain ⟨g, off, o, hao, hg, c0, c1, c2, c3, c4, c5, hmem⟩ := hvr.at j hjn
      subst hao
      obtain ⟨hox, hoA, hoa, hos⟩ := HOK.out o hmem
      clear hmem hvr
      obtain ⟨w5, HW5⟩ : ∃ w5, Hid (w5 = wr.alloc (.cells (oCells o.k o.s o.x o.y o.A o.a) 71)) := ⟨_, rfl⟩
      have hb5 : Below wr.heap.size wr w5 := by rw [HW5.out]; exact (Below.refl _ _).alloc (Nat.le_refl _) _
      have r5 : w5.heap[wr.heap.size]? = some (.cells (oCells o.k o.s o.x o.y o.A o.a) 71) := by rw [HW5.out]; exact heap_alloc_new wr _
      have HR5 := hid (HR.out.below hb5)
      have HF5 := HF
      have HB5 : Hid (Below w.heap.size w w5) := HB.out.trans (hb5.mono HB.out.size)
      have x1 : w5.cell? ⟨wr.heap.size, 1, none⟩ = some (.int .i64 o.s) := by rw [cell_of_row _ _ _ _ _ _ r5]; rfl
      have HSL := hid (slot_any o.s hos.lo hos.hi w5)
      have HBW := hid HB.out.size
      have R5 := hid r5
      unfold oCells at HW5
      obtain ⟨ok, os, ox, oy, oA, oa⟩ := o
      simp only at *
      have HNR : Hid (wr.heap.size ≠ w.heap.size) := by
        have := (Array.getElem?_eq_some_iff.1 HR.out.row).1
        unfold Hid; omega
      have HOX : Hid (ox < 4294967296 ∧ oA < 4294967296 ∧ In64 oa) := ⟨hox, hoA, hoa⟩
      clear HR HF HB hb5 r5 hos hox hoA hoa
      go_upto_region 8 with fail
      rw [← HW5.out]
      clear c0 c1 c2 c3 c4 c5
      go_wp2_with fail
      refine HSL.out.mono ?_
      rintro _ w6 ⟨rfl, hb6⟩
      obtain ⟨q1, q2⟩ := slotI_lt os
      obtain ⟨k, hk⟩ : ∃ k : Nat, slotI os = (k : Int) := ⟨(slotI os).toNat, by omega⟩
      rw [hk] at q2 ⊢
      have hk8 : k < 8 := by omega
      have R6 := hid (below_keeps hb6 R5.out (Array.getElem?_eq_some_iff.1 R5.out).1)
      have HR6 := hid (HR5.out.below hb6)
      have HB6 : Hid (Below w.heap.size w w6) := HB5.out.trans (hb6.mono HB5.out.size)
      have HL6 : Hid (wr.heap.size < w6.heap.size) := (Array.getElem?_eq_some_iff.1 R6.out).1
      have x0 : w6.cell? ⟨wr.heap.size, 0, none⟩ = some (.int .i64 ok) := by rw [cell_of_row _ _ _ _ _ _ R6.out]; rfl
      obtain ⟨o6, ho6, y1, _⟩ := HR6.out.at hk8
      have b4 : (k : Int) < 8 := by omega
      have b5 : (0 : Int) ≤ (k : Int) := by omega
      have HO6 := hid ho6
      clear hb6 x1 q1 hk ho6
      go_upto_region 9 with fail
      go_cut [56] from 26 to 99 (fun c wx => ∃ (S7 : List (Option Sl)) (s7 : Sl), c = .bool false ∧ Hid (S7[k]? = some (some s7)) ∧ Hid (RowAt wx w.heap.size S7 j) ∧ Hid (From w.heap.size S7) ∧ Hid (Below w.heap.size w wx) ∧ Hid (wx.heap[wr.heap.size]? = some (.cells (oCells ok os ox oy oA oa) 71)))
      case first =>
        by_cases hnew : ok = 9
        · have z9 : (ok == 9) = true := by simp [hnew]
          clear hnew
          have HBE := hid (begin_any HR6.out hk8)
          clear y1
          go_wp2_with fail
          refine HBE.out.mono ?_
          rintro _ w7 ⟨rfl, ⟨S7, s7, hs7, hr7, hf7⟩, hc7⟩
          have HF7 : Hid (From w.heap.size S7) := hf7 _ HB6.out.size HF5.out
          have HB7 : Hid (Below w.heap.size w w7) := HB6.out.trans (hc7.behind HB6.out.size (fun b hb => by omega))
          have R7 : Hid (w7.heap[wr.heap.size]? = some (.cells (oCells ok os ox oy oA oa) 71)) := (hc7.block _ HL6.out HNR.out).trans R6.out
          have HK7 := hid hs7
          have HR7 := hid hr7
          clear hf7 hc7 x0 hs7 hr7
          go_wp2_with fail
          go_meet
          case rel => exact ⟨S7, s7, rfl, HK7, HR7, HF7, HB7, R7⟩
        · have z9 : (ok == 9) = false := by simp [hnew]
          clear hnew
          cases o6 with
          | none =>
            unfold pa at y1
            simp only at y1
            have HBE := hid (begin_any HR6.out hk8)
            go_wp2_with fail
            refine HBE.out.mono ?_
            rintro _ w7 ⟨rfl, ⟨S7, s7, hs7, hr7, hf7⟩, hc7⟩
            have HF7 : Hid (From w.heap.size S7) := hf7 _ HB6.out.size HF5.out
            have HB7 : Hid (Below w.heap.size w w7) := HB6.out.trans (hc7.behind HB6.out.size (fun b hb => by omega))
            have R7 : Hid (w7.heap[wr.heap.size]? = some (.cells (oCells ok os ox oy oA oa) 71)) := (hc7.block _ HL6.out HNR.out).trans R6.out
            have HK7 := hid hs7
            have HR7 := hid hr7
            clear hf7 hc7 x0 y1 hs7 hr7
            go_wp2_with fail
            go_meet
            case rel => exact ⟨S7, s7, rfl, HK7, HR7, HF7, HB7, R7⟩
          | some s7 =>
            unfold pa at y1
            simp only at y1
            go_wp2_with fail
            go_meet
            case rel => exact ⟨S, s7, rfl, HO6, HR6, HF5, HB6, R6⟩
      case rest =>
        obtain ⟨S7, s7, rfl, HK7, HR7, HF7, HB7, R7⟩ := hcut
        rename World => w7
        clear R6 HR6 HB6 HL6 x0 y1 HO6 HR5 HF5 HB5 R5 HSL HW5
        have HL7 : Hid (wr.heap.size < w7.heap.size) := (Array.getElem?_eq_some_iff.1 R7.out).1
        have hl7 := HL7.out
        have xx : ∀ (i : Nat) (u : Value), (oCells ok os ox oy oA oa)[i]? = some u → w7.cell? ⟨wr.heap.size, i, none⟩ = some u := fun i u hu => by rw [cell_of_row _ _ _ _ _ _ R7.out]; exact hu
        have x0 : w7.cell? ⟨wr.heap.size, 0, none⟩ = some (.int .i64 ok) := xx 0 _ rfl
        have x1 : w7.cell? ⟨wr.heap.size, 1, none⟩ = some (.int .i64 os) := xx 1 _ rfl
        have x2 : w7.cell? ⟨wr.heap.size, 2, none⟩ = some (.int .u32 (ox : Int)) := xx 2 _ rfl
        have x3 : w7.cell? ⟨wr.heap.size, 3, none⟩ = some (.int .i64 oy) := xx 3 _ rfl
        have x4 : w7.cell? ⟨wr.heap.size, 4, none⟩ = some (.int .u32 (oA : Int)) := xx 4 _ rfl
        have x5 : w7.cell? ⟨wr.heap.size, 5, none⟩ = some (.int .i64 oa) := xx 5 _ rfl
        clear xx
        obtain ⟨od, hod, a1, a2⟩ := HR7.out.at hk8
        rw [HK7.out] at hod
        obtain rfl := Option.some.inj hod
        unfold pa at a1
        unfold pb at a2
        simp only at a1 a2
        clear hod
        by_cases hgo : ok ≤ 3 ∨ (lo ≤ ok ∧ ok ≤ hi)
        · have HP : Hid (∀ u, Below w7.heap.size w7 u → Calls Try.prog 30 #[.pointer (some ⟨s7.tb, 0, none⟩), .pointer (some ⟨s7.rb, 0, none⟩), .agg (oCells ok os ox oy oA oa)] u fun e w' => e = .returned (.bool true) ∧ Stepped u w' s7.tb s7.rb s7.v s7.L.length) := fun u hu => by
            obtain ⟨hd, hdl⟩ := HR7.out.duo k s7 HK7.out
            exact HPL.out u _ _ _ _ _ _ _ _ _ _ _ (hd.below hu) HOX.out.1 HOX.out.2.1 HOX.out.2.2 (by omega) hgo
          unfold oCells at HP
          go_upto_region 11 with fail
          go_cut [71] from 26 to 99 (fun c wx => c = .bool false ∧ w7 = wx)
          case first =>
            by_cases z1 : (3 : Int) < ok
            · have z2 : ¬ ok < lo := by omega
              have z3 : ¬ hi < ok := by omega
              clear hgo HP x1 x2 x3 x4 x5 a1 a2
              go_wp2_with fail
              go_meet
              case rel => exact ⟨rfl, rfl⟩
            · clear hgo HP x1 x2 x3 x4 x5 a1 a2
              go_wp2_with fail
              go_meet
              case rel => exact ⟨rfl, rfl⟩
          case rest =>
            obtain ⟨rfl, rfl⟩ := hcut
            clear hgo
            go_upto_region 12 with fail
            refine wp_region_still_tail 13 (by kernel_rfl) (by kernel_rfl) ?_
            simp only [List.take_succ_cons, List.take_zero, List.drop_succ_cons, List.drop_zero]
            iterate 13 still_step
            refine wpStill_nil ?_
            go_wp2_with fail
            refine (HP.out w7.drew ⟨rfl, rfl, rfl, Nat.le_refl _, fun _ _ => rfl⟩).mono ?_
            rintro _ w8 ⟨rfl, hst0⟩
            have hst := Stepped.from (w := w7) (wa := w7.drew) ⟨rfl, rfl, rfl, Nat.le_refl _, fun _ _ => rfl⟩ hst0
            clear hst0
            obtain ⟨S8, hr8, hf8⟩ := HR7.out.step HK7.out hst
            have HR8 := hid hr8
            have HF8 : Hid (From w.heap.size S8) := hf8 _ HB7.out.size HF7.out
            have HB8 : Hid (Below w.heap.size w w8) := HB7.out.trans (hst.2.behind HB7.out.size (fun b hb => by
              obtain ⟨p1, p2, p3⟩ := HF7.out k s7 HK7.out
              rcases hb with hb | hb | hb
              · omega
              · omega
              · exact p3 b hb))
            clear hst hr8 hf8 x0 x1 x2 x3 x4 x5 a1 a2
            go_wp2_with fail
            go_roundw
            case rel => exact ⟨j + 1, S8, by go_num, by omega, HR8, HF8, HB8⟩
            case measure => simp [intOf]; omega
        · have z1 : (3 : Int) < ok := by omega
          have HR8 := hid (HR7.out.mono (Nat.le_succ _))
          by_cases z2 : ok < lo
          · clear hgo x1 x2 x3 x4 x5 a1 a2
            go_wp2_with fail
            go_roundw
            case rel => exact ⟨j + 1, S7, by go_num, by omega, HR8, HF7, HB7⟩
            case measure => simp [intOf]; omega
          · have z3 : hi < ok := by omega
            clear hgo x1 x2 x3 x4 x5 a1 a2
            go_wp2_with fail
            go_roundw
            case rel => exact ⟨j + 1, S7, by go_num, by omega, HR8, HF7, HB7⟩
            case measure => simp [intOf]; omega
    · have b1 : ¬ (j : Int) < (n : Int) := by omega
      clear hvr HR HF
      go_wp2_with fail
      go_ret
      exact ⟨rfl, HB.out⟩
end Go.Proofs.Ytmnafocmbcgdiab
