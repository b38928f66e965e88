import Derived.Test.YtkkfioebpppffaaGreatDoorEC
import Derived.Deep.RegionWith
import Derived.Laws.CopyOwn
import Derived.Laws.MakeOwn
import Derived.Deep.RegionHeld3
namespace Go.Proofs.YtkkfioebpppffaaGreatDoor.N
open Go.ChangeShapes Go.WideShapes Go.ChangeAt Go.RowKit
set_option maxHeartbeats 400000
set_option maxRecDepth 100000

theorem step_ld {ops : Array Oper} {o : Oper} {a : Act} {w : World} {K : Act → World → Prop} {Q : Exit → Act → World → Prop} {E : Prop} {v : Value} (hg : o.guard = none) (T : TypeId) (p : Addr) (x : Operand) (ho : o.op = .load T x) (hx : a.eval x = .pointer (some p))
    (hr : (Instr.loadAt T (.pointer (some p))).run Tryz.prog w = .ok v w) (h : K (a.put o.dst v) w) : if Region.wanted o (yielded ops a.tmps) = true then Oper.wp Tryz.prog o a w K Q else E := by
  have hw : Region.wanted o (yielded ops a.tmps) = true := by simp [Region.wanted, hg]
  rw [if_pos hw]
  unfold Oper.wp execOp
  simp only [ho, hx, Sem.run_bind, hr, Result.andThen_ok, Sem.run_pure]
  exact h

theorem step_st {ops : Array Oper} {o : Oper} {a : Act} {w : World} {K : Act → World → Prop} {Q : Exit → Act → World → Prop} {E : Prop} (hg : o.guard = none) (ty : TypeId) (x y : Operand) (ho : o.op = .store ty x y)
    (b n : Nat) (cells : Array Value) (hx : a.eval x = .pointer (some ⟨b, n, none⟩)) (hy : a.eval y = .agg cells)
    (ht : w.there b n cells.size) (hi : (Tryz.prog.info? ty).map (·.size) = some cells.size) (h1 : cells.all (·.oneCell') = true)
    (h : K (a.put o.dst undef) (w.setCells b n cells.toList)) : if Region.wanted o (yielded ops a.tmps) = true then Oper.wp Tryz.prog o a w K Q else E := by
  have hw : Region.wanted o (yielded ops a.tmps) = true := by simp [Region.wanted, hg]
  rw [if_pos hw]
  exact wp_store_mid ty x y ho b n cells hx hy ht hi h1 h

theorem below_setCells' {B b : Nat} {a : World} (hb : B ≤ b) : ∀ (vs : List Value) (o : Nat) (w : World), Below B a w → Below B a (w.setCells b o vs)
  | [], _, _, h => h
  | v :: vs, o, w, h => by
    rw [World.setCells]
    exact below_setCells' hb vs (o + 1) _ (h.setCell (p := ⟨b, o, none⟩) hb v)

theorem sees_set {w : World} {ao : Option Addr} {n cap b : Nat} {L : List Nat} {vs : List Value} (h : SeesB w (.slice ao n cap) L) (hne : ∀ a, ao = some a → a.block ≠ b) : SeesB (w.setCells b 0 vs).drew (.slice ao n cap) L := by
  obtain ⟨ao', cap', hv, h1, h2, h3⟩ := h
  simp at hv
  obtain ⟨rfl, hn, rfl⟩ := hv
  refine ⟨ao, cap, by rw [hn], h1, h2, fun j hj => ?_⟩
  obtain ⟨g, off, ha, hg, hc, hb⟩ := h3 j hj
  have hg' := hne _ ha
  have e := World.cell?_setCells_out b vs 0 w ⟨g, off + j, none⟩ (fun hb _ => absurd hb hg')
  refine ⟨g, off, ha, ?_, ?_, hb⟩
  · exact World.block_lt_of_cell? (w.setCells b 0 vs).drew ⟨g, off + j, none⟩ (show (w.setCells b 0 vs).cell? _ = _ from e.trans hc)
  · exact (show (w.setCells b 0 vs).cell? _ = _ from e.trans hc)

def zeroH : Hd := ⟨0, 0, false, false, 0, 0, 0, 0, 0, []⟩

/-- Four bytes at a slice's head: three draws. -/
theorem read32_e (v : Value) (L : List Nat) (w : World) (hv : SeesB w v L) (hl : 4 ≤ L.length) :
    Calls Tryz.prog 109 #[v] w fun e w' => e = .returned (.int .u32 ((w32 L 0 : Nat) : Int)) ∧ w' = w.drew.drew.drew := by
  obtain ⟨ao, n, cap, rfl, HN, hn1, hn2⟩ := hv.shape
  have h4 : 4 ≤ n := by have := HN.out; omega
  obtain ⟨al, HSL, hlow⟩ := hv.low 2 2 rfl (by omega)
  have HC : Hid (∀ (v : Value) (x : Nat), ((v = .slice ao n cap ∧ x = w16 L 0) ∨ (v = .slice al (n - 2) (cap - 2) ∧ x = w16 L 2)) → ∀ u, Below w.heap.size w u → Calls Tryz.prog 100 #[v] u fun e w' => e = .returned (.int .u16 (x : Int)) ∧ w' = u.drew) := by
    rintro v x (⟨rfl, rfl⟩ | ⟨rfl, rfl⟩) u hu
    · exact read16_x _ L _ (hv.below hu) (by omega)
    · have := read16_x _ (L.drop 2) u (HSL.out.below hu) (by rw [List.length_drop]; omega)
      rw [w16_drop] at this; exact this
  have hx := w16_lt hv.bytes 0
  have hy := w16_lt hv.bytes 2
  have HR : Hid (bits .or .u32 ((w16 L 0 * 65536 : Nat) : Int) (w16 L 2 : Int) = ((w32 L 0 : Nat) : Int)) := by unfold Hid; rw [or_u32 _ _ hx hy]; rfl
  generalize w32 L 0 = r at *
  generalize w16 L 0 = p at *
  generalize w16 L 2 = q at *
  clear hv HSL
  generalize n - 2 = n2 at *
  generalize cap - 2 = cap2 at *
  have ew : ∀ z : Int, 0 ≤ z → z ≤ 4294967295 → IntKind.u32.wrap z = z := fun z h0 h1 => by
    unfold IntKind.wrap
    simp [IntKind.signed, IntKind.bits]
    omega
  have e1 := ew (p : Int) (by omega) (by omega)
  have e2 := ew (q : Int) (by omega) (by omega)
  have e3 := ew ((p : Int) * 65536) (by omega) (by omega)
  clear ew
  go_enter Tryz.func109, Tryz.ntmps109
  go_wp2_with fail
  go_region_with (first | (go_at_call 100; apply Calls.mono (HC.out _ _ _ _ (by repeat (first | exact Below.refl _ _ | apply below_drew))); (all_goals first | exact Or.inl ⟨rfl, rfl⟩ | exact Or.inr ⟨rfl, rfl⟩ | skip); rintro _ _ ⟨rfl, rfl⟩) | fail)
  all_goals go_wp2_with fail
  all_goals go_ret
  all_goals exact ⟨ret_int (by rw [← HR.out]; simp), rfl⟩
set_option maxHeartbeats 2000000 in
theorem unpack_any (v : Value) (L : List Nat) (h : Nat) (w : World) (hv : SeesB w v L) (h20 : 20 ≤ h) (hh : h ≤ L.length) (hl : L.length ≤ 1099511627776) :
    Calls Tryz.prog 97 #[v, .int .i64 (h : Int)] w fun e w' => ∃ vo vb, e = .returned (.tuple #[.agg (hdCells (rdH L h) vo), vb]) ∧ SeesB w' vo (rdH L h).opts ∧ SeesB w' vb (L.drop h) ∧ (∀ a n c, vo = .slice (some a) n c → w.heap.size ≤ a.block) ∧ (∀ a n c, vb = .slice (some a) n c → w.heap.size ≤ a.block) ∧ Below w.heap.size w w' := by
  obtain ⟨ao, m, cap, rfl, HN, hn1, hn2⟩ := hv.shape
  unfold maxLen at hn2
  have hm20 : 20 ≤ m := by have := HN.out; omega
  have hml : m ≤ 1099511627776 := by have := HN.out; omega
  obtain ⟨k, hk⟩ : ∃ k, m = k + 20 := ⟨m - 20, by omega⟩
  obtain ⟨c, hc⟩ : ∃ c, h = c + 20 := ⟨h - 20, by omega⟩
  have hck : c ≤ k := by have := HN.out; omega
  obtain ⟨a20, HS20, hl20⟩ := hv.low 20 20 rfl (by omega)
  obtain ⟨a6, HS6, hl6⟩ := hv.low 6 6 rfl (by omega)
  obtain ⟨a4, HS4, hl4⟩ := hv.low 4 4 rfl (by omega)
  obtain ⟨a12, HS12, hl12⟩ := hv.low 12 12 rfl (by omega)
  obtain ⟨a16, HS16, hl16⟩ := hv.low 16 16 rfl (by omega)
  have ek : (m : Int) - 20 = (k : Int) := by omega
  have ec : (h : Int) - 20 = (c : Int) := by omega
  have hmk := make_bytes k (by omega)
  obtain ⟨g0, off, rfl, hg0, hc1⟩ := hv.atB 1 (by omega)
  obtain ⟨g1, off1, he1, _, hc8⟩ := hv.atB 8 (by omega)
  simp at he1
  obtain ⟨rfl, rfl⟩ := he1
  obtain ⟨g1, off1, he1, _, hc9⟩ := hv.atB 9 (by omega)
  simp at he1
  obtain ⟨rfl, rfl⟩ := he1
  have HSV := hid hv
  have HKL : Hid ((L.drop 20).length = k) := by unfold Hid; rw [List.length_drop]; have := HN.out; omega
  have HM20 : Hid (m - 20 = k) := by unfold Hid; omega
  rw [HM20.out] at hl20 HS20
  have hk' := hid hk
  have hc' := hid hc
  clear hk hc hv
  have hf := w16_lt HSV.out.bytes 6
  have h14 := bit14 L HSV.out.bytes
  have h13 := bit13 L HSV.out.bytes
  have HRD : Hid (rdH L h = ⟨byt L 1, w16 L 4, decide (byt L 6 / 64 % 2 = 1), decide (byt L 6 / 32 % 2 = 1), ((w16 L 6 % 8192 * 8 : Nat) : Int), byt L 8, byt L 9, w32 L 12, w32 L 16, (L.drop 20).take c⟩) := by
    unfold Hid rdH; rw [List.drop_take, show h - 20 = c by have := hc'.out; omega]
  have HDR : Hid ((L.drop 20).drop c = L.drop h) := by unfold Hid; rw [List.drop_drop, show 20 + c = h by have := hc'.out; omega]
  rw [HRD.out]
  have HRDX := hid trivial
  clear HRD
  generalize E8 : w16 L 6 % 8192 * 8 = o8 at *
  generalize decide (byt L 6 / 64 % 2 = 1) = q14 at *
  generalize decide (byt L 6 / 32 % 2 = 1) = q13 at *
  generalize Ef : w16 L 6 = f at *
  generalize Ei : w16 L 4 = id at *
  generalize Es : w32 L 12 = src at *
  generalize Ed : w32 L 16 = dst at *
  generalize byt L 1 = x1 at *
  generalize byt L 8 = x8 at *
  generalize byt L 9 = x9 at *
  have HEf := hid Ef
  have HEi := hid Ei
  have HEs := hid Es
  have HEd := hid Ed
  have HE8 := hid E8
  clear Ef Ei Es Ed E8 HRDX
  have b1 : (1 : Int) < (m : Int) := by omega
  have b8 : (8 : Int) < (m : Int) := by omega
  have b9 : (9 : Int) < (m : Int) := by omega
  go_enter Tryz.func97, Tryz.ntmps97
  go_wp2_with (first | (refine wpList_copy_splice rfl (.tmp 15) (.tmp 17) 31 31 rfl 5 Tryz.underlying31 size5 _ _ k k k (cap - 20) rfl rfl (w.heap.size + 1) 0 (madeCells #[.int .u8 0] k).toList 5 ?c1 (bs (L.drop 20)) ?c2 ?c3 ?c4 ?c5 (w.heap.size + 1) (w.alloc (.cells #[.int .u8 0, .int .u16 0, .bool false, .bool false, .int .i64 0, .int .u8 0, .int .u8 0, .int .u32 0, .int .u32 0, .slice none 0 0] 33)) ?c6 ?c7 ?_) | fail)
  case c1 =>
    have e := heap_alloc_new (w.alloc (.cells #[.int .u8 0, .int .u16 0, .bool false, .bool false, .int .i64 0, .int .u8 0, .int .u8 0, .int .u32 0, .int .u32 0, .slice none 0 0] 33)) (.cells (madeCells #[.int .u8 0] k) 5)
    rw [World.size_alloc] at e
    rw [Array.toArray_toList]; exact e
  case c2 => show (bs _).length = min k k; rw [Nat.min_self, bs, List.length_map]; exact HKL.out
  case c3 => exact fun hp => (HS20.out.below (((Below.refl w.heap.size w).alloc (Nat.le_refl _) _).alloc (by simp) _)).src hp
  case c4 => rw [bs, List.length_map, HKL.out, Array.length_toList, size_madeCells]; omega
  case c5 => intro q hq; obtain ⟨y, _, rfl⟩ := List.mem_map.1 hq; rfl
  case c6 => exact (Below.refl _ _).alloc (by simp) _
  case c7 => exact Nat.le_refl _
  intro w3 HG hb3
  rw [splice_whole (by rw [bs, List.length_map, HKL.out, Array.length_toList, size_madeCells])] at HG
  have hbw : Below w.heap.size w w3 := ((Below.refl w.heap.size w).alloc (Nat.le_refl _) _).trans (hb3.mono (by omega))
  have hbytes : ∀ x ∈ L.drop 20, x < 256 := fun x hx => HSV.out.bytes x (List.mem_of_mem_drop hx)
  have hblk := sees_blk HG.out HKL.out (by omega) hbytes
  obtain ⟨aH, HSO, HAH, hcutH⟩ := hblk.high3 c (c : Int) rfl hck (by simp)
  obtain ⟨aL, HSB, HAL, hcutL⟩ := hblk.low3 c (c : Int) (k : Int) rfl rfl hck
  have HC6 := read16_x _ (L.drop 6) w3 (HS6.out.below hbw) (by rw [List.length_drop]; have := HN.out; omega)
  rw [w16_drop, show (6 : Nat) + 0 = 6 from rfl, HEf.out] at HC6
  have HC6 := hid HC6
  have d1 : w3.cell? ⟨g0, off + 1, none⟩ = some (.int .u8 (x1 : Int)) := (hbw.cell (p := ⟨g0, _, none⟩) hg0).trans hc1
  have d8 : w3.cell? ⟨g0, off + 8, none⟩ = some (.int .u8 (x8 : Int)) := (hbw.cell (p := ⟨g0, _, none⟩) hg0).trans hc8
  have d9 : w3.cell? ⟨g0, off + 9, none⟩ = some (.int .u8 (x9 : Int)) := (hbw.cell (p := ⟨g0, _, none⟩) hg0).trans hc9
  have HBL : Hid (∀ u, Below w3.heap.size w3 u → Below w.heap.size w u) := fun u hu => hbw.trans (hu.mono hbw.size)
  have HC4 : Hid (∀ u, (Below w3.heap.size w3 u ∧ u.cell? ⟨g0, off + 1, none⟩ = some (.int .u8 (x1 : Int)) ∧ u.cell? ⟨g0, off + 8, none⟩ = some (.int .u8 (x8 : Int)) ∧ u.cell? ⟨g0, off + 9, none⟩ = some (.int .u8 (x9 : Int))) → Calls Tryz.prog 100 #[.slice a4 (m - 4) (cap - 4)] u fun e w' => e = .returned (.int .u16 (id : Int)) ∧ w' = u.drew) := fun u hu => by
    have := read16_x _ (L.drop 4) u (HS4.out.below (HBL.out _ hu.1)) (by rw [List.length_drop]; have := HN.out; omega)
    rw [w16_drop, show (4 : Nat) + 0 = 4 from rfl, HEi.out] at this; exact this
  have HC50 : Hid (∀ u, (Below w3.heap.size w3 u ∧ u.cell? ⟨g0, off + 1, none⟩ = some (.int .u8 (x1 : Int)) ∧ u.cell? ⟨g0, off + 8, none⟩ = some (.int .u8 (x8 : Int)) ∧ u.cell? ⟨g0, off + 9, none⟩ = some (.int .u8 (x9 : Int))) → Calls Tryz.prog 108 #[.int .u16 (f : Int)] u fun e w' => e = .returned (.int .i64 (o8 : Int)) ∧ w' = u) := fun u hu => by
    have := offset_any f u hf
    rw [← HE8.out]; exact this
  have w32d : ∀ i, w32 (L.drop i) 0 = w32 L i := fun i => by unfold w32; rw [w16_drop, w16_drop]; rfl
  have HC51 : Hid (∀ (v : Value) (x : Nat), ((v = .slice a12 (m - 12) (cap - 12) ∧ x = src) ∨ (v = .slice a16 (m - 16) (cap - 16) ∧ x = dst)) → ∀ u, (Below w3.heap.size w3 u ∧ u.cell? ⟨g0, off + 1, none⟩ = some (.int .u8 (x1 : Int)) ∧ u.cell? ⟨g0, off + 8, none⟩ = some (.int .u8 (x8 : Int)) ∧ u.cell? ⟨g0, off + 9, none⟩ = some (.int .u8 (x9 : Int))) → Calls Tryz.prog 109 #[v] u fun e w' => e = .returned (.int .u32 (x : Int)) ∧ w' = u.drew.drew.drew) := by
    rintro v x (⟨rfl, rfl⟩ | ⟨rfl, rfl⟩) u hu
    · have := read32_e _ (L.drop 12) u (HS12.out.below (HBL.out _ hu.1)) (by rw [List.length_drop]; have := HN.out; omega)
      rw [w32d, HEs.out] at this; exact this
    · have := read32_e _ (L.drop 16) u (HS16.out.below (HBL.out _ hu.1)) (by rw [List.length_drop]; have := HN.out; omega)
      rw [w32d, HEd.out] at this; exact this
  generalize m - 4 = m4 at *
  generalize m - 6 = m6 at *
  generalize m - 12 = m12 at *
  generalize m - 16 = m16 at *
  have HB3 := hid hb3
  clear HS20 HS6 HS4 HS12 HS16 hmk hblk hbytes w32d hc1 hc8 hc9 hl20 hb3 hl HG
  go_wp2_with fail
  refine HC6.out.mono ?_
  rintro _ _ ⟨rfl, rfl⟩
  go_upto_region 5 with fail
  go_cut [10] from 26 (fun p wx => p = .pointer (some ⟨w3.heap.size, 0, none⟩) ∧ Below w3.heap.size w3 wx ∧ Hid (wx.heap[w3.heap.size]? = some (.cells #[.int .u8 (x1 : Int), .int .u16 (id : Int), .bool q14, .bool q13, .int .i64 (o8 : Int), .int .u8 (x8 : Int), .int .u8 (x9 : Int), .int .u32 (src : Int), .int .u32 (dst : Int), .slice aH c c] 33)))
  case first =>
    go_region_held3 (fun w' => Below w3.heap.size w3 w' ∧ w'.cell? ⟨g0, off + 1, none⟩ = some (.int .u8 (x1 : Int)) ∧ w'.cell? ⟨g0, off + 8, none⟩ = some (.int .u8 (x8 : Int)) ∧ w'.cell? ⟨g0, off + 9, none⟩ = some (.int .u8 (x9 : Int)))
      (repeat (first | assumption | exact ⟨Below.refl _ _, d1, d8, d9⟩ | apply keep_drew | refine keep_alloc ?_ _ rfl))
      (first | (go_at_call 100; refine (HC4.out _ (by assumption)).mono ?_; rintro _ _ ⟨rfl, rfl⟩) | (go_at_call 108; refine (HC50.out _ (by assumption)).mono ?_; rintro _ _ ⟨rfl, rfl⟩) | (go_at_call 109; apply Calls.mono (HC51.out _ _ _ _ (by assumption)); (all_goals first | exact Or.inl ⟨rfl, rfl⟩ | exact Or.inr ⟨rfl, rfl⟩ | skip); rintro _ _ ⟨rfl, rfl⟩) | fail)
    all_goals (
      go_wp2_with fail
      go_meet
      case rel => exact ⟨rfl, by repeat (first | exact Below.refl _ _ | apply below_drew | refine Below.alloc ?_ (Nat.le_refl _) _), heap_alloc_new w3 _⟩)
  case rest =>
    obtain ⟨rfl, hbc, HBK⟩ := hcut
    have hz : wc.heap[w.heap.size]? = some (.cells (hdCells zeroH (.slice none 0 0)) 33) := by
      have hlt : w.heap.size < w3.heap.size := by have := HB3.out.size; simp at this; omega
      rw [hbc.block w.heap.size hlt, HB3.out.block w.heap.size (by omega)]
      exact heap_alloc_new w _
    obtain ⟨z0, z1, z2, z3, z4, z5, z6, z7, z8, z9⟩ := hd_at hz
    have hfz : ∀ j, wc.frozen? ⟨w.heap.size, j, none⟩ = false := fun j => frozen_of_row _ _ _ _ _ hz
    obtain ⟨r0, r1, r2, r3, r4, r5, r6, r7, r8, r9⟩ := hd_at (h := ⟨x1, id, q14, q13, (o8 : Int), x8, x9, src, dst, []⟩) (vo := .slice aH c c) HBK.out
    simp only [zeroH] at z0 z1 z2 z3 z4 z5 z6 z7 z8 z9
    simp only at r0 r1 r2 r3 r4 r5 r6 r7 r8 r9
    have hne : ¬ w3.heap.size = w.heap.size := by have := HB3.out.size; simp at this; omega
    have hne' : ¬ w.heap.size = w3.heap.size := fun h => hne h.symm
    have hthc : wc.there w.heap.size 0 10 := there_blk (C := hdCells zeroH (.slice none 0 0)) hz rfl
    obtain ⟨fs, hu27⟩ := und27
    have hrg := World.rangeAt_setCells_same wc w.heap.size 0 [.int .u8 (x1 : Int), .int .u16 (id : Int), .bool q14, .bool q13, .int .i64 (o8 : Int), .int .u8 (x8 : Int), .int .u8 (x9 : Int), .int .u32 (src : Int), .int .u32 (dst : Int), .slice aH c c] hthc
    have HLV : Hid ((loadVar 33 ⟨w.heap.size, 0, none⟩).run Tryz.prog (wc.setCells w.heap.size 0 [.int .u8 (x1 : Int), .int .u16 (id : Int), .bool q14, .bool q13, .int .i64 (o8 : Int), .int .u8 (x8 : Int), .int .u8 (x9 : Int), .int .u32 (src : Int), .int .u32 (dst : Int), .slice aH c c]).drew = .ok (.agg #[.int .u8 (x1 : Int), .int .u16 (id : Int), .bool q14, .bool q13, .int .i64 (o8 : Int), .int .u8 (x8 : Int), .int .u8 (x9 : Int), .int .u32 (src : Int), .int .u32 (dst : Int), .slice aH c c]) (wc.setCells w.heap.size 0 [.int .u8 (x1 : Int), .int .u16 (id : Int), .bool q14, .bool q13, .int .i64 (o8 : Int), .int .u8 (x8 : Int), .int .u8 (x9 : Int), .int .u32 (src : Int), .int .u32 (dst : Int), .slice aH c c]).drew) := run_loadVar_mid _ w.heap.size 0 33 [.int .u8 (x1 : Int), .int .u16 (id : Int), .bool q14, .bool q13, .int .i64 (o8 : Int), .int .u8 (x8 : Int), .int .u8 (x9 : Int), .int .u32 (src : Int), .int .u32 (dst : Int), .slice aH c c] (.struct fs) ((World.rangeAt_drew _ _ _ _).2 hrg) hu27 rfl size27
    have HBF : Hid (Below w.heap.size w (wc.setCells w.heap.size 0 [.int .u8 (x1 : Int), .int .u16 (id : Int), .bool q14, .bool q13, .int .i64 (o8 : Int), .int .u8 (x8 : Int), .int .u8 (x9 : Int), .int .u32 (src : Int), .int .u32 (dst : Int), .slice aH c c]).drew) := below_drew (below_setCells' (Nat.le_refl _) _ _ _ (HBL.out _ hbc))
    have HSOF : Hid (SeesB (wc.setCells w.heap.size 0 [.int .u8 (x1 : Int), .int .u16 (id : Int), .bool q14, .bool q13, .int .i64 (o8 : Int), .int .u8 (x8 : Int), .int .u8 (x9 : Int), .int .u32 (src : Int), .int .u32 (dst : Int), .slice aH c c]).drew (.slice aH c c) ((L.drop 20).take c)) := sees_set (HSO.out.below hbc) (fun a ha => by
      rw [HAH.out] at ha; cases ha; show w.heap.size + 1 ≠ w.heap.size; omega)
    have HSBF : Hid (SeesB (wc.setCells w.heap.size 0 [.int .u8 (x1 : Int), .int .u16 (id : Int), .bool q14, .bool q13, .int .i64 (o8 : Int), .int .u8 (x8 : Int), .int .u8 (x9 : Int), .int .u32 (src : Int), .int .u32 (dst : Int), .slice aH c c]).drew (.slice (some aL) (k - c) (k - c)) ((L.drop 20).drop c)) := sees_set (HSB.out.below hbc) (fun a ha => by
      cases ha; rw [HAL.out]; omega)
    have HBC := hid hbc
    clear hthc hrg hu27
    clear hz d1 d8 d9 HC4 HC50 HC51 HC6 hbc HBK h14 h13
    go_upto_region 6 with fail
    go_region_held3 (fun w' => w'.cell? ⟨w3.heap.size, 0, none⟩ = some (.int .u8 (x1 : Int)) ∧ w'.cell? ⟨w3.heap.size, 1, none⟩ = some (.int .u16 (id : Int)) ∧ w'.cell? ⟨w3.heap.size, 2, none⟩ = some (.bool q14) ∧ w'.cell? ⟨w3.heap.size, 3, none⟩ = some (.bool q13) ∧ w'.cell? ⟨w3.heap.size, 4, none⟩ = some (.int .i64 (o8 : Int)) ∧ w'.cell? ⟨w3.heap.size, 5, none⟩ = some (.int .u8 (x8 : Int)) ∧ w'.cell? ⟨w3.heap.size, 6, none⟩ = some (.int .u8 (x9 : Int)) ∧ w'.cell? ⟨w3.heap.size, 7, none⟩ = some (.int .u32 (src : Int)) ∧ w'.cell? ⟨w3.heap.size, 8, none⟩ = some (.int .u32 (dst : Int)) ∧ w'.cell? ⟨w3.heap.size, 9, none⟩ = some (.slice aH c c)) (go_keep) (fail)
    go_wp2_with fail
    show bodyPost Tryz.prog Tryz.f97 _ Exit.ret _ (World.setCells wc w.heap.size 0 [.int .u8 (x1 : Int), .int .u16 (id : Int), .bool q14, .bool q13, .int .i64 (o8 : Int), .int .u8 (x8 : Int), .int .u8 (x9 : Int), .int .u32 (src : Int), .int .u32 (dst : Int), .slice aH c c]).drew
    generalize (World.setCells wc w.heap.size 0 [.int .u8 (x1 : Int), .int .u16 (id : Int), .bool q14, .bool q13, .int .i64 (o8 : Int), .int .u8 (x8 : Int), .int .u8 (x9 : Int), .int .u32 (src : Int), .int .u32 (dst : Int), .slice aH c c]).drew = wf at HLV HBF HSOF HSBF ⊢
    refine bodyPost_ret (v := .tuple #[.agg #[.int .u8 (x1 : Int), .int .u16 (id : Int), .bool q14, .bool q13, .int .i64 (o8 : Int), .int .u8 (x8 : Int), .int .u8 (x9 : Int), .int .u32 (src : Int), .int .u32 (dst : Int), .slice aH c c], .slice (some aL) (k - c) (k - c)]) (by simp [results, Tryz.results97, asAddr, HLV.out]) rfl ?_
    exact ⟨.slice aH c c, .slice (some aL) (k - c) (k - c), rfl, HSOF.out, by rw [← HDR.out]; exact HSBF.out, (fun a _ _ e => by have h1 := (Value.slice.inj e).1; rw [HAH.out] at h1; cases h1; show w.heap.size ≤ w.heap.size + 1; omega), (fun a _ _ e => by have h1 := (Value.slice.inj e).1; cases h1; rw [HAL.out]; omega), HBF.out⟩
end Go.Proofs.YtkkfioebpppffaaGreatDoor.N
