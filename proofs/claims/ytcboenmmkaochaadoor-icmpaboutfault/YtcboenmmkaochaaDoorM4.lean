import Derived.Test.YtcboenmmkaochaaDoorM3
import Derived.Deep.RegionWith
import Derived.Laws.CopyOwn
import Derived.Laws.MakeOwn
import Derived.Deep.RegionHeld3
namespace Go.Proofs.YtcboenmmkaochaaDoor.N
open Go.ChangeShapes Go.WideShapes Go.ChangeAt Go.RowKit
set_option maxHeartbeats 2000000
set_option maxRecDepth 100000

/-- Is that address a plain one? -/
def pln (a : Nat) : Bool := decide (a / 16777216 ≠ 0) && decide (a / 16777216 ≠ 127) && decide (a / 16777216 < 224)

theorem cls_pln (a : Nat) : (Ad.cls a == 0) = pln a := by
  unfold Ad.cls pln
  split
  · simp; omega
  · split
    · simp; omega
    · split
      · simp; omega
      · split
        · simp; omega
        · simp; omega

theorem isPlain_any (a : Nat) (w : World) (ha : a < 4294967296) (ht : Ad.TabC w) :
    Calls Tryd.prog 18 #[.int .u32 (a : Int)] w fun e w' => e = .returned (.bool (pln a)) ∧ Below w.heap.size w w' := by
  have HC := hid (Ad.class_any a w ha ht)
  have HE := hid (cls_pln a)
  generalize Ad.cls a = c at *
  generalize pln a = b at *
  clear ht
  go_enter Tryd.func18, Tryd.ntmps18
  go_wp2_with fail
  refine HC.out.mono ?_
  rintro _ w2 ⟨rfl, hb⟩
  go_wp2_with fail
  go_ret
  exact ⟨ret_bool HE.out, hb⟩

theorem plainEnds_any (h : Hd) (vo : Value) (w : World) (hok : h.Ok) (ht : Ad.TabC w) :
    Calls Tryd.prog 35 #[.agg (hdCells h vo)] w fun e w' => e = .returned (.bool (pln h.src && pln h.dst)) ∧ Below w.heap.size w w' := by
  obtain ⟨w1, hw1⟩ : ∃ w1, w1 = w.alloc (.cells (hdCells h vo) 27) := ⟨_, rfl⟩
  have hb1 : Below w.heap.size w w1 := by rw [hw1]; exact (Below.refl _ _).alloc (Nat.le_refl _) _
  have hs1 : w1.heap.size = w.heap.size + 1 := by rw [hw1]; simp
  have HK : Hid (∀ u, Below w1.heap.size w1 u → u.cell? ⟨w.heap.size, 7, none⟩ = some (.int .u32 (h.src : Int)) ∧ u.cell? ⟨w.heap.size, 8, none⟩ = some (.int .u32 (h.dst : Int))) := fun u hu => by
    have hk : u.heap[w.heap.size]? = some (.cells (hdCells h vo) 27 (0, 0)) := by rw [hu.block _ (by omega), hw1]; exact heap_alloc_new w _
    obtain ⟨_, _, _, _, _, _, _, h7, h8, _⟩ := hd_at hk
    exact ⟨h7, h8⟩
  have HP : Hid (∀ (a : Nat), a < 4294967296 → ∀ u, Below w1.heap.size w1 u → Calls Tryd.prog 18 #[.int .u32 (a : Int)] u fun e w' => e = .returned (.bool (pln a)) ∧ Below u.heap.size u w') := fun a ha u hu => isPlain_any a u ha ((ht.below hb1).below hu)
  have hsrc := hok.src
  have hdst := hok.dst
  have HW1 := hid hw1
  have HB1 := hid hb1
  have c1 := (HK.out _ (Below.refl _ _)).1
  clear hw1 hb1 hs1 ht hok
  generalize hdCells h vo = pk at *
  generalize h.src = sr at *
  generalize h.dst = ds at *
  go_enter Tryd.func35, Tryd.ntmps35
  go_upto_region 1 with fail
  rw [← HW1.out]
  go_wp2_with fail
  refine (HP.out sr hsrc _ (Below.refl _ _)).mono ?_
  rintro _ w2 ⟨rfl, hb2⟩
  have c2 := (HK.out _ hb2).2
  cases hp : pln sr with
  | false =>
    go_wp2_with fail
    go_ret
    exact ⟨ret_bool (by simp [hp]), HB1.out.trans (hb2.mono HB1.out.size)⟩
  | true =>
    go_wp2_with fail
    refine (HP.out ds hdst _ hb2).mono ?_
    rintro _ w3 ⟨rfl, hb3⟩
    go_wp2_with fail
    go_ret
    exact ⟨ret_bool (by simp [hp]), HB1.out.trans ((hb2.trans (hb3.mono hb2.size)).mono HB1.out.size)⟩

/-- May a fault be told about that packet? -/
def told (h : Hd) (B : List Nat) : Bool := !decide (0 < h.off) && ((pln h.src && pln h.dst) && (decide (h.proto ≠ 1) || (decide (B ≠ []) && !kF (byt B 0))))

theorem told_any (h : Hd) (vo vb : Value) (B : List Nat) (w : World) (hok : h.Ok) (hvb : SeesB w vb B) (htC : Ad.TabC w) (htK : TabK w) :
    Calls Tryd.prog 19 #[.agg (pkCells h vo vb)] w fun e w' => e = .returned (.bool (told h B)) ∧ Below w.heap.size w w' := by
  obtain ⟨w1, hw1⟩ : ∃ w1, w1 = w.alloc (.cells (pkCells h vo vb) 29) := ⟨_, rfl⟩
  have hb1 : Below w.heap.size w w1 := by rw [hw1]; exact (Below.refl _ _).alloc (Nat.le_refl _) _
  have hs1 : w1.heap.size = w.heap.size + 1 := by rw [hw1]; simp
  obtain ⟨ab, nb, capb, rfl, HNB, hnb1, hnb2⟩ := hvb.shape
  unfold maxLen at hnb2
  have HK : Hid (∀ u, Below w1.heap.size w1 u → u.heap[w.heap.size]? = some (.cells (pkCells h vo (.slice ab nb capb)) 29 (0, 0))) := fun u hu => by
    rw [hu.block _ (by omega), hw1]; exact heap_alloc_new w _
  have HC : Hid (∀ u, Below w1.heap.size w1 u → u.cell? ⟨w.heap.size, 4, none⟩ = some (.int .i64 h.off) ∧ u.cell? ⟨w.heap.size, 6, none⟩ = some (.int .u8 (h.proto : Int)) ∧ u.cell? ⟨w.heap.size, 10, none⟩ = some (.slice ab nb capb) ∧ (Instr.loadAt 27 (.pointer (some ⟨w.heap.size, 0, none⟩))).run Tryd.prog u = .ok (.agg (hdCells h vo)) u) := fun u hu =>
    ⟨pk_at (HK.out u hu) 4 (by omega), pk_at (HK.out u hu) 6 (by omega), pk_at (HK.out u hu) 10 (by omega), pk_loadH (HK.out u hu)⟩
  have HE := hid (plainEnds_any h vo w1 hok (htC.below hb1))
  have HF : Hid (∀ (t : Nat), t < 256 → ∀ u, Below w1.heap.size w1 u → Calls Tryd.prog 36 #[.int .u8 (t : Int)] u fun e w' => e = .returned (.bool (kF t)) ∧ Below u.heap.size u w') := fun t ht u hu => isFault_any t u ht ((htK.below hb1).below hu)
  have HVB := hid hvb
  have HW1 := hid hw1
  have HB1 := hid hb1
  have HR : Hid (told h B = (!decide (0 < h.off) && ((pln h.src && pln h.dst) && (decide (h.proto ≠ 1) || (decide (B ≠ []) && !kF (byt B 0)))))) := rfl
  obtain ⟨c4, c6, c10, q0⟩ := HC.out _ (Below.refl _ _)
  have HL0 := hid q0
  have HOK := hid hok.proto
  clear hw1 hb1 hs1 htC htK hvb hok q0
  generalize told h B = R at *
  generalize pkCells h vo (.slice ab nb capb) = pk at *
  generalize hdCells h vo = hc at *
  generalize (pln h.src && pln h.dst) = en at *
  generalize h.off = off at *
  generalize h.proto = pr at *
  by_cases ho : 0 < off
  · go_enter Tryd.func19, Tryd.ntmps19
    go_upto_region 1 with fail
    rw [← HW1.out]
    go_wp2_with fail
    go_ret
    exact ⟨ret_bool (by rw [HR.out]; simp [ho]), HB1.out⟩
  · cases en with
    | false =>
      go_enter Tryd.func19, Tryd.ntmps19
      go_upto_region 1 with fail
      rw [← HW1.out]
      go_wp2_with (first | (refine wpList_ld 27 ⟨w.heap.size, 0, none⟩ _ rfl rfl HL0.out rfl ?_) | fail)
      refine HE.out.mono ?_
      rintro _ w2 ⟨rfl, hb2⟩
      go_wp2_with fail
      go_ret
      exact ⟨ret_bool (by rw [HR.out]; simp), HB1.out.trans (hb2.mono HB1.out.size)⟩
    | true =>
      by_cases hp : pr = 1
      · subst hp
        by_cases hn : nb = 0
        · have HBN : Hid (B = []) := List.eq_nil_of_length_eq_zero (by have := HNB.out; omega)
          subst hn
          go_enter Tryd.func19, Tryd.ntmps19
          go_upto_region 1 with fail
          rw [← HW1.out]
          go_wp2_with (first | (refine wpList_ld 27 ⟨w.heap.size, 0, none⟩ _ rfl rfl HL0.out rfl ?_) | fail)
          refine HE.out.mono ?_
          rintro _ w2 ⟨rfl, hb2⟩
          obtain ⟨e4, e6, e10, _⟩ := HC.out _ hb2
          go_wp2_with fail
          go_ret
          exact ⟨ret_bool (by rw [HR.out, HBN.out]; simp), HB1.out.trans (hb2.mono HB1.out.size)⟩
        · have HBN : Hid (B ≠ []) := fun e => hn (by rw [HNB.out, e]; rfl)
          have hpos : 0 < nb := by omega
          have hposi : (0 : Int) < (nb : Int) := by omega
          obtain ⟨g0, o0, rfl, hg0, hc0⟩ := HVB.out.atB 0 hpos
          rw [Nat.add_zero] at hc0
          have hlt := byt_lt HVB.out.bytes 0
          generalize byt B 0 = x0 at *
          go_enter Tryd.func19, Tryd.ntmps19
          go_upto_region 1 with fail
          rw [← HW1.out]
          go_wp2_with (first | (refine wpList_ld 27 ⟨w.heap.size, 0, none⟩ _ rfl rfl HL0.out rfl ?_) | fail)
          refine HE.out.mono ?_
          rintro _ w2 ⟨rfl, hb2⟩
          obtain ⟨e4, e6, e10, _⟩ := HC.out _ hb2
          have hbw2 := HB1.out.trans (hb2.mono HB1.out.size)
          have d0 : w2.cell? ⟨g0, o0, none⟩ = some (.int .u8 (x0 : Int)) := (hbw2.cell (p := ⟨g0, _, none⟩) hg0).trans hc0
          have HBW2 := hid hbw2
          clear hbw2
          go_wp2_with fail
          refine (HF.out x0 hlt _ hb2).mono ?_
          rintro _ w3 ⟨rfl, hb3⟩
          go_wp2_with fail
          go_ret
          exact ⟨ret_bool (by rw [HR.out]; simp [HBN.out]; omega), HBW2.out.trans (hb3.mono HBW2.out.size)⟩
      · have q1 : ((pr : Int) != 1) = true := by simp; omega
        go_enter Tryd.func19, Tryd.ntmps19
        go_upto_region 1 with fail
        rw [← HW1.out]
        go_wp2_with (first | (refine wpList_ld 27 ⟨w.heap.size, 0, none⟩ _ rfl rfl HL0.out rfl ?_) | fail)
        refine HE.out.mono ?_
        rintro _ w2 ⟨rfl, hb2⟩
        obtain ⟨e4, e6, e10, _⟩ := HC.out _ hb2
        go_wp2_with fail
        go_ret
        exact ⟨ret_bool (by rw [HR.out]; simp [hp]; omega), HB1.out.trans (hb2.mono HB1.out.size)⟩
end Go.Proofs.YtcboenmmkaochaaDoor.N

namespace Go.Proofs.YtcboenmmkaochaaDoor.N
open Go.ChangeShapes Go.WideShapes Go.ChangeAt Go.RowKit
set_option maxHeartbeats 4000000
set_option maxRecDepth 100000

def small6 : Hd := ⟨0, 7, false, false, 0, 1, 17, 167838211, 167904004, [131, 3, 4, 0]⟩
def body6 : List Nat := [1, 2, 3, 4, 5, 6, 7, 8, 9, 10]

theorem small6_ok : small6.Ok := ⟨by decide, by decide, by decide, by decide, by decide, by decide, by decide⟩

theorem size_pk : (Tryd.prog.info? 29).map (·.size) = some 11 := by kernel_rfl

theorem pk_one (h : Hd) {w : World} {vo vb : Value} {L B : List Nat} (ho : SeesB w vo L) (hb : SeesB w vb B) : (pkCells h vo vb).all (·.oneCell') = true := by
  obtain ⟨a1, n1, c1, rfl, _, _, _⟩ := ho.shape
  obtain ⟨a2, n2, c2, rfl, _, _, _⟩ := hb.shape
  simp [pkCells, Value.oneCell']

def zeroP : Array Value := #[.int .u8 0, .int .u16 0, .bool false, .bool false, .int .i64 0, .int .u8 0, .int .u8 0, .int .u32 0, .int .u32 0, .slice none 0 0, .slice none 0 0]

theorem small_any (w : World) :
    Calls Tryd.prog 8 #[] w fun e w' => ∃ a1 n1 c1 a2 n2 c2, e = .returned (.agg (pkCells small6 (.slice a1 n1 c1) (.slice a2 n2 c2))) ∧ SeesB w' (.slice a1 n1 c1) small6.opts ∧ SeesB w' (.slice a2 n2 c2) body6 ∧ (∀ a, a1 = some a → w.heap.size ≤ a.block) ∧ Below w.heap.size w w' := by
  obtain ⟨w1, hw1⟩ : ∃ w1, w1 = w.alloc (.cells zeroP 29) := ⟨_, rfl⟩
  have hs1 : w1.heap.size = w.heap.size + 1 := by rw [hw1]; simp
  have hb1 : Below w.heap.size w w1 := by rw [hw1]; exact (Below.refl _ _).alloc (Nat.le_refl _) _
  obtain ⟨w2, hw2⟩ : ∃ w2, w2 = w1.alloc (.cells #[.int .u8 131, .int .u8 3, .int .u8 4, .int .u8 0] 5) := ⟨_, rfl⟩
  have hs2 : w2.heap.size = w1.heap.size + 1 := by rw [hw2]; simp
  have hb2 : Below w1.heap.size w1 w2 := by rw [hw2]; exact (Below.refl _ _).alloc (Nat.le_refl _) _
  obtain ⟨w3, hw3⟩ : ∃ w3, w3 = w2.alloc (.cells #[.int .u8 1, .int .u8 2, .int .u8 3, .int .u8 4, .int .u8 5, .int .u8 6, .int .u8 7, .int .u8 8, .int .u8 9, .int .u8 10] 5) := ⟨_, rfl⟩
  have hb3 : Below w2.heap.size w2 w3 := by rw [hw3]; exact (Below.refl _ _).alloc (Nat.le_refl _) _
  have ho2 : SeesB w3 (.slice (some ⟨w.heap.size + 1, 0, none⟩) 4 4) small6.opts := by
    refine SeesB.below (w := w2) (sees_blk (t := 5) ?_ rfl (by decide) (by decide)) hb3
    rw [← hs1, hw2]; exact heap_alloc_new w1 _
  have ho3 : SeesB w3 (.slice (some ⟨w.heap.size + 2, 0, none⟩) 10 10) body6 := by
    refine sees_blk (t := 5) ?_ rfl (by decide) (by decide)
    rw [show w.heap.size + 2 = w2.heap.size by omega, hw3]; exact heap_alloc_new w2 _
  have hth : w3.there w.heap.size 0 11 := there_blk (C := zeroP) (t := 29) (by
    rw [hb3.block _ (by omega), hb2.block _ (by omega), hw1]; exact heap_alloc_new w _) rfl
  have hbw : Below w.heap.size w w3 := hb1.trans ((hb2.trans (hb3.mono (by omega))).mono (by omega))
  obtain ⟨zz, hzz⟩ : ∃ zz : Array Value, zz = pkCells small6 (.slice (some ⟨w.heap.size + 1, 0, none⟩) 4 4) (.slice (some ⟨w.heap.size + 2, 0, none⟩) 10 10) := ⟨_, rfl⟩
  have HZ := hid hzz
  have HONE : Hid (zz.all (·.oneCell') = true) := by unfold Hid; rw [hzz]; exact pk_one _ ho2 ho3
  have HINF : Hid ((Tryd.prog.info? 29).map (·.size) = some zz.size) := by unfold Hid; rw [hzz]; exact size_pk
  have HTU : Hid (w3.there w.heap.size 0 zz.size) := by unfold Hid; rw [hzz]; exact hth
  have HLV := hid (load_cell HTU.out Tryd.underlying29 HINF.out)
  have HBF := hid (below_setCells (Nat.le_refl _) zz.toList 0 w3 hbw)
  have HS2 := hid (sees_setI (b := w.heap.size) (vs := zz.toList) ho2 (fun a ha => by cases ha; show w.heap.size + 1 ≠ w.heap.size; omega))
  have HS3 := hid (sees_setI (b := w.heap.size) (vs := zz.toList) ho3 (fun a ha => by cases ha; show w.heap.size + 2 ≠ w.heap.size; omega))
  have HW : Hid (w3 = ((w.alloc (.cells #[.int .u8 0, .int .u16 0, .bool false, .bool false, .int .i64 0, .int .u8 0, .int .u8 0, .int .u32 0, .int .u32 0, .slice none 0 0, .slice none 0 0] 29)).alloc (.cells #[.int .u8 131, .int .u8 3, .int .u8 4, .int .u8 0] 5)).alloc (.cells #[.int .u8 1, .int .u8 2, .int .u8 3, .int .u8 4, .int .u8 5, .int .u8 6, .int .u8 7, .int .u8 8, .int .u8 9, .int .u8 10] 5)) := by
    unfold Hid; rw [hw3, hw2, hw1]; rfl
  clear hw1 hw2 hw3 hs1 hs2 hb1 hb2 hb3 ho2 ho3 hth hbw hzz
  go_enter Tryd.func8, Tryd.ntmps8
  go_wp2_with (first
    | (rw [← HW.out]; refine wpList_store_mid rfl 29 (.tmp 0) (.tmp 4) rfl w.heap.size 0 zz rfl (by rw [HZ.out]; rfl) HTU.out HINF.out HONE.out ?_)
    | fail)
  generalize w3.setCells w.heap.size 0 zz.toList = wf at HLV HBF HS2 HS3 ⊢
  refine bodyPost_ret (v := .agg zz) (by simp [results, Tryd.results8, asAddr, Act.put, HLV.out]) rfl ?_
  exact ⟨_, _, _, _, _, _, by rw [HZ.out], HS2.out, HS3.out, (fun a ha => by cases ha; show w.heap.size ≤ w.heap.size + 1; omega), HBF.out⟩

/-- Cells written one behind the other. -/
def wr (C : Array Value) : Nat → List Value → Array Value
  | _, [] => C
  | o, v :: vs => wr (C.setIfInBounds o v) (o + 1) vs

theorem heap_setCell_row {w : World} {b o : Nat} {C : Array Value} {T : TypeId} {fz : Nat × Nat} (h : w.heap[b]? = some (.cells C T fz)) (v : Value) : (w.setCell ⟨b, o, none⟩ v).heap[b]? = some (.cells (C.setIfInBounds o v) T fz) := by
  simp only [World.setCell, Array.getElem?_modify, h]
  simp

theorem heap_setCells_row {b : Nat} {T : TypeId} {fz : Nat × Nat} : ∀ (vs : List Value) (o : Nat) (w : World) (C : Array Value), w.heap[b]? = some (.cells C T fz) → (w.setCells b o vs).heap[b]? = some (.cells (wr C o vs) T fz)
  | [], _, _, _, h => h
  | v :: vs, o, w, C, h => by
    rw [World.setCells]
    exact heap_setCells_row vs (o + 1) _ _ (heap_setCell_row h v)

theorem wr_pk (h : Hd) (vo vb : Value) : wr zeroP 0 (pkCells h vo vb).toList = pkCells h vo vb := by
  simp [wr, zeroP, pkCells]

def req6 : Hd := ⟨0, 7, false, false, 0, 1, 1, 167838211, 167904004, [131, 3, 4, 0]⟩
def reqB : List Nat := [8, 0, 51, 154, 0, 1, 0, 2, 97, 98, 99]
theorem req6_ok : req6.Ok := ⟨by decide, by decide, by decide, by decide, by decide, by decide, by decide⟩

end Go.Proofs.YtcboenmmkaochaaDoor.N

namespace Go.Proofs.YtcboenmmkaochaaDoor.N
open Go.ChangeShapes Go.WideShapes Go.ChangeAt Go.RowKit
set_option maxHeartbeats 1000000
set_option maxRecDepth 100000

theorem built_bytes {h : Hd} {B : List Nat} (hok : h.Ok) (ho : ∀ x ∈ h.opts, x < 256) (hb : ∀ x ∈ B, x < 256) : ∀ x ∈ builtL h B, x < 256 := by
  unfold builtL
  by_cases he : refE h B.length = 0
  · rw [if_pos he]
    obtain ⟨r1, r2, r3⟩ := refE_ok he
    obtain ⟨l1, l2⟩ := area_len r1
    obtain ⟨f, hf, hf1⟩ : ∃ f : Nat, h.off = (f : Int) ∧ f ≤ 65528 := by
      unfold M.pieceOk at r2
      simp at r2
      exact ⟨h.off.toNat, by omega, by omega⟩
    intro x hx
    rcases List.mem_append.1 hx with hx | hx
    · exact hdBytes_ok hok ho l1 hf hf1 (by unfold lenOfPk; omega) (M.csum_lt _) x hx
    · exact hb x hx
  · rw [if_neg he]
    intro x hx; cases hx

/-- The program's Build. -/
theorem build_code (h : Hd) (vo vb : Value) (B : List Nat) (w : World) (hok : h.Ok) (hvo : SeesB w vo h.opts) (hvb : SeesB w vb B) (hlo : h.opts.length ≤ 140737488355328) (hlb : B.length ≤ 140737488355328) :
    Calls Tryd.prog 13 #[.agg (pkCells h vo vb)] w fun e w' => ∃ ao n cap, e = .returned (.tuple #[.slice ao n cap, .int .i64 (refE h B.length)]) ∧ SeesB w' (.slice ao n cap) (builtL h B) ∧ Below w.heap.size w w' := by
  by_cases he : refE h B.length = 0
  · rw [he]
    exact build_good h vo vb B w hok hvo hvb he
  · refine (build_bad h vo vb B w hok hvo hvb hlo hlb he).mono ?_
    rintro e w' ⟨rfl, hb⟩
    refine ⟨none, 0, 0, rfl, ?_, hb⟩
    unfold builtL
    rw [if_neg he]
    exact sees_nil _

end Go.Proofs.YtcboenmmkaochaaDoor.N

namespace Go.Proofs.YtcboenmmkaochaaDoor.N
open Go.ChangeShapes Go.WideShapes Go.ChangeAt Go.RowKit
set_option maxHeartbeats 2000000
set_option maxRecDepth 100000

/-- The head of a packet that is made here. -/
def mdH (tos src dst : Nat) : Hd := ⟨tos, 0, false, false, 0, 64, 1, src, dst, []⟩
def md0 (tos src dst : Nat) : Hd := ⟨tos, 0, false, false, 0, 0, 0, src, dst, []⟩

theorem build_md (tos src dst : Int) (p : Option Addr) (n cap : Nat) (u : World) : (Instr.build 29 #[(0, .agg #[.int .u8 tos, .int .u16 0, .bool false, .bool false, .int .i64 0, .int .u8 64, .int .u8 1, .int .u32 src, .int .u32 dst, .slice none 0 0]), (1, .slice p n cap)]).run Tryd.prog u = .ok (.agg #[.int .u8 tos, .int .u16 0, .bool false, .bool false, .int .i64 0, .int .u8 64, .int .u8 1, .int .u32 src, .int .u32 dst, .slice none 0 0, .slice p n cap]) u := by
  simp [Instr.build, run_underlying Tryd.underlying29, go_sem]

/-- A result that lies in a cell of its own. -/
theorem res_end {w u : World} {r : Nat} {T : TypeId} {fs : Array Field} {zz : Array Value} (hth : u.there r 0 zz.size) (hr : w.heap.size ≤ r) (hb : Below w.heap.size w u) (hu : Tryd.prog.underlying T = some (.struct fs)) (hi : (Tryd.prog.info? T).map (·.size) = some zz.size) :
    (loadVar T ⟨r, 0, none⟩).run Tryd.prog (u.setCells r 0 zz.toList) = .ok (.agg zz) (u.setCells r 0 zz.toList) ∧ Below w.heap.size w (u.setCells r 0 zz.toList) :=
  ⟨load_cell hth hu hi, below_setCells hr _ _ _ hb⟩

def FC (hc ct : Array Value) (mk : Value → Value) (L : List Nat) (base : Nat) : Nat → Value → World → Prop
  | 0, v, _ => v = .agg hc
  | 1, v, _ => v = .agg ct
  | 2, v, w => ∃ g k, v = .slice (some ⟨g, 0, none⟩) k k ∧ SeesB w v L ∧ base ≤ g
  | 3, v, w => ∃ g k, v = mk (.slice (some ⟨g, 0, none⟩) k k) ∧ SeesB w (.slice (some ⟨g, 0, none⟩) k k) L ∧ base ≤ g
  | _, _, _ => True

theorem FC.keeps (hc ct : Array Value) (mk : Value → Value) (L : List Nat) (base : Nat) : ∀ (i : Nat) (v : Value) (w w' : World), FC hc ct mk L base i v w → Below w.heap.size w w' → FC hc ct mk L base i v w' := fun i v w w' h hb => by
  match i, h with
  | 0, h => exact h
  | 1, h => exact h
  | 2, ⟨g, k, e, hs, hg⟩ => exact ⟨g, k, e, hs.below hb, hg⟩
  | 3, ⟨g, k, e, hs, hg⟩ => exact ⟨g, k, e, hs.below hb, hg⟩
  | n + 4, _ => trivial

theorem carry_any (m : Im.Ct) (vm : Value) (tos src dst : Nat) (w : World) (hok : m.Ok) (hvm : SeesB w vm m.B) (hl : m.B.length ≤ 65507) :
    Calls Tryd.prog 21 #[.agg (ctCells m vm), .agg (hdCells (md0 tos src dst) (.slice none 0 0))] w fun e w' => ∃ g k, e = .returned (.agg (pkCells (mdH tos src dst) (.slice none 0 0) (.slice (some ⟨g, 0, none⟩) k k))) ∧ SeesB w' (.slice (some ⟨g, 0, none⟩) k k) (Im.laid m) ∧ w.heap.size ≤ g ∧ Below w.heap.size w w' := by
  obtain ⟨wa, hwa⟩ : ∃ wa, wa = w.alloc (.cells (ctCells m vm) 37) := ⟨_, rfl⟩
  obtain ⟨wb, hwb⟩ : ∃ wb, wb = wa.alloc (.cells (hdCells (md0 tos src dst) (.slice none 0 0)) 27) := ⟨_, rfl⟩
  obtain ⟨w1, hw1⟩ : ∃ w1, w1 = wb.alloc (.cells zeroP 29) := ⟨_, rfl⟩
  have hsa : wa.heap.size = w.heap.size + 1 := by rw [hwa]; simp
  have hsb : wb.heap.size = w.heap.size + 2 := by rw [hwb]; simp [hsa]
  have hs1 : w1.heap.size = w.heap.size + 3 := by rw [hw1]; simp [hsb]
  have hba : Below w.heap.size w wa := by rw [hwa]; exact (Below.refl _ _).alloc (Nat.le_refl _) _
  have hbb : Below wa.heap.size wa wb := by rw [hwb]; exact (Below.refl _ _).alloc (Nat.le_refl _) _
  have hbc : Below wb.heap.size wb w1 := by rw [hw1]; exact (Below.refl _ _).alloc (Nat.le_refl _) _
  have hb1 : Below w.heap.size w w1 := hba.trans ((hbb.trans (hbc.mono (by omega))).mono (by omega))
  have k0 : w1.heap[w.heap.size]? = some (.cells (ctCells m vm) 37 (0, 0)) := by
    rw [hbc.block _ (by omega), hbb.block _ (by omega), hwa]; exact heap_alloc_new w _
  have k1 : w1.heap[w.heap.size + 1]? = some (.cells (hdCells (md0 tos src dst) (.slice none 0 0)) 27 (0, 0)) := by
    rw [hbc.block _ (by omega), ← hsa, hwb]; exact heap_alloc_new wa _
  have k2 : w1.heap[w.heap.size + 2]? = some (.cells zeroP 29 (0, 0)) := by
    rw [← hsb, hw1]; exact heap_alloc_new wb _
  obtain ⟨w2, hw2⟩ : ∃ w2, w2 = (w1.setCell ⟨w.heap.size + 1, 5, none⟩ (.int .u8 64)).setCell ⟨w.heap.size + 1, 6, none⟩ (.int .u8 1) := ⟨_, rfl⟩
  have j1 : w2.heap[w.heap.size + 1]? = some (.cells (hdCells (mdH tos src dst) (.slice none 0 0)) 27 (0, 0)) := by
    rw [hw2]; exact heap_setCell_row (heap_setCell_row k1 _) _
  have hu2 : But (w.heap.size + 1) w1 w2 := by rw [hw2]; exact (But.set _ _ _ _).trans (But.set _ _ _ _)
  have j0 : w2.heap[w.heap.size]? = some (.cells (ctCells m vm) 37 (0, 0)) := (hu2.block _ (by omega) (by omega)).trans k0
  have j2 : w2.heap[w.heap.size + 2]? = some (.cells zeroP 29 (0, 0)) := (hu2.block _ (by omega) (by omega)).trans k2
  have hb2 : Below w.heap.size w w2 := hu2.below hb1 hb1.size (by omega)
  have hs2 : w2.heap.size = w.heap.size + 3 := by rw [hw2]; simp [World.setCell, hs1]
  have d5 : w1.cell? ⟨w.heap.size + 1, 5, none⟩ = some (.int .u8 0) := by rw [cell_of_row _ _ _ _ _ _ k1]; rfl
  have d6 : w1.cell? ⟨w.heap.size + 1, 6, none⟩ = some (.int .u8 0) := by rw [cell_of_row _ _ _ _ _ _ k1]; rfl
  have f5 : w1.frozen? ⟨w.heap.size + 1, 5, none⟩ = false := frozen_of_row _ _ _ _ _ k1
  have f6 : w1.frozen? ⟨w.heap.size + 1, 6, none⟩ = false := frozen_of_row _ _ _ _ _ k1
  have HLH : Hid (∀ u, Below w2.heap.size w2 u → (Instr.loadAt 27 (.pointer (some ⟨w.heap.size + 1, 0, none⟩))).run Tryd.prog u = .ok (.agg (hdCells (mdH tos src dst) (.slice none 0 0))) u) := fun u hu => by
    have hk := (hu.block (w.heap.size + 1) (by omega)).trans j1
    obtain ⟨fs, hu27⟩ := und27
    refine run_loadAt_mid u (w.heap.size + 1) 0 27 (hdCells (mdH tos src dst) (.slice none 0 0)).toList (.struct fs) (fun j v hv => ?_) hu27 rfl (by rw [show (Tryd.prog.info? 27).map (·.size) = some 10 from by kernel_rfl]; rfl)
    rw [Nat.zero_add, cell_of_row _ _ _ _ _ _ hk, ← hv, Array.getElem?_toList]
  have HLC : Hid (∀ u, Below w2.heap.size w2 u → (Instr.loadAt 37 (.pointer (some ⟨w.heap.size, 0, none⟩))).run Tryd.prog u = .ok (.agg (ctCells m vm)) u) := fun u hu => by
    have hk := (hu.block w.heap.size (by omega)).trans j0
    refine run_loadAt_mid u w.heap.size 0 37 (ctCells m vm).toList (.struct _) (fun j v hv => ?_) Tryd.underlying37 rfl (by rw [size_ct]; rfl)
    rw [Nat.zero_add, cell_of_row _ _ _ _ _ _ hk, ← hv, Array.getElem?_toList]
  have HLAY : Hid (∀ u, Below w2.heap.size w2 u → Calls Tryd.prog 37 #[.agg (ctCells m vm)] u fun e w' => ∃ g k, e = .returned (.slice (some ⟨g, 0, none⟩) k k) ∧ SeesB w' (.slice (some ⟨g, 0, none⟩) k k) (Im.laid m) ∧ Blk w' g (Im.laid m) ∧ u.heap.size ≤ g ∧ Below u.heap.size u w') := fun u hu => lay_any m vm u hok (hvm.below (hb2.trans (hu.mono hb2.size))) hl
  have HTH : Hid (∀ u, Below w2.heap.size w2 u → u.there (w.heap.size + 2) 0 11) := fun u hu => there_blk (C := zeroP) (t := 29) ((hu.block _ (by omega)).trans j2) rfl
  have HW1 : Hid (w1 = ((w.alloc (.cells (ctCells m vm) 37)).alloc (.cells (hdCells (md0 tos src dst) (.slice none 0 0)) 27)).alloc (.cells #[.int .u8 0, .int .u16 0, .bool false, .bool false, .int .i64 0, .int .u8 0, .int .u8 0, .int .u32 0, .int .u32 0, .slice none 0 0, .slice none 0 0] 29)) := by unfold Hid; rw [hw1, hwb, hwa]; rfl
  have HW2 := hid hw2
  have HB2 := hid hb2
  have HS2 := hid hs2
  have hne : ¬ w.heap.size + 1 = w.heap.size := by omega
  have HHD : Hid (hdCells (mdH tos src dst) (.slice none 0 0) = #[.int .u8 (tos : Int), .int .u16 0, .bool false, .bool false, .int .i64 0, .int .u8 64, .int .u8 1, .int .u32 (src : Int), .int .u32 (dst : Int), .slice none 0 0]) := rfl
  clear hwa hwb hw1 hw2 hsa hsb hs1 hba hbb hbc hb1 k0 k1 k2 j0 j1 j2 hu2 hb2 hs2 hvm hok hl
  generalize hdCells (md0 tos src dst) (.slice none 0 0) = hc0 at *
  generalize hhc : hdCells (mdH tos src dst) (.slice none 0 0) = hc at *
  generalize ctCells m vm = ct at *
  go_enter Tryd.func21, Tryd.ntmps21
  go_upto_region 1 with fail
  rw [← HW1.out]
  go_upto_region 2 with fail
  rw [← HW2.out]
  refine wp_region_mono' 4 (fun i => 7 + i) (FC hc ct (fun v => .agg (pkCells (mdH tos src dst) (.slice none 0 0) v)) (Im.laid m) w2.heap.size) (by kernel_rfl) (by kernel_rfl) (FC.keeps _ _ _ _ _) ?_ ?_
  · simp only [List.take_succ_cons, List.take_zero, stepsOk]
    refine ⟨?_, ?_, ?_, ?_, trivial⟩
    · intro a u vs hb hold hdep
      exact wp_load 27 ⟨w.heap.size + 1, 0, none⟩ (.tmp 3) _ rfl (hold 3 (fun j _ => low (by decide))) (HLH.out u hb) ⟨_, rfl, rfl, hb, Below.refl _ _⟩
    · intro a u vs hb hold hdep
      exact wp_load 37 ⟨w.heap.size, 0, none⟩ (.tmp 2) _ rfl (hold 2 (fun j _ => low (by decide))) (HLC.out u hb) ⟨_, rfl, rfl, hb, Below.refl _ _⟩
    · intro a u vs hb hold hdep
      have h1 := hdep ⟨1, .data⟩ (by simp) rfl (by decide)
      have e1 : a.eval (.tmp 8) = .agg ct := h1.1.trans h1.2
      refine wp_call 37 _ _ rfl (enters_of Tryd.func37 (by kernel_rfl) rfl) #[.agg ct] (by simp only [List.map_toArray, List.map_cons, List.map_nil, e1]) ?_
      refine (HLAY.out u hb).mono ?_
      rintro _ u' ⟨g, k, rfl, hs, _, hg, hb'⟩
      exact ⟨_, rfl, _, rfl, ⟨g, k, rfl, hs, Nat.le_trans hb.size hg⟩, hb.trans (hb'.mono hb.size), hb'⟩
    · intro a u vs hb hold hdep
      have h0 := hdep ⟨0, .data⟩ (by simp) rfl (by decide)
      have h2 := hdep ⟨2, .data⟩ (by simp) rfl (by decide)
      obtain ⟨g, k, ev, hs, hg⟩ := h2.2
      rw [ev] at hs
      have e0 : a.eval (.tmp 7) = .agg #[.int .u8 (tos : Int), .int .u16 0, .bool false, .bool false, .int .i64 0, .int .u8 64, .int .u8 1, .int .u32 (src : Int), .int .u32 (dst : Int), .slice none 0 0] := (h0.1.trans h0.2).trans (by rw [HHD.out])
      have e2 : a.eval (.tmp 9) = .slice (some ⟨g, 0, none⟩) k k := h2.1.trans ev
      exact wp_val (ex_build _ _ #[(0, .agg #[.int .u8 (tos : Int), .int .u16 0, .bool false, .bool false, .int .i64 0, .int .u8 64, .int .u8 1, .int .u32 (src : Int), .int .u32 (dst : Int), .slice none 0 0]), (1, .slice (some ⟨g, 0, none⟩) k k)] (.agg (pkCells (mdH tos src dst) (.slice none 0 0) (.slice (some ⟨g, 0, none⟩) k k))) rfl (by simp only [List.map_toArray, List.map_cons, List.map_nil, e0, e2]) (build_md _ _ _ _ _ _ u))
        ⟨_, rfl, ⟨g, k, rfl, hs, hg⟩, hb, Below.refl _ _⟩
  intro vs u hb hF
  have e0 : vs 0 = .agg hc := hF 0 (by decide)
  have e1 : vs 1 = .agg ct := hF 1 (by decide)
  obtain ⟨g, k, e3, hs, hg⟩ := hF 3 (by decide)
  obtain ⟨zz, hzz⟩ : ∃ zz : Array Value, zz = pkCells (mdH tos src dst) (.slice none 0 0) (.slice (some ⟨g, 0, none⟩) k k) := ⟨_, rfl⟩
  have e3 : vs 3 = .agg zz := e3.trans (by rw [hzz])
  generalize vs 2 = v2
  simp only [List.drop_succ_cons, List.drop_zero, puts, List.range, List.range.loop, List.foldr, if_true, Act.put, e0, e1, e3, Nat.reduceAdd, List.setIfInBounds_toArray, List.set_cons_succ, List.set_cons_zero]
  clear e0 e1 e3 hF
  have HZ := hid hzz
  have HONE : Hid (zz.all (·.oneCell') = true) := by unfold Hid; rw [hzz]; exact pk_one _ (sees_nil u) hs
  have HINF : Hid ((Tryd.prog.info? 29).map (·.size) = some zz.size) := by unfold Hid; rw [hzz]; exact size_pk
  have HTU : Hid (u.there (w.heap.size + 2) 0 zz.size) := by unfold Hid; rw [hzz]; exact HTH.out u hb
  obtain ⟨q1, q2⟩ := res_end (w := w) HTU.out (by omega) (HB2.out.trans (hb.mono HB2.out.size)) Tryd.underlying29 HINF.out
  have HLV := hid q1
  have HBF := hid q2
  have HSF := hid (sees_setI (b := w.heap.size + 2) (vs := zz.toList) hs (fun a ha => by cases ha; show g ≠ w.heap.size + 2; have := HS2.out; omega))
  clear q1 q2 hzz hs
  go_wp2_with (first
    | (refine wpList_store_mid rfl 29 (.tmp 4) (.tmp 10) rfl (w.heap.size + 2) 0 zz rfl rfl HTU.out HINF.out HONE.out ?_)
    | fail)
  generalize u.setCells (w.heap.size + 2) 0 zz.toList = wf at HLV HBF HSF ⊢
  refine bodyPost_ret (v := .agg zz) (by simp [results, Tryd.results21, asAddr, HLV.out]) rfl ?_
  exact ⟨g, k, by rw [HZ.out], HSF.out, by have := HS2.out; omega, HBF.out⟩

/-- The error of the message that a packet carries. -/
def msgE (h : Hd) (B : List Nat) : Int := if refE h B.length ≠ 0 then refE h B.length else if h.proto ≠ 1 ∨ 0 < h.off ∨ h.mf = true then 60 else Im.prE B
def msgC (h : Hd) (B : List Nat) : Im.Ct := if msgE h B = 0 then Im.prC B else Im.none0

theorem msg_bad {h : Hd} {B : List Nat} {e : Int} (hr : refE h B.length = e) (he : e ≠ 0) : msgE h B = e ∧ msgC h B = Im.none0 := by
  have h1 : msgE h B = e := by unfold msgE; rw [if_pos (by rw [hr]; exact he), hr]
  exact ⟨h1, by unfold msgC; rw [if_neg (by rw [h1]; exact he)]⟩

theorem msg_60 {h : Hd} {B : List Nat} (hr : refE h B.length = 0) (hc : h.proto ≠ 1 ∨ 0 < h.off ∨ h.mf = true) : msgE h B = 60 ∧ msgC h B = Im.none0 := by
  have h1 : msgE h B = 60 := by unfold msgE; rw [if_neg (by rw [hr]; simp), if_pos hc]
  exact ⟨h1, by unfold msgC; rw [if_neg (by rw [h1]; decide)]⟩

theorem msg_pr {h : Hd} {B : List Nat} (hr : refE h B.length = 0) (hc : ¬ (h.proto ≠ 1 ∨ 0 < h.off ∨ h.mf = true)) : msgE h B = Im.prE B ∧ msgC h B = Im.prC B := by
  have h1 : msgE h B = Im.prE B := by unfold msgE; rw [if_neg (by rw [hr]; simp), if_neg hc]
  refine ⟨h1, ?_⟩
  unfold msgC
  rw [h1]
  split
  · rfl
  · rename_i h2; unfold Im.prC; rw [if_neg h2]

theorem message_any (h : Hd) (vo vb : Value) (B : List Nat) (w : World) (hok : h.Ok) (hvo : SeesB w vo h.opts) (hvb : SeesB w vb B) (hlo : h.opts.length ≤ 140737488355328) (hlb : B.length ≤ 140737488355328) :
    Calls Tryd.prog 38 #[.agg (pkCells h vo vb)] w fun e w' => ∃ ao n cap, e = .returned (.tuple #[.agg (ctCells (msgC h B) (.slice ao n cap)), .int .i64 (msgE h B)]) ∧ SeesB w' (.slice ao n cap) (msgC h B).B ∧ (∀ a, ao = some a → w.heap.size ≤ a.block) ∧ Below w.heap.size w w' := by
  obtain ⟨wa, hwa⟩ : ∃ wa, wa = w.alloc (.cells (pkCells h vo vb) 29) := ⟨_, rfl⟩
  obtain ⟨w1, hw1⟩ : ∃ w1, w1 = wa.alloc (.cells zeroC 37) := ⟨_, rfl⟩
  have hsa : wa.heap.size = w.heap.size + 1 := by rw [hwa]; simp
  have hs1 : w1.heap.size = w.heap.size + 2 := by rw [hw1]; simp [hsa]
  have hba : Below w.heap.size w wa := by rw [hwa]; exact (Below.refl _ _).alloc (Nat.le_refl _) _
  have hbb : Below wa.heap.size wa w1 := by rw [hw1]; exact (Below.refl _ _).alloc (Nat.le_refl _) _
  have hb1 : Below w.heap.size w w1 := hba.trans (hbb.mono (by omega))
  have k0 : w1.heap[w.heap.size]? = some (.cells (pkCells h vo vb) 29 (0, 0)) := by
    rw [hbb.block _ (by omega), hwa]; exact heap_alloc_new w _
  have k1 : w1.heap[w.heap.size + 1]? = some (.cells zeroC 37 (0, 0)) := by
    rw [← hsa, hw1]; exact heap_alloc_new wa _
  have HLD := hid (pk_load k0)
  have HBD := hid (build_code h vo vb B w1 hok (hvo.below hb1) (hvb.below hb1) hlo hlb)
  obtain ⟨ab, nb, capb, rfl, HNB, hnb1, hnb2⟩ := hvb.shape
  have HC : Hid (∀ u, Below w1.heap.size w1 u → u.cell? ⟨w.heap.size, 3, none⟩ = some (.bool h.mf) ∧ u.cell? ⟨w.heap.size, 4, none⟩ = some (.int .i64 h.off) ∧ u.cell? ⟨w.heap.size, 6, none⟩ = some (.int .u8 (h.proto : Int)) ∧ u.cell? ⟨w.heap.size, 10, none⟩ = some (.slice ab nb capb)) := fun u hu => by
    have hk := (hu.block w.heap.size (by omega)).trans k0
    exact ⟨pk_at hk 3 (by omega), pk_at hk 4 (by omega), pk_at hk 6 (by omega), pk_at hk 10 (by omega)⟩
  have HTH : Hid (∀ u, Below w1.heap.size w1 u → u.there (w.heap.size + 1) 0 4) := fun u hu => there_blk (C := zeroC) (t := 37) ((hu.block _ (by omega)).trans k1) rfl
  have HPR : Hid (∀ u, Below w1.heap.size w1 u → Calls Tryd.prog 26 #[.slice ab nb capb] u fun e w' => ∃ ao n cap, e = .returned (.tuple #[.agg (ctCells (Im.prC B) (.slice ao n cap)), .int .i64 (Im.prE B)]) ∧ SeesB w' (.slice ao n cap) (Im.prC B).B ∧ (∀ a, ao = some a → u.heap.size ≤ a.block) ∧ Below u.heap.size u w') := fun u hu => iparse_any _ B u (hvb.below (hb1.trans (hu.mono hb1.size)))
  have HW1 : Hid (w1 = (w.alloc (.cells (pkCells h vo (.slice ab nb capb)) 29)).alloc (.cells #[.int .u8 0, .int .u8 0, .int .u32 0, .slice none 0 0] 37)) := by unfold Hid; rw [hw1, hwa]; rfl
  have HB1 := hid hb1
  have HS1 := hid hs1
  have HBW : Hid (∀ u, Below w1.heap.size w1 u → Below w.heap.size w u) := fun u hu => hb1.trans (hu.mono hb1.size)
  have HM0 := fun (e : Int) => @msg_bad h B e
  have HM1 := @msg_60 h B
  have HM2 := @msg_pr h B
  have HM := hid (And.intro HM0 (And.intro HM1 HM2))
  clear HM0 HM1 HM2 hwa hw1 hsa hs1 hba hbb hb1 k0 k1 hvb hvo hok hlo hlb
  generalize msgE h B = ME at *
  generalize msgC h B = MC at *
  generalize refE h B.length = q at *
  generalize pkCells h vo (.slice ab nb capb) = pk at *
  generalize h.mf = mf at *
  generalize h.off = off at *
  generalize h.proto = pr at *
  obtain ⟨zz, hzz⟩ : ∃ zz : Array Value, zz = zeroC := ⟨_, rfl⟩
  have HZ : Hid (zz = #[.int .u8 0, .int .u8 0, .int .u32 0, .slice none 0 0]) := hzz
  have HONE : Hid (zz.all (·.oneCell') = true) := by unfold Hid; rw [hzz]; simp [zeroC, Value.oneCell']
  have HINF : Hid ((Tryd.prog.info? 37).map (·.size) = some zz.size) := by unfold Hid; rw [hzz]; exact size_ct
  have HZC : Hid (zz = ctCells Im.none0 (.slice none 0 0)) := hzz
  have HZS : Hid (zz.size = 4) := by unfold Hid; rw [hzz]; rfl
  clear hzz
  by_cases hq : q = 0
  · subst hq
    by_cases hp : pr = 1
    · subst hp
      by_cases ho : 0 < off
      · have HE := hid (HM.out.2.1 rfl (.inr (.inl ho)))
        clear HM
        go_enter Tryd.func38, Tryd.ntmps38
        go_upto_region 1 with fail
        rw [← HW1.out]
        go_wp2_with (first | (refine wpList_ld 29 ⟨w.heap.size, 0, none⟩ _ rfl rfl HLD.out rfl ?_) | fail)
        refine HBD.out.mono ?_
        rintro _ w2 ⟨a2, n2, c2, rfl, _, hb2⟩
        obtain ⟨e3, e4, e6, e10⟩ := HC.out _ hb2
        have HTU : Hid (w2.there (w.heap.size + 1) 0 zz.size) := by unfold Hid; rw [HZS.out]; exact HTH.out _ hb2
        obtain ⟨q1, q2⟩ := res_end (w := w) HTU.out (by omega) (HBW.out _ hb2) Tryd.underlying37 HINF.out
        have HLV := hid q1
        have HBF := hid q2
        clear q1 q2
        go_wp2_with (first
          | (refine wpList_store_mid rfl 37 (.tmp 2) (.tmp 30) rfl (w.heap.size + 1) 0 zz rfl (by rw [HZ.out]; rfl) HTU.out HINF.out HONE.out ?_)
          | fail)
        generalize w2.setCells (w.heap.size + 1) 0 zz.toList = wf at HLV HBF ⊢
        refine bodyPost_ret (v := .tuple #[.agg zz, .int .i64 60]) (by simp [results, Tryd.results38, asAddr, HLV.out]) rfl ?_
        rw [HE.out.1, HE.out.2]
        exact ⟨none, 0, 0, by rw [HZC.out], sees_nil _, (fun a ha => by cases ha), HBF.out⟩
      · cases mf with
        | true =>
          have HE := hid (HM.out.2.1 rfl (.inr (.inr rfl)))
          clear HM
          go_enter Tryd.func38, Tryd.ntmps38
          go_upto_region 1 with fail
          rw [← HW1.out]
          go_wp2_with (first | (refine wpList_ld 29 ⟨w.heap.size, 0, none⟩ _ rfl rfl HLD.out rfl ?_) | fail)
          refine HBD.out.mono ?_
          rintro _ w2 ⟨a2, n2, c2, rfl, _, hb2⟩
          obtain ⟨e3, e4, e6, e10⟩ := HC.out _ hb2
          have HTU : Hid (w2.there (w.heap.size + 1) 0 zz.size) := by unfold Hid; rw [HZS.out]; exact HTH.out _ hb2
          obtain ⟨q1, q2⟩ := res_end (w := w) HTU.out (by omega) (HBW.out _ hb2) Tryd.underlying37 HINF.out
          have HLV := hid q1
          have HBF := hid q2
          clear q1 q2
          go_wp2_with (first
            | (refine wpList_store_mid rfl 37 (.tmp 2) (.tmp 30) rfl (w.heap.size + 1) 0 zz rfl (by rw [HZ.out]; rfl) HTU.out HINF.out HONE.out ?_)
            | fail)
          generalize w2.setCells (w.heap.size + 1) 0 zz.toList = wf at HLV HBF ⊢
          refine bodyPost_ret (v := .tuple #[.agg zz, .int .i64 60]) (by simp [results, Tryd.results38, asAddr, HLV.out]) rfl ?_
          rw [HE.out.1, HE.out.2]
          exact ⟨none, 0, 0, by rw [HZC.out], sees_nil _, (fun a ha => by cases ha), HBF.out⟩
        | false =>
          have HE := hid (HM.out.2.2 rfl (by simp; omega))
          clear HM
          go_enter Tryd.func38, Tryd.ntmps38
          go_upto_region 1 with fail
          rw [← HW1.out]
          go_wp2_with (first | (refine wpList_ld 29 ⟨w.heap.size, 0, none⟩ _ rfl rfl HLD.out rfl ?_) | fail)
          refine HBD.out.mono ?_
          rintro _ w2 ⟨a2, n2, c2, rfl, _, hb2⟩
          obtain ⟨e3, e4, e6, e10⟩ := HC.out _ hb2
          go_wp2_with fail
          refine (HPR.out _ hb2).mono ?_
          rintro _ w3 ⟨a3, n3, c3, rfl, hs3, hn3, hb3⟩
          obtain ⟨yy, hyy⟩ : ∃ yy : Array Value, yy = ctCells (Im.prC B) (.slice a3 n3 c3) := ⟨_, rfl⟩
          have HYC := hid hyy
          have HOY : Hid (yy.all (·.oneCell') = true) := by
            unfold Hid; rw [hyy]; simp [ctCells, Value.oneCell']
          have HIY : Hid ((Tryd.prog.info? 37).map (·.size) = some yy.size) := by unfold Hid; rw [hyy]; exact size_ct
          have hb13 := hb2.trans (hb3.mono hb2.size)
          have HTU : Hid (w3.there (w.heap.size + 1) 0 yy.size) := by unfold Hid; rw [hyy]; exact HTH.out _ hb13
          obtain ⟨q1, q2⟩ := res_end (w := w) HTU.out (by omega) (HBW.out _ hb13) Tryd.underlying37 HIY.out
          have HLV := hid q1
          have HBF := hid q2
          have HNW : Hid (∀ a, a3 = some a → w.heap.size + 2 ≤ a.block) := fun a ha => by have := hn3 a ha; have := hb2.size; have := HS1.out; omega
          have HSF := hid (sees_setI (b := w.heap.size + 1) (vs := yy.toList) hs3 (fun a ha => by have := HNW.out a ha; omega))
          rw [← hyy]
          clear q1 q2 hyy hs3 hn3 hb13
          go_wp2_with (first
            | (refine wpList_store_mid rfl 37 (.tmp 2) (.tmp 34) rfl (w.heap.size + 1) 0 yy rfl rfl HTU.out HIY.out HOY.out ?_)
            | fail)
          generalize w3.setCells (w.heap.size + 1) 0 yy.toList = wf at HLV HBF HSF ⊢
          refine bodyPost_ret (v := .tuple #[.agg yy, .int .i64 (Im.prE B)]) (by simp [results, Tryd.results38, asAddr, HLV.out]) rfl ?_
          rw [HE.out.1, HE.out.2]
          exact ⟨_, _, _, by rw [HYC.out], HSF.out, (fun a ha => by have := HNW.out a ha; omega), HBF.out⟩
    · have HE := hid (HM.out.2.1 rfl (.inl hp))
      have q1 : ((pr : Int) != 1) = true := by simp; omega
      clear HM
      go_enter Tryd.func38, Tryd.ntmps38
      go_upto_region 1 with fail
      rw [← HW1.out]
      go_wp2_with (first | (refine wpList_ld 29 ⟨w.heap.size, 0, none⟩ _ rfl rfl HLD.out rfl ?_) | fail)
      refine HBD.out.mono ?_
      rintro _ w2 ⟨a2, n2, c2, rfl, _, hb2⟩
      obtain ⟨e3, e4, e6, e10⟩ := HC.out _ hb2
      have HTU : Hid (w2.there (w.heap.size + 1) 0 zz.size) := by unfold Hid; rw [HZS.out]; exact HTH.out _ hb2
      obtain ⟨q1, q2⟩ := res_end (w := w) HTU.out (by omega) (HBW.out _ hb2) Tryd.underlying37 HINF.out
      have HLV := hid q1
      have HBF := hid q2
      clear q1 q2
      go_wp2_with (first
        | (refine wpList_store_mid rfl 37 (.tmp 2) (.tmp 30) rfl (w.heap.size + 1) 0 zz rfl (by rw [HZ.out]; rfl) HTU.out HINF.out HONE.out ?_)
        | fail)
      generalize w2.setCells (w.heap.size + 1) 0 zz.toList = wf at HLV HBF ⊢
      refine bodyPost_ret (v := .tuple #[.agg zz, .int .i64 60]) (by simp [results, Tryd.results38, asAddr, HLV.out]) rfl ?_
      rw [HE.out.1, HE.out.2]
      exact ⟨none, 0, 0, by rw [HZC.out], sees_nil _, (fun a ha => by cases ha), HBF.out⟩
  · have HE := hid (HM.out.1 q rfl hq)
    have hqq : (q != 0) = true := by simp [hq]
    clear HM
    go_enter Tryd.func38, Tryd.ntmps38
    go_upto_region 1 with fail
    rw [← HW1.out]
    go_wp2_with (first | (refine wpList_ld 29 ⟨w.heap.size, 0, none⟩ _ rfl rfl HLD.out rfl ?_) | fail)
    refine HBD.out.mono ?_
    rintro _ w2 ⟨a2, n2, c2, rfl, _, hb2⟩
    obtain ⟨e3, e4, e6, e10⟩ := HC.out _ hb2
    have HTU : Hid (w2.there (w.heap.size + 1) 0 zz.size) := by unfold Hid; rw [HZS.out]; exact HTH.out _ hb2
    obtain ⟨q1, q2⟩ := res_end (w := w) HTU.out (by omega) (HBW.out _ hb2) Tryd.underlying37 HINF.out
    have HLV := hid q1
    have HBF := hid q2
    clear q1 q2
    go_wp2_with (first
      | (refine wpList_store_mid rfl 37 (.tmp 2) (.tmp 13) rfl (w.heap.size + 1) 0 zz rfl (by rw [HZ.out]; rfl) HTU.out HINF.out HONE.out ?_)
      | fail)
    generalize w2.setCells (w.heap.size + 1) 0 zz.toList = wf at HLV HBF ⊢
    refine bodyPost_ret (v := .tuple #[.agg zz, .int .i64 q]) (by simp [results, Tryd.results38, asAddr, HLV.out]) rfl ?_
    rw [HE.out.1, HE.out.2]
    exact ⟨none, 0, 0, by rw [HZC.out], sees_nil _, (fun a ha => by cases ha), HBF.out⟩
end Go.Proofs.YtcboenmmkaochaaDoor.N

namespace Go.Proofs.YtcboenmmkaochaaDoor.N
open Go.ChangeShapes Go.WideShapes Go.ChangeAt Go.RowKit
set_option maxHeartbeats 1000000
set_option maxRecDepth 100000

theorem bit5 (x : Nat) : ((x : Int) / 32 % 2 == 1) = decide (x / 32 % 2 = 1) := by
  rw [Bool.eq_iff_iff]; simp; omega
theorem bit6 (x : Nat) (hx : x < 128) : ((x : Int) / 32 / 2 == 1) = decide (x / 64 % 2 = 1) := by
  rw [Bool.eq_iff_iff]; simp; omega

end Go.Proofs.YtcboenmmkaochaaDoor.N

namespace Go.Proofs.YtcboenmmkaochaaDoor.N
open Go.ChangeShapes Go.WideShapes Go.ChangeAt Go.RowKit
set_option maxHeartbeats 400000
set_option maxRecDepth 100000

theorem step_ld {ops : Array Oper} {o : Oper} {a : Act} {w : World} {K : Act → World → Prop} {Q : Exit → Act → World → Prop} {E : Prop} {v : Value} (hg : o.guard = none) (T : TypeId) (p : Addr) (x : Operand) (ho : o.op = .load T x) (hx : a.eval x = .pointer (some p))
    (hr : (Instr.loadAt T (.pointer (some p))).run Tryd.prog w = .ok v w) (h : K (a.put o.dst v) w) : if Region.wanted o (yielded ops a.tmps) = true then Oper.wp Tryd.prog o a w K Q else E := by
  have hw : Region.wanted o (yielded ops a.tmps) = true := by simp [Region.wanted, hg]
  rw [if_pos hw]
  unfold Oper.wp execOp
  simp only [ho, hx, Sem.run_bind, hr, Result.andThen_ok, Sem.run_pure]
  exact h

theorem step_st {ops : Array Oper} {o : Oper} {a : Act} {w : World} {K : Act → World → Prop} {Q : Exit → Act → World → Prop} {E : Prop} (hg : o.guard = none) (ty : TypeId) (x y : Operand) (ho : o.op = .store ty x y)
    (b n : Nat) (cells : Array Value) (hx : a.eval x = .pointer (some ⟨b, n, none⟩)) (hy : a.eval y = .agg cells)
    (ht : w.there b n cells.size) (hi : (Tryd.prog.info? ty).map (·.size) = some cells.size) (h1 : cells.all (·.oneCell') = true)
    (h : K (a.put o.dst undef) (w.setCells b n cells.toList)) : if Region.wanted o (yielded ops a.tmps) = true then Oper.wp Tryd.prog o a w K Q else E := by
  have hw : Region.wanted o (yielded ops a.tmps) = true := by simp [Region.wanted, hg]
  rw [if_pos hw]
  exact wp_store_mid ty x y ho b n cells hx hy ht hi h1 h

theorem below_setCells' {B b : Nat} {a : World} (hb : B ≤ b) : ∀ (vs : List Value) (o : Nat) (w : World), Below B a w → Below B a (w.setCells b o vs)
  | [], _, _, h => h
  | v :: vs, o, w, h => by
    rw [World.setCells]
    exact below_setCells' hb vs (o + 1) _ (h.setCell (p := ⟨b, o, none⟩) hb v)

theorem sees_set {w : World} {ao : Option Addr} {n cap b : Nat} {L : List Nat} {vs : List Value} (h : SeesB w (.slice ao n cap) L) (hne : ∀ a, ao = some a → a.block ≠ b) : SeesB (w.setCells b 0 vs).drew (.slice ao n cap) L := by
  obtain ⟨ao', cap', hv, h1, h2, h3⟩ := h
  simp at hv
  obtain ⟨rfl, hn, rfl⟩ := hv
  refine ⟨ao, cap, by rw [hn], h1, h2, fun j hj => ?_⟩
  obtain ⟨g, off, ha, hg, hc, hb⟩ := h3 j hj
  have hg' := hne _ ha
  have e := World.cell?_setCells_out b vs 0 w ⟨g, off + j, none⟩ (fun hb _ => absurd hb hg')
  refine ⟨g, off, ha, ?_, ?_, hb⟩
  · exact World.block_lt_of_cell? (w.setCells b 0 vs).drew ⟨g, off + j, none⟩ (show (w.setCells b 0 vs).cell? _ = _ from e.trans hc)
  · exact (show (w.setCells b 0 vs).cell? _ = _ from e.trans hc)

def zeroH : Hd := ⟨0, 0, false, false, 0, 0, 0, 0, 0, []⟩

/-- Four bytes at a slice's head: three draws. -/
theorem read32_e (v : Value) (L : List Nat) (w : World) (hv : SeesB w v L) (hl : 4 ≤ L.length) :
    Calls Tryd.prog 61 #[v] w fun e w' => e = .returned (.int .u32 ((w32 L 0 : Nat) : Int)) ∧ w' = w.drew.drew.drew := by
  obtain ⟨ao, n, cap, rfl, HN, hn1, hn2⟩ := hv.shape
  have h4 : 4 ≤ n := by have := HN.out; omega
  obtain ⟨al, HSL, hlow⟩ := hv.low 2 2 rfl (by omega)
  have HC : Hid (∀ (v : Value) (x : Nat), ((v = .slice ao n cap ∧ x = w16 L 0) ∨ (v = .slice al (n - 2) (cap - 2) ∧ x = w16 L 2)) → ∀ u, Below w.heap.size w u → Calls Tryd.prog 52 #[v] u fun e w' => e = .returned (.int .u16 (x : Int)) ∧ w' = u.drew) := by
    rintro v x (⟨rfl, rfl⟩ | ⟨rfl, rfl⟩) u hu
    · exact read16_x _ L _ (hv.below hu) (by omega)
    · have := read16_x _ (L.drop 2) u (HSL.out.below hu) (by rw [List.length_drop]; omega)
      rw [w16_drop] at this; exact this
  have hx := w16_lt hv.bytes 0
  have hy := w16_lt hv.bytes 2
  have HR : Hid (bits .or .u32 ((w16 L 0 * 65536 : Nat) : Int) (w16 L 2 : Int) = ((w32 L 0 : Nat) : Int)) := by unfold Hid; rw [or_u32 _ _ hx hy]; rfl
  generalize w32 L 0 = r at *
  generalize w16 L 0 = p at *
  generalize w16 L 2 = q at *
  clear hv HSL
  generalize n - 2 = n2 at *
  generalize cap - 2 = cap2 at *
  have ew : ∀ z : Int, 0 ≤ z → z ≤ 4294967295 → IntKind.u32.wrap z = z := fun z h0 h1 => by
    unfold IntKind.wrap
    simp [IntKind.signed, IntKind.bits]
    omega
  have e1 := ew (p : Int) (by omega) (by omega)
  have e2 := ew (q : Int) (by omega) (by omega)
  have e3 := ew ((p : Int) * 65536) (by omega) (by omega)
  clear ew
  go_enter Tryd.func61, Tryd.ntmps61
  go_wp2_with fail
  go_region_with (first | (go_at_call 52; apply Calls.mono (HC.out _ _ _ _ (by repeat (first | exact Below.refl _ _ | apply below_drew))); (all_goals first | exact Or.inl ⟨rfl, rfl⟩ | exact Or.inr ⟨rfl, rfl⟩ | skip); rintro _ _ ⟨rfl, rfl⟩) | fail)
  all_goals go_wp2_with fail
  all_goals go_ret
  all_goals exact ⟨ret_int (by rw [← HR.out]; simp), rfl⟩
set_option maxHeartbeats 2000000 in
theorem unpack_any (v : Value) (L : List Nat) (h : Nat) (w : World) (hv : SeesB w v L) (h20 : 20 ≤ h) (hh : h ≤ L.length) (hl : L.length ≤ 1099511627776) :
    Calls Tryd.prog 51 #[v, .int .i64 (h : Int)] w fun e w' => ∃ vo vb, e = .returned (.tuple #[.agg (hdCells (rdH L h) vo), vb]) ∧ SeesB w' vo (rdH L h).opts ∧ SeesB w' vb (L.drop h) ∧ (∀ a n c, vo = .slice (some a) n c → w.heap.size ≤ a.block) ∧ (∀ a n c, vb = .slice (some a) n c → w.heap.size ≤ a.block) ∧ Below w.heap.size w w' := by
  obtain ⟨ao, m, cap, rfl, HN, hn1, hn2⟩ := hv.shape
  unfold maxLen at hn2
  have hm20 : 20 ≤ m := by have := HN.out; omega
  have hml : m ≤ 1099511627776 := by have := HN.out; omega
  obtain ⟨k, hk⟩ : ∃ k, m = k + 20 := ⟨m - 20, by omega⟩
  obtain ⟨c, hc⟩ : ∃ c, h = c + 20 := ⟨h - 20, by omega⟩
  have hck : c ≤ k := by have := HN.out; omega
  obtain ⟨a20, HS20, hl20⟩ := hv.low 20 20 rfl (by omega)
  obtain ⟨a6, HS6, hl6⟩ := hv.low 6 6 rfl (by omega)
  obtain ⟨a4, HS4, hl4⟩ := hv.low 4 4 rfl (by omega)
  obtain ⟨a12, HS12, hl12⟩ := hv.low 12 12 rfl (by omega)
  obtain ⟨a16, HS16, hl16⟩ := hv.low 16 16 rfl (by omega)
  have ek : (m : Int) - 20 = (k : Int) := by omega
  have ec : (h : Int) - 20 = (c : Int) := by omega
  have hmk := make_bytes k (by omega)
  obtain ⟨g0, off, rfl, hg0, hc1⟩ := hv.atB 1 (by omega)
  obtain ⟨g1, off1, he1, _, hc8⟩ := hv.atB 8 (by omega)
  simp at he1
  obtain ⟨rfl, rfl⟩ := he1
  obtain ⟨g1, off1, he1, _, hc9⟩ := hv.atB 9 (by omega)
  simp at he1
  obtain ⟨rfl, rfl⟩ := he1
  have HSV := hid hv
  have HKL : Hid ((L.drop 20).length = k) := by unfold Hid; rw [List.length_drop]; have := HN.out; omega
  have HM20 : Hid (m - 20 = k) := by unfold Hid; omega
  rw [HM20.out] at hl20 HS20
  have hk' := hid hk
  have hc' := hid hc
  clear hk hc hv
  have hf := w16_lt HSV.out.bytes 6
  have h14 := bit14 L HSV.out.bytes
  have h13 := bit13 L HSV.out.bytes
  have HRD : Hid (rdH L h = ⟨byt L 1, w16 L 4, decide (byt L 6 / 64 % 2 = 1), decide (byt L 6 / 32 % 2 = 1), ((w16 L 6 % 8192 * 8 : Nat) : Int), byt L 8, byt L 9, w32 L 12, w32 L 16, (L.drop 20).take c⟩) := by
    unfold Hid rdH; rw [List.drop_take, show h - 20 = c by have := hc'.out; omega]
  have HDR : Hid ((L.drop 20).drop c = L.drop h) := by unfold Hid; rw [List.drop_drop, show 20 + c = h by have := hc'.out; omega]
  rw [HRD.out]
  have HRDX := hid trivial
  clear HRD
  generalize E8 : w16 L 6 % 8192 * 8 = o8 at *
  generalize decide (byt L 6 / 64 % 2 = 1) = q14 at *
  generalize decide (byt L 6 / 32 % 2 = 1) = q13 at *
  generalize Ef : w16 L 6 = f at *
  generalize Ei : w16 L 4 = id at *
  generalize Es : w32 L 12 = src at *
  generalize Ed : w32 L 16 = dst at *
  generalize byt L 1 = x1 at *
  generalize byt L 8 = x8 at *
  generalize byt L 9 = x9 at *
  have HEf := hid Ef
  have HEi := hid Ei
  have HEs := hid Es
  have HEd := hid Ed
  have HE8 := hid E8
  clear Ef Ei Es Ed E8 HRDX
  have b1 : (1 : Int) < (m : Int) := by omega
  have b8 : (8 : Int) < (m : Int) := by omega
  have b9 : (9 : Int) < (m : Int) := by omega
  go_enter Tryd.func51, Tryd.ntmps51
  go_wp2_with (first | (refine wpList_copy_splice rfl (.tmp 15) (.tmp 17) 25 25 rfl 5 Tryd.underlying25 size5 _ _ k k k (cap - 20) rfl rfl (w.heap.size + 1) 0 (madeCells #[.int .u8 0] k).toList 5 ?c1 (bs (L.drop 20)) ?c2 ?c3 ?c4 ?c5 (w.heap.size + 1) (w.alloc (.cells #[.int .u8 0, .int .u16 0, .bool false, .bool false, .int .i64 0, .int .u8 0, .int .u8 0, .int .u32 0, .int .u32 0, .slice none 0 0] 27)) ?c6 ?c7 ?_) | fail)
  case c1 =>
    have e := heap_alloc_new (w.alloc (.cells #[.int .u8 0, .int .u16 0, .bool false, .bool false, .int .i64 0, .int .u8 0, .int .u8 0, .int .u32 0, .int .u32 0, .slice none 0 0] 27)) (.cells (madeCells #[.int .u8 0] k) 5)
    rw [World.size_alloc] at e
    rw [Array.toArray_toList]; exact e
  case c2 => show (bs _).length = min k k; rw [Nat.min_self, bs, List.length_map]; exact HKL.out
  case c3 => exact fun hp => (HS20.out.below (((Below.refl w.heap.size w).alloc (Nat.le_refl _) _).alloc (by simp) _)).src hp
  case c4 => rw [bs, List.length_map, HKL.out, Array.length_toList, size_madeCells]; omega
  case c5 => intro q hq; obtain ⟨y, _, rfl⟩ := List.mem_map.1 hq; rfl
  case c6 => exact (Below.refl _ _).alloc (by simp) _
  case c7 => exact Nat.le_refl _
  intro w3 HG hb3
  rw [splice_whole (by rw [bs, List.length_map, HKL.out, Array.length_toList, size_madeCells])] at HG
  have hbw : Below w.heap.size w w3 := ((Below.refl w.heap.size w).alloc (Nat.le_refl _) _).trans (hb3.mono (by omega))
  have hbytes : ∀ x ∈ L.drop 20, x < 256 := fun x hx => HSV.out.bytes x (List.mem_of_mem_drop hx)
  have hblk := sees_blk HG.out HKL.out (by omega) hbytes
  obtain ⟨aH, HSO, HAH, hcutH⟩ := hblk.high3 c (c : Int) rfl hck (by simp)
  obtain ⟨aL, HSB, HAL, hcutL⟩ := hblk.low3 c (c : Int) (k : Int) rfl rfl hck
  have HC6 := read16_x _ (L.drop 6) w3 (HS6.out.below hbw) (by rw [List.length_drop]; have := HN.out; omega)
  rw [w16_drop, show (6 : Nat) + 0 = 6 from rfl, HEf.out] at HC6
  have HC6 := hid HC6
  have d1 : w3.cell? ⟨g0, off + 1, none⟩ = some (.int .u8 (x1 : Int)) := (hbw.cell (p := ⟨g0, _, none⟩) hg0).trans hc1
  have d8 : w3.cell? ⟨g0, off + 8, none⟩ = some (.int .u8 (x8 : Int)) := (hbw.cell (p := ⟨g0, _, none⟩) hg0).trans hc8
  have d9 : w3.cell? ⟨g0, off + 9, none⟩ = some (.int .u8 (x9 : Int)) := (hbw.cell (p := ⟨g0, _, none⟩) hg0).trans hc9
  have HBL : Hid (∀ u, Below w3.heap.size w3 u → Below w.heap.size w u) := fun u hu => hbw.trans (hu.mono hbw.size)
  have HC4 : Hid (∀ u, (Below w3.heap.size w3 u ∧ u.cell? ⟨g0, off + 1, none⟩ = some (.int .u8 (x1 : Int)) ∧ u.cell? ⟨g0, off + 8, none⟩ = some (.int .u8 (x8 : Int)) ∧ u.cell? ⟨g0, off + 9, none⟩ = some (.int .u8 (x9 : Int))) → Calls Tryd.prog 52 #[.slice a4 (m - 4) (cap - 4)] u fun e w' => e = .returned (.int .u16 (id : Int)) ∧ w' = u.drew) := fun u hu => by
    have := read16_x _ (L.drop 4) u (HS4.out.below (HBL.out _ hu.1)) (by rw [List.length_drop]; have := HN.out; omega)
    rw [w16_drop, show (4 : Nat) + 0 = 4 from rfl, HEi.out] at this; exact this
  have HC50 : Hid (∀ u, (Below w3.heap.size w3 u ∧ u.cell? ⟨g0, off + 1, none⟩ = some (.int .u8 (x1 : Int)) ∧ u.cell? ⟨g0, off + 8, none⟩ = some (.int .u8 (x8 : Int)) ∧ u.cell? ⟨g0, off + 9, none⟩ = some (.int .u8 (x9 : Int))) → Calls Tryd.prog 60 #[.int .u16 (f : Int)] u fun e w' => e = .returned (.int .i64 (o8 : Int)) ∧ w' = u) := fun u hu => by
    have := offset_any f u hf
    rw [← HE8.out]; exact this
  have w32d : ∀ i, w32 (L.drop i) 0 = w32 L i := fun i => by unfold w32; rw [w16_drop, w16_drop]; rfl
  have HC51 : Hid (∀ (v : Value) (x : Nat), ((v = .slice a12 (m - 12) (cap - 12) ∧ x = src) ∨ (v = .slice a16 (m - 16) (cap - 16) ∧ x = dst)) → ∀ u, (Below w3.heap.size w3 u ∧ u.cell? ⟨g0, off + 1, none⟩ = some (.int .u8 (x1 : Int)) ∧ u.cell? ⟨g0, off + 8, none⟩ = some (.int .u8 (x8 : Int)) ∧ u.cell? ⟨g0, off + 9, none⟩ = some (.int .u8 (x9 : Int))) → Calls Tryd.prog 61 #[v] u fun e w' => e = .returned (.int .u32 (x : Int)) ∧ w' = u.drew.drew.drew) := by
    rintro v x (⟨rfl, rfl⟩ | ⟨rfl, rfl⟩) u hu
    · have := read32_e _ (L.drop 12) u (HS12.out.below (HBL.out _ hu.1)) (by rw [List.length_drop]; have := HN.out; omega)
      rw [w32d, HEs.out] at this; exact this
    · have := read32_e _ (L.drop 16) u (HS16.out.below (HBL.out _ hu.1)) (by rw [List.length_drop]; have := HN.out; omega)
      rw [w32d, HEd.out] at this; exact this
  generalize m - 4 = m4 at *
  generalize m - 6 = m6 at *
  generalize m - 12 = m12 at *
  generalize m - 16 = m16 at *
  have HB3 := hid hb3
  clear HS20 HS6 HS4 HS12 HS16 hmk hblk hbytes w32d hc1 hc8 hc9 hl20 hb3 hl HG
  go_wp2_with fail
  refine HC6.out.mono ?_
  rintro _ _ ⟨rfl, rfl⟩
  go_upto_region 5 with fail
  go_cut [10] from 26 (fun p wx => p = .pointer (some ⟨w3.heap.size, 0, none⟩) ∧ Below w3.heap.size w3 wx ∧ Hid (wx.heap[w3.heap.size]? = some (.cells #[.int .u8 (x1 : Int), .int .u16 (id : Int), .bool q14, .bool q13, .int .i64 (o8 : Int), .int .u8 (x8 : Int), .int .u8 (x9 : Int), .int .u32 (src : Int), .int .u32 (dst : Int), .slice aH c c] 27)))
  case first =>
    go_region_held3 (fun w' => Below w3.heap.size w3 w' ∧ w'.cell? ⟨g0, off + 1, none⟩ = some (.int .u8 (x1 : Int)) ∧ w'.cell? ⟨g0, off + 8, none⟩ = some (.int .u8 (x8 : Int)) ∧ w'.cell? ⟨g0, off + 9, none⟩ = some (.int .u8 (x9 : Int)))
      (repeat (first | assumption | exact ⟨Below.refl _ _, d1, d8, d9⟩ | apply keep_drew | refine keep_alloc ?_ _ rfl))
      (first | (go_at_call 52; refine (HC4.out _ (by assumption)).mono ?_; rintro _ _ ⟨rfl, rfl⟩) | (go_at_call 60; refine (HC50.out _ (by assumption)).mono ?_; rintro _ _ ⟨rfl, rfl⟩) | (go_at_call 61; apply Calls.mono (HC51.out _ _ _ _ (by assumption)); (all_goals first | exact Or.inl ⟨rfl, rfl⟩ | exact Or.inr ⟨rfl, rfl⟩ | skip); rintro _ _ ⟨rfl, rfl⟩) | fail)
    all_goals (
      go_wp2_with fail
      go_meet
      case rel => exact ⟨rfl, by repeat (first | exact Below.refl _ _ | apply below_drew | refine Below.alloc ?_ (Nat.le_refl _) _), heap_alloc_new w3 _⟩)
  case rest =>
    obtain ⟨rfl, hbc, HBK⟩ := hcut
    have hz : wc.heap[w.heap.size]? = some (.cells (hdCells zeroH (.slice none 0 0)) 27) := by
      have hlt : w.heap.size < w3.heap.size := by have := HB3.out.size; simp at this; omega
      rw [hbc.block w.heap.size hlt, HB3.out.block w.heap.size (by omega)]
      exact heap_alloc_new w _
    obtain ⟨z0, z1, z2, z3, z4, z5, z6, z7, z8, z9⟩ := hd_at hz
    have hfz : ∀ j, wc.frozen? ⟨w.heap.size, j, none⟩ = false := fun j => frozen_of_row _ _ _ _ _ hz
    obtain ⟨r0, r1, r2, r3, r4, r5, r6, r7, r8, r9⟩ := hd_at (h := ⟨x1, id, q14, q13, (o8 : Int), x8, x9, src, dst, []⟩) (vo := .slice aH c c) HBK.out
    simp only [zeroH] at z0 z1 z2 z3 z4 z5 z6 z7 z8 z9
    simp only at r0 r1 r2 r3 r4 r5 r6 r7 r8 r9
    have hne : ¬ w3.heap.size = w.heap.size := by have := HB3.out.size; simp at this; omega
    have hne' : ¬ w.heap.size = w3.heap.size := fun h => hne h.symm
    have hthc : wc.there w.heap.size 0 10 := there_blk (C := hdCells zeroH (.slice none 0 0)) hz rfl
    obtain ⟨fs, hu27⟩ := und27
    have hrg := World.rangeAt_setCells_same wc w.heap.size 0 [.int .u8 (x1 : Int), .int .u16 (id : Int), .bool q14, .bool q13, .int .i64 (o8 : Int), .int .u8 (x8 : Int), .int .u8 (x9 : Int), .int .u32 (src : Int), .int .u32 (dst : Int), .slice aH c c] hthc
    have HLV : Hid ((loadVar 27 ⟨w.heap.size, 0, none⟩).run Tryd.prog (wc.setCells w.heap.size 0 [.int .u8 (x1 : Int), .int .u16 (id : Int), .bool q14, .bool q13, .int .i64 (o8 : Int), .int .u8 (x8 : Int), .int .u8 (x9 : Int), .int .u32 (src : Int), .int .u32 (dst : Int), .slice aH c c]).drew = .ok (.agg #[.int .u8 (x1 : Int), .int .u16 (id : Int), .bool q14, .bool q13, .int .i64 (o8 : Int), .int .u8 (x8 : Int), .int .u8 (x9 : Int), .int .u32 (src : Int), .int .u32 (dst : Int), .slice aH c c]) (wc.setCells w.heap.size 0 [.int .u8 (x1 : Int), .int .u16 (id : Int), .bool q14, .bool q13, .int .i64 (o8 : Int), .int .u8 (x8 : Int), .int .u8 (x9 : Int), .int .u32 (src : Int), .int .u32 (dst : Int), .slice aH c c]).drew) := run_loadVar_mid _ w.heap.size 0 27 [.int .u8 (x1 : Int), .int .u16 (id : Int), .bool q14, .bool q13, .int .i64 (o8 : Int), .int .u8 (x8 : Int), .int .u8 (x9 : Int), .int .u32 (src : Int), .int .u32 (dst : Int), .slice aH c c] (.struct fs) ((World.rangeAt_drew _ _ _ _).2 hrg) hu27 rfl size27
    have HBF : Hid (Below w.heap.size w (wc.setCells w.heap.size 0 [.int .u8 (x1 : Int), .int .u16 (id : Int), .bool q14, .bool q13, .int .i64 (o8 : Int), .int .u8 (x8 : Int), .int .u8 (x9 : Int), .int .u32 (src : Int), .int .u32 (dst : Int), .slice aH c c]).drew) := below_drew (below_setCells' (Nat.le_refl _) _ _ _ (HBL.out _ hbc))
    have HSOF : Hid (SeesB (wc.setCells w.heap.size 0 [.int .u8 (x1 : Int), .int .u16 (id : Int), .bool q14, .bool q13, .int .i64 (o8 : Int), .int .u8 (x8 : Int), .int .u8 (x9 : Int), .int .u32 (src : Int), .int .u32 (dst : Int), .slice aH c c]).drew (.slice aH c c) ((L.drop 20).take c)) := sees_set (HSO.out.below hbc) (fun a ha => by
      rw [HAH.out] at ha; cases ha; show w.heap.size + 1 ≠ w.heap.size; omega)
    have HSBF : Hid (SeesB (wc.setCells w.heap.size 0 [.int .u8 (x1 : Int), .int .u16 (id : Int), .bool q14, .bool q13, .int .i64 (o8 : Int), .int .u8 (x8 : Int), .int .u8 (x9 : Int), .int .u32 (src : Int), .int .u32 (dst : Int), .slice aH c c]).drew (.slice (some aL) (k - c) (k - c)) ((L.drop 20).drop c)) := sees_set (HSB.out.below hbc) (fun a ha => by
      cases ha; rw [HAL.out]; omega)
    have HBC := hid hbc
    clear hthc hrg hu27
    clear hz d1 d8 d9 HC4 HC50 HC51 HC6 hbc HBK h14 h13
    go_upto_region 6 with fail
    go_region_held3 (fun w' => w'.cell? ⟨w3.heap.size, 0, none⟩ = some (.int .u8 (x1 : Int)) ∧ w'.cell? ⟨w3.heap.size, 1, none⟩ = some (.int .u16 (id : Int)) ∧ w'.cell? ⟨w3.heap.size, 2, none⟩ = some (.bool q14) ∧ w'.cell? ⟨w3.heap.size, 3, none⟩ = some (.bool q13) ∧ w'.cell? ⟨w3.heap.size, 4, none⟩ = some (.int .i64 (o8 : Int)) ∧ w'.cell? ⟨w3.heap.size, 5, none⟩ = some (.int .u8 (x8 : Int)) ∧ w'.cell? ⟨w3.heap.size, 6, none⟩ = some (.int .u8 (x9 : Int)) ∧ w'.cell? ⟨w3.heap.size, 7, none⟩ = some (.int .u32 (src : Int)) ∧ w'.cell? ⟨w3.heap.size, 8, none⟩ = some (.int .u32 (dst : Int)) ∧ w'.cell? ⟨w3.heap.size, 9, none⟩ = some (.slice aH c c)) (go_keep) (fail)
    go_wp2_with fail
    show bodyPost Tryd.prog Tryd.f51 _ Exit.ret _ (World.setCells wc w.heap.size 0 [.int .u8 (x1 : Int), .int .u16 (id : Int), .bool q14, .bool q13, .int .i64 (o8 : Int), .int .u8 (x8 : Int), .int .u8 (x9 : Int), .int .u32 (src : Int), .int .u32 (dst : Int), .slice aH c c]).drew
    generalize (World.setCells wc w.heap.size 0 [.int .u8 (x1 : Int), .int .u16 (id : Int), .bool q14, .bool q13, .int .i64 (o8 : Int), .int .u8 (x8 : Int), .int .u8 (x9 : Int), .int .u32 (src : Int), .int .u32 (dst : Int), .slice aH c c]).drew = wf at HLV HBF HSOF HSBF ⊢
    refine bodyPost_ret (v := .tuple #[.agg #[.int .u8 (x1 : Int), .int .u16 (id : Int), .bool q14, .bool q13, .int .i64 (o8 : Int), .int .u8 (x8 : Int), .int .u8 (x9 : Int), .int .u32 (src : Int), .int .u32 (dst : Int), .slice aH c c], .slice (some aL) (k - c) (k - c)]) (by simp [results, Tryd.results51, asAddr, HLV.out]) rfl ?_
    exact ⟨.slice aH c c, .slice (some aL) (k - c) (k - c), rfl, HSOF.out, by rw [← HDR.out]; exact HSBF.out, (fun a _ _ e => by have h1 := (Value.slice.inj e).1; rw [HAH.out] at h1; cases h1; show w.heap.size ≤ w.heap.size + 1; omega), (fun a _ _ e => by have h1 := (Value.slice.inj e).1; cases h1; rw [HAL.out]; omega), HBF.out⟩
end Go.Proofs.YtcboenmmkaochaaDoor.N

namespace Go.Proofs.YtcboenmmkaochaaDoor.N
open Go.ChangeShapes Go.WideShapes Go.ChangeAt Go.RowKit
set_option maxHeartbeats 400000
set_option maxRecDepth 100000

theorem size29 : (Tryd.prog.info? 29).map (·.size) = some 11 := by kernel_rfl

/-- What Parse answers: the header, the body, the error. -/
def parsed (L : List Nat) : Hd × List Nat × Int :=
  if (exam L true).2.2 = 0 then (rdH (L.take (exam L true).2.1) (exam L true).1, (L.take (exam L true).2.1).drop (exam L true).1, 0) else (zeroH, [], (exam L true).2.2)

end Go.Proofs.YtcboenmmkaochaaDoor.N

namespace Go.Proofs.YtcboenmmkaochaaDoor.N
open Go.ChangeShapes Go.WideShapes Go.ChangeAt Go.RowKit
set_option maxHeartbeats 400000
set_option maxRecDepth 100000

theorem sees_set' {w : World} {ao : Option Addr} {n cap b : Nat} {L : List Nat} {vs : List Value} (h : SeesB w (.slice ao n cap) L) (hne : ∀ a, ao = some a → a.block ≠ b) : SeesB (w.setCells b 0 vs) (.slice ao n cap) L := by
  obtain ⟨ao', cap', hv, h1, h2, h3⟩ := h
  simp at hv
  obtain ⟨rfl, hn, rfl⟩ := hv
  refine ⟨ao, cap, by rw [hn], h1, h2, fun j hj => ?_⟩
  obtain ⟨g, off, ha, hg, hc, hb⟩ := h3 j hj
  have hg' := hne _ ha
  have e := World.cell?_setCells_out b vs 0 w ⟨g, off + j, none⟩ (fun hb _ => absurd hb hg')
  exact ⟨g, off, ha, World.block_lt_of_cell? (w.setCells b 0 vs) ⟨g, off + j, none⟩ (e.trans hc), e.trans hc, hb⟩

end Go.Proofs.YtcboenmmkaochaaDoor.N

namespace Go.Proofs.YtcboenmmkaochaaDoor.N
open Go.ChangeShapes Go.WideShapes Go.ChangeAt Go.RowKit
set_option maxHeartbeats 1000000
set_option maxRecDepth 100000

theorem hdE_ok {H : List Nat} {nb : Nat} (h : hdE H nb = 0) : M.csum H = 0 ∧ byt H 6 < 128 ∧ M.area (H.drop 20) = true ∧ M.pieceOk ((w16 H 6 % 8192 * 8 : Nat) : Int) nb (decide (byt H 6 / 32 % 2 = 1)) = true := by
  unfold hdE at h
  by_cases c1 : M.csum H = 0
  · rw [if_neg (by simp [c1])] at h
    by_cases c2 : 128 ≤ byt H 6
    · rw [if_pos c2] at h; cases h
    · rw [if_neg c2] at h
      cases c3 : M.area (H.drop 20)
      · rw [c3, if_pos rfl] at h; cases h
      · rw [c3, if_neg (by simp)] at h
        cases c4 : M.pieceOk ((w16 H 6 % 8192 * 8 : Nat) : Int) nb (decide (byt H 6 / 32 % 2 = 1))
        · rw [c4, if_pos rfl] at h; cases h
        · exact ⟨c1, by omega, rfl, rfl⟩
  · rw [if_pos c1] at h; cases h

theorem w32_lt {L : List Nat} (h : ∀ x ∈ L, x < 256) (i : Nat) : w32 L i < 4294967296 := by
  have h1 := w16_lt h i
  have h2 := w16_lt h (i + 2)
  unfold w32; omega

/-- The block that is being filled, at the heap's end of w5; three cells that are read. -/
structure Tgt (w5 u : World) : Prop where
  below : Below w5.heap.size w5 u
  row : ∃ cells : Array Value, u.heap[w5.heap.size]? = some (.cells cells 29 (0, 0)) ∧ cells.size = 11 ∧ cells[10]? = some (.slice none 0 0)

theorem tgt_drew {w5 u : World} {p q r : Addr} {a b c : Value} (h : Tgt w5 u ∧ u.cell? p = some a ∧ u.cell? q = some b ∧ u.cell? r = some c) : Tgt w5 u.drew ∧ u.drew.cell? p = some a ∧ u.drew.cell? q = some b ∧ u.drew.cell? r = some c := ⟨⟨below_drew h.1.below, h.1.row⟩, h.2.1, h.2.2.1, h.2.2.2⟩

theorem tgt_grow {w5 u u' : World} {p q r : Addr} {a b c : Value} (h : Tgt w5 u ∧ u.cell? p = some a ∧ u.cell? q = some b ∧ u.cell? r = some c) (hb : Below u.heap.size u u') : Tgt w5 u' ∧ u'.cell? p = some a ∧ u'.cell? q = some b ∧ u'.cell? r = some c := by
  obtain ⟨h, e1, e2, e3⟩ := h
  obtain ⟨cells, h1, h2, h3⟩ := h.row
  have hlt : w5.heap.size < u.heap.size := (Array.getElem?_eq_some_iff.1 h1).1
  exact ⟨⟨h.below.trans (hb.mono h.below.size), cells, (hb.block _ hlt).trans h1, h2, h3⟩, (hb.cell (World.block_lt_of_cell? u _ e1)).trans e1, (hb.cell (World.block_lt_of_cell? u _ e2)).trans e2, (hb.cell (World.block_lt_of_cell? u _ e3)).trans e3⟩

theorem tgt_cells {w5 u : World} (h : Tgt w5 u) : (∃ y, u.cell? ⟨w5.heap.size, 0, none⟩ = some y) ∧ (∃ y, u.cell? ⟨w5.heap.size, 1, none⟩ = some y) ∧ (∃ y, u.cell? ⟨w5.heap.size, 2, none⟩ = some y) ∧ (∃ y, u.cell? ⟨w5.heap.size, 3, none⟩ = some y) ∧ (∃ y, u.cell? ⟨w5.heap.size, 4, none⟩ = some y) ∧ (∃ y, u.cell? ⟨w5.heap.size, 5, none⟩ = some y) ∧ (∃ y, u.cell? ⟨w5.heap.size, 6, none⟩ = some y) ∧ (∃ y, u.cell? ⟨w5.heap.size, 7, none⟩ = some y) ∧ (∃ y, u.cell? ⟨w5.heap.size, 8, none⟩ = some y) ∧ (∃ y, u.cell? ⟨w5.heap.size, 9, none⟩ = some y) ∧ ∀ j, u.frozen? ⟨w5.heap.size, j, none⟩ = false := by
  obtain ⟨cells, h1, h2, h3⟩ := h.row
  have k : ∀ i, i < 11 → ∃ y, u.cell? ⟨w5.heap.size, i, none⟩ = some y := fun i hi => by
    rw [cell_of_row _ _ _ _ _ _ h1]
    exact ⟨_, Array.getElem?_eq_getElem (by omega)⟩
  exact ⟨k 0 (by omega), k 1 (by omega), k 2 (by omega), k 3 (by omega), k 4 (by omega), k 5 (by omega), k 6 (by omega), k 7 (by omega), k 8 (by omega), k 9 (by omega), fun j => frozen_of_row _ _ _ _ _ h1⟩

theorem tgt_set {w5 u : World} {g o1 o2 o3 j : Nat} {a b c v : Value} (h : Tgt w5 u ∧ u.cell? ⟨g, o1, none⟩ = some a ∧ u.cell? ⟨g, o2, none⟩ = some b ∧ u.cell? ⟨g, o3, none⟩ = some c) (hg : g ≠ w5.heap.size) (hj : j ≠ 10) :
    Tgt w5 (u.setCell ⟨w5.heap.size, j, none⟩ v) ∧ (u.setCell ⟨w5.heap.size, j, none⟩ v).cell? ⟨g, o1, none⟩ = some a ∧ (u.setCell ⟨w5.heap.size, j, none⟩ v).cell? ⟨g, o2, none⟩ = some b ∧ (u.setCell ⟨w5.heap.size, j, none⟩ v).cell? ⟨g, o3, none⟩ = some c := by
  obtain ⟨h, e1, e2, e3⟩ := h
  obtain ⟨cells, h1, h2, h3⟩ := h.row
  have hne : ∀ o, (u.setCell ⟨w5.heap.size, j, none⟩ v).cell? ⟨g, o, none⟩ = u.cell? ⟨g, o, none⟩ := fun o => World.cell?_setCells_out w5.heap.size [v] j u ⟨g, o, none⟩ (fun hb _ => absurd hb hg)
  refine ⟨⟨h.below.setCell (p := ⟨w5.heap.size, j, none⟩) (Nat.le_refl _) v, cells.setIfInBounds j v, ?_, by simp [h2], ?_⟩, (hne _).trans e1, (hne _).trans e2, (hne _).trans e3⟩
  · simp [World.setCell, Array.getElem?_modify, h1]
  · rw [Array.getElem?_setIfInBounds_ne hj]; exact h3

theorem Tgt.there {w5 u : World} (h : Tgt w5 u) : u.there w5.heap.size 0 10 := by
  obtain ⟨cells, h1, h2, h3⟩ := h.row
  intro i hi
  refine ⟨?_, by rw [Nat.zero_add]; exact frozen_of_row _ _ _ _ _ h1⟩
  rw [Nat.zero_add, cell_of_row _ _ _ _ _ _ h1, Array.getElem?_eq_getElem (by omega)]; rfl

theorem sees_setAt {w : World} {ao : Option Addr} {n cap b k : Nat} {L : List Nat} {x : Value} (h : SeesB w (.slice ao n cap) L) (hne : ∀ a, ao = some a → a.block ≠ b) : SeesB (w.setCell ⟨b, k, none⟩ x) (.slice ao n cap) L := by
  obtain ⟨ao', cap', hv, h1, h2, h3⟩ := h
  simp at hv
  obtain ⟨rfl, hn, rfl⟩ := hv
  refine ⟨ao, cap, by rw [hn], h1, h2, fun j hj => ?_⟩
  obtain ⟨g, off, ha, hg, hc, hb⟩ := h3 j hj
  have hg' := hne _ ha
  have e : (w.setCell ⟨b, k, none⟩ x).cell? ⟨g, off + j, none⟩ = _ := World.cell?_setCells_out b [x] k w ⟨g, off + j, none⟩ (fun hb _ => absurd hb hg')
  exact ⟨g, off, ha, World.block_lt_of_cell? _ ⟨g, off + j, none⟩ (e.trans hc), e.trans hc, hb⟩

end Go.Proofs.YtcboenmmkaochaaDoor.N

namespace Go.Proofs.YtcboenmmkaochaaDoor.N
open Go.ChangeShapes Go.WideShapes Go.ChangeAt Go.RowKit
set_option maxHeartbeats 1000000
set_option maxRecDepth 100000

theorem hd_row {u : World} {n : Nat} {h : Hd} {vo : Value} (hb : u.heap[n]? = some (.cells (hdCells h vo) 27 (0, 0))) (i : Nat) (hi : i < 10) : u.cell? ⟨n, i, none⟩ = some ((hdCells h vo)[i]'hi) := by
  rw [cell_of_row _ _ _ _ _ _ hb, Array.getElem?_eq_getElem hi]

/-- heads: the same header on both sides. -/
theorem heads_same (h : Hd) (va vb : Value) (w : World) (ha : SeesB w va h.opts) (hb : SeesB w vb h.opts) :
    Calls Tryd.prog 24 #[.agg (hdCells h va), .agg (hdCells h vb)] w fun e w' => e = .returned (.bool true) ∧ Below w.heap.size w w' := by
  obtain ⟨w1, hw1⟩ : ∃ w1, w1 = (w.alloc (.cells (hdCells h va) 27)).alloc (.cells (hdCells h vb) 27) := ⟨_, rfl⟩
  have hb1 : Below w.heap.size w w1 := by rw [hw1]; exact ((Below.refl _ _).alloc (Nat.le_refl _) _).alloc (by simp) _
  have HS := hid (same_any va vb h.opts h.opts w1 (ha.below hb1) (hb.below hb1))
  obtain ⟨a1, n1, c1, rfl, _, _, _⟩ := ha.shape
  obtain ⟨a2, n2, c2, rfl, _, _, _⟩ := hb.shape
  have HW1 := hid hw1
  have HB1 := hid hb1
  clear hw1 hb1 ha hb
  obtain ⟨tos, id, df, mf, off, ttl, proto, src, dst, opts⟩ := h
  unfold hdCells at *
  simp only at *
  go_enter Tryd.func24, Tryd.ntmps24
  go_wp2_with fail
  rw [← HW1.out]
  refine HS.out.mono ?_
  rintro _ w2 ⟨rfl, hb2⟩
  go_wp2_with fail
  go_ret
  exact ⟨ret_bool (by simp), HB1.out.trans (hb2.mono HB1.out.size)⟩

/-- packets: the same packet on both sides. -/
theorem packets_same (h : Hd) (B : List Nat) (va vb xa xb : Value) (w : World) (ha : SeesB w va h.opts) (hb : SeesB w vb h.opts) (ka : SeesB w xa B) (kb : SeesB w xb B) :
    Calls Tryd.prog 14 #[.agg (pkCells h va xa), .agg (pkCells h vb xb)] w fun e w' => e = .returned (.bool true) ∧ Below w.heap.size w w' := by
  obtain ⟨w1, hw1⟩ : ∃ w1, w1 = (w.alloc (.cells (pkCells h va xa) 29)).alloc (.cells (pkCells h vb xb) 29) := ⟨_, rfl⟩
  have hb1 : Below w.heap.size w w1 := by rw [hw1]; exact ((Below.refl _ _).alloc (Nat.le_refl _) _).alloc (by simp) _
  have hs1 : w1.heap.size = w.heap.size + 2 := by rw [hw1]; simp
  have HB0 : Hid (∀ u, Below w1.heap.size w1 u → u.heap[w.heap.size]? = some (.cells (pkCells h va xa) 29)) := fun u hu => by
    have h1 : Below (w.heap.size + 1) (w.alloc (.cells (pkCells h va xa) 29)) w1 := by rw [hw1]; exact (Below.refl _ _).alloc (by simp) _
    rw [hu.block _ (by omega), h1.block _ (by omega)]
    exact heap_alloc_new w _
  have HB2 : Hid (∀ u, Below w1.heap.size w1 u → u.heap[w.heap.size + 1]? = some (.cells (pkCells h vb xb) 29)) := fun u hu => by
    rw [hu.block _ (by omega), hw1]
    have := heap_alloc_new (w.alloc (.cells (pkCells h va xa) 29)) (.cells (pkCells h vb xb) 29)
    rw [World.size_alloc] at this
    exact this
  have HL0 := hid (pk_loadH (HB0.out _ (Below.refl _ _)))
  have HL1 := hid (pk_loadH (HB2.out _ (Below.refl _ _)))
  have HH := hid (heads_same h va vb w1 (ha.below hb1) (hb.below hb1))
  have HSM : Hid (∀ u, Below w1.heap.size w1 u → Calls Tryd.prog 25 #[xa, xb] u fun e w' => e = .returned (.bool true) ∧ Below u.heap.size u w') := fun u hu => by
    have hbu := hb1.trans (hu.mono hb1.size)
    have := same_any xa xb B B u (ka.below hbu) (kb.below hbu)
    rw [decide_eq_true (rfl : B = B)] at this
    exact this
  have HC0 : Hid (∀ u, Below w1.heap.size w1 u → u.cell? ⟨w.heap.size, 10, none⟩ = some xa ∧ u.cell? ⟨w.heap.size + 1, 10, none⟩ = some xb) := fun u hu => ⟨pk_at (HB0.out _ hu) 10 (by omega), pk_at (HB2.out _ hu) 10 (by omega)⟩
  obtain ⟨a1, n1, c1, rfl, _, _, _⟩ := ka.shape
  obtain ⟨a2, n2, c2, rfl, _, _, _⟩ := kb.shape
  have HW1 := hid hw1
  have HB1 := hid hb1
  generalize hdCells h va = ca at *
  generalize hdCells h vb = cb at *
  generalize pkCells h va (.slice a1 n1 c1) = pa at *
  generalize pkCells h vb (.slice a2 n2 c2) = pb at *
  clear hw1 hb1 ha hb ka kb HB0 HB2 hs1
  go_enter Tryd.func14, Tryd.ntmps14
  go_upto_region 1 with fail
  rw [← HW1.out]
  go_wp2_with (first
    | (refine wpList_ld 27 ⟨w.heap.size, 0, none⟩ (.tmp 5) rfl rfl HL0.out rfl ?_)
    | (refine wpList_ld 27 ⟨w.heap.size + 1, 0, none⟩ (.tmp 7) rfl rfl HL1.out rfl ?_)
    | fail)
  refine HH.out.mono ?_
  rintro _ w2 ⟨rfl, hb2⟩
  obtain ⟨e0, e1⟩ := HC0.out _ hb2
  go_wp2_with fail
  refine (HSM.out _ hb2).mono ?_
  rintro _ w3 ⟨rfl, hb3⟩
  go_wp2_with fail
  go_ret
  exact ⟨rfl, HB1.out.trans ((hb2.trans (hb3.mono hb2.size)).mono HB1.out.size)⟩
end Go.Proofs.YtcboenmmkaochaaDoor.N

namespace Go.Proofs.YtcboenmmkaochaaDoor.N
open Go.ChangeShapes Go.WideShapes Go.ChangeAt Go.RowKit
set_option maxHeartbeats 1000000
set_option maxRecDepth 100000

end Go.Proofs.YtcboenmmkaochaaDoor.N

namespace Go.Proofs.YtcboenmmkaochaaDoor.N
open Go.ChangeShapes Go.WideShapes Go.ChangeAt Go.RowKit
set_option maxHeartbeats 1000000
set_option maxRecDepth 100000

/-- What is read of bytes: header, body, error. -/
def readL (L : List Nat) (whole : Bool) : Hd × List Nat × Int :=
  if (exam L whole).2.2 = 0 then (rdH (L.take (exam L whole).2.1) (exam L whole).1, (L.take (exam L whole).2.1).drop (exam L whole).1, 0) else (zeroH, [], (exam L whole).2.2)

/-- A new block, written whole. -/
structure New (u u' : World) (pa : Array Value) : Prop where
  below : Below u.heap.size u u'
  range : u'.rangeAt u.heap.size 0 pa.toList
  lt : u.heap.size < u'.heap.size

theorem new_there {u : World} {Z pa : Array Value} {T : TypeId} (hz : pa.size = Z.size) : (u.alloc (.cells Z T)).there u.heap.size 0 pa.size := there_blk (C := Z) (t := T) (heap_alloc_new u _) hz

theorem new_put {u : World} {Z pa : Array Value} {T : TypeId} (hz : pa.size = Z.size) : New u ((u.alloc (.cells Z T)).setCells u.heap.size 0 pa.toList) pa := by
  have hb : Below u.heap.size u ((u.alloc (.cells Z T)).setCells u.heap.size 0 pa.toList) := below_setCells' (Nat.le_refl _) _ _ _ ((Below.refl _ _).alloc (Nat.le_refl _) _)
  have hb' : Below (u.heap.size + 1) (u.alloc (.cells Z T)) ((u.alloc (.cells Z T)).setCells u.heap.size 0 pa.toList) → True := fun _ => trivial
  refine ⟨hb, World.rangeAt_setCells_same _ u.heap.size 0 pa.toList (by rw [Array.length_toList]; exact new_there hz), ?_⟩
  have h2 : ∀ (vs : List Value) (o : Nat) (w : World), (w.setCells u.heap.size o vs).heap.size = w.heap.size := by
    intro vs
    induction vs with
    | nil => intro o w; rfl
    | cons v vs ih => intro o w; rw [World.setCells, ih]; simp [World.setCell]
  rw [h2]; simp

theorem load_range {w : World} {b : Nat} {pa : Array Value} {T : TypeId} (h : w.rangeAt b 0 pa.toList) (hu : ∃ fs, Tryd.prog.underlying T = some (.struct fs)) (hi : (Tryd.prog.info? T).map (·.size) = some pa.size) :
    (Instr.loadAt T (.pointer (some ⟨b, 0, none⟩))).run Tryd.prog w = .ok (.agg pa) w := by
  obtain ⟨fs, hu⟩ := hu
  exact run_loadAt_mid w b 0 T pa.toList (.struct fs) h hu rfl (by rw [Array.length_toList]; exact hi)

theorem load_var {w : World} {b : Nat} {pa : Array Value} {T : TypeId} (h : w.there b 0 pa.size) (hu : ∃ fs, Tryd.prog.underlying T = some (.struct fs)) (hi : (Tryd.prog.info? T).map (·.size) = some pa.size) :
    (loadVar T ⟨b, 0, none⟩).run Tryd.prog (w.setCells b 0 pa.toList) = .ok (.agg pa) (w.setCells b 0 pa.toList) := by
  obtain ⟨fs, hu⟩ := hu
  exact run_loadVar_mid _ b 0 T pa.toList (.struct fs) (World.rangeAt_setCells_same w b 0 pa.toList (by rw [Array.length_toList]; exact h)) hu rfl (by rw [Array.length_toList]; exact hi)

theorem range_grow {w w' : World} {b : Nat} {cs : List Value} (h : w.rangeAt b 0 cs) (hb : Below w.heap.size w w') (hlt : b < w.heap.size) : w'.rangeAt b 0 cs := fun j v hv => (hb.cell (p := ⟨b, 0 + j, none⟩) hlt).trans (h j v hv)

theorem hd_one (h : Hd) (ao : Option Addr) (n c : Nat) : (hdCells h (.slice ao n c)).all (·.oneCell') = true := by simp [hdCells, Value.oneCell']

def Z27c : Array Value := #[.int .u8 0, .int .u16 0, .bool false, .bool false, .int .i64 0, .int .u8 0, .int .u8 0, .int .u32 0, .int .u32 0, .slice none 0 0]

theorem SeesB.takeS {w : World} {ao : Option Addr} {n cap : Nat} {L : List Nat} (h : SeesB w (.slice ao n cap) L) (b : Nat) (hb : b ≤ n) : SeesB w (.slice ao b cap) (L.take b) := by
  obtain ⟨ao1, cap1, hv, h1, h2, h3⟩ := h
  simp at hv
  obtain ⟨rfl, hlen, rfl⟩ := hv
  refine ⟨ao, cap, by rw [List.length_take]; congr 1; omega, ⟨by rw [List.length_take]; omega, h1.2⟩, h2, fun j hj => ?_⟩
  rw [List.length_take] at hj
  obtain ⟨g, off, ha, hg, hc, hb⟩ := h3 j (by omega)
  exact ⟨g, off, ha, hg, by rw [List.getElem_take]; exact hc, by rw [List.getElem_take]; exact hb⟩

/-- The program's Peek, refused. -/
theorem peek_bad (v : Value) (L : List Nat) (w : World) (hv : SeesB w v L) (hl : L.length ≤ 140737488355328) (he : (exam L false).2.2 ≠ 0) :
    Calls Tryd.prog 39 #[v] w fun e w' => e = .returned (.tuple #[.agg Z27c, .slice none 0 0, .int .i64 (exam L false).2.2]) ∧ Below w.heap.size w w' := by
  obtain ⟨w1, hw1⟩ : ∃ w1, w1 = w.alloc (.cells Z27c 27) := ⟨_, rfl⟩
  have hb1 : Below w.heap.size w w1 := by rw [hw1]; exact (Below.refl _ _).alloc (Nat.le_refl _) _
  have hs1 : w1.heap.size = w.heap.size + 1 := by rw [hw1]; simp
  have HX := hid (exam_code v L false w1 (hv.below hb1) hl)
  have HTH : Hid (∀ u, Below w1.heap.size w1 u → u.there w.heap.size 0 10) := fun u hu => by
    refine there_blk (C := Z27c) (t := 27) ?_ rfl
    rw [hu.block _ (by omega), hw1]
    exact heap_alloc_new w _
  have HW1 : Hid (w1 = w.alloc (.cells #[.int .u8 0, .int .u16 0, .bool false, .bool false, .int .i64 0, .int .u8 0, .int .u8 0, .int .u32 0, .int .u32 0, .slice none 0 0] 27)) := hw1
  have HB1 := hid hb1
  obtain ⟨ao, n, cap, rfl, _, _, _⟩ := hv.shape
  generalize exam L false = t at *
  obtain ⟨h, l, z⟩ := t
  simp only at *
  have hq : (z != 0) = true := by simp [he]
  obtain ⟨zz, hzz⟩ : ∃ zz : Array Value, zz = Z27c := ⟨_, rfl⟩
  have HZ : Hid (zz = #[.int .u8 0, .int .u16 0, .bool false, .bool false, .int .i64 0, .int .u8 0, .int .u8 0, .int .u32 0, .int .u32 0, .slice none 0 0]) := hzz
  have HONE : Hid (zz.all (·.oneCell') = true) := by unfold Hid; rw [hzz]; simp [Z27c, Value.oneCell']
  have HINF : Hid ((Tryd.prog.info? 27).map (·.size) = some zz.size) := by unfold Hid; rw [hzz]; exact size27
  rw [← hzz]
  clear hw1 hb1 hs1 hv he
  go_enter Tryd.func39, Tryd.ntmps39
  go_upto_region 1 with fail
  rw [← HW1.out]
  go_wp2_with fail
  refine HX.out.mono ?_
  rintro _ w2 ⟨rfl, hb2⟩
  have HTZ : Hid (w2.there w.heap.size 0 zz.size) := by unfold Hid; rw [hzz]; exact HTH.out _ hb2
  have HLV := hid (load_var HTZ.out und27 HINF.out)
  have HBF : Hid (Below w.heap.size w (w2.setCells w.heap.size 0 zz.toList)) := below_setCells' (Nat.le_refl _) _ _ _ (HB1.out.trans (hb2.mono HB1.out.size))
  clear hzz HTH HX hb2
  go_wp2_with (first
    | (refine wpList_store_mid rfl 27 (.tmp 2) (.tmp 18) rfl w.heap.size 0 zz rfl (by rw [HZ.out]; rfl) HTZ.out HINF.out HONE.out ?_)
    | fail)
  generalize w2.setCells w.heap.size 0 zz.toList = wf at HLV HBF ⊢
  refine bodyPost_ret (v := .tuple #[.agg zz, .slice none 0 0, .int .i64 z]) (by simp [results, Tryd.results39, asAddr, HLV.out]) rfl ?_
  exact ⟨rfl, HBF.out⟩

set_option maxHeartbeats 2000000 in
/-- The program's Peek, read. -/
theorem peek_good (v : Value) (L : List Nat) (w : World) (hv : SeesB w v L) (hl : L.length ≤ 140737488355328) (he : (exam L false).2.2 = 0) :
    Calls Tryd.prog 39 #[v] w fun e w' => ∃ vo vb, e = .returned (.tuple #[.agg (hdCells (rdH (L.take (exam L false).2.1) (exam L false).1) vo), vb, .int .i64 0]) ∧ SeesB w' vo (rdH (L.take (exam L false).2.1) (exam L false).1).opts ∧ SeesB w' vb ((L.take (exam L false).2.1).drop (exam L false).1) ∧ (∀ a n c, vo = .slice (some a) n c → w.heap.size ≤ a.block) ∧ (∀ a n c, vb = .slice (some a) n c → w.heap.size ≤ a.block) ∧ Below w.heap.size w w' := by
  obtain ⟨e1, e2, e3⟩ := exam_ok he
  obtain ⟨a1, a2, a3, a4, a5, a6, a7⟩ := lens_ok e1
  have hl16 := w16_lt hv.bytes 2
  rw [← a7] at hl16
  rw [← e3] at a1 a2 a3 a4 hl16
  clear e1 e2 e3 a5 a6 a7
  obtain ⟨w1, hw1⟩ : ∃ w1, w1 = w.alloc (.cells Z27c 27) := ⟨_, rfl⟩
  have hb1 : Below w.heap.size w w1 := by rw [hw1]; exact (Below.refl _ _).alloc (Nat.le_refl _) _
  have hs1 : w1.heap.size = w.heap.size + 1 := by rw [hw1]; simp
  have HX := hid (exam_code v L false w1 (hv.below hb1) hl)
  have HTH : Hid (∀ u, Below w1.heap.size w1 u → u.there w.heap.size 0 10) := fun u hu => by
    refine there_blk (C := Z27c) (t := 27) ?_ rfl
    rw [hu.block _ (by omega), hw1]
    exact heap_alloc_new w _
  have HW1 : Hid (w1 = w.alloc (.cells #[.int .u8 0, .int .u16 0, .bool false, .bool false, .int .i64 0, .int .u8 0, .int .u8 0, .int .u32 0, .int .u32 0, .slice none 0 0] 27)) := hw1
  have HB1 := hid hb1
  obtain ⟨ao, n, cap, rfl, HN, hn1, hn2⟩ := hv.shape
  unfold maxLen at hn2
  have hnl : n ≤ 140737488355328 := by have := HN.out; omega
  have HSV := hid hv
  generalize exam L false = t at *
  obtain ⟨h, l, z⟩ := t
  simp only at *
  subst he
  obtain ⟨l', hl'⟩ : ∃ l', l' = min l n := ⟨_, rfl⟩
  have HBD : Hid (L.take l = L.take l') := by
    unfold Hid
    rcases Nat.le_total l n with g | g
    · rw [hl', Nat.min_eq_left g]
    · rw [hl', Nat.min_eq_right g, List.take_of_length_le (by have := HN.out; omega), List.take_of_length_le (by have := HN.out; omega)]
  rw [HBD.out]
  have HSH := hid (HSV.out.takeS l' (by omega))
  have HUP : Hid (∀ u, Below w1.heap.size w1 u → Calls Tryd.prog 51 #[.slice ao l' cap, .int .i64 (h : Int)] u fun e w' => ∃ vo vb, e = .returned (.tuple #[.agg (hdCells (rdH (L.take l') h) vo), vb]) ∧ SeesB w' vo (rdH (L.take l') h).opts ∧ SeesB w' vb ((L.take l').drop h) ∧ (∀ a n c, vo = .slice (some a) n c → u.heap.size ≤ a.block) ∧ (∀ a n c, vb = .slice (some a) n c → u.heap.size ≤ a.block) ∧ Below u.heap.size u w') := fun u hu =>
    unpack_any _ (L.take l') h u (HSH.out.below (HB1.out.trans (hu.mono HB1.out.size))) a1 (by rw [List.length_take]; have := HN.out; omega) (by rw [List.length_take]; omega)
  generalize rdH (L.take l') h = H at *
  generalize (L.take l').drop h = BD at *
  have HS1 := hid hs1
  clear hw1 hb1 hs1 hv HSH
  rcases Nat.lt_or_ge n l with g | g
  · obtain rfl : l' = n := by omega
    clear hl' HBD
    go_enter Tryd.func39, Tryd.ntmps39
    go_upto_region 1 with fail
    rw [← HW1.out]
    go_wp2_with fail
    refine HX.out.mono ?_
    rintro _ w2 ⟨rfl, hb2⟩
    go_wp2_with fail
    refine (HUP.out _ hb2).mono ?_
    rintro _ w3 ⟨vo, vb, rfl, hso, hsb, hko, hkb, hb3⟩
    obtain ⟨a1', n1, c1, rfl, _, _, _⟩ := hso.shape
    obtain ⟨a2', n2, c2, rfl, _, _, _⟩ := hsb.shape
    obtain ⟨pa, hpa⟩ : ∃ pa : Array Value, pa = hdCells H (.slice a1' n1 c1) := ⟨_, rfl⟩
    have HPA := hid hpa
    have hpz : pa.size = Z27c.size := by rw [hpa]; rfl
    have HZA : Hid ((Tryd.prog.info? 27).map (·.size) = some pa.size) := by unfold Hid; rw [hpa]; exact size27
    have HOA : Hid (pa.all (·.oneCell') = true) := by unfold Hid; rw [hpa]; exact hd_one _ _ _ _
    have HTA := hid (new_there (u := w3) (T := 27) hpz)
    have HNW := new_put (u := w3) (T := 27) hpz
    obtain ⟨w4, hw4⟩ : ∃ w4, w4 = (w3.alloc (.cells Z27c 27)).setCells w3.heap.size 0 pa.toList := ⟨_, rfl⟩
    rw [← hw4] at HNW
    have HW4 : Hid (w4 = (w3.alloc (.cells #[.int .u8 0, .int .u16 0, .bool false, .bool false, .int .i64 0, .int .u8 0, .int .u8 0, .int .u32 0, .int .u32 0, .slice none 0 0] 27)).setCells w3.heap.size 0 pa.toList) := hw4
    have hb23 : Below w1.heap.size w1 w3 := hb2.trans (hb3.mono hb2.size)
    have hb4 : Below w1.heap.size w1 w4 := hb23.trans (HNW.below.mono hb23.size)
    have HLD := hid (load_range HNW.range und27 HZA.out)
    have HTZ : Hid (w4.there w.heap.size 0 pa.size) := by unfold Hid; rw [hpz]; exact HTH.out _ hb4
    have HLV := hid (load_var HTZ.out und27 HZA.out)
    have HBF : Hid (Below w.heap.size w (w4.setCells w.heap.size 0 pa.toList)) := below_setCells' (Nat.le_refl _) _ _ _ (HB1.out.trans (hb4.mono HB1.out.size))
    have hlt2 : w.heap.size < w2.heap.size := by have := hb2.size; have := HS1.out; omega
    have HSO : Hid (SeesB (w4.setCells w.heap.size 0 pa.toList) (.slice a1' n1 c1) H.opts) := sees_set' (hso.below HNW.below) (fun a ha => by have := hko a n1 c1 (by rw [ha]); omega)
    have HSB : Hid (SeesB (w4.setCells w.heap.size 0 pa.toList) (.slice a2' n2 c2) BD) := sees_set' (hsb.below HNW.below) (fun a ha => by have := hkb a n2 c2 (by rw [ha]); omega)
    have HKO : Hid (∀ a n c, (Value.slice a1' n1 c1) = .slice (some a) n c → w.heap.size ≤ a.block) := fun a n c e => by have := hko a n c e; omega
    have HKB : Hid (∀ a n c, (Value.slice a2' n2 c2) = .slice (some a) n c → w.heap.size ≤ a.block) := fun a n c e => by have := hkb a n c e; omega
    rw [← hpa]
    clear hpa hpz hw4 hb2 hb3 hb23 hb4 hlt2 hso hsb hko hkb HUP HTH HNW
    go_upto_region 5 with (first
      | (refine wpList_store_mid rfl 27 (.tmp 8) (.tmp 29) rfl w3.heap.size 0 pa rfl rfl HTA.out HZA.out HOA.out ?_)
      | fail)
    rw [← HW4.out]
    go_wp2_with (first
      | (refine wpList_ld 27 ⟨w3.heap.size, 0, none⟩ (.tmp 8) rfl rfl HLD.out rfl ?_)
      | (refine wpList_store_mid rfl 27 (.tmp 2) (.tmp 31) rfl w.heap.size 0 pa rfl rfl HTZ.out HZA.out HOA.out ?_)
      | fail)
    generalize w4.setCells w.heap.size 0 pa.toList = wf at HLV HBF HSO HSB ⊢
    refine bodyPost_ret (v := .tuple #[.agg pa, .slice a2' n2 c2, .int .i64 0]) (by simp [results, Tryd.results39, asAddr, HLV.out]) rfl ?_
    exact ⟨.slice a1' n1 c1, .slice a2' n2 c2, by rw [HPA.out], HSO.out, HSB.out, HKO.out, HKB.out, HBF.out⟩
  · obtain rfl : l' = l := by omega
    clear hl' HBD
    go_enter Tryd.func39, Tryd.ntmps39
    go_upto_region 1 with fail
    rw [← HW1.out]
    go_wp2_with fail
    refine HX.out.mono ?_
    rintro _ w2 ⟨rfl, hb2⟩
    go_wp2_with fail
    refine (HUP.out _ hb2).mono ?_
    rintro _ w3 ⟨vo, vb, rfl, hso, hsb, hko, hkb, hb3⟩
    obtain ⟨a1', n1, c1, rfl, _, _, _⟩ := hso.shape
    obtain ⟨a2', n2, c2, rfl, _, _, _⟩ := hsb.shape
    obtain ⟨pa, hpa⟩ : ∃ pa : Array Value, pa = hdCells H (.slice a1' n1 c1) := ⟨_, rfl⟩
    have HPA := hid hpa
    have hpz : pa.size = Z27c.size := by rw [hpa]; rfl
    have HZA : Hid ((Tryd.prog.info? 27).map (·.size) = some pa.size) := by unfold Hid; rw [hpa]; exact size27
    have HOA : Hid (pa.all (·.oneCell') = true) := by unfold Hid; rw [hpa]; exact hd_one _ _ _ _
    have HTA := hid (new_there (u := w3) (T := 27) hpz)
    have HNW := new_put (u := w3) (T := 27) hpz
    obtain ⟨w4, hw4⟩ : ∃ w4, w4 = (w3.alloc (.cells Z27c 27)).setCells w3.heap.size 0 pa.toList := ⟨_, rfl⟩
    rw [← hw4] at HNW
    have HW4 : Hid (w4 = (w3.alloc (.cells #[.int .u8 0, .int .u16 0, .bool false, .bool false, .int .i64 0, .int .u8 0, .int .u8 0, .int .u32 0, .int .u32 0, .slice none 0 0] 27)).setCells w3.heap.size 0 pa.toList) := hw4
    have hb23 : Below w1.heap.size w1 w3 := hb2.trans (hb3.mono hb2.size)
    have hb4 : Below w1.heap.size w1 w4 := hb23.trans (HNW.below.mono hb23.size)
    have HLD := hid (load_range HNW.range und27 HZA.out)
    have HTZ : Hid (w4.there w.heap.size 0 pa.size) := by unfold Hid; rw [hpz]; exact HTH.out _ hb4
    have HLV := hid (load_var HTZ.out und27 HZA.out)
    have HBF : Hid (Below w.heap.size w (w4.setCells w.heap.size 0 pa.toList)) := below_setCells' (Nat.le_refl _) _ _ _ (HB1.out.trans (hb4.mono HB1.out.size))
    have hlt2 : w.heap.size < w2.heap.size := by have := hb2.size; have := HS1.out; omega
    have HSO : Hid (SeesB (w4.setCells w.heap.size 0 pa.toList) (.slice a1' n1 c1) H.opts) := sees_set' (hso.below HNW.below) (fun a ha => by have := hko a n1 c1 (by rw [ha]); omega)
    have HSB : Hid (SeesB (w4.setCells w.heap.size 0 pa.toList) (.slice a2' n2 c2) BD) := sees_set' (hsb.below HNW.below) (fun a ha => by have := hkb a n2 c2 (by rw [ha]); omega)
    have HKO : Hid (∀ a n c, (Value.slice a1' n1 c1) = .slice (some a) n c → w.heap.size ≤ a.block) := fun a n c e => by have := hko a n c e; omega
    have HKB : Hid (∀ a n c, (Value.slice a2' n2 c2) = .slice (some a) n c → w.heap.size ≤ a.block) := fun a n c e => by have := hkb a n c e; omega
    rw [← hpa]
    clear hpa hpz hw4 hb2 hb3 hb23 hb4 hlt2 hso hsb hko hkb HUP HTH HNW
    go_upto_region 5 with (first
      | (refine wpList_store_mid rfl 27 (.tmp 8) (.tmp 29) rfl w3.heap.size 0 pa rfl rfl HTA.out HZA.out HOA.out ?_)
      | fail)
    rw [← HW4.out]
    go_wp2_with (first
      | (refine wpList_ld 27 ⟨w3.heap.size, 0, none⟩ (.tmp 8) rfl rfl HLD.out rfl ?_)
      | (refine wpList_store_mid rfl 27 (.tmp 2) (.tmp 31) rfl w.heap.size 0 pa rfl rfl HTZ.out HZA.out HOA.out ?_)
      | fail)
    generalize w4.setCells w.heap.size 0 pa.toList = wf at HLV HBF HSO HSB ⊢
    refine bodyPost_ret (v := .tuple #[.agg pa, .slice a2' n2 c2, .int .i64 0]) (by simp [results, Tryd.results39, asAddr, HLV.out]) rfl ?_
    exact ⟨.slice a1' n1 c1, .slice a2' n2 c2, by rw [HPA.out], HSO.out, HSB.out, HKO.out, HKB.out, HBF.out⟩
end Go.Proofs.YtcboenmmkaochaaDoor.N

namespace Go.Proofs.YtcboenmmkaochaaDoor.N
open Go.ChangeShapes Go.WideShapes Go.ChangeAt Go.RowKit
set_option maxHeartbeats 1000000
set_option maxRecDepth 100000

theorem read_false (v : Value) (L : List Nat) (w : World) (hv : SeesB w v L) (hl : L.length ≤ 140737488355328) :
    Calls Tryd.prog 39 #[v] w fun e w' => ∃ vo vb, e = .returned (.tuple #[.agg (hdCells (readL L false).1 vo), vb, .int .i64 (readL L false).2.2]) ∧ SeesB w' vo (readL L false).1.opts ∧ SeesB w' vb (readL L false).2.1 ∧ (∀ a n c, vo = .slice (some a) n c → w.heap.size ≤ a.block) ∧ (∀ a n c, vb = .slice (some a) n c → w.heap.size ≤ a.block) ∧ Below w.heap.size w w' := by
  by_cases he : (exam L false).2.2 = 0
  · have hp : readL L false = (rdH (L.take (exam L false).2.1) (exam L false).1, (L.take (exam L false).2.1).drop (exam L false).1, 0) := by unfold readL; rw [if_pos he]
    rw [hp]
    exact peek_good v L w hv hl he
  · have hp : readL L false = (zeroH, [], (exam L false).2.2) := by unfold readL; rw [if_neg he]
    rw [hp]
    refine (peek_bad v L w hv hl he).mono ?_
    rintro e w' ⟨rfl, hb⟩
    exact ⟨.slice none 0 0, .slice none 0 0, rfl, sees_nil _, sees_nil _, (fun _ _ _ h => by cases h), (fun _ _ _ h => by cases h), hb⟩

end Go.Proofs.YtcboenmmkaochaaDoor.N

namespace Go.Proofs.YtcboenmmkaochaaDoor.N
open Go.ChangeShapes Go.WideShapes Go.ChangeAt Go.RowKit
set_option maxHeartbeats 2000000
set_option maxRecDepth 100000

/-- What a fault speaks of: header, bytes, error. -/
def abt (h : Hd) (B : List Nat) : Hd × List Nat × Int :=
  if msgE h B ≠ 0 then (zeroH, [], msgE h B) else if kF (msgC h B).t then readL (msgC h B).B false else (zeroH, [], 62)

theorem size_hd : (Tryd.prog.info? 27).map (·.size) = some 10 := by kernel_rfl
def zeroHC : Array Value := #[.int .u8 0, .int .u16 0, .bool false, .bool false, .int .i64 0, .int .u8 0, .int .u8 0, .int .u32 0, .int .u32 0, .slice none 0 0]

theorem msgC_ok {h : Hd} {B : List Nat} (hb : ∀ x ∈ B, x < 256) : (msgC h B).Ok ∧ (∀ x ∈ (msgC h B).B, x < 256) ∧ (msgC h B).B.length ≤ 65507 := by
  unfold msgC
  split
  · exact ⟨Im.prC_ok hb, Im.prC_bytes hb, Im.prC_len B⟩
  · exact ⟨Im.none_ok, fun x hx => by (cases hx), by simp [Im.none0]⟩

theorem about_any (h : Hd) (vo vb : Value) (B : List Nat) (w : World) (hok : h.Ok) (hvo : SeesB w vo h.opts) (hvb : SeesB w vb B) (hlo : h.opts.length ≤ 140737488355328) (hlb : B.length ≤ 140737488355328) (htK : TabK w) :
    Calls Tryd.prog 23 #[.agg (pkCells h vo vb)] w fun e w' => ∃ a1 n1 c1 a2 n2 c2, e = .returned (.tuple #[.agg (hdCells (abt h B).1 (.slice a1 n1 c1)), .slice a2 n2 c2, .int .i64 (abt h B).2.2]) ∧ SeesB w' (.slice a1 n1 c1) (abt h B).1.opts ∧ SeesB w' (.slice a2 n2 c2) (abt h B).2.1 ∧ Below w.heap.size w w' := by
  obtain ⟨wa, hwa⟩ : ∃ wa, wa = w.alloc (.cells (pkCells h vo vb) 29) := ⟨_, rfl⟩
  obtain ⟨w1, hw1⟩ : ∃ w1, w1 = wa.alloc (.cells zeroHC 27) := ⟨_, rfl⟩
  have hsa : wa.heap.size = w.heap.size + 1 := by rw [hwa]; simp
  have hs1 : w1.heap.size = w.heap.size + 2 := by rw [hw1]; simp [hsa]
  have hba : Below w.heap.size w wa := by rw [hwa]; exact (Below.refl _ _).alloc (Nat.le_refl _) _
  have hbb : Below wa.heap.size wa w1 := by rw [hw1]; exact (Below.refl _ _).alloc (Nat.le_refl _) _
  have hb1 : Below w.heap.size w w1 := hba.trans (hbb.mono (by omega))
  have k0 : w1.heap[w.heap.size]? = some (.cells (pkCells h vo vb) 29 (0, 0)) := by
    rw [hbb.block _ (by omega), hwa]; exact heap_alloc_new w _
  have k1 : w1.heap[w.heap.size + 1]? = some (.cells zeroHC 27 (0, 0)) := by
    rw [← hsa, hw1]; exact heap_alloc_new wa _
  have HLD := hid (pk_load k0)
  have HMS := hid (message_any h vo vb B w1 hok (hvo.below hb1) (hvb.below hb1) hlo hlb)
  obtain ⟨hC1, hC2, hC3⟩ := msgC_ok (h := h) hvb.bytes
  have HTH : Hid (∀ u, Below w1.heap.size w1 u → u.there (w.heap.size + 1) 0 10) := fun u hu => there_blk (C := zeroHC) (t := 27) ((hu.block _ (by omega)).trans k1) rfl
  have HFL : Hid (∀ u, Below w1.heap.size w1 u → Calls Tryd.prog 36 #[.int .u8 ((msgC h B).t : Int)] u fun e w' => e = .returned (.bool (kF (msgC h B).t)) ∧ Below u.heap.size u w') := fun u hu => isFault_any _ u hC1.t ((htK.below hb1).below hu)
  have HPK : Hid (∀ (v : Value) (u : World), SeesB u v (msgC h B).B → Calls Tryd.prog 39 #[v] u fun e w' => ∃ vo vb, e = .returned (.tuple #[.agg (hdCells (readL (msgC h B).B false).1 vo), vb, .int .i64 (readL (msgC h B).B false).2.2]) ∧ SeesB w' vo (readL (msgC h B).B false).1.opts ∧ SeesB w' vb (readL (msgC h B).B false).2.1 ∧ (∀ a n c, vo = .slice (some a) n c → u.heap.size ≤ a.block) ∧ (∀ a n c, vb = .slice (some a) n c → u.heap.size ≤ a.block) ∧ Below u.heap.size u w') := fun v u hs => read_false v _ u hs (by omega)
  have HW1 : Hid (w1 = (w.alloc (.cells (pkCells h vo vb) 29)).alloc (.cells #[.int .u8 0, .int .u16 0, .bool false, .bool false, .int .i64 0, .int .u8 0, .int .u8 0, .int .u32 0, .int .u32 0, .slice none 0 0] 27)) := by unfold Hid; rw [hw1, hwa]; rfl
  have HB1 := hid hb1
  have HS1 := hid hs1
  have HBW : Hid (∀ u, Below w1.heap.size w1 u → Below w.heap.size w u) := fun u hu => hb1.trans (hu.mono hb1.size)
  have HA : Hid (abt h B = if msgE h B ≠ 0 then (zeroH, [], msgE h B) else if kF (msgC h B).t then readL (msgC h B).B false else (zeroH, [], 62)) := rfl
  clear hwa hw1 hsa hs1 hba hbb hb1 k0 k1 hvb hvo hok hlo hlb hC1 hC2 hC3 htK
  generalize abt h B = AB at *
  generalize msgE h B = q at *
  generalize msgC h B = MC at *
  generalize pkCells h vo vb = pk at *
  obtain ⟨zz, hzz⟩ : ∃ zz : Array Value, zz = zeroHC := ⟨_, rfl⟩
  have HZ : Hid (zz = #[.int .u8 0, .int .u16 0, .bool false, .bool false, .int .i64 0, .int .u8 0, .int .u8 0, .int .u32 0, .int .u32 0, .slice none 0 0]) := hzz
  have HONE : Hid (zz.all (·.oneCell') = true) := by unfold Hid; rw [hzz]; simp [zeroHC, Value.oneCell']
  have HINF : Hid ((Tryd.prog.info? 27).map (·.size) = some zz.size) := by unfold Hid; rw [hzz]; exact size_hd
  have HZC : Hid (zz = hdCells zeroH (.slice none 0 0)) := hzz
  have HZS : Hid (zz.size = 10) := by unfold Hid; rw [hzz]; rfl
  clear hzz
  go_enter Tryd.func23, Tryd.ntmps23
  go_upto_region 1 with fail
  rw [← HW1.out]
  go_wp2_with (first | (refine wpList_ld 29 ⟨w.heap.size, 0, none⟩ _ rfl rfl HLD.out rfl ?_) | fail)
  refine HMS.out.mono ?_
  rintro _ w2 ⟨a2, n2, c2, rfl, hs2, hn2, hb2⟩
  obtain ⟨pa, hpa⟩ : ∃ pa : Array Value, pa = ctCells MC (.slice a2 n2 c2) := ⟨_, rfl⟩
  obtain ⟨w3, hw3⟩ : ∃ w3, w3 = (w2.alloc (.cells zeroC 37)).setCells w2.heap.size 0 pa.toList := ⟨_, rfl⟩
  have HZA : Hid ((Tryd.prog.info? 37).map (·.size) = some pa.size) := by unfold Hid; rw [hpa]; exact size_ct
  have HOA : Hid (pa.all (·.oneCell') = true) := by unfold Hid; rw [hpa]; simp [ctCells, Value.oneCell']
  have HTA : Hid ((w2.alloc (.cells zeroC 37)).there w2.heap.size 0 pa.size) := by unfold Hid; rw [hpa]; exact there_blk (C := zeroC) (t := 37) (heap_alloc_new w2 _) rfl
  have hr3 : w3.heap[w2.heap.size]? = some (.cells (ctCells MC (.slice a2 n2 c2)) 37 (0, 0)) := by
    rw [hw3, hpa]
    have := heap_setCells_row (b := w2.heap.size) (T := 37) (ctCells MC (.slice a2 n2 c2)).toList 0 _ zeroC (heap_alloc_new w2 (.cells zeroC 37))
    rwa [show wr zeroC 0 (ctCells MC (.slice a2 n2 c2)).toList = ctCells MC (.slice a2 n2 c2) by simp [wr, zeroC, ctCells]] at this
  have hb23 : Below w2.heap.size w2 w3 := by rw [hw3]; exact below_setCells (Nat.le_refl _) _ _ _ ((Below.refl _ _).alloc (Nat.le_refl _) _)
  have hb3 : Below w1.heap.size w1 w3 := hb2.trans (hb23.mono hb2.size)
  obtain ⟨d0, d1, d2, d3⟩ := ct_at hr3
  have HR3 := hid hr3
  have HS3 := hid (hs2.below hb23)
  have HW3 : Hid (w3 = (w2.alloc (.cells #[.int .u8 0, .int .u8 0, .int .u32 0, .slice none 0 0] 37)).setCells w2.heap.size 0 pa.toList) := hw3
  have HB3 := hid hb3
  have hlt3 : w2.heap.size < w3.heap.size := (Array.getElem?_eq_some_iff.1 hr3).1
  have HLT := hid hlt3
  rw [← hpa]
  clear hpa hw3 hr3 hb23 hb3 hs2 hn2 hb2 hlt3
  go_upto_region 2 with (first
    | (refine wpList_store_mid rfl 37 (.tmp 5) (.tmp 10) rfl w2.heap.size 0 pa rfl rfl HTA.out HZA.out HOA.out ?_)
    | fail)
  rw [← HW3.out]
  by_cases hq : q = 0
  · subst hq
    have HA2 : Hid (AB = if kF MC.t then readL MC.B false else (zeroH, [], 62)) := by unfold Hid; rw [HA.out, if_neg (by simp)]
    cases hk : kF MC.t with
    | false =>
      have HA3 : Hid (AB = (zeroH, [], 62)) := by unfold Hid; rw [HA2.out, hk]; rfl
      have HF3 := hid (HFL.out _ HB3.out)
      rw [hk] at HF3
      generalize MC.t = mt at *
      go_wp2_with fail
      refine HF3.out.mono ?_
      rintro _ w4 ⟨rfl, hb4⟩
      have hb14 := HB3.out.trans (hb4.mono HB3.out.size)
      have HTU : Hid (w4.there (w.heap.size + 1) 0 zz.size) := by unfold Hid; rw [HZS.out]; exact HTH.out _ hb14
      obtain ⟨q1, q2⟩ := res_end (w := w) HTU.out (by omega) (HBW.out _ hb14) Tryd.underlying27 HINF.out
      have HLV := hid q1
      have HBF := hid q2
      clear q1 q2 hb14
      go_wp2_with (first
        | (refine wpList_store_mid rfl 27 (.tmp 2) (.tmp 20) rfl (w.heap.size + 1) 0 zz rfl (by rw [HZ.out]; rfl) HTU.out HINF.out HONE.out ?_)
        | fail)
      generalize w4.setCells (w.heap.size + 1) 0 zz.toList = wf at HLV HBF ⊢
      refine bodyPost_ret (v := .tuple #[.agg zz, .slice none 0 0, .int .i64 62]) (by simp [results, Tryd.results23, asAddr, HLV.out]) rfl ?_
      rw [HA3.out]
      exact ⟨none, 0, 0, none, 0, 0, by rw [HZC.out], sees_nil _, sees_nil _, HBF.out⟩
    | true =>
      have HA3 : Hid (AB = readL MC.B false) := by unfold Hid; rw [HA2.out, hk]; rfl
      have HF3 := hid (HFL.out _ HB3.out)
      rw [hk] at HF3
      have HC4 : Hid (∀ u, Below w3.heap.size w3 u → u.cell? ⟨w2.heap.size, 3, none⟩ = some (.slice a2 n2 c2)) := fun u hu => (ct_at ((hu.block _ HLT.out).trans HR3.out)).2.2.2
      go_wp2_with fail
      refine HF3.out.mono ?_
      rintro _ w4 ⟨rfl, hb4⟩
      have e4 := HC4.out _ hb4
      have HP4 := hid (HPK.out _ w4 (HS3.out.below hb4))
      have hb14 := HB3.out.trans (hb4.mono HB3.out.size)
      have HB14 := hid hb14
      clear d0 d1 d2 d3 hb14 HC4 hb4 HF3 HFL HPK
      generalize readL MC.B false = RL at *
      go_wp2_with fail
      refine HP4.out.mono ?_
      rintro _ w5 ⟨vo5, vb5, rfl, ho5, hbd5, hno, hnb, hb5⟩
      obtain ⟨a5, n5, c5, rfl, _, _, _⟩ := ho5.shape
      obtain ⟨a6, n6, c6, rfl, _, _, _⟩ := hbd5.shape
      obtain ⟨yy, hyy⟩ : ∃ yy : Array Value, yy = hdCells RL.1 (.slice a5 n5 c5) := ⟨_, rfl⟩
      have HYC := hid hyy
      have HOY : Hid (yy.all (·.oneCell') = true) := by unfold Hid; rw [hyy]; exact hd_one _ _ _ _
      have HIY : Hid ((Tryd.prog.info? 27).map (·.size) = some yy.size) := by unfold Hid; rw [hyy]; exact size_hd
      have hb15 := HB14.out.trans (hb5.mono HB14.out.size)
      have HTU : Hid (w5.there (w.heap.size + 1) 0 yy.size) := by unfold Hid; rw [hyy]; exact HTH.out _ hb15
      obtain ⟨q1, q2⟩ := res_end (w := w) HTU.out (by omega) (HBW.out _ hb15) Tryd.underlying27 HIY.out
      have HLV := hid q1
      have HBF := hid q2
      have hsz : w.heap.size + 2 ≤ w4.heap.size := by have := HB14.out.size; have := HS1.out; omega
      have HSO := hid (sees_setI (b := w.heap.size + 1) (vs := yy.toList) ho5 (fun a ha => by have := hno a n5 c5 (by rw [ha]); omega))
      have HSB := hid (sees_setI (b := w.heap.size + 1) (vs := yy.toList) hbd5 (fun a ha => by have := hnb a n6 c6 (by rw [ha]); omega))
      rw [← hyy]
      clear q1 q2 hyy ho5 hbd5 hno hnb hb15 hsz hb5
      go_wp2_with (first
        | (refine wpList_store_mid rfl 27 (.tmp 2) (.tmp 24) rfl (w.heap.size + 1) 0 yy rfl rfl HTU.out HIY.out HOY.out ?_)
        | fail)
      generalize w5.setCells (w.heap.size + 1) 0 yy.toList = wf at HLV HBF HSO HSB ⊢
      refine bodyPost_ret (v := .tuple #[.agg yy, .slice a6 n6 c6, .int .i64 RL.2.2]) (by simp [results, Tryd.results23, asAddr, HLV.out]) rfl ?_
      rw [HA3.out]
      exact ⟨_, _, _, _, _, _, by rw [HYC.out], HSO.out, HSB.out, HBF.out⟩
  · have HA3 : Hid (AB = (zeroH, [], q)) := by unfold Hid; rw [HA.out, if_pos hq]
    have hqq : (q != 0) = true := by simp [hq]
    have HTU : Hid (w3.there (w.heap.size + 1) 0 zz.size) := by unfold Hid; rw [HZS.out]; exact HTH.out _ HB3.out
    obtain ⟨q1, q2⟩ := res_end (w := w) HTU.out (by omega) (HBW.out _ HB3.out) Tryd.underlying27 HINF.out
    have HLV := hid q1
    have HBF := hid q2
    clear q1 q2
    go_wp2_with (first
      | (refine wpList_store_mid rfl 27 (.tmp 2) (.tmp 14) rfl (w.heap.size + 1) 0 zz rfl (by rw [HZ.out]; rfl) HTU.out HINF.out HONE.out ?_)
      | fail)
    generalize w3.setCells (w.heap.size + 1) 0 zz.toList = wf at HLV HBF ⊢
    refine bodyPost_ret (v := .tuple #[.agg zz, .slice none 0 0, .int .i64 q]) (by simp [results, Tryd.results23, asAddr, HLV.out]) rfl ?_
    rw [HA3.out]
    exact ⟨none, 0, 0, none, 0, 0, by rw [HZC.out], sees_nil _, sees_nil _, HBF.out⟩
end Go.Proofs.YtcboenmmkaochaaDoor.N
