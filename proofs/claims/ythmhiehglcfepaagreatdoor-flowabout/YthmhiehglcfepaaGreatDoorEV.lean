import Derived.Test.YthmhiehglcfepaaGreatDoorES
import Derived.Test.YthmhiehglcfepaaGreatDoorED
import Derived.Test.YthmhiehglcfepaaGreatDoorEQ
import Derived.Test.YthmhiehglcfepaaGreatDoorEA
import Derived.Test.YthmhiehglcfepaaGreatDoorEU
namespace Go.Proofs.YthmhiehglcfepaaGreatDoor.N
open Go.ChangeShapes Go.WideShapes Go.ChangeAt Go.RowKit
set_option maxHeartbeats 2000000
set_option maxRecDepth 100000

theorem res_end {w u : World} {r : Nat} {T : TypeId} {fs : Array Field} {zz : Array Value} (hth : u.there r 0 zz.size) (hr : w.heap.size ≤ r) (hb : Below w.heap.size w u) (hu : Tryz.prog.underlying T = some (.struct fs)) (hi : (Tryz.prog.info? T).map (·.size) = some zz.size) :
    (loadVar T ⟨r, 0, none⟩).run Tryz.prog (u.setCells r 0 zz.toList) = .ok (.agg zz) (u.setCells r 0 zz.toList) ∧ Below w.heap.size w (u.setCells r 0 zz.toList) :=
  ⟨load_cell hth hu hi, below_setCells hr _ _ _ hb⟩

def msgE (h : Hd) (B : List Nat) : Int := if refE h B.length ≠ 0 then refE h B.length else if h.proto ≠ 1 ∨ 0 < h.off ∨ h.mf = true then 60 else Im.prE B
def msgC (h : Hd) (B : List Nat) : Im.Ct := if msgE h B = 0 then Im.prC B else Im.none0

theorem msg_bad {h : Hd} {B : List Nat} {e : Int} (hr : refE h B.length = e) (he : e ≠ 0) : msgE h B = e ∧ msgC h B = Im.none0 := by
  have h1 : msgE h B = e := by unfold msgE; rw [if_pos (by rw [hr]; exact he), hr]
  exact ⟨h1, by unfold msgC; rw [if_neg (by rw [h1]; exact he)]⟩

theorem msg_60 {h : Hd} {B : List Nat} (hr : refE h B.length = 0) (hc : h.proto ≠ 1 ∨ 0 < h.off ∨ h.mf = true) : msgE h B = 60 ∧ msgC h B = Im.none0 := by
  have h1 : msgE h B = 60 := by unfold msgE; rw [if_neg (by rw [hr]; simp), if_pos hc]
  exact ⟨h1, by unfold msgC; rw [if_neg (by rw [h1]; decide)]⟩

theorem msg_pr {h : Hd} {B : List Nat} (hr : refE h B.length = 0) (hc : ¬ (h.proto ≠ 1 ∨ 0 < h.off ∨ h.mf = true)) : msgE h B = Im.prE B ∧ msgC h B = Im.prC B := by
  have h1 : msgE h B = Im.prE B := by unfold msgE; rw [if_neg (by rw [hr]; simp), if_neg hc]
  refine ⟨h1, ?_⟩
  unfold msgC
  rw [h1]
  split
  · rfl
  · rename_i h2; unfold Im.prC; rw [if_neg h2]

theorem message_any (h : Hd) (vo vb : Value) (B : List Nat) (w : World) (hok : h.Ok) (hvo : SeesB w vo h.opts) (hvb : SeesB w vb B) (hlo : h.opts.length ≤ 140737488355328) (hlb : B.length ≤ 140737488355328) :
    Calls Tryz.prog 142 #[.agg (pkCells h vo vb)] w fun e w' => ∃ ao n cap, e = .returned (.tuple #[.agg (ctCells (msgC h B) (.slice ao n cap)), .int .i64 (msgE h B)]) ∧ SeesB w' (.slice ao n cap) (msgC h B).B ∧ (∀ a, ao = some a → w.heap.size ≤ a.block) ∧ Below w.heap.size w w' := by
  obtain ⟨wa, hwa⟩ : ∃ wa, wa = w.alloc (.cells (pkCells h vo vb) 41) := ⟨_, rfl⟩
  obtain ⟨w1, hw1⟩ : ∃ w1, w1 = wa.alloc (.cells zeroC 113) := ⟨_, rfl⟩
  have hsa : wa.heap.size = w.heap.size + 1 := by rw [hwa]; simp
  have hs1 : w1.heap.size = w.heap.size + 2 := by rw [hw1]; simp [hsa]
  have hba : Below w.heap.size w wa := by rw [hwa]; exact (Below.refl _ _).alloc (Nat.le_refl _) _
  have hbb : Below wa.heap.size wa w1 := by rw [hw1]; exact (Below.refl _ _).alloc (Nat.le_refl _) _
  have hb1 : Below w.heap.size w w1 := hba.trans (hbb.mono (by omega))
  have k0 : w1.heap[w.heap.size]? = some (.cells (pkCells h vo vb) 41 (0, 0)) := by
    rw [hbb.block _ (by omega), hwa]; exact heap_alloc_new w _
  have k1 : w1.heap[w.heap.size + 1]? = some (.cells zeroC 113 (0, 0)) := by
    rw [← hsa, hw1]; exact heap_alloc_new wa _
  have HLD := hid (pk_load k0)
  have HBD := hid (build_code h vo vb B w1 hok (hvo.below hb1) (hvb.below hb1) hlo hlb)
  obtain ⟨ab, nb, capb, rfl, HNB, hnb1, hnb2⟩ := hvb.shape
  have HC : Hid (∀ u, Below w1.heap.size w1 u → u.cell? ⟨w.heap.size, 3, none⟩ = some (.bool h.mf) ∧ u.cell? ⟨w.heap.size, 4, none⟩ = some (.int .i64 h.off) ∧ u.cell? ⟨w.heap.size, 6, none⟩ = some (.int .u8 (h.proto : Int)) ∧ u.cell? ⟨w.heap.size, 10, none⟩ = some (.slice ab nb capb)) := fun u hu => by
    have hk := (hu.block w.heap.size (by omega)).trans k0
    exact ⟨pk_at hk 3 (by omega), pk_at hk 4 (by omega), pk_at hk 6 (by omega), pk_at hk 10 (by omega)⟩
  have HTH : Hid (∀ u, Below w1.heap.size w1 u → u.there (w.heap.size + 1) 0 4) := fun u hu => there_blk (C := zeroC) (t := 113) ((hu.block _ (by omega)).trans k1) rfl
  have HPR : Hid (∀ u, Below w1.heap.size w1 u → Calls Tryz.prog 162 #[.slice ab nb capb] u fun e w' => ∃ ao n cap, e = .returned (.tuple #[.agg (ctCells (Im.prC B) (.slice ao n cap)), .int .i64 (Im.prE B)]) ∧ SeesB w' (.slice ao n cap) (Im.prC B).B ∧ (∀ a, ao = some a → u.heap.size ≤ a.block) ∧ Below u.heap.size u w') := fun u hu => iparse_any _ B u (hvb.below (hb1.trans (hu.mono hb1.size)))
  have HW1 : Hid (w1 = (w.alloc (.cells (pkCells h vo (.slice ab nb capb)) 41)).alloc (.cells #[.int .u8 0, .int .u8 0, .int .u32 0, .slice none 0 0] 113)) := by unfold Hid; rw [hw1, hwa]; rfl
  have HB1 := hid hb1
  have HS1 := hid hs1
  have HBW : Hid (∀ u, Below w1.heap.size w1 u → Below w.heap.size w u) := fun u hu => hb1.trans (hu.mono hb1.size)
  have HM0 := fun (e : Int) => @msg_bad h B e
  have HM1 := @msg_60 h B
  have HM2 := @msg_pr h B
  have HM := hid (And.intro HM0 (And.intro HM1 HM2))
  clear HM0 HM1 HM2 hwa hw1 hsa hs1 hba hbb hb1 k0 k1 hvb hvo hok hlo hlb
  generalize msgE h B = ME at *
  generalize msgC h B = MC at *
  generalize refE h B.length = q at *
  generalize pkCells h vo (.slice ab nb capb) = pk at *
  generalize h.mf = mf at *
  generalize h.off = off at *
  generalize h.proto = pr at *
  obtain ⟨zz, hzz⟩ : ∃ zz : Array Value, zz = zeroC := ⟨_, rfl⟩
  have HZ : Hid (zz = #[.int .u8 0, .int .u8 0, .int .u32 0, .slice none 0 0]) := hzz
  have HONE : Hid (zz.all (·.oneCell') = true) := by unfold Hid; rw [hzz]; simp [zeroC, Value.oneCell']
  have HINF : Hid ((Tryz.prog.info? 113).map (·.size) = some zz.size) := by unfold Hid; rw [hzz]; exact size_ct
  have HZC : Hid (zz = ctCells Im.none0 (.slice none 0 0)) := hzz
  have HZS : Hid (zz.size = 4) := by unfold Hid; rw [hzz]; rfl
  clear hzz
  by_cases hq : q = 0
  · subst hq
    by_cases hp : pr = 1
    · subst hp
      by_cases ho : 0 < off
      · have HE := hid (HM.out.2.1 rfl (.inr (.inl ho)))
        clear HM
        go_enter Tryz.func142, Tryz.ntmps142
        go_upto_region 1 with fail
        rw [← HW1.out]
        go_wp2_with (first | (refine wpList_ld 41 ⟨w.heap.size, 0, none⟩ _ rfl rfl HLD.out rfl ?_) | fail)
        refine HBD.out.mono ?_
        rintro _ w2 ⟨a2, n2, c2, rfl, _, hb2⟩
        obtain ⟨e3, e4, e6, e10⟩ := HC.out _ hb2
        have HTU : Hid (w2.there (w.heap.size + 1) 0 zz.size) := by unfold Hid; rw [HZS.out]; exact HTH.out _ hb2
        obtain ⟨q1, q2⟩ := res_end (w := w) HTU.out (by omega) (HBW.out _ hb2) Tryz.underlying113 HINF.out
        have HLV := hid q1
        have HBF := hid q2
        clear q1 q2
        go_wp2_with (first
          | (refine wpList_store_mid rfl 113 (.tmp 2) (.tmp 30) rfl (w.heap.size + 1) 0 zz rfl (by rw [HZ.out]; rfl) HTU.out HINF.out HONE.out ?_)
          | fail)
        generalize w2.setCells (w.heap.size + 1) 0 zz.toList = wf at HLV HBF ⊢
        refine bodyPost_ret (v := .tuple #[.agg zz, .int .i64 60]) (by simp [results, Tryz.results142, asAddr, HLV.out]) rfl ?_
        rw [HE.out.1, HE.out.2]
        exact ⟨none, 0, 0, by rw [HZC.out], sees_nil _, (fun a ha => by cases ha), HBF.out⟩
      · cases mf with
        | true =>
          have HE := hid (HM.out.2.1 rfl (.inr (.inr rfl)))
          clear HM
          go_enter Tryz.func142, Tryz.ntmps142
          go_upto_region 1 with fail
          rw [← HW1.out]
          go_wp2_with (first | (refine wpList_ld 41 ⟨w.heap.size, 0, none⟩ _ rfl rfl HLD.out rfl ?_) | fail)
          refine HBD.out.mono ?_
          rintro _ w2 ⟨a2, n2, c2, rfl, _, hb2⟩
          obtain ⟨e3, e4, e6, e10⟩ := HC.out _ hb2
          have HTU : Hid (w2.there (w.heap.size + 1) 0 zz.size) := by unfold Hid; rw [HZS.out]; exact HTH.out _ hb2
          obtain ⟨q1, q2⟩ := res_end (w := w) HTU.out (by omega) (HBW.out _ hb2) Tryz.underlying113 HINF.out
          have HLV := hid q1
          have HBF := hid q2
          clear q1 q2
          go_wp2_with (first
            | (refine wpList_store_mid rfl 113 (.tmp 2) (.tmp 30) rfl (w.heap.size + 1) 0 zz rfl (by rw [HZ.out]; rfl) HTU.out HINF.out HONE.out ?_)
            | fail)
          generalize w2.setCells (w.heap.size + 1) 0 zz.toList = wf at HLV HBF ⊢
          refine bodyPost_ret (v := .tuple #[.agg zz, .int .i64 60]) (by simp [results, Tryz.results142, asAddr, HLV.out]) rfl ?_
          rw [HE.out.1, HE.out.2]
          exact ⟨none, 0, 0, by rw [HZC.out], sees_nil _, (fun a ha => by cases ha), HBF.out⟩
        | false =>
          have HE := hid (HM.out.2.2 rfl (by simp; omega))
          clear HM
          go_enter Tryz.func142, Tryz.ntmps142
          go_upto_region 1 with fail
          rw [← HW1.out]
          go_wp2_with (first | (refine wpList_ld 41 ⟨w.heap.size, 0, none⟩ _ rfl rfl HLD.out rfl ?_) | fail)
          refine HBD.out.mono ?_
          rintro _ w2 ⟨a2, n2, c2, rfl, _, hb2⟩
          obtain ⟨e3, e4, e6, e10⟩ := HC.out _ hb2
          go_wp2_with fail
          refine (HPR.out _ hb2).mono ?_
          rintro _ w3 ⟨a3, n3, c3, rfl, hs3, hn3, hb3⟩
          obtain ⟨yy, hyy⟩ : ∃ yy : Array Value, yy = ctCells (Im.prC B) (.slice a3 n3 c3) := ⟨_, rfl⟩
          have HYC := hid hyy
          have HOY : Hid (yy.all (·.oneCell') = true) := by
            unfold Hid; rw [hyy]; simp [ctCells, Value.oneCell']
          have HIY : Hid ((Tryz.prog.info? 113).map (·.size) = some yy.size) := by unfold Hid; rw [hyy]; exact size_ct
          have hb13 := hb2.trans (hb3.mono hb2.size)
          have HTU : Hid (w3.there (w.heap.size + 1) 0 yy.size) := by unfold Hid; rw [hyy]; exact HTH.out _ hb13
          obtain ⟨q1, q2⟩ := res_end (w := w) HTU.out (by omega) (HBW.out _ hb13) Tryz.underlying113 HIY.out
          have HLV := hid q1
          have HBF := hid q2
          have HNW : Hid (∀ a, a3 = some a → w.heap.size + 2 ≤ a.block) := fun a ha => by have := hn3 a ha; have := hb2.size; have := HS1.out; omega
          have HSF := hid (sees_setI (b := w.heap.size + 1) (vs := yy.toList) hs3 (fun a ha => by have := HNW.out a ha; omega))
          rw [← hyy]
          clear q1 q2 hyy hs3 hn3 hb13
          go_wp2_with (first
            | (refine wpList_store_mid rfl 113 (.tmp 2) (.tmp 34) rfl (w.heap.size + 1) 0 yy rfl rfl HTU.out HIY.out HOY.out ?_)
            | fail)
          generalize w3.setCells (w.heap.size + 1) 0 yy.toList = wf at HLV HBF HSF ⊢
          refine bodyPost_ret (v := .tuple #[.agg yy, .int .i64 (Im.prE B)]) (by simp [results, Tryz.results142, asAddr, HLV.out]) rfl ?_
          rw [HE.out.1, HE.out.2]
          exact ⟨_, _, _, by rw [HYC.out], HSF.out, (fun a ha => by have := HNW.out a ha; omega), HBF.out⟩
    · have HE := hid (HM.out.2.1 rfl (.inl hp))
      have q1 : ((pr : Int) != 1) = true := by simp; omega
      clear HM
      go_enter Tryz.func142, Tryz.ntmps142
      go_upto_region 1 with fail
      rw [← HW1.out]
      go_wp2_with (first | (refine wpList_ld 41 ⟨w.heap.size, 0, none⟩ _ rfl rfl HLD.out rfl ?_) | fail)
      refine HBD.out.mono ?_
      rintro _ w2 ⟨a2, n2, c2, rfl, _, hb2⟩
      obtain ⟨e3, e4, e6, e10⟩ := HC.out _ hb2
      have HTU : Hid (w2.there (w.heap.size + 1) 0 zz.size) := by unfold Hid; rw [HZS.out]; exact HTH.out _ hb2
      obtain ⟨q1, q2⟩ := res_end (w := w) HTU.out (by omega) (HBW.out _ hb2) Tryz.underlying113 HINF.out
      have HLV := hid q1
      have HBF := hid q2
      clear q1 q2
      go_wp2_with (first
        | (refine wpList_store_mid rfl 113 (.tmp 2) (.tmp 30) rfl (w.heap.size + 1) 0 zz rfl (by rw [HZ.out]; rfl) HTU.out HINF.out HONE.out ?_)
        | fail)
      generalize w2.setCells (w.heap.size + 1) 0 zz.toList = wf at HLV HBF ⊢
      refine bodyPost_ret (v := .tuple #[.agg zz, .int .i64 60]) (by simp [results, Tryz.results142, asAddr, HLV.out]) rfl ?_
      rw [HE.out.1, HE.out.2]
      exact ⟨none, 0, 0, by rw [HZC.out], sees_nil _, (fun a ha => by cases ha), HBF.out⟩
  · have HE := hid (HM.out.1 q rfl hq)
    have hqq : (q != 0) = true := by simp [hq]
    clear HM
    go_enter Tryz.func142, Tryz.ntmps142
    go_upto_region 1 with fail
    rw [← HW1.out]
    go_wp2_with (first | (refine wpList_ld 41 ⟨w.heap.size, 0, none⟩ _ rfl rfl HLD.out rfl ?_) | fail)
    refine HBD.out.mono ?_
    rintro _ w2 ⟨a2, n2, c2, rfl, _, hb2⟩
    obtain ⟨e3, e4, e6, e10⟩ := HC.out _ hb2
    have HTU : Hid (w2.there (w.heap.size + 1) 0 zz.size) := by unfold Hid; rw [HZS.out]; exact HTH.out _ hb2
    obtain ⟨q1, q2⟩ := res_end (w := w) HTU.out (by omega) (HBW.out _ hb2) Tryz.underlying113 HINF.out
    have HLV := hid q1
    have HBF := hid q2
    clear q1 q2
    go_wp2_with (first
      | (refine wpList_store_mid rfl 113 (.tmp 2) (.tmp 13) rfl (w.heap.size + 1) 0 zz rfl (by rw [HZ.out]; rfl) HTU.out HINF.out HONE.out ?_)
      | fail)
    generalize w2.setCells (w.heap.size + 1) 0 zz.toList = wf at HLV HBF ⊢
    refine bodyPost_ret (v := .tuple #[.agg zz, .int .i64 q]) (by simp [results, Tryz.results142, asAddr, HLV.out]) rfl ?_
    rw [HE.out.1, HE.out.2]
    exact ⟨none, 0, 0, by rw [HZC.out], sees_nil _, (fun a ha => by cases ha), HBF.out⟩
end Go.Proofs.YthmhiehglcfepaaGreatDoor.N

namespace Go.Proofs.YthmhiehglcfepaaGreatDoor.N
open Go.ChangeShapes Go.WideShapes Go.ChangeAt Go.RowKit
set_option maxHeartbeats 2000000
set_option maxRecDepth 100000

/-- Cells written one behind the other. -/
def wr (C : Array Value) : Nat → List Value → Array Value
  | _, [] => C
  | o, v :: vs => wr (C.setIfInBounds o v) (o + 1) vs

theorem heap_setCell_row {w : World} {b o : Nat} {C : Array Value} {T : TypeId} {fz : Nat × Nat} (h : w.heap[b]? = some (.cells C T fz)) (v : Value) : (w.setCell ⟨b, o, none⟩ v).heap[b]? = some (.cells (C.setIfInBounds o v) T fz) := by
  simp only [World.setCell, Array.getElem?_modify, h]
  simp

theorem heap_setCells_row {b : Nat} {T : TypeId} {fz : Nat × Nat} : ∀ (vs : List Value) (o : Nat) (w : World) (C : Array Value), w.heap[b]? = some (.cells C T fz) → (w.setCells b o vs).heap[b]? = some (.cells (wr C o vs) T fz)
  | [], _, _, _, h => h
  | v :: vs, o, w, C, h => by
    rw [World.setCells]
    exact heap_setCells_row vs (o + 1) _ _ (heap_setCell_row h v)

/-- What a fault speaks of: header, bytes, error. -/
def abt (h : Hd) (B : List Nat) : Hd × List Nat × Int :=
  if msgE h B ≠ 0 then (zeroH, [], msgE h B) else if kF (msgC h B).t then readL (msgC h B).B false else (zeroH, [], 62)

theorem size_hd : (Tryz.prog.info? 39).map (·.size) = some 10 := by kernel_rfl
def zeroHC : Array Value := #[.int .u8 0, .int .u16 0, .bool false, .bool false, .int .i64 0, .int .u8 0, .int .u8 0, .int .u32 0, .int .u32 0, .slice none 0 0]

theorem msgC_ok {h : Hd} {B : List Nat} (hb : ∀ x ∈ B, x < 256) : (msgC h B).Ok ∧ (∀ x ∈ (msgC h B).B, x < 256) ∧ (msgC h B).B.length ≤ 65507 := by
  unfold msgC
  split
  · exact ⟨Im.prC_ok hb, Im.prC_bytes hb, Im.prC_len B⟩
  · exact ⟨Im.none_ok, fun x hx => by (cases hx), by simp [Im.none0]⟩

theorem about_any (h : Hd) (vo vb : Value) (B : List Nat) (w : World) (hok : h.Ok) (hvo : SeesB w vo h.opts) (hvb : SeesB w vb B) (hlo : h.opts.length ≤ 140737488355328) (hlb : B.length ≤ 140737488355328) (htK : TabK w) :
    Calls Tryz.prog 114 #[.agg (pkCells h vo vb)] w fun e w' => ∃ a1 n1 c1 a2 n2 c2, e = .returned (.tuple #[.agg (hdCells (abt h B).1 (.slice a1 n1 c1)), .slice a2 n2 c2, .int .i64 (abt h B).2.2]) ∧ SeesB w' (.slice a1 n1 c1) (abt h B).1.opts ∧ SeesB w' (.slice a2 n2 c2) (abt h B).2.1 ∧ Below w.heap.size w w' := by
  obtain ⟨wa, hwa⟩ : ∃ wa, wa = w.alloc (.cells (pkCells h vo vb) 41) := ⟨_, rfl⟩
  obtain ⟨w1, hw1⟩ : ∃ w1, w1 = wa.alloc (.cells zeroHC 39) := ⟨_, rfl⟩
  have hsa : wa.heap.size = w.heap.size + 1 := by rw [hwa]; simp
  have hs1 : w1.heap.size = w.heap.size + 2 := by rw [hw1]; simp [hsa]
  have hba : Below w.heap.size w wa := by rw [hwa]; exact (Below.refl _ _).alloc (Nat.le_refl _) _
  have hbb : Below wa.heap.size wa w1 := by rw [hw1]; exact (Below.refl _ _).alloc (Nat.le_refl _) _
  have hb1 : Below w.heap.size w w1 := hba.trans (hbb.mono (by omega))
  have k0 : w1.heap[w.heap.size]? = some (.cells (pkCells h vo vb) 41 (0, 0)) := by
    rw [hbb.block _ (by omega), hwa]; exact heap_alloc_new w _
  have k1 : w1.heap[w.heap.size + 1]? = some (.cells zeroHC 39 (0, 0)) := by
    rw [← hsa, hw1]; exact heap_alloc_new wa _
  have HLD := hid (pk_load k0)
  have HMS := hid (message_any h vo vb B w1 hok (hvo.below hb1) (hvb.below hb1) hlo hlb)
  obtain ⟨hC1, hC2, hC3⟩ := msgC_ok (h := h) hvb.bytes
  have HTH : Hid (∀ u, Below w1.heap.size w1 u → u.there (w.heap.size + 1) 0 10) := fun u hu => there_blk (C := zeroHC) (t := 39) ((hu.block _ (by omega)).trans k1) rfl
  have HFL : Hid (∀ u, Below w1.heap.size w1 u → Calls Tryz.prog 81 #[.int .u8 ((msgC h B).t : Int)] u fun e w' => e = .returned (.bool (kF (msgC h B).t)) ∧ Below u.heap.size u w') := fun u hu => isFault_any _ u hC1.t ((htK.below hb1).below hu)
  have HPK : Hid (∀ (v : Value) (u : World), SeesB u v (msgC h B).B → Calls Tryz.prog 143 #[v] u fun e w' => ∃ vo vb, e = .returned (.tuple #[.agg (hdCells (readL (msgC h B).B false).1 vo), vb, .int .i64 (readL (msgC h B).B false).2.2]) ∧ SeesB w' vo (readL (msgC h B).B false).1.opts ∧ SeesB w' vb (readL (msgC h B).B false).2.1 ∧ (∀ a n c, vo = .slice (some a) n c → u.heap.size ≤ a.block) ∧ (∀ a n c, vb = .slice (some a) n c → u.heap.size ≤ a.block) ∧ Below u.heap.size u w') := fun v u hs => read_false v _ u hs (by omega)
  have HW1 : Hid (w1 = (w.alloc (.cells (pkCells h vo vb) 41)).alloc (.cells #[.int .u8 0, .int .u16 0, .bool false, .bool false, .int .i64 0, .int .u8 0, .int .u8 0, .int .u32 0, .int .u32 0, .slice none 0 0] 39)) := by unfold Hid; rw [hw1, hwa]; rfl
  have HB1 := hid hb1
  have HS1 := hid hs1
  have HBW : Hid (∀ u, Below w1.heap.size w1 u → Below w.heap.size w u) := fun u hu => hb1.trans (hu.mono hb1.size)
  have HA : Hid (abt h B = if msgE h B ≠ 0 then (zeroH, [], msgE h B) else if kF (msgC h B).t then readL (msgC h B).B false else (zeroH, [], 62)) := rfl
  clear hwa hw1 hsa hs1 hba hbb hb1 k0 k1 hvb hvo hok hlo hlb hC1 hC2 hC3 htK
  generalize abt h B = AB at *
  generalize msgE h B = q at *
  generalize msgC h B = MC at *
  generalize pkCells h vo vb = pk at *
  obtain ⟨zz, hzz⟩ : ∃ zz : Array Value, zz = zeroHC := ⟨_, rfl⟩
  have HZ : Hid (zz = #[.int .u8 0, .int .u16 0, .bool false, .bool false, .int .i64 0, .int .u8 0, .int .u8 0, .int .u32 0, .int .u32 0, .slice none 0 0]) := hzz
  have HONE : Hid (zz.all (·.oneCell') = true) := by unfold Hid; rw [hzz]; simp [zeroHC, Value.oneCell']
  have HINF : Hid ((Tryz.prog.info? 39).map (·.size) = some zz.size) := by unfold Hid; rw [hzz]; exact size_hd
  have HZC : Hid (zz = hdCells zeroH (.slice none 0 0)) := hzz
  have HZS : Hid (zz.size = 10) := by unfold Hid; rw [hzz]; rfl
  clear hzz
  go_enter Tryz.func114, Tryz.ntmps114
  go_upto_region 1 with fail
  rw [← HW1.out]
  go_wp2_with (first | (refine wpList_ld 41 ⟨w.heap.size, 0, none⟩ _ rfl rfl HLD.out rfl ?_) | fail)
  refine HMS.out.mono ?_
  rintro _ w2 ⟨a2, n2, c2, rfl, hs2, hn2, hb2⟩
  obtain ⟨pa, hpa⟩ : ∃ pa : Array Value, pa = ctCells MC (.slice a2 n2 c2) := ⟨_, rfl⟩
  obtain ⟨w3, hw3⟩ : ∃ w3, w3 = (w2.alloc (.cells zeroC 113)).setCells w2.heap.size 0 pa.toList := ⟨_, rfl⟩
  have HZA : Hid ((Tryz.prog.info? 113).map (·.size) = some pa.size) := by unfold Hid; rw [hpa]; exact size_ct
  have HOA : Hid (pa.all (·.oneCell') = true) := by unfold Hid; rw [hpa]; simp [ctCells, Value.oneCell']
  have HTA : Hid ((w2.alloc (.cells zeroC 113)).there w2.heap.size 0 pa.size) := by unfold Hid; rw [hpa]; exact there_blk (C := zeroC) (t := 113) (heap_alloc_new w2 _) rfl
  have hr3 : w3.heap[w2.heap.size]? = some (.cells (ctCells MC (.slice a2 n2 c2)) 113 (0, 0)) := by
    rw [hw3, hpa]
    have := heap_setCells_row (b := w2.heap.size) (T := 113) (ctCells MC (.slice a2 n2 c2)).toList 0 _ zeroC (heap_alloc_new w2 (.cells zeroC 113))
    rwa [show wr zeroC 0 (ctCells MC (.slice a2 n2 c2)).toList = ctCells MC (.slice a2 n2 c2) by simp [wr, zeroC, ctCells]] at this
  have hb23 : Below w2.heap.size w2 w3 := by rw [hw3]; exact below_setCells (Nat.le_refl _) _ _ _ ((Below.refl _ _).alloc (Nat.le_refl _) _)
  have hb3 : Below w1.heap.size w1 w3 := hb2.trans (hb23.mono hb2.size)
  obtain ⟨d0, d1, d2, d3⟩ := ct_at hr3
  have HR3 := hid hr3
  have HS3 := hid (hs2.below hb23)
  have HW3 : Hid (w3 = (w2.alloc (.cells #[.int .u8 0, .int .u8 0, .int .u32 0, .slice none 0 0] 113)).setCells w2.heap.size 0 pa.toList) := hw3
  have HB3 := hid hb3
  have hlt3 : w2.heap.size < w3.heap.size := (Array.getElem?_eq_some_iff.1 hr3).1
  have HLT := hid hlt3
  rw [← hpa]
  clear hpa hw3 hr3 hb23 hb3 hs2 hn2 hb2 hlt3
  go_upto_region 2 with (first
    | (refine wpList_store_mid rfl 113 (.tmp 5) (.tmp 10) rfl w2.heap.size 0 pa rfl rfl HTA.out HZA.out HOA.out ?_)
    | fail)
  rw [← HW3.out]
  by_cases hq : q = 0
  · subst hq
    have HA2 : Hid (AB = if kF MC.t then readL MC.B false else (zeroH, [], 62)) := by unfold Hid; rw [HA.out, if_neg (by simp)]
    cases hk : kF MC.t with
    | false =>
      have HA3 : Hid (AB = (zeroH, [], 62)) := by unfold Hid; rw [HA2.out, hk]; rfl
      have HF3 := hid (HFL.out _ HB3.out)
      rw [hk] at HF3
      generalize MC.t = mt at *
      go_wp2_with fail
      refine HF3.out.mono ?_
      rintro _ w4 ⟨rfl, hb4⟩
      have hb14 := HB3.out.trans (hb4.mono HB3.out.size)
      have HTU : Hid (w4.there (w.heap.size + 1) 0 zz.size) := by unfold Hid; rw [HZS.out]; exact HTH.out _ hb14
      obtain ⟨q1, q2⟩ := res_end (w := w) HTU.out (by omega) (HBW.out _ hb14) Tryz.underlying39 HINF.out
      have HLV := hid q1
      have HBF := hid q2
      clear q1 q2 hb14
      go_wp2_with (first
        | (refine wpList_store_mid rfl 39 (.tmp 2) (.tmp 20) rfl (w.heap.size + 1) 0 zz rfl (by rw [HZ.out]; rfl) HTU.out HINF.out HONE.out ?_)
        | fail)
      generalize w4.setCells (w.heap.size + 1) 0 zz.toList = wf at HLV HBF ⊢
      refine bodyPost_ret (v := .tuple #[.agg zz, .slice none 0 0, .int .i64 62]) (by simp [results, Tryz.results114, asAddr, HLV.out]) rfl ?_
      rw [HA3.out]
      exact ⟨none, 0, 0, none, 0, 0, by rw [HZC.out], sees_nil _, sees_nil _, HBF.out⟩
    | true =>
      have HA3 : Hid (AB = readL MC.B false) := by unfold Hid; rw [HA2.out, hk]; rfl
      have HF3 := hid (HFL.out _ HB3.out)
      rw [hk] at HF3
      have HC4 : Hid (∀ u, Below w3.heap.size w3 u → u.cell? ⟨w2.heap.size, 3, none⟩ = some (.slice a2 n2 c2)) := fun u hu => (ct_at ((hu.block _ HLT.out).trans HR3.out)).2.2.2
      go_wp2_with fail
      refine HF3.out.mono ?_
      rintro _ w4 ⟨rfl, hb4⟩
      have e4 := HC4.out _ hb4
      have HP4 := hid (HPK.out _ w4 (HS3.out.below hb4))
      have hb14 := HB3.out.trans (hb4.mono HB3.out.size)
      have HB14 := hid hb14
      clear d0 d1 d2 d3 hb14 HC4 hb4 HF3 HFL HPK
      generalize readL MC.B false = RL at *
      go_wp2_with fail
      refine HP4.out.mono ?_
      rintro _ w5 ⟨vo5, vb5, rfl, ho5, hbd5, hno, hnb, hb5⟩
      obtain ⟨a5, n5, c5, rfl, _, _, _⟩ := ho5.shape
      obtain ⟨a6, n6, c6, rfl, _, _, _⟩ := hbd5.shape
      obtain ⟨yy, hyy⟩ : ∃ yy : Array Value, yy = hdCells RL.1 (.slice a5 n5 c5) := ⟨_, rfl⟩
      have HYC := hid hyy
      have HOY : Hid (yy.all (·.oneCell') = true) := by unfold Hid; rw [hyy]; exact hd_one _ _ _ _
      have HIY : Hid ((Tryz.prog.info? 39).map (·.size) = some yy.size) := by unfold Hid; rw [hyy]; exact size_hd
      have hb15 := HB14.out.trans (hb5.mono HB14.out.size)
      have HTU : Hid (w5.there (w.heap.size + 1) 0 yy.size) := by unfold Hid; rw [hyy]; exact HTH.out _ hb15
      obtain ⟨q1, q2⟩ := res_end (w := w) HTU.out (by omega) (HBW.out _ hb15) Tryz.underlying39 HIY.out
      have HLV := hid q1
      have HBF := hid q2
      have hsz : w.heap.size + 2 ≤ w4.heap.size := by have := HB14.out.size; have := HS1.out; omega
      have HSO := hid (sees_setI (b := w.heap.size + 1) (vs := yy.toList) ho5 (fun a ha => by have := hno a n5 c5 (by rw [ha]); omega))
      have HSB := hid (sees_setI (b := w.heap.size + 1) (vs := yy.toList) hbd5 (fun a ha => by have := hnb a n6 c6 (by rw [ha]); omega))
      rw [← hyy]
      clear q1 q2 hyy ho5 hbd5 hno hnb hb15 hsz hb5
      go_wp2_with (first
        | (refine wpList_store_mid rfl 39 (.tmp 2) (.tmp 24) rfl (w.heap.size + 1) 0 yy rfl rfl HTU.out HIY.out HOY.out ?_)
        | fail)
      generalize w5.setCells (w.heap.size + 1) 0 yy.toList = wf at HLV HBF HSO HSB ⊢
      refine bodyPost_ret (v := .tuple #[.agg yy, .slice a6 n6 c6, .int .i64 RL.2.2]) (by simp [results, Tryz.results114, asAddr, HLV.out]) rfl ?_
      rw [HA3.out]
      exact ⟨_, _, _, _, _, _, by rw [HYC.out], HSO.out, HSB.out, HBF.out⟩
  · have HA3 : Hid (AB = (zeroH, [], q)) := by unfold Hid; rw [HA.out, if_pos hq]
    have hqq : (q != 0) = true := by simp [hq]
    have HTU : Hid (w3.there (w.heap.size + 1) 0 zz.size) := by unfold Hid; rw [HZS.out]; exact HTH.out _ HB3.out
    obtain ⟨q1, q2⟩ := res_end (w := w) HTU.out (by omega) (HBW.out _ HB3.out) Tryz.underlying39 HINF.out
    have HLV := hid q1
    have HBF := hid q2
    clear q1 q2
    go_wp2_with (first
      | (refine wpList_store_mid rfl 39 (.tmp 2) (.tmp 14) rfl (w.heap.size + 1) 0 zz rfl (by rw [HZ.out]; rfl) HTU.out HINF.out HONE.out ?_)
      | fail)
    generalize w3.setCells (w.heap.size + 1) 0 zz.toList = wf at HLV HBF ⊢
    refine bodyPost_ret (v := .tuple #[.agg zz, .slice none 0 0, .int .i64 q]) (by simp [results, Tryz.results114, asAddr, HLV.out]) rfl ?_
    rw [HA3.out]
    exact ⟨none, 0, 0, none, 0, 0, by rw [HZC.out], sees_nil _, sees_nil _, HBF.out⟩
end Go.Proofs.YthmhiehglcfepaaGreatDoor.N

namespace Go.Proofs.YthmhiehglcfepaaGreatDoor.N
open Go.ChangeShapes Go.WideShapes Go.ChangeAt Go.RowKit
set_option maxHeartbeats 2000000
set_option maxRecDepth 100000

/-- Is that address a plain one? -/
def pln (a : Nat) : Bool := decide (a / 16777216 ≠ 0) && decide (a / 16777216 ≠ 127) && decide (a / 16777216 < 224)

theorem cls_pln (a : Nat) : (Ad.cls a == 0) = pln a := by
  unfold Ad.cls pln
  split
  · simp; omega
  · split
    · simp; omega
    · split
      · simp; omega
      · split
        · simp; omega
        · simp; omega

theorem isPlain_any (a : Nat) (w : World) (ha : a < 4294967296) (ht : Ad.TabC w) :
    Calls Tryz.prog 42 #[.int .u32 (a : Int)] w fun e w' => e = .returned (.bool (pln a)) ∧ Below w.heap.size w w' := by
  have HC := hid (Ad.class_any a w ha ht)
  have HE := hid (cls_pln a)
  generalize Ad.cls a = c at *
  generalize pln a = b at *
  clear ht
  go_enter Tryz.func42, Tryz.ntmps42
  go_wp2_with fail
  refine HC.out.mono ?_
  rintro _ w2 ⟨rfl, hb⟩
  go_wp2_with fail
  go_ret
  exact ⟨ret_bool HE.out, hb⟩

theorem plainEnds_any (h : Hd) (vo : Value) (w : World) (hok : h.Ok) (ht : Ad.TabC w) :
    Calls Tryz.prog 80 #[.agg (hdCells h vo)] w fun e w' => e = .returned (.bool (pln h.src && pln h.dst)) ∧ Below w.heap.size w w' := by
  obtain ⟨w1, hw1⟩ : ∃ w1, w1 = w.alloc (.cells (hdCells h vo) 39) := ⟨_, rfl⟩
  have hb1 : Below w.heap.size w w1 := by rw [hw1]; exact (Below.refl _ _).alloc (Nat.le_refl _) _
  have hs1 : w1.heap.size = w.heap.size + 1 := by rw [hw1]; simp
  have HK : Hid (∀ u, Below w1.heap.size w1 u → u.cell? ⟨w.heap.size, 7, none⟩ = some (.int .u32 (h.src : Int)) ∧ u.cell? ⟨w.heap.size, 8, none⟩ = some (.int .u32 (h.dst : Int))) := fun u hu => by
    have hk : u.heap[w.heap.size]? = some (.cells (hdCells h vo) 39 (0, 0)) := by rw [hu.block _ (by omega), hw1]; exact heap_alloc_new w _
    obtain ⟨_, _, _, _, _, _, _, h7, h8, _⟩ := hd_at hk
    exact ⟨h7, h8⟩
  have HP : Hid (∀ (a : Nat), a < 4294967296 → ∀ u, Below w1.heap.size w1 u → Calls Tryz.prog 42 #[.int .u32 (a : Int)] u fun e w' => e = .returned (.bool (pln a)) ∧ Below u.heap.size u w') := fun a ha u hu => isPlain_any a u ha ((ht.below hb1).below hu)
  have hsrc := hok.src
  have hdst := hok.dst
  have HW1 := hid hw1
  have HB1 := hid hb1
  have c1 := (HK.out _ (Below.refl _ _)).1
  clear hw1 hb1 hs1 ht hok
  generalize hdCells h vo = pk at *
  generalize h.src = sr at *
  generalize h.dst = ds at *
  go_enter Tryz.func80, Tryz.ntmps80
  go_upto_region 1 with fail
  rw [← HW1.out]
  go_wp2_with fail
  refine (HP.out sr hsrc _ (Below.refl _ _)).mono ?_
  rintro _ w2 ⟨rfl, hb2⟩
  have c2 := (HK.out _ hb2).2
  cases hp : pln sr with
  | false =>
    go_wp2_with fail
    go_ret
    exact ⟨ret_bool (by simp [hp]), HB1.out.trans (hb2.mono HB1.out.size)⟩
  | true =>
    go_wp2_with fail
    refine (HP.out ds hdst _ hb2).mono ?_
    rintro _ w3 ⟨rfl, hb3⟩
    go_wp2_with fail
    go_ret
    exact ⟨ret_bool (by simp [hp]), HB1.out.trans ((hb2.trans (hb3.mono hb2.size)).mono HB1.out.size)⟩

/-- May a fault be told about that packet? -/
def told (h : Hd) (B : List Nat) : Bool := !decide (0 < h.off) && ((pln h.src && pln h.dst) && (decide (h.proto ≠ 1) || (decide (B ≠ []) && !kF (byt B 0))))

theorem told_any (h : Hd) (vo vb : Value) (B : List Nat) (w : World) (hok : h.Ok) (hvb : SeesB w vb B) (htC : Ad.TabC w) (htK : TabK w) :
    Calls Tryz.prog 44 #[.agg (pkCells h vo vb)] w fun e w' => e = .returned (.bool (told h B)) ∧ Below w.heap.size w w' := by
  obtain ⟨w1, hw1⟩ : ∃ w1, w1 = w.alloc (.cells (pkCells h vo vb) 41) := ⟨_, rfl⟩
  have hb1 : Below w.heap.size w w1 := by rw [hw1]; exact (Below.refl _ _).alloc (Nat.le_refl _) _
  have hs1 : w1.heap.size = w.heap.size + 1 := by rw [hw1]; simp
  obtain ⟨ab, nb, capb, rfl, HNB, hnb1, hnb2⟩ := hvb.shape
  unfold maxLen at hnb2
  have HK : Hid (∀ u, Below w1.heap.size w1 u → u.heap[w.heap.size]? = some (.cells (pkCells h vo (.slice ab nb capb)) 41 (0, 0))) := fun u hu => by
    rw [hu.block _ (by omega), hw1]; exact heap_alloc_new w _
  have HC : Hid (∀ u, Below w1.heap.size w1 u → u.cell? ⟨w.heap.size, 4, none⟩ = some (.int .i64 h.off) ∧ u.cell? ⟨w.heap.size, 6, none⟩ = some (.int .u8 (h.proto : Int)) ∧ u.cell? ⟨w.heap.size, 10, none⟩ = some (.slice ab nb capb) ∧ (Instr.loadAt 39 (.pointer (some ⟨w.heap.size, 0, none⟩))).run Tryz.prog u = .ok (.agg (hdCells h vo)) u) := fun u hu =>
    ⟨pk_at (HK.out u hu) 4 (by omega), pk_at (HK.out u hu) 6 (by omega), pk_at (HK.out u hu) 10 (by omega), pk_loadH (HK.out u hu)⟩
  have HE := hid (plainEnds_any h vo w1 hok (htC.below hb1))
  have HF : Hid (∀ (t : Nat), t < 256 → ∀ u, Below w1.heap.size w1 u → Calls Tryz.prog 81 #[.int .u8 (t : Int)] u fun e w' => e = .returned (.bool (kF t)) ∧ Below u.heap.size u w') := fun t ht u hu => isFault_any t u ht ((htK.below hb1).below hu)
  have HVB := hid hvb
  have HW1 := hid hw1
  have HB1 := hid hb1
  have HR : Hid (told h B = (!decide (0 < h.off) && ((pln h.src && pln h.dst) && (decide (h.proto ≠ 1) || (decide (B ≠ []) && !kF (byt B 0)))))) := rfl
  obtain ⟨c4, c6, c10, q0⟩ := HC.out _ (Below.refl _ _)
  have HL0 := hid q0
  have HOK := hid hok.proto
  clear hw1 hb1 hs1 htC htK hvb hok q0
  generalize told h B = R at *
  generalize pkCells h vo (.slice ab nb capb) = pk at *
  generalize hdCells h vo = hc at *
  generalize (pln h.src && pln h.dst) = en at *
  generalize h.off = off at *
  generalize h.proto = pr at *
  by_cases ho : 0 < off
  · go_enter Tryz.func44, Tryz.ntmps44
    go_upto_region 1 with fail
    rw [← HW1.out]
    go_wp2_with fail
    go_ret
    exact ⟨ret_bool (by rw [HR.out]; simp [ho]), HB1.out⟩
  · cases en with
    | false =>
      go_enter Tryz.func44, Tryz.ntmps44
      go_upto_region 1 with fail
      rw [← HW1.out]
      go_wp2_with (first | (refine wpList_ld 39 ⟨w.heap.size, 0, none⟩ _ rfl rfl HL0.out rfl ?_) | fail)
      refine HE.out.mono ?_
      rintro _ w2 ⟨rfl, hb2⟩
      go_wp2_with fail
      go_ret
      exact ⟨ret_bool (by rw [HR.out]; simp), HB1.out.trans (hb2.mono HB1.out.size)⟩
    | true =>
      by_cases hp : pr = 1
      · subst hp
        by_cases hn : nb = 0
        · have HBN : Hid (B = []) := List.eq_nil_of_length_eq_zero (by have := HNB.out; omega)
          subst hn
          go_enter Tryz.func44, Tryz.ntmps44
          go_upto_region 1 with fail
          rw [← HW1.out]
          go_wp2_with (first | (refine wpList_ld 39 ⟨w.heap.size, 0, none⟩ _ rfl rfl HL0.out rfl ?_) | fail)
          refine HE.out.mono ?_
          rintro _ w2 ⟨rfl, hb2⟩
          obtain ⟨e4, e6, e10, _⟩ := HC.out _ hb2
          go_wp2_with fail
          go_ret
          exact ⟨ret_bool (by rw [HR.out, HBN.out]; simp), HB1.out.trans (hb2.mono HB1.out.size)⟩
        · have HBN : Hid (B ≠ []) := fun e => hn (by rw [HNB.out, e]; rfl)
          have hpos : 0 < nb := by omega
          have hposi : (0 : Int) < (nb : Int) := by omega
          obtain ⟨g0, o0, rfl, hg0, hc0⟩ := HVB.out.atB 0 hpos
          rw [Nat.add_zero] at hc0
          have hlt := byt_lt HVB.out.bytes 0
          generalize byt B 0 = x0 at *
          go_enter Tryz.func44, Tryz.ntmps44
          go_upto_region 1 with fail
          rw [← HW1.out]
          go_wp2_with (first | (refine wpList_ld 39 ⟨w.heap.size, 0, none⟩ _ rfl rfl HL0.out rfl ?_) | fail)
          refine HE.out.mono ?_
          rintro _ w2 ⟨rfl, hb2⟩
          obtain ⟨e4, e6, e10, _⟩ := HC.out _ hb2
          have hbw2 := HB1.out.trans (hb2.mono HB1.out.size)
          have d0 : w2.cell? ⟨g0, o0, none⟩ = some (.int .u8 (x0 : Int)) := (hbw2.cell (p := ⟨g0, _, none⟩) hg0).trans hc0
          have HBW2 := hid hbw2
          clear hbw2
          go_wp2_with fail
          refine (HF.out x0 hlt _ hb2).mono ?_
          rintro _ w3 ⟨rfl, hb3⟩
          go_wp2_with fail
          go_ret
          exact ⟨ret_bool (by rw [HR.out]; simp [HBN.out]; omega), HBW2.out.trans (hb3.mono HBW2.out.size)⟩
      · have q1 : ((pr : Int) != 1) = true := by simp; omega
        go_enter Tryz.func44, Tryz.ntmps44
        go_upto_region 1 with fail
        rw [← HW1.out]
        go_wp2_with (first | (refine wpList_ld 39 ⟨w.heap.size, 0, none⟩ _ rfl rfl HL0.out rfl ?_) | fail)
        refine HE.out.mono ?_
        rintro _ w2 ⟨rfl, hb2⟩
        obtain ⟨e4, e6, e10, _⟩ := HC.out _ hb2
        go_wp2_with fail
        go_ret
        exact ⟨ret_bool (by rw [HR.out]; simp [hp]; omega), HB1.out.trans (hb2.mono HB1.out.size)⟩
end Go.Proofs.YthmhiehglcfepaaGreatDoor.N

namespace Go.Proofs.YthmhiehglcfepaaGreatDoor.N
open Go.ChangeShapes Go.WideShapes Go.ChangeAt Go.RowKit
set_option maxHeartbeats 2000000
set_option maxRecDepth 100000

theorem size_pk : (Tryz.prog.info? 41).map (·.size) = some 11 := by kernel_rfl

theorem pk_one (h : Hd) {w : World} {vo vb : Value} {L B : List Nat} (ho : SeesB w vo L) (hb : SeesB w vb B) : (pkCells h vo vb).all (·.oneCell') = true := by
  obtain ⟨a1, n1, c1, rfl, _, _, _⟩ := ho.shape
  obtain ⟨a2, n2, c2, rfl, _, _, _⟩ := hb.shape
  simp [pkCells, Value.oneCell']

def zeroP : Array Value := #[.int .u8 0, .int .u16 0, .bool false, .bool false, .int .i64 0, .int .u8 0, .int .u8 0, .int .u32 0, .int .u32 0, .slice none 0 0, .slice none 0 0]

theorem wr_pk (h : Hd) (vo vb : Value) : wr zeroP 0 (pkCells h vo vb).toList = pkCells h vo vb := by
  simp [wr, zeroP, pkCells]

/-- The head of a packet that is made here. -/
def mdH (tos src dst : Nat) : Hd := ⟨tos, 0, false, false, 0, 64, 1, src, dst, []⟩
def md0 (tos src dst : Nat) : Hd := ⟨tos, 0, false, false, 0, 0, 0, src, dst, []⟩

theorem build_md (tos src dst : Int) (p : Option Addr) (n cap : Nat) (u : World) : (Instr.build 41 #[(0, .agg #[.int .u8 tos, .int .u16 0, .bool false, .bool false, .int .i64 0, .int .u8 64, .int .u8 1, .int .u32 src, .int .u32 dst, .slice none 0 0]), (1, .slice p n cap)]).run Tryz.prog u = .ok (.agg #[.int .u8 tos, .int .u16 0, .bool false, .bool false, .int .i64 0, .int .u8 64, .int .u8 1, .int .u32 src, .int .u32 dst, .slice none 0 0, .slice p n cap]) u := by
  simp [Instr.build, run_underlying Tryz.underlying41, go_sem]

def FC (hc ct : Array Value) (mk : Value → Value) (L : List Nat) (base : Nat) : Nat → Value → World → Prop
  | 0, v, _ => v = .agg hc
  | 1, v, _ => v = .agg ct
  | 2, v, w => ∃ g k, v = .slice (some ⟨g, 0, none⟩) k k ∧ SeesB w v L ∧ base ≤ g
  | 3, v, w => ∃ g k, v = mk (.slice (some ⟨g, 0, none⟩) k k) ∧ SeesB w (.slice (some ⟨g, 0, none⟩) k k) L ∧ base ≤ g
  | _, _, _ => True

theorem FC.keeps (hc ct : Array Value) (mk : Value → Value) (L : List Nat) (base : Nat) : ∀ (i : Nat) (v : Value) (w w' : World), FC hc ct mk L base i v w → Below w.heap.size w w' → FC hc ct mk L base i v w' := fun i v w w' h hb => by
  match i, h with
  | 0, h => exact h
  | 1, h => exact h
  | 2, ⟨g, k, e, hs, hg⟩ => exact ⟨g, k, e, hs.below hb, hg⟩
  | 3, ⟨g, k, e, hs, hg⟩ => exact ⟨g, k, e, hs.below hb, hg⟩
  | n + 4, _ => trivial

theorem carry_any (m : Im.Ct) (vm : Value) (tos src dst : Nat) (w : World) (hok : m.Ok) (hvm : SeesB w vm m.B) (hl : m.B.length ≤ 65507) :
    Calls Tryz.prog 46 #[.agg (ctCells m vm), .agg (hdCells (md0 tos src dst) (.slice none 0 0))] w fun e w' => ∃ g k, e = .returned (.agg (pkCells (mdH tos src dst) (.slice none 0 0) (.slice (some ⟨g, 0, none⟩) k k))) ∧ SeesB w' (.slice (some ⟨g, 0, none⟩) k k) (Im.laid m) ∧ w.heap.size ≤ g ∧ Below w.heap.size w w' := by
  obtain ⟨wa, hwa⟩ : ∃ wa, wa = w.alloc (.cells (ctCells m vm) 113) := ⟨_, rfl⟩
  obtain ⟨wb, hwb⟩ : ∃ wb, wb = wa.alloc (.cells (hdCells (md0 tos src dst) (.slice none 0 0)) 39) := ⟨_, rfl⟩
  obtain ⟨w1, hw1⟩ : ∃ w1, w1 = wb.alloc (.cells zeroP 41) := ⟨_, rfl⟩
  have hsa : wa.heap.size = w.heap.size + 1 := by rw [hwa]; simp
  have hsb : wb.heap.size = w.heap.size + 2 := by rw [hwb]; simp [hsa]
  have hs1 : w1.heap.size = w.heap.size + 3 := by rw [hw1]; simp [hsb]
  have hba : Below w.heap.size w wa := by rw [hwa]; exact (Below.refl _ _).alloc (Nat.le_refl _) _
  have hbb : Below wa.heap.size wa wb := by rw [hwb]; exact (Below.refl _ _).alloc (Nat.le_refl _) _
  have hbc : Below wb.heap.size wb w1 := by rw [hw1]; exact (Below.refl _ _).alloc (Nat.le_refl _) _
  have hb1 : Below w.heap.size w w1 := hba.trans ((hbb.trans (hbc.mono (by omega))).mono (by omega))
  have k0 : w1.heap[w.heap.size]? = some (.cells (ctCells m vm) 113 (0, 0)) := by
    rw [hbc.block _ (by omega), hbb.block _ (by omega), hwa]; exact heap_alloc_new w _
  have k1 : w1.heap[w.heap.size + 1]? = some (.cells (hdCells (md0 tos src dst) (.slice none 0 0)) 39 (0, 0)) := by
    rw [hbc.block _ (by omega), ← hsa, hwb]; exact heap_alloc_new wa _
  have k2 : w1.heap[w.heap.size + 2]? = some (.cells zeroP 41 (0, 0)) := by
    rw [← hsb, hw1]; exact heap_alloc_new wb _
  obtain ⟨w2, hw2⟩ : ∃ w2, w2 = (w1.setCell ⟨w.heap.size + 1, 5, none⟩ (.int .u8 64)).setCell ⟨w.heap.size + 1, 6, none⟩ (.int .u8 1) := ⟨_, rfl⟩
  have j1 : w2.heap[w.heap.size + 1]? = some (.cells (hdCells (mdH tos src dst) (.slice none 0 0)) 39 (0, 0)) := by
    rw [hw2]; exact heap_setCell_row (heap_setCell_row k1 _) _
  have hu2 : But (w.heap.size + 1) w1 w2 := by rw [hw2]; exact (But.set _ _ _ _).trans (But.set _ _ _ _)
  have j0 : w2.heap[w.heap.size]? = some (.cells (ctCells m vm) 113 (0, 0)) := (hu2.block _ (by omega) (by omega)).trans k0
  have j2 : w2.heap[w.heap.size + 2]? = some (.cells zeroP 41 (0, 0)) := (hu2.block _ (by omega) (by omega)).trans k2
  have hb2 : Below w.heap.size w w2 := hu2.below hb1 hb1.size (by omega)
  have hs2 : w2.heap.size = w.heap.size + 3 := by rw [hw2]; simp [World.setCell, hs1]
  have d5 : w1.cell? ⟨w.heap.size + 1, 5, none⟩ = some (.int .u8 0) := by rw [cell_of_row _ _ _ _ _ _ k1]; rfl
  have d6 : w1.cell? ⟨w.heap.size + 1, 6, none⟩ = some (.int .u8 0) := by rw [cell_of_row _ _ _ _ _ _ k1]; rfl
  have f5 : w1.frozen? ⟨w.heap.size + 1, 5, none⟩ = false := frozen_of_row _ _ _ _ _ k1
  have f6 : w1.frozen? ⟨w.heap.size + 1, 6, none⟩ = false := frozen_of_row _ _ _ _ _ k1
  have HLH : Hid (∀ u, Below w2.heap.size w2 u → (Instr.loadAt 39 (.pointer (some ⟨w.heap.size + 1, 0, none⟩))).run Tryz.prog u = .ok (.agg (hdCells (mdH tos src dst) (.slice none 0 0))) u) := fun u hu => by
    have hk := (hu.block (w.heap.size + 1) (by omega)).trans j1
    obtain ⟨fs, hu27⟩ := und27
    refine run_loadAt_mid u (w.heap.size + 1) 0 39 (hdCells (mdH tos src dst) (.slice none 0 0)).toList (.struct fs) (fun j v hv => ?_) hu27 rfl (by rw [show (Tryz.prog.info? 39).map (·.size) = some 10 from by kernel_rfl]; rfl)
    rw [Nat.zero_add, cell_of_row _ _ _ _ _ _ hk, ← hv, Array.getElem?_toList]
  have HLC : Hid (∀ u, Below w2.heap.size w2 u → (Instr.loadAt 113 (.pointer (some ⟨w.heap.size, 0, none⟩))).run Tryz.prog u = .ok (.agg (ctCells m vm)) u) := fun u hu => by
    have hk := (hu.block w.heap.size (by omega)).trans j0
    refine run_loadAt_mid u w.heap.size 0 113 (ctCells m vm).toList (.struct _) (fun j v hv => ?_) Tryz.underlying113 rfl (by rw [size_ct]; rfl)
    rw [Nat.zero_add, cell_of_row _ _ _ _ _ _ hk, ← hv, Array.getElem?_toList]
  have HLAY : Hid (∀ u, Below w2.heap.size w2 u → Calls Tryz.prog 82 #[.agg (ctCells m vm)] u fun e w' => ∃ g k, e = .returned (.slice (some ⟨g, 0, none⟩) k k) ∧ SeesB w' (.slice (some ⟨g, 0, none⟩) k k) (Im.laid m) ∧ Blk w' g (Im.laid m) ∧ u.heap.size ≤ g ∧ Below u.heap.size u w') := fun u hu => lay_any m vm u hok (hvm.below (hb2.trans (hu.mono hb2.size))) hl
  have HTH : Hid (∀ u, Below w2.heap.size w2 u → u.there (w.heap.size + 2) 0 11) := fun u hu => there_blk (C := zeroP) (t := 41) ((hu.block _ (by omega)).trans j2) rfl
  have HW1 : Hid (w1 = ((w.alloc (.cells (ctCells m vm) 113)).alloc (.cells (hdCells (md0 tos src dst) (.slice none 0 0)) 39)).alloc (.cells #[.int .u8 0, .int .u16 0, .bool false, .bool false, .int .i64 0, .int .u8 0, .int .u8 0, .int .u32 0, .int .u32 0, .slice none 0 0, .slice none 0 0] 41)) := by unfold Hid; rw [hw1, hwb, hwa]; rfl
  have HW2 := hid hw2
  have HB2 := hid hb2
  have HS2 := hid hs2
  have hne : ¬ w.heap.size + 1 = w.heap.size := by omega
  have HHD : Hid (hdCells (mdH tos src dst) (.slice none 0 0) = #[.int .u8 (tos : Int), .int .u16 0, .bool false, .bool false, .int .i64 0, .int .u8 64, .int .u8 1, .int .u32 (src : Int), .int .u32 (dst : Int), .slice none 0 0]) := rfl
  clear hwa hwb hw1 hw2 hsa hsb hs1 hba hbb hbc hb1 k0 k1 k2 j0 j1 j2 hu2 hb2 hs2 hvm hok hl
  generalize hdCells (md0 tos src dst) (.slice none 0 0) = hc0 at *
  generalize hhc : hdCells (mdH tos src dst) (.slice none 0 0) = hc at *
  generalize ctCells m vm = ct at *
  go_enter Tryz.func46, Tryz.ntmps46
  go_upto_region 1 with fail
  rw [← HW1.out]
  go_upto_region 2 with fail
  rw [← HW2.out]
  refine wp_region_mono' 4 (fun i => 7 + i) (FC hc ct (fun v => .agg (pkCells (mdH tos src dst) (.slice none 0 0) v)) (Im.laid m) w2.heap.size) (by kernel_rfl) (by kernel_rfl) (FC.keeps _ _ _ _ _) ?_ ?_
  · simp only [List.take_succ_cons, List.take_zero, stepsOk]
    refine ⟨?_, ?_, ?_, ?_, trivial⟩
    · intro a u vs hb hold hdep
      exact wp_load 39 ⟨w.heap.size + 1, 0, none⟩ (.tmp 3) _ rfl (hold 3 (fun j _ => low (by decide))) (HLH.out u hb) ⟨_, rfl, rfl, hb, Below.refl _ _⟩
    · intro a u vs hb hold hdep
      exact wp_load 113 ⟨w.heap.size, 0, none⟩ (.tmp 2) _ rfl (hold 2 (fun j _ => low (by decide))) (HLC.out u hb) ⟨_, rfl, rfl, hb, Below.refl _ _⟩
    · intro a u vs hb hold hdep
      have h1 := hdep ⟨1, .data⟩ (by simp) rfl (by decide)
      have e1 : a.eval (.tmp 8) = .agg ct := h1.1.trans h1.2
      refine wp_call 82 _ _ rfl (enters_of Tryz.func82 (by kernel_rfl) rfl) #[.agg ct] (by simp only [List.map_toArray, List.map_cons, List.map_nil, e1]) ?_
      refine (HLAY.out u hb).mono ?_
      rintro _ u' ⟨g, k, rfl, hs, _, hg, hb'⟩
      exact ⟨_, rfl, _, rfl, ⟨g, k, rfl, hs, Nat.le_trans hb.size hg⟩, hb.trans (hb'.mono hb.size), hb'⟩
    · intro a u vs hb hold hdep
      have h0 := hdep ⟨0, .data⟩ (by simp) rfl (by decide)
      have h2 := hdep ⟨2, .data⟩ (by simp) rfl (by decide)
      obtain ⟨g, k, ev, hs, hg⟩ := h2.2
      rw [ev] at hs
      have e0 : a.eval (.tmp 7) = .agg #[.int .u8 (tos : Int), .int .u16 0, .bool false, .bool false, .int .i64 0, .int .u8 64, .int .u8 1, .int .u32 (src : Int), .int .u32 (dst : Int), .slice none 0 0] := (h0.1.trans h0.2).trans (by rw [HHD.out])
      have e2 : a.eval (.tmp 9) = .slice (some ⟨g, 0, none⟩) k k := h2.1.trans ev
      exact wp_val (ex_build _ _ #[(0, .agg #[.int .u8 (tos : Int), .int .u16 0, .bool false, .bool false, .int .i64 0, .int .u8 64, .int .u8 1, .int .u32 (src : Int), .int .u32 (dst : Int), .slice none 0 0]), (1, .slice (some ⟨g, 0, none⟩) k k)] (.agg (pkCells (mdH tos src dst) (.slice none 0 0) (.slice (some ⟨g, 0, none⟩) k k))) rfl (by simp only [List.map_toArray, List.map_cons, List.map_nil, e0, e2]) (build_md _ _ _ _ _ _ u))
        ⟨_, rfl, ⟨g, k, rfl, hs, hg⟩, hb, Below.refl _ _⟩
  intro vs u hb hF
  have e0 : vs 0 = .agg hc := hF 0 (by decide)
  have e1 : vs 1 = .agg ct := hF 1 (by decide)
  obtain ⟨g, k, e3, hs, hg⟩ := hF 3 (by decide)
  obtain ⟨zz, hzz⟩ : ∃ zz : Array Value, zz = pkCells (mdH tos src dst) (.slice none 0 0) (.slice (some ⟨g, 0, none⟩) k k) := ⟨_, rfl⟩
  have e3 : vs 3 = .agg zz := e3.trans (by rw [hzz])
  generalize vs 2 = v2
  simp only [List.drop_succ_cons, List.drop_zero, puts, List.range, List.range.loop, List.foldr, if_true, Act.put, e0, e1, e3, Nat.reduceAdd, List.setIfInBounds_toArray, List.set_cons_succ, List.set_cons_zero]
  clear e0 e1 e3 hF
  have HZ := hid hzz
  have HONE : Hid (zz.all (·.oneCell') = true) := by unfold Hid; rw [hzz]; exact pk_one _ (sees_nil u) hs
  have HINF : Hid ((Tryz.prog.info? 41).map (·.size) = some zz.size) := by unfold Hid; rw [hzz]; exact size_pk
  have HTU : Hid (u.there (w.heap.size + 2) 0 zz.size) := by unfold Hid; rw [hzz]; exact HTH.out u hb
  obtain ⟨q1, q2⟩ := res_end (w := w) HTU.out (by omega) (HB2.out.trans (hb.mono HB2.out.size)) Tryz.underlying41 HINF.out
  have HLV := hid q1
  have HBF := hid q2
  have HSF := hid (sees_setI (b := w.heap.size + 2) (vs := zz.toList) hs (fun a ha => by cases ha; show g ≠ w.heap.size + 2; have := HS2.out; omega))
  clear q1 q2 hzz hs
  go_wp2_with (first
    | (refine wpList_store_mid rfl 41 (.tmp 4) (.tmp 10) rfl (w.heap.size + 2) 0 zz rfl rfl HTU.out HINF.out HONE.out ?_)
    | fail)
  generalize u.setCells (w.heap.size + 2) 0 zz.toList = wf at HLV HBF HSF ⊢
  refine bodyPost_ret (v := .agg zz) (by simp [results, Tryz.results46, asAddr, HLV.out]) rfl ?_
  exact ⟨g, k, by rw [HZ.out], HSF.out, by have := HS2.out; omega, HBF.out⟩
end Go.Proofs.YthmhiehglcfepaaGreatDoor.N

namespace Go.Proofs.YthmhiehglcfepaaGreatDoor.N
open Go.ChangeShapes Go.WideShapes Go.ChangeAt Go.RowKit
set_option maxHeartbeats 2000000
set_option maxRecDepth 100000

/-- The error of a fault. -/
def fltE (h : Hd) (B : List Nat) (t c : Nat) (a : Int) (f : Nat) : Int :=
  if (mayT t c a && pln f) = true then (if refE h B.length ≠ 0 then refE h B.length else if told h B = true then 0 else 61) else 1
def fltQ (h : Hd) (B : List Nat) : Nat := 20 + h.opts.length + min B.length 8
def fltM (h : Hd) (B : List Nat) (t c : Nat) (a : Int) : Im.Ct := ⟨t, c, rstN t a.toNat, (builtL h B).take (fltQ h B)⟩
def fltP (h : Hd) (B : List Nat) (t c : Nat) (a : Int) (f : Nat) : Hd × List Nat := if fltE h B t c a f = 0 then (mdH 0 f h.src, Im.laid (fltM h B t c a)) else (zeroH, [])

theorem mxA_le (t c : Nat) : mxA t c ≤ 65535 := by unfold mxA; split; · omega
                                                   · split <;> omega

theorem rstN_lt {t c a : Nat} (h : (a : Int) ≤ mxA t c) : rstN t a < 4294967296 := by
  unfold rstN
  split
  · rename_i e
    subst e
    unfold mxA at h
    split at h
    · omega
    · split at h <;> omega
  · have := mxA_le t c; omega

theorem built_len {h : Hd} {B : List Nat} (he : refE h B.length = 0) : (builtL h B).length = 20 + h.opts.length + B.length := by
  unfold builtL
  rw [if_pos he, List.length_append, hdBytes_len]

theorem alloc_ct (u : World) : (Instr.alloc 113 true (.tuple #[])).run Tryz.prog u = .ok (.pointer (some ⟨u.heap.size, 0, none⟩)) (u.alloc (.cells zeroC 113)) := by
  simp [Instr.alloc, go_sem, zeroC]

theorem ex_alloc {P : Program} {o : Oper} {a : Act} {w w' : World} {v : Value} (T : TypeId) (ho : o.op = .alloc T) (hr : (Instr.alloc T true (.tuple #[])).run P w = .ok v w') : (execOp a.eval o).run P w = .ok (.value v) w' := by
  unfold execOp
  simp only [ho, Sem.run_bind, hr, Result.andThen_ok, Sem.run_pure]

theorem cut_high (ao : Option Addr) (n cap m : Nat) (i : Int) (hi : i = (m : Int)) (hm : m ≤ n) {w : World} {L : List Nat} (hs : SeesB w (.slice ao n cap) L) (u : World) : (Instr.sliceAt 37 (.slice ao n cap) none (some (.int .i64 i)) none).run Tryz.prog u = .ok (.slice ao m cap) u := by
  subst hi
  obtain ⟨ao', cap', hv, h1, h2, _⟩ := hs
  simp at hv
  obtain ⟨rfl, rfl, rfl⟩ := hv
  have hu : Tryz.prog.underlying 37 = some (.slice (Tryz.prog.elem 37)) := by kernel_rfl
  have hsz : (sizeOf (Tryz.prog.elem 37)).run Tryz.prog u = .ok 1 u := by kernel_rfl
  rw [run_sliceAt_slice (h := hu), run_slice_h (ht := hu) (h0 := by omega) (h2 := by omega), hsz]
  cases ao with
  | none =>
    have hc := h1.2 rfl
    have hm0 : m = 0 := by omega
    subst hm0
    simp [Result.andThen, sliced, hc]
  | some a => simp [Result.andThen, sliced, Addr.add]

/-- Values of a region with a block of its own among them. -/
def Va (l : List Value) (base : Nat) (i : Nat) (v : Value) (w : World) : Prop :=
  if i = 9 then ∃ b, v = .pointer (some ⟨b, 0, none⟩) ∧ w.heap[b]? = some (.cells zeroC 113 (0, 0)) ∧ base ≤ b else l[i]? = some v

theorem Va.keeps (l : List Value) (base : Nat) : ∀ (i : Nat) (v : Value) (w w' : World), Va l base i v w → Below w.heap.size w w' → Va l base i v w' := fun i v w w' h hb => by
  unfold Va at *
  split at h
  · rename_i h1
    rw [if_pos h1]
    obtain ⟨b, e, hk, hB⟩ := h
    exact ⟨b, e, (hb.block b (Array.getElem?_eq_some_iff.1 hk).1).trans hk, hB⟩
  · rename_i h1
    rw [if_neg h1]
    exact h

theorem Va.plain {l : List Value} {base i : Nat} {v y : Value} {w : World} (h : Va l base i v w) (h1 : i ≠ 9) (hy : l[i]? = some y) : v = y := by
  unfold Va at h
  rw [if_neg h1, hy] at h
  exact (Option.some.inj h).symm

theorem low9 {s j : Nat} (h : s < 15) : (if j = 9 then 15 else 50 + j) ≠ s := by split <;> omega

theorem wp_stillA {P : Program} {o : Oper} {a : Act} {W w : World} {Q : Exit → Act → World → Prop} {l : List Value} {base i : Nat} {t : Tmp} {v : Value} (hr : (execOp a.eval o).run P w = .ok (.value v) w) (ht : o.dst = some t) (h1 : i ≠ 9) (hv : l[i]? = some v) (hW : Below W.heap.size W w) :
    o.wp P a w (fun a' w' => ∃ v', a' = a.put (some t) v' ∧ Va l base i v' w' ∧ Below W.heap.size W w' ∧ Below w.heap.size w w') Q :=
  wp_val hr (by rw [ht]; exact ⟨v, rfl, by unfold Va; rw [if_neg h1]; exact hv, hW, Below.refl _ _⟩)

theorem fault_any (h : Hd) (vo vb : Value) (B : List Nat) (t c : Nat) (a : Int) (f : Nat) (w : World) (hok : h.Ok) (hvo : SeesB w vo h.opts) (hvb : SeesB w vb B) (hlo : h.opts.length ≤ 140737488355328) (hlb : B.length ≤ 140737488355328) (ht : t < 256) (hc : c < 256) (hf : f < 4294967296) (htC : Ad.TabC w) (htK : TabK w) :
    Calls Tryz.prog 23 #[.agg (pkCells h vo vb), .int .u8 (t : Int), .int .u8 (c : Int), .int .i64 a, .int .u32 (f : Int)] w fun e w' => ∃ a2 n2 c2, e = .returned (.tuple #[.agg (pkCells (fltP h B t c a f).1 (.slice none 0 0) (.slice a2 n2 c2)), .int .i64 (fltE h B t c a f)]) ∧ SeesB w' (.slice a2 n2 c2) (fltP h B t c a f).2 ∧ (∀ x, a2 = some x → w.heap.size ≤ x.block) ∧ Below w.heap.size w w' := by
  obtain ⟨wa, hwa⟩ : ∃ wa, wa = w.alloc (.cells (pkCells h vo vb) 41) := ⟨_, rfl⟩
  obtain ⟨w1, hw1⟩ : ∃ w1, w1 = wa.alloc (.cells zeroP 41) := ⟨_, rfl⟩
  have hsa : wa.heap.size = w.heap.size + 1 := by rw [hwa]; simp
  have hs1 : w1.heap.size = w.heap.size + 2 := by rw [hw1]; simp [hsa]
  have hba : Below w.heap.size w wa := by rw [hwa]; exact (Below.refl _ _).alloc (Nat.le_refl _) _
  have hbb : Below wa.heap.size wa w1 := by rw [hw1]; exact (Below.refl _ _).alloc (Nat.le_refl _) _
  have hb1 : Below w.heap.size w w1 := hba.trans (hbb.mono (by omega))
  have k0 : w1.heap[w.heap.size]? = some (.cells (pkCells h vo vb) 41 (0, 0)) := by
    rw [hbb.block _ (by omega), hwa]; exact heap_alloc_new w _
  have k1 : w1.heap[w.heap.size + 1]? = some (.cells zeroP 41 (0, 0)) := by
    rw [← hsa, hw1]; exact heap_alloc_new wa _
  obtain ⟨ao, no, capo, rfl, HNO, hno1, hno2⟩ := hvo.shape
  obtain ⟨ab, nb, capb, rfl, HNB, hnb1, hnb2⟩ := hvb.shape
  unfold maxLen at hno2 hnb2
  have HTH : Hid (∀ u, Below w1.heap.size w1 u → u.there (w.heap.size + 1) 0 11) := fun u hu => there_blk (C := zeroP) (t := 41) ((hu.block _ (by omega)).trans k1) rfl
  have HPC : Hid (∀ u, Below w1.heap.size w1 u → (Instr.loadAt 41 (.pointer (some ⟨w.heap.size, 0, none⟩))).run Tryz.prog u = .ok (.agg (pkCells h (.slice ao no capo) (.slice ab nb capb))) u ∧ u.cell? ⟨w.heap.size, 7, none⟩ = some (.int .u32 (h.src : Int)) ∧ u.cell? ⟨w.heap.size, 9, none⟩ = some (.slice ao no capo) ∧ u.cell? ⟨w.heap.size, 10, none⟩ = some (.slice ab nb capb)) := fun u hu => by
    have hk := (hu.block w.heap.size (by omega)).trans k0
    exact ⟨pk_load hk, pk_at hk 7 (by omega), pk_at hk 9 (by omega), pk_at hk 10 (by omega)⟩
  have HMT := hid (mayTell_any t c a w1 ht (htK.below hb1))
  have HIP : Hid (∀ u, Below w1.heap.size w1 u → Calls Tryz.prog 42 #[.int .u32 (f : Int)] u fun e w' => e = .returned (.bool (pln f)) ∧ Below u.heap.size u w') := fun u hu => isPlain_any f u hf ((htC.below hb1).below hu)
  have HBD : Hid (∀ u, Below w1.heap.size w1 u → Calls Tryz.prog 43 #[.agg (pkCells h (.slice ao no capo) (.slice ab nb capb))] u fun e w' => ∃ ao n cap, e = .returned (.tuple #[.slice ao n cap, .int .i64 (refE h B.length)]) ∧ SeesB w' (.slice ao n cap) (builtL h B) ∧ Below u.heap.size u w') := fun u hu => build_code h _ _ B u hok (hvo.below (hb1.trans (hu.mono hb1.size))) (hvb.below (hb1.trans (hu.mono hb1.size))) hlo hlb
  have HTD : Hid (∀ u, Below w1.heap.size w1 u → Calls Tryz.prog 44 #[.agg (pkCells h (.slice ao no capo) (.slice ab nb capb))] u fun e w' => e = .returned (.bool (told h B)) ∧ Below u.heap.size u w') := fun u hu => told_any h _ _ B u hok (hvb.below (hb1.trans (hu.mono hb1.size))) ((htC.below hb1).below hu) ((htK.below hb1).below hu)
  have HBL : Hid (refE h B.length = 0 → (builtL h B).length = 20 + no + nb ∧ no ≤ 40 ∧ 20 + no + nb ≤ 65535) := fun he => by
    obtain ⟨r1, r2, r3⟩ := refE_ok he
    obtain ⟨l1, l2⟩ := area_len r1
    have := built_len he
    have e1 := HNO.out
    have e2 := HNB.out
    omega
  have HQ : Hid (fltQ h B = 20 + no + min nb 8) := by unfold Hid fltQ; rw [HNO.out, HNB.out]
  have HBB : Hid (∀ x ∈ builtL h B, x < 256) := built_bytes hok hvo.bytes hvb.bytes
  have HW1 : Hid (w1 = (w.alloc (.cells (pkCells h (.slice ao no capo) (.slice ab nb capb)) 41)).alloc (.cells #[.int .u8 0, .int .u16 0, .bool false, .bool false, .int .i64 0, .int .u8 0, .int .u8 0, .int .u32 0, .int .u32 0, .slice none 0 0, .slice none 0 0] 41)) := by unfold Hid; rw [hw1, hwa]; rfl
  have HB1 := hid hb1
  have HS1 := hid hs1
  have HBW : Hid (∀ u, Below w1.heap.size w1 u → Below w.heap.size w u) := fun u hu => hb1.trans (hu.mono hb1.size)
  have HA : Hid (fltE h B t c a f = if (mayT t c a && pln f) = true then (if refE h B.length ≠ 0 then refE h B.length else if told h B = true then 0 else 61) else 1) := rfl
  have HPP : Hid (fltP h B t c a f = if fltE h B t c a f = 0 then (mdH 0 f h.src, Im.laid (fltM h B t c a)) else (zeroH, [])) := rfl
  have HFM : Hid (fltM h B t c a = ⟨t, c, rstN t a.toNat, (builtL h B).take (fltQ h B)⟩) := rfl
  have HMA : Hid (mayT t c a = true → 0 ≤ a ∧ a ≤ mxA t c) := fun e => by unfold mayT at e; simp at e; exact e.2
  have HSRC := hid hok.src
  clear hwa hw1 hsa hs1 hba hbb hb1 k0 k1 hvb hvo hok hlo hlb htC htK
  generalize fltP h B t c a f = AB at *
  generalize fltE h B t c a f = AE at *
  generalize fltM h B t c a = FM at *
  generalize fltQ h B = FQ at *
  generalize refE h B.length = q at *
  generalize builtL h B = BL at *
  generalize told h B = td at *
  generalize hmay : mayT t c a = my at *
  generalize hpl : pln f = pf at *
  generalize pkCells h (.slice ao no capo) (.slice ab nb capb) = pk at *
  generalize h.src = src at *
  clear hmay hpl
  obtain ⟨zz, hzz⟩ : ∃ zz : Array Value, zz = zeroP := ⟨_, rfl⟩
  have HZ : Hid (zz = #[.int .u8 0, .int .u16 0, .bool false, .bool false, .int .i64 0, .int .u8 0, .int .u8 0, .int .u32 0, .int .u32 0, .slice none 0 0, .slice none 0 0]) := hzz
  have HONE : Hid (zz.all (·.oneCell') = true) := by unfold Hid; rw [hzz]; simp [zeroP, Value.oneCell']
  have HINF : Hid ((Tryz.prog.info? 41).map (·.size) = some zz.size) := by unfold Hid; rw [hzz]; exact size_pk
  have HZC : Hid (zz = pkCells zeroH (.slice none 0 0) (.slice none 0 0)) := hzz
  have HZS : Hid (zz.size = 11) := by unfold Hid; rw [hzz]; rfl
  clear hzz
  go_enter Tryz.func23, Tryz.ntmps23
  go_upto_region 1 with fail
  rw [← HW1.out]
  go_wp2_with fail
  refine HMT.out.mono ?_
  rintro _ w2 ⟨rfl, hb2⟩
  cases my with
  | false =>
    have HE2 : Hid (AE = 1) := by unfold Hid; rw [HA.out, if_neg (by simp)]
    have HP2 : Hid (AB = (zeroH, [])) := by unfold Hid; rw [HPP.out, HE2.out, if_neg (by decide)]
    have HTU : Hid (w2.there (w.heap.size + 1) 0 zz.size) := by unfold Hid; rw [HZS.out]; exact HTH.out _ hb2
    obtain ⟨q1, q2⟩ := res_end (w := w) HTU.out (by omega) (HBW.out _ hb2) Tryz.underlying41 HINF.out
    have HLV := hid q1
    have HBF := hid q2
    clear q1 q2
    go_wp2_with (first
      | (refine wpList_store_mid rfl 41 (.tmp 10) (.tmp 26) rfl (w.heap.size + 1) 0 zz rfl (by rw [HZ.out]; rfl) HTU.out HINF.out HONE.out ?_)
      | fail)
    generalize w2.setCells (w.heap.size + 1) 0 zz.toList = wf at HLV HBF ⊢
    refine bodyPost_ret (v := .tuple #[.agg zz, .int .i64 1]) (by simp [results, Tryz.results23, asAddr, HLV.out]) rfl ?_
    rw [HP2.out, HE2.out]
    exact ⟨none, 0, 0, by rw [HZC.out], sees_nil _, (fun a ha => by cases ha), HBF.out⟩
  | true =>
    obtain ⟨ha0, ham⟩ := HMA.out rfl
    have HAM := hid (And.intro ha0 ham)
    clear ha0 ham
    go_wp2_with fail
    refine (HIP.out _ hb2).mono ?_
    rintro _ w3 ⟨rfl, hb3⟩
    have hb13 := hb2.trans (hb3.mono hb2.size)
    cases pf with
    | false =>
      have HE2 : Hid (AE = 1) := by unfold Hid; rw [HA.out, if_neg (by simp)]
      have HP2 : Hid (AB = (zeroH, [])) := by unfold Hid; rw [HPP.out, HE2.out, if_neg (by decide)]
      have HTU : Hid (w3.there (w.heap.size + 1) 0 zz.size) := by unfold Hid; rw [HZS.out]; exact HTH.out _ hb13
      obtain ⟨q1, q2⟩ := res_end (w := w) HTU.out (by omega) (HBW.out _ hb13) Tryz.underlying41 HINF.out
      have HLV := hid q1
      have HBF := hid q2
      clear q1 q2
      go_wp2_with (first
        | (refine wpList_store_mid rfl 41 (.tmp 10) (.tmp 26) rfl (w.heap.size + 1) 0 zz rfl (by rw [HZ.out]; rfl) HTU.out HINF.out HONE.out ?_)
        | fail)
      generalize w3.setCells (w.heap.size + 1) 0 zz.toList = wf at HLV HBF ⊢
      refine bodyPost_ret (v := .tuple #[.agg zz, .int .i64 1]) (by simp [results, Tryz.results23, asAddr, HLV.out]) rfl ?_
      rw [HP2.out, HE2.out]
      exact ⟨none, 0, 0, by rw [HZC.out], sees_nil _, (fun a ha => by cases ha), HBF.out⟩
    | true =>
      have HA2 : Hid (AE = if q ≠ 0 then q else if td = true then 0 else 61) := HA.out
      obtain ⟨p0, _, _, _⟩ := HPC.out _ hb13
      have HL3 := hid p0
      clear p0
      go_wp2_with (first | (refine wpList_ld 41 ⟨w.heap.size, 0, none⟩ _ rfl rfl HL3.out rfl ?_) | fail)
      refine (HBD.out _ hb13).mono ?_
      rintro _ w4 ⟨a4, n4, c4, rfl, hs4, hb4⟩
      have hb14 := hb13.trans (hb4.mono hb13.size)
      by_cases hq : q = 0
      · subst hq
        have HBLH := hid (HBL.out rfl)
        have HA3 : Hid (AE = if td = true then 0 else 61) := by unfold Hid; rw [HA2.out, if_neg (by simp)]
        obtain ⟨p0, _, _, _⟩ := HPC.out _ hb14
        have HL4 := hid p0
        clear p0
        have HS4 := hid hs4
        have HB14 := hid hb14
        clear hs4 hb4 hb13 hb3 hb2 HL3
        go_wp2_with (first | (refine wpList_ld 41 ⟨w.heap.size, 0, none⟩ _ rfl rfl HL4.out rfl ?_) | fail)
        refine (HTD.out _ HB14.out).mono ?_
        rintro _ w5 ⟨rfl, hb5⟩
        have hb15 := HB14.out.trans (hb5.mono HB14.out.size)
        cases td with
        | false =>
          have HE2 : Hid (AE = 61) := HA3.out
          have HP2 : Hid (AB = (zeroH, [])) := by unfold Hid; rw [HPP.out, HE2.out, if_neg (by decide)]
          have HTU : Hid (w5.there (w.heap.size + 1) 0 zz.size) := by unfold Hid; rw [HZS.out]; exact HTH.out _ hb15
          obtain ⟨q1, q2⟩ := res_end (w := w) HTU.out (by omega) (HBW.out _ hb15) Tryz.underlying41 HINF.out
          have HLV := hid q1
          have HBF := hid q2
          clear q1 q2
          go_wp2_with (first
            | (refine wpList_store_mid rfl 41 (.tmp 10) (.tmp 39) rfl (w.heap.size + 1) 0 zz rfl (by rw [HZ.out]; rfl) HTU.out HINF.out HONE.out ?_)
            | fail)
          generalize w5.setCells (w.heap.size + 1) 0 zz.toList = wf at HLV HBF ⊢
          refine bodyPost_ret (v := .tuple #[.agg zz, .int .i64 61]) (by simp [results, Tryz.results23, asAddr, HLV.out]) rfl ?_
          rw [HP2.out, HE2.out]
          exact ⟨none, 0, 0, by rw [HZC.out], sees_nil _, (fun a ha => by cases ha), HBF.out⟩
        | true =>
          have HE2 : Hid (AE = 0) := HA3.out
          have HP2 : Hid (AB = (mdH 0 f src, Im.laid FM)) := by unfold Hid; rw [HPP.out, HE2.out, if_pos rfl]
          obtain ⟨_, e7, e9, e10⟩ := HPC.out _ hb15
          have HB15 := hid hb15
          have HBLL := hid HBLH.out.1
          have hno40 := HBLH.out.2.1
          have hnb6 : nb ≤ 65535 := by have := HBLH.out.2.2; omega
          have hn4 : n4 = 20 + no + nb := by
            obtain ⟨_, _, hv, _⟩ := HS4.out
            simp at hv
            rw [hv.2.1, HBLL.out]
          have HQI : Hid ((20 : Int) + (no : Int) + (if (8 : Int) < (nb : Int) then 8 else (nb : Int)) = (FQ : Int)) := by
            unfold Hid
            rw [HQ.out]
            split <;> omega
          have hq4 : FQ ≤ n4 := by rw [HQ.out]; omega
          have hq4' : FQ ≤ 68 := by rw [HQ.out]; omega
          have HN4 := hid hn4
          clear hn4
          go_upto_region 9 with fail
          generalize (if (8 : Int) < (nb : Int) then (8 : Int) else (nb : Int)) = mn at HQI ⊢
          rw [HQI.out]
          obtain ⟨na, hna⟩ : ∃ na : Nat, a = (na : Int) := ⟨a.toNat, by have := HAM.out.1; omega⟩
          subst hna
          have hmx : (na : Int) ≤ mxA t c := HAM.out.2
          have HRS : Hid (∀ u, Calls Tryz.prog 45 #[.int .u8 (t : Int), .int .i64 (na : Int)] u fun e w' => e = .returned (.int .u32 ((rstN t na : Nat) : Int)) ∧ w' = u) := fun u => restOf_any t c na u hmx
          have HRL := hid (rstN_lt hmx)
          have hcut := cut_high a4 n4 c4 FQ (FQ : Int) rfl hq4 HS4.out
          have HSQ := hid (HS4.out.takeS FQ hq4)
          rw [show (na : Int).toNat = na by omega] at HFM
          clear hmx
          generalize rstN t na = r at *
          obtain ⟨ct, hct⟩ : ∃ ct : Array Value, ct = #[.int .u8 (t : Int), .int .u8 (c : Int), .int .u32 (r : Int), .slice a4 FQ c4] := ⟨_, rfl⟩
          have HCT := hid hct
          refine wp_region_mono' 10 (fun i => if i = 9 then 15 else 50 + i) (Va [.int .u8 (t : Int), .int .u8 (c : Int), .int .u8 (t : Int), .int .i64 (na : Int), .int .u32 (r : Int), .slice a4 n4 c4, .int .i64 (FQ : Int), .slice a4 FQ c4, .agg ct] w5.heap.size) (by kernel_rfl) (by kernel_rfl) (Va.keeps _ _) ?_ ?_
          · simp only [List.take_succ_cons, List.take_zero, stepsOk]
            refine ⟨?_, ?_, ?_, ?_, ?_, ?_, ?_, ?_, ?_, ?_, trivial⟩
            · intro a u vs hb hold hdep
              exact wp_stillA (ex_move (.tmp 1) _ rfl (hold 1 (fun j _ => low9 (by decide)))) rfl (by decide) rfl hb
            · intro a u vs hb hold hdep
              exact wp_stillA (ex_move (.tmp 2) _ rfl (hold 2 (fun j _ => low9 (by decide)))) rfl (by decide) rfl hb
            · intro a u vs hb hold hdep
              exact wp_stillA (ex_move (.tmp 1) _ rfl (hold 1 (fun j _ => low9 (by decide)))) rfl (by decide) rfl hb
            · intro a u vs hb hold hdep
              exact wp_stillA (ex_move (.tmp 3) _ rfl (hold 3 (fun j _ => low9 (by decide)))) rfl (by decide) rfl hb
            · intro a u vs hb hold hdep
              have h2 := hdep ⟨2, .data⟩ (by simp) rfl (by decide)
              have h3 := hdep ⟨3, .data⟩ (by simp) rfl (by decide)
              have e2 : a.eval (.tmp 52) = .int .u8 (t : Int) := h2.1.trans (h2.2.plain (by decide) rfl)
              have e3 : a.eval (.tmp 53) = .int .i64 (na : Int) := h3.1.trans (h3.2.plain (by decide) rfl)
              refine wp_call 45 _ _ rfl (enters_of Tryz.func45 (by kernel_rfl) rfl) #[.int .u8 (t : Int), .int .i64 (na : Int)] (by simp only [List.map_toArray, List.map_cons, List.map_nil, e2, e3]) ?_
              refine (HRS.out u).mono ?_
              rintro _ _ ⟨rfl, rfl⟩
              exact ⟨_, rfl, _, rfl, rfl, hb, Below.refl _ _⟩
            · intro a u vs hb hold hdep
              exact wp_stillA (ex_move (.tmp 12) _ rfl (hold 12 (fun j _ => low9 (by decide)))) rfl (by decide) rfl hb
            · intro a u vs hb hold hdep
              exact wp_stillA (ex_move (.tmp 14) _ rfl (hold 14 (fun j _ => low9 (by decide)))) rfl (by decide) rfl hb
            · intro a u vs hb hold hdep
              have h5 := hdep ⟨5, .data⟩ (by simp) rfl (by decide)
              have h6 := hdep ⟨6, .data⟩ (by simp) rfl (by decide)
              exact wp_stillA (ex_high _ _ _ _ _ _ rfl (h5.1.trans (h5.2.plain (by decide) rfl)) (h6.1.trans (h6.2.plain (by decide) rfl)) (hcut u)) rfl (by decide) rfl hb
            · intro a u vs hb hold hdep
              have h0 := hdep ⟨0, .data⟩ (by simp) rfl (by decide)
              have h1 := hdep ⟨1, .data⟩ (by simp) rfl (by decide)
              have h4 := hdep ⟨4, .data⟩ (by simp) rfl (by decide)
              have h7 := hdep ⟨7, .data⟩ (by simp) rfl (by decide)
              have e0 : a.eval (.tmp 50) = .int .u8 (t : Int) := h0.1.trans (h0.2.plain (by decide) rfl)
              have e1 : a.eval (.tmp 51) = .int .u8 (c : Int) := h1.1.trans (h1.2.plain (by decide) rfl)
              have e4 : a.eval (.tmp 54) = .int .u32 (r : Int) := h4.1.trans (h4.2.plain (by decide) rfl)
              have e7 : a.eval (.tmp 57) = .slice a4 FQ c4 := h7.1.trans (h7.2.plain (by decide) rfl)
              refine wp_stillA (ex_build _ _ #[(0, .int .u8 (t : Int)), (1, .int .u8 (c : Int)), (2, .int .u32 (r : Int)), (3, .slice a4 FQ c4)] (.agg ct) rfl (by simp only [List.map_toArray, List.map_cons, List.map_nil, e0, e1, e4, e7]) ?_) rfl (by decide) rfl hb
              rw [HCT.out]
              exact build_ct _ _ _ _ _ _ u
            · intro a u vs hb hold hdep
              have hba : Below u.heap.size u (u.alloc (.cells zeroC 113)) := (Below.refl _ _).alloc (Nat.le_refl _) _
              exact wp_val (ex_alloc _ rfl (alloc_ct u)) ⟨_, rfl, ⟨u.heap.size, rfl, heap_alloc_new u _, hb.size⟩, hb.trans (hba.mono hb.size), hba⟩
          intro vs u hb hF
          have e0 := (hF 0 (by decide)).plain (by decide) rfl
          have e1 := (hF 1 (by decide)).plain (by decide) rfl
          have e2 := (hF 2 (by decide)).plain (by decide) rfl
          have e3 := (hF 3 (by decide)).plain (by decide) rfl
          have e4 := (hF 4 (by decide)).plain (by decide) rfl
          have e5 := (hF 5 (by decide)).plain (by decide) rfl
          have e6 := (hF 6 (by decide)).plain (by decide) rfl
          have e7' := (hF 7 (by decide)).plain (by decide) rfl
          have e8 := (hF 8 (by decide)).plain (by decide) rfl
          obtain ⟨b, e9', hkb, hbb⟩ : ∃ b, vs 9 = .pointer (some ⟨b, 0, none⟩) ∧ u.heap[b]? = some (.cells zeroC 113 (0, 0)) ∧ w5.heap.size ≤ b := by
            have := hF 9 (by decide)
            unfold Va at this
            rwa [if_pos rfl] at this
          simp only [List.drop_succ_cons, List.drop_zero, puts, List.range, List.range.loop, List.foldr, if_true, Act.put, e0, e1, e2, e3, e4, e5, e6, e7', e8, e9', Nat.reduceAdd, Nat.reduceEqDiff, reduceIte, Nat.add_zero, Nat.zero_ne_add_one, List.setIfInBounds_toArray, List.set_cons_succ, List.set_cons_zero]
          clear e0 e1 e2 e3 e4 e5 e6 e7' e8 e9' hF hcut HRS
          obtain ⟨w6, hw6⟩ : ∃ w6, w6 = u.setCells b 0 ct.toList := ⟨_, rfl⟩
          have hr6 : w6.heap[b]? = some (.cells ct 113 (0, 0)) := by
            rw [hw6]
            have := heap_setCells_row (b := b) (T := 113) ct.toList 0 u zeroC hkb
            rwa [show wr zeroC 0 ct.toList = ct by rw [hct]; simp [wr, zeroC]] at this
          have hb56 : Below w5.heap.size w5 w6 := by rw [hw6]; exact below_setCells hbb _ _ _ hb
          have hb16 : Below w1.heap.size w1 w6 := HB15.out.trans (hb56.mono HB15.out.size)
          have HTB : Hid (u.there b 0 ct.size) := by unfold Hid; rw [hct]; exact there_blk (C := zeroC) (t := 113) hkb rfl
          have HOC : Hid (ct.all (·.oneCell') = true) := by unfold Hid; rw [hct]; simp [Value.oneCell']
          have HIC : Hid ((Tryz.prog.info? 113).map (·.size) = some ct.size) := by unfold Hid; rw [hct]; exact size_ct
          have HLC := hid (ct_load (n := b) (by rw [hct]; rfl) hr6)
          obtain ⟨_, g7, _, _⟩ := HPC.out _ hb16
          have HCA : Hid (Calls Tryz.prog 46 #[.agg ct, .agg #[.int .u8 0, .int .u16 0, .bool false, .bool false, .int .i64 0, .int .u8 0, .int .u8 0, .int .u32 (f : Int), .int .u32 (src : Int), .slice none 0 0]] w6 fun e w' => ∃ g k, e = .returned (.agg (pkCells (mdH 0 f src) (.slice none 0 0) (.slice (some ⟨g, 0, none⟩) k k))) ∧ SeesB w' (.slice (some ⟨g, 0, none⟩) k k) (Im.laid FM) ∧ w6.heap.size ≤ g ∧ Below w6.heap.size w6 w') := by
            have hsq : SeesB w6 (.slice a4 FQ c4) (BL.take FQ) := (HSQ.out.below hb5).below hb56
            have h := carry_any FM (.slice a4 FQ c4) 0 f src w6 (by rw [HFM.out]; exact ⟨ht, hc, HRL.out⟩) (by rw [HFM.out]; exact hsq) (by rw [HFM.out]; show (BL.take FQ).length ≤ 65507; rw [List.length_take]; omega)
            have e : ctCells FM (.slice a4 FQ c4) = ct := by rw [HFM.out, HCT.out]; rfl
            rw [e] at h
            exact h
          have HB16 := hid hb16
          have HW6 := hid hw6
          clear hw6 hr6 hb56 hb16 hkb hbb hct e7 e9 e10 HSQ hq4 hq4' hb5 hb
          go_upto_region 10 with (first
            | (refine wpList_store_mid rfl 113 (.tmp 15) (.tmp 58) rfl b 0 ct rfl rfl HTB.out HIC.out HOC.out ?_)
            | fail)
          rw [← HW6.out]
          go_wp2_with (first | (refine wpList_ld 113 ⟨b, 0, none⟩ _ rfl rfl HLC.out rfl ?_) | fail)
          refine HCA.out.mono ?_
          rintro _ w7 ⟨g, k, rfl, hs7, hg7, hb7⟩
          obtain ⟨yy, hyy⟩ : ∃ yy : Array Value, yy = pkCells (mdH 0 f src) (.slice none 0 0) (.slice (some ⟨g, 0, none⟩) k k) := ⟨_, rfl⟩
          have HYC := hid hyy
          have HOY : Hid (yy.all (·.oneCell') = true) := by unfold Hid; rw [hyy]; simp [pkCells, Value.oneCell']
          have HIY : Hid ((Tryz.prog.info? 41).map (·.size) = some yy.size) := by unfold Hid; rw [hyy]; exact size_pk
          have hb17 := HB16.out.trans (hb7.mono HB16.out.size)
          have HTU : Hid (w7.there (w.heap.size + 1) 0 yy.size) := by unfold Hid; rw [hyy]; exact HTH.out _ hb17
          obtain ⟨q1, q2⟩ := res_end (w := w) HTU.out (by omega) (HBW.out _ hb17) Tryz.underlying41 HIY.out
          have HLV := hid q1
          have HBF := hid q2
          have hgs : w.heap.size + 2 ≤ g := by have := HB16.out.size; have := HS1.out; omega
          have HSF := hid (sees_setI (b := w.heap.size + 1) (vs := yy.toList) hs7 (fun a ha => by cases ha; show g ≠ w.heap.size + 1; omega))
          rw [← hyy]
          clear q1 q2 hyy hs7 hb17 hb7 hg7
          go_wp2_with (first
            | (refine wpList_store_mid rfl 41 (.tmp 10) (.tmp 65) rfl (w.heap.size + 1) 0 yy rfl rfl HTU.out HIY.out HOY.out ?_)
            | fail)
          generalize w7.setCells (w.heap.size + 1) 0 yy.toList = wf at HLV HBF HSF ⊢
          refine bodyPost_ret (v := .tuple #[.agg yy, .int .i64 0]) (by simp [results, Tryz.results23, asAddr, HLV.out]) rfl ?_
          rw [HP2.out, HE2.out]
          exact ⟨_, _, _, by rw [HYC.out], HSF.out, (fun a ha => by cases ha; show w.heap.size ≤ g; omega), HBF.out⟩
      · have HE2 : Hid (AE = q) := by unfold Hid; rw [HA2.out, if_pos hq]
        have hqq : (q != 0) = true := by simp [hq]
        have HP2 : Hid (AB = (zeroH, [])) := by unfold Hid; rw [HPP.out, HE2.out, if_neg (by exact hq)]
        have HTU : Hid (w4.there (w.heap.size + 1) 0 zz.size) := by unfold Hid; rw [HZS.out]; exact HTH.out _ hb14
        obtain ⟨q1, q2⟩ := res_end (w := w) HTU.out (by omega) (HBW.out _ hb14) Tryz.underlying41 HINF.out
        have HLV := hid q1
        have HBF := hid q2
        clear q1 q2
        go_wp2_with (first
          | (refine wpList_store_mid rfl 41 (.tmp 10) (.tmp 34) rfl (w.heap.size + 1) 0 zz rfl (by rw [HZ.out]; rfl) HTU.out HINF.out HONE.out ?_)
          | fail)
        generalize w4.setCells (w.heap.size + 1) 0 zz.toList = wf at HLV HBF ⊢
        refine bodyPost_ret (v := .tuple #[.agg zz, .int .i64 q]) (by simp [results, Tryz.results23, asAddr, HLV.out]) rfl ?_
        rw [HP2.out, HE2.out]
        exact ⟨none, 0, 0, by rw [HZC.out], sees_nil _, (fun a ha => by cases ha), HBF.out⟩
end Go.Proofs.YthmhiehglcfepaaGreatDoor.N
