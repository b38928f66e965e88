import Derived.Test.YtkkfioebpppffaaGreatDoorES
import Derived.Test.YtkkfioebpppffaaGreatDoorED
import Derived.Test.YtkkfioebpppffaaGreatDoorEQ
namespace Go.Proofs.YtkkfioebpppffaaGreatDoor.N
open Go.ChangeShapes Go.WideShapes Go.ChangeAt Go.RowKit
set_option maxHeartbeats 2000000
set_option maxRecDepth 100000

theorem res_end {w u : World} {r : Nat} {T : TypeId} {fs : Array Field} {zz : Array Value} (hth : u.there r 0 zz.size) (hr : w.heap.size ≤ r) (hb : Below w.heap.size w u) (hu : Tryz.prog.underlying T = some (.struct fs)) (hi : (Tryz.prog.info? T).map (·.size) = some zz.size) :
    (loadVar T ⟨r, 0, none⟩).run Tryz.prog (u.setCells r 0 zz.toList) = .ok (.agg zz) (u.setCells r 0 zz.toList) ∧ Below w.heap.size w (u.setCells r 0 zz.toList) :=
  ⟨load_cell hth hu hi, below_setCells hr _ _ _ hb⟩

def msgE (h : Hd) (B : List Nat) : Int := if refE h B.length ≠ 0 then refE h B.length else if h.proto ≠ 1 ∨ 0 < h.off ∨ h.mf = true then 60 else Im.prE B
def msgC (h : Hd) (B : List Nat) : Im.Ct := if msgE h B = 0 then Im.prC B else Im.none0

theorem msg_bad {h : Hd} {B : List Nat} {e : Int} (hr : refE h B.length = e) (he : e ≠ 0) : msgE h B = e ∧ msgC h B = Im.none0 := by
  have h1 : msgE h B = e := by unfold msgE; rw [if_pos (by rw [hr]; exact he), hr]
  exact ⟨h1, by unfold msgC; rw [if_neg (by rw [h1]; exact he)]⟩

theorem msg_60 {h : Hd} {B : List Nat} (hr : refE h B.length = 0) (hc : h.proto ≠ 1 ∨ 0 < h.off ∨ h.mf = true) : msgE h B = 60 ∧ msgC h B = Im.none0 := by
  have h1 : msgE h B = 60 := by unfold msgE; rw [if_neg (by rw [hr]; simp), if_pos hc]
  exact ⟨h1, by unfold msgC; rw [if_neg (by rw [h1]; decide)]⟩

theorem msg_pr {h : Hd} {B : List Nat} (hr : refE h B.length = 0) (hc : ¬ (h.proto ≠ 1 ∨ 0 < h.off ∨ h.mf = true)) : msgE h B = Im.prE B ∧ msgC h B = Im.prC B := by
  have h1 : msgE h B = Im.prE B := by unfold msgE; rw [if_neg (by rw [hr]; simp), if_neg hc]
  refine ⟨h1, ?_⟩
  unfold msgC
  rw [h1]
  split
  · rfl
  · rename_i h2; unfold Im.prC; rw [if_neg h2]

theorem message_any (h : Hd) (vo vb : Value) (B : List Nat) (w : World) (hok : h.Ok) (hvo : SeesB w vo h.opts) (hvb : SeesB w vb B) (hlo : h.opts.length ≤ 140737488355328) (hlb : B.length ≤ 140737488355328) :
    Calls Tryz.prog 77 #[.agg (pkCells h vo vb)] w fun e w' => ∃ ao n cap, e = .returned (.tuple #[.agg (ctCells (msgC h B) (.slice ao n cap)), .int .i64 (msgE h B)]) ∧ SeesB w' (.slice ao n cap) (msgC h B).B ∧ (∀ a, ao = some a → w.heap.size ≤ a.block) ∧ Below w.heap.size w w' := by
  obtain ⟨wa, hwa⟩ : ∃ wa, wa = w.alloc (.cells (pkCells h vo vb) 35) := ⟨_, rfl⟩
  obtain ⟨w1, hw1⟩ : ∃ w1, w1 = wa.alloc (.cells zeroC 154) := ⟨_, rfl⟩
  have hsa : wa.heap.size = w.heap.size + 1 := by rw [hwa]; simp
  have hs1 : w1.heap.size = w.heap.size + 2 := by rw [hw1]; simp [hsa]
  have hba : Below w.heap.size w wa := by rw [hwa]; exact (Below.refl _ _).alloc (Nat.le_refl _) _
  have hbb : Below wa.heap.size wa w1 := by rw [hw1]; exact (Below.refl _ _).alloc (Nat.le_refl _) _
  have hb1 : Below w.heap.size w w1 := hba.trans (hbb.mono (by omega))
  have k0 : w1.heap[w.heap.size]? = some (.cells (pkCells h vo vb) 35 (0, 0)) := by
    rw [hbb.block _ (by omega), hwa]; exact heap_alloc_new w _
  have k1 : w1.heap[w.heap.size + 1]? = some (.cells zeroC 154 (0, 0)) := by
    rw [← hsa, hw1]; exact heap_alloc_new wa _
  have HLD := hid (pk_load k0)
  have HBD := hid (build_code h vo vb B w1 hok (hvo.below hb1) (hvb.below hb1) hlo hlb)
  obtain ⟨ab, nb, capb, rfl, HNB, hnb1, hnb2⟩ := hvb.shape
  have HC : Hid (∀ u, Below w1.heap.size w1 u → u.cell? ⟨w.heap.size, 3, none⟩ = some (.bool h.mf) ∧ u.cell? ⟨w.heap.size, 4, none⟩ = some (.int .i64 h.off) ∧ u.cell? ⟨w.heap.size, 6, none⟩ = some (.int .u8 (h.proto : Int)) ∧ u.cell? ⟨w.heap.size, 10, none⟩ = some (.slice ab nb capb)) := fun u hu => by
    have hk := (hu.block w.heap.size (by omega)).trans k0
    exact ⟨pk_at hk 3 (by omega), pk_at hk 4 (by omega), pk_at hk 6 (by omega), pk_at hk 10 (by omega)⟩
  have HTH : Hid (∀ u, Below w1.heap.size w1 u → u.there (w.heap.size + 1) 0 4) := fun u hu => there_blk (C := zeroC) (t := 154) ((hu.block _ (by omega)).trans k1) rfl
  have HPR : Hid (∀ u, Below w1.heap.size w1 u → Calls Tryz.prog 94 #[.slice ab nb capb] u fun e w' => ∃ ao n cap, e = .returned (.tuple #[.agg (ctCells (Im.prC B) (.slice ao n cap)), .int .i64 (Im.prE B)]) ∧ SeesB w' (.slice ao n cap) (Im.prC B).B ∧ (∀ a, ao = some a → u.heap.size ≤ a.block) ∧ Below u.heap.size u w') := fun u hu => iparse_any _ B u (hvb.below (hb1.trans (hu.mono hb1.size)))
  have HW1 : Hid (w1 = (w.alloc (.cells (pkCells h vo (.slice ab nb capb)) 35)).alloc (.cells #[.int .u8 0, .int .u8 0, .int .u32 0, .slice none 0 0] 154)) := by unfold Hid; rw [hw1, hwa]; rfl
  have HB1 := hid hb1
  have HS1 := hid hs1
  have HBW : Hid (∀ u, Below w1.heap.size w1 u → Below w.heap.size w u) := fun u hu => hb1.trans (hu.mono hb1.size)
  have HM0 := fun (e : Int) => @msg_bad h B e
  have HM1 := @msg_60 h B
  have HM2 := @msg_pr h B
  have HM := hid (And.intro HM0 (And.intro HM1 HM2))
  clear HM0 HM1 HM2 hwa hw1 hsa hs1 hba hbb hb1 k0 k1 hvb hvo hok hlo hlb
  generalize msgE h B = ME at *
  generalize msgC h B = MC at *
  generalize refE h B.length = q at *
  generalize pkCells h vo (.slice ab nb capb) = pk at *
  generalize h.mf = mf at *
  generalize h.off = off at *
  generalize h.proto = pr at *
  obtain ⟨zz, hzz⟩ : ∃ zz : Array Value, zz = zeroC := ⟨_, rfl⟩
  have HZ : Hid (zz = #[.int .u8 0, .int .u8 0, .int .u32 0, .slice none 0 0]) := hzz
  have HONE : Hid (zz.all (·.oneCell') = true) := by unfold Hid; rw [hzz]; simp [zeroC, Value.oneCell']
  have HINF : Hid ((Tryz.prog.info? 154).map (·.size) = some zz.size) := by unfold Hid; rw [hzz]; exact size_ct
  have HZC : Hid (zz = ctCells Im.none0 (.slice none 0 0)) := hzz
  have HZS : Hid (zz.size = 4) := by unfold Hid; rw [hzz]; rfl
  clear hzz
  by_cases hq : q = 0
  · subst hq
    by_cases hp : pr = 1
    · subst hp
      by_cases ho : 0 < off
      · have HE := hid (HM.out.2.1 rfl (.inr (.inl ho)))
        clear HM
        go_enter Tryz.func77, Tryz.ntmps77
        go_upto_region 1 with fail
        rw [← HW1.out]
        go_wp2_with (first | (refine wpList_ld 35 ⟨w.heap.size, 0, none⟩ _ rfl rfl HLD.out rfl ?_) | fail)
        refine HBD.out.mono ?_
        rintro _ w2 ⟨a2, n2, c2, rfl, _, hb2⟩
        obtain ⟨e3, e4, e6, e10⟩ := HC.out _ hb2
        have HTU : Hid (w2.there (w.heap.size + 1) 0 zz.size) := by unfold Hid; rw [HZS.out]; exact HTH.out _ hb2
        obtain ⟨q1, q2⟩ := res_end (w := w) HTU.out (by omega) (HBW.out _ hb2) Tryz.underlying154 HINF.out
        have HLV := hid q1
        have HBF := hid q2
        clear q1 q2
        go_wp2_with (first
          | (refine wpList_store_mid rfl 154 (.tmp 2) (.tmp 30) rfl (w.heap.size + 1) 0 zz rfl (by rw [HZ.out]; rfl) HTU.out HINF.out HONE.out ?_)
          | fail)
        generalize w2.setCells (w.heap.size + 1) 0 zz.toList = wf at HLV HBF ⊢
        refine bodyPost_ret (v := .tuple #[.agg zz, .int .i64 60]) (by simp [results, Tryz.results77, asAddr, HLV.out]) rfl ?_
        rw [HE.out.1, HE.out.2]
        exact ⟨none, 0, 0, by rw [HZC.out], sees_nil _, (fun a ha => by cases ha), HBF.out⟩
      · cases mf with
        | true =>
          have HE := hid (HM.out.2.1 rfl (.inr (.inr rfl)))
          clear HM
          go_enter Tryz.func77, Tryz.ntmps77
          go_upto_region 1 with fail
          rw [← HW1.out]
          go_wp2_with (first | (refine wpList_ld 35 ⟨w.heap.size, 0, none⟩ _ rfl rfl HLD.out rfl ?_) | fail)
          refine HBD.out.mono ?_
          rintro _ w2 ⟨a2, n2, c2, rfl, _, hb2⟩
          obtain ⟨e3, e4, e6, e10⟩ := HC.out _ hb2
          have HTU : Hid (w2.there (w.heap.size + 1) 0 zz.size) := by unfold Hid; rw [HZS.out]; exact HTH.out _ hb2
          obtain ⟨q1, q2⟩ := res_end (w := w) HTU.out (by omega) (HBW.out _ hb2) Tryz.underlying154 HINF.out
          have HLV := hid q1
          have HBF := hid q2
          clear q1 q2
          go_wp2_with (first
            | (refine wpList_store_mid rfl 154 (.tmp 2) (.tmp 30) rfl (w.heap.size + 1) 0 zz rfl (by rw [HZ.out]; rfl) HTU.out HINF.out HONE.out ?_)
            | fail)
          generalize w2.setCells (w.heap.size + 1) 0 zz.toList = wf at HLV HBF ⊢
          refine bodyPost_ret (v := .tuple #[.agg zz, .int .i64 60]) (by simp [results, Tryz.results77, asAddr, HLV.out]) rfl ?_
          rw [HE.out.1, HE.out.2]
          exact ⟨none, 0, 0, by rw [HZC.out], sees_nil _, (fun a ha => by cases ha), HBF.out⟩
        | false =>
          have HE := hid (HM.out.2.2 rfl (by simp; omega))
          clear HM
          go_enter Tryz.func77, Tryz.ntmps77
          go_upto_region 1 with fail
          rw [← HW1.out]
          go_wp2_with (first | (refine wpList_ld 35 ⟨w.heap.size, 0, none⟩ _ rfl rfl HLD.out rfl ?_) | fail)
          refine HBD.out.mono ?_
          rintro _ w2 ⟨a2, n2, c2, rfl, _, hb2⟩
          obtain ⟨e3, e4, e6, e10⟩ := HC.out _ hb2
          go_wp2_with fail
          refine (HPR.out _ hb2).mono ?_
          rintro _ w3 ⟨a3, n3, c3, rfl, hs3, hn3, hb3⟩
          obtain ⟨yy, hyy⟩ : ∃ yy : Array Value, yy = ctCells (Im.prC B) (.slice a3 n3 c3) := ⟨_, rfl⟩
          have HYC := hid hyy
          have HOY : Hid (yy.all (·.oneCell') = true) := by
            unfold Hid; rw [hyy]; simp [ctCells, Value.oneCell']
          have HIY : Hid ((Tryz.prog.info? 154).map (·.size) = some yy.size) := by unfold Hid; rw [hyy]; exact size_ct
          have hb13 := hb2.trans (hb3.mono hb2.size)
          have HTU : Hid (w3.there (w.heap.size + 1) 0 yy.size) := by unfold Hid; rw [hyy]; exact HTH.out _ hb13
          obtain ⟨q1, q2⟩ := res_end (w := w) HTU.out (by omega) (HBW.out _ hb13) Tryz.underlying154 HIY.out
          have HLV := hid q1
          have HBF := hid q2
          have HNW : Hid (∀ a, a3 = some a → w.heap.size + 2 ≤ a.block) := fun a ha => by have := hn3 a ha; have := hb2.size; have := HS1.out; omega
          have HSF := hid (sees_setI (b := w.heap.size + 1) (vs := yy.toList) hs3 (fun a ha => by have := HNW.out a ha; omega))
          rw [← hyy]
          clear q1 q2 hyy hs3 hn3 hb13
          go_wp2_with (first
            | (refine wpList_store_mid rfl 154 (.tmp 2) (.tmp 34) rfl (w.heap.size + 1) 0 yy rfl rfl HTU.out HIY.out HOY.out ?_)
            | fail)
          generalize w3.setCells (w.heap.size + 1) 0 yy.toList = wf at HLV HBF HSF ⊢
          refine bodyPost_ret (v := .tuple #[.agg yy, .int .i64 (Im.prE B)]) (by simp [results, Tryz.results77, asAddr, HLV.out]) rfl ?_
          rw [HE.out.1, HE.out.2]
          exact ⟨_, _, _, by rw [HYC.out], HSF.out, (fun a ha => by have := HNW.out a ha; omega), HBF.out⟩
    · have HE := hid (HM.out.2.1 rfl (.inl hp))
      have q1 : ((pr : Int) != 1) = true := by simp; omega
      clear HM
      go_enter Tryz.func77, Tryz.ntmps77
      go_upto_region 1 with fail
      rw [← HW1.out]
      go_wp2_with (first | (refine wpList_ld 35 ⟨w.heap.size, 0, none⟩ _ rfl rfl HLD.out rfl ?_) | fail)
      refine HBD.out.mono ?_
      rintro _ w2 ⟨a2, n2, c2, rfl, _, hb2⟩
      obtain ⟨e3, e4, e6, e10⟩ := HC.out _ hb2
      have HTU : Hid (w2.there (w.heap.size + 1) 0 zz.size) := by unfold Hid; rw [HZS.out]; exact HTH.out _ hb2
      obtain ⟨q1, q2⟩ := res_end (w := w) HTU.out (by omega) (HBW.out _ hb2) Tryz.underlying154 HINF.out
      have HLV := hid q1
      have HBF := hid q2
      clear q1 q2
      go_wp2_with (first
        | (refine wpList_store_mid rfl 154 (.tmp 2) (.tmp 30) rfl (w.heap.size + 1) 0 zz rfl (by rw [HZ.out]; rfl) HTU.out HINF.out HONE.out ?_)
        | fail)
      generalize w2.setCells (w.heap.size + 1) 0 zz.toList = wf at HLV HBF ⊢
      refine bodyPost_ret (v := .tuple #[.agg zz, .int .i64 60]) (by simp [results, Tryz.results77, asAddr, HLV.out]) rfl ?_
      rw [HE.out.1, HE.out.2]
      exact ⟨none, 0, 0, by rw [HZC.out], sees_nil _, (fun a ha => by cases ha), HBF.out⟩
  · have HE := hid (HM.out.1 q rfl hq)
    have hqq : (q != 0) = true := by simp [hq]
    clear HM
    go_enter Tryz.func77, Tryz.ntmps77
    go_upto_region 1 with fail
    rw [← HW1.out]
    go_wp2_with (first | (refine wpList_ld 35 ⟨w.heap.size, 0, none⟩ _ rfl rfl HLD.out rfl ?_) | fail)
    refine HBD.out.mono ?_
    rintro _ w2 ⟨a2, n2, c2, rfl, _, hb2⟩
    obtain ⟨e3, e4, e6, e10⟩ := HC.out _ hb2
    have HTU : Hid (w2.there (w.heap.size + 1) 0 zz.size) := by unfold Hid; rw [HZS.out]; exact HTH.out _ hb2
    obtain ⟨q1, q2⟩ := res_end (w := w) HTU.out (by omega) (HBW.out _ hb2) Tryz.underlying154 HINF.out
    have HLV := hid q1
    have HBF := hid q2
    clear q1 q2
    go_wp2_with (first
      | (refine wpList_store_mid rfl 154 (.tmp 2) (.tmp 13) rfl (w.heap.size + 1) 0 zz rfl (by rw [HZ.out]; rfl) HTU.out HINF.out HONE.out ?_)
      | fail)
    generalize w2.setCells (w.heap.size + 1) 0 zz.toList = wf at HLV HBF ⊢
    refine bodyPost_ret (v := .tuple #[.agg zz, .int .i64 q]) (by simp [results, Tryz.results77, asAddr, HLV.out]) rfl ?_
    rw [HE.out.1, HE.out.2]
    exact ⟨none, 0, 0, by rw [HZC.out], sees_nil _, (fun a ha => by cases ha), HBF.out⟩
end Go.Proofs.YtkkfioebpppffaaGreatDoor.N

namespace Go.Proofs.YtkkfioebpppffaaGreatDoor.N
open Go.ChangeShapes Go.WideShapes Go.ChangeAt Go.RowKit
set_option maxHeartbeats 2000000
set_option maxRecDepth 100000

/-- Cells written one behind the other. -/
def wr (C : Array Value) : Nat → List Value → Array Value
  | _, [] => C
  | o, v :: vs => wr (C.setIfInBounds o v) (o + 1) vs

theorem heap_setCell_row {w : World} {b o : Nat} {C : Array Value} {T : TypeId} {fz : Nat × Nat} (h : w.heap[b]? = some (.cells C T fz)) (v : Value) : (w.setCell ⟨b, o, none⟩ v).heap[b]? = some (.cells (C.setIfInBounds o v) T fz) := by
  simp only [World.setCell, Array.getElem?_modify, h]
  simp

theorem heap_setCells_row {b : Nat} {T : TypeId} {fz : Nat × Nat} : ∀ (vs : List Value) (o : Nat) (w : World) (C : Array Value), w.heap[b]? = some (.cells C T fz) → (w.setCells b o vs).heap[b]? = some (.cells (wr C o vs) T fz)
  | [], _, _, _, h => h
  | v :: vs, o, w, C, h => by
    rw [World.setCells]
    exact heap_setCells_row vs (o + 1) _ _ (heap_setCell_row h v)

/-- What a fault speaks of: header, bytes, error. -/
def abt (h : Hd) (B : List Nat) : Hd × List Nat × Int :=
  if msgE h B ≠ 0 then (zeroH, [], msgE h B) else if kF (msgC h B).t then readL (msgC h B).B false else (zeroH, [], 62)

theorem size_hd : (Tryz.prog.info? 33).map (·.size) = some 10 := by kernel_rfl
def zeroHC : Array Value := #[.int .u8 0, .int .u16 0, .bool false, .bool false, .int .i64 0, .int .u8 0, .int .u8 0, .int .u32 0, .int .u32 0, .slice none 0 0]

theorem msgC_ok {h : Hd} {B : List Nat} (hb : ∀ x ∈ B, x < 256) : (msgC h B).Ok ∧ (∀ x ∈ (msgC h B).B, x < 256) ∧ (msgC h B).B.length ≤ 65507 := by
  unfold msgC
  split
  · exact ⟨Im.prC_ok hb, Im.prC_bytes hb, Im.prC_len B⟩
  · exact ⟨Im.none_ok, fun x hx => by (cases hx), by simp [Im.none0]⟩

theorem about_any (h : Hd) (vo vb : Value) (B : List Nat) (w : World) (hok : h.Ok) (hvo : SeesB w vo h.opts) (hvb : SeesB w vb B) (hlo : h.opts.length ≤ 140737488355328) (hlb : B.length ≤ 140737488355328) (htK : TabK w) :
    Calls Tryz.prog 54 #[.agg (pkCells h vo vb)] w fun e w' => ∃ a1 n1 c1 a2 n2 c2, e = .returned (.tuple #[.agg (hdCells (abt h B).1 (.slice a1 n1 c1)), .slice a2 n2 c2, .int .i64 (abt h B).2.2]) ∧ SeesB w' (.slice a1 n1 c1) (abt h B).1.opts ∧ SeesB w' (.slice a2 n2 c2) (abt h B).2.1 ∧ Below w.heap.size w w' := by
  obtain ⟨wa, hwa⟩ : ∃ wa, wa = w.alloc (.cells (pkCells h vo vb) 35) := ⟨_, rfl⟩
  obtain ⟨w1, hw1⟩ : ∃ w1, w1 = wa.alloc (.cells zeroHC 33) := ⟨_, rfl⟩
  have hsa : wa.heap.size = w.heap.size + 1 := by rw [hwa]; simp
  have hs1 : w1.heap.size = w.heap.size + 2 := by rw [hw1]; simp [hsa]
  have hba : Below w.heap.size w wa := by rw [hwa]; exact (Below.refl _ _).alloc (Nat.le_refl _) _
  have hbb : Below wa.heap.size wa w1 := by rw [hw1]; exact (Below.refl _ _).alloc (Nat.le_refl _) _
  have hb1 : Below w.heap.size w w1 := hba.trans (hbb.mono (by omega))
  have k0 : w1.heap[w.heap.size]? = some (.cells (pkCells h vo vb) 35 (0, 0)) := by
    rw [hbb.block _ (by omega), hwa]; exact heap_alloc_new w _
  have k1 : w1.heap[w.heap.size + 1]? = some (.cells zeroHC 33 (0, 0)) := by
    rw [← hsa, hw1]; exact heap_alloc_new wa _
  have HLD := hid (pk_load k0)
  have HMS := hid (message_any h vo vb B w1 hok (hvo.below hb1) (hvb.below hb1) hlo hlb)
  obtain ⟨hC1, hC2, hC3⟩ := msgC_ok (h := h) hvb.bytes
  have HTH : Hid (∀ u, Below w1.heap.size w1 u → u.there (w.heap.size + 1) 0 10) := fun u hu => there_blk (C := zeroHC) (t := 33) ((hu.block _ (by omega)).trans k1) rfl
  have HFL : Hid (∀ u, Below w1.heap.size w1 u → Calls Tryz.prog 78 #[.int .u8 ((msgC h B).t : Int)] u fun e w' => e = .returned (.bool (kF (msgC h B).t)) ∧ Below u.heap.size u w') := fun u hu => isFault_any _ u hC1.t ((htK.below hb1).below hu)
  have HPK : Hid (∀ (v : Value) (u : World), SeesB u v (msgC h B).B → Calls Tryz.prog 79 #[v] u fun e w' => ∃ vo vb, e = .returned (.tuple #[.agg (hdCells (readL (msgC h B).B false).1 vo), vb, .int .i64 (readL (msgC h B).B false).2.2]) ∧ SeesB w' vo (readL (msgC h B).B false).1.opts ∧ SeesB w' vb (readL (msgC h B).B false).2.1 ∧ (∀ a n c, vo = .slice (some a) n c → u.heap.size ≤ a.block) ∧ (∀ a n c, vb = .slice (some a) n c → u.heap.size ≤ a.block) ∧ Below u.heap.size u w') := fun v u hs => read_false v _ u hs (by omega)
  have HW1 : Hid (w1 = (w.alloc (.cells (pkCells h vo vb) 35)).alloc (.cells #[.int .u8 0, .int .u16 0, .bool false, .bool false, .int .i64 0, .int .u8 0, .int .u8 0, .int .u32 0, .int .u32 0, .slice none 0 0] 33)) := by unfold Hid; rw [hw1, hwa]; rfl
  have HB1 := hid hb1
  have HS1 := hid hs1
  have HBW : Hid (∀ u, Below w1.heap.size w1 u → Below w.heap.size w u) := fun u hu => hb1.trans (hu.mono hb1.size)
  have HA : Hid (abt h B = if msgE h B ≠ 0 then (zeroH, [], msgE h B) else if kF (msgC h B).t then readL (msgC h B).B false else (zeroH, [], 62)) := rfl
  clear hwa hw1 hsa hs1 hba hbb hb1 k0 k1 hvb hvo hok hlo hlb hC1 hC2 hC3 htK
  generalize abt h B = AB at *
  generalize msgE h B = q at *
  generalize msgC h B = MC at *
  generalize pkCells h vo vb = pk at *
  obtain ⟨zz, hzz⟩ : ∃ zz : Array Value, zz = zeroHC := ⟨_, rfl⟩
  have HZ : Hid (zz = #[.int .u8 0, .int .u16 0, .bool false, .bool false, .int .i64 0, .int .u8 0, .int .u8 0, .int .u32 0, .int .u32 0, .slice none 0 0]) := hzz
  have HONE : Hid (zz.all (·.oneCell') = true) := by unfold Hid; rw [hzz]; simp [zeroHC, Value.oneCell']
  have HINF : Hid ((Tryz.prog.info? 33).map (·.size) = some zz.size) := by unfold Hid; rw [hzz]; exact size_hd
  have HZC : Hid (zz = hdCells zeroH (.slice none 0 0)) := hzz
  have HZS : Hid (zz.size = 10) := by unfold Hid; rw [hzz]; rfl
  clear hzz
  go_enter Tryz.func54, Tryz.ntmps54
  go_upto_region 1 with fail
  rw [← HW1.out]
  go_wp2_with (first | (refine wpList_ld 35 ⟨w.heap.size, 0, none⟩ _ rfl rfl HLD.out rfl ?_) | fail)
  refine HMS.out.mono ?_
  rintro _ w2 ⟨a2, n2, c2, rfl, hs2, hn2, hb2⟩
  obtain ⟨pa, hpa⟩ : ∃ pa : Array Value, pa = ctCells MC (.slice a2 n2 c2) := ⟨_, rfl⟩
  obtain ⟨w3, hw3⟩ : ∃ w3, w3 = (w2.alloc (.cells zeroC 154)).setCells w2.heap.size 0 pa.toList := ⟨_, rfl⟩
  have HZA : Hid ((Tryz.prog.info? 154).map (·.size) = some pa.size) := by unfold Hid; rw [hpa]; exact size_ct
  have HOA : Hid (pa.all (·.oneCell') = true) := by unfold Hid; rw [hpa]; simp [ctCells, Value.oneCell']
  have HTA : Hid ((w2.alloc (.cells zeroC 154)).there w2.heap.size 0 pa.size) := by unfold Hid; rw [hpa]; exact there_blk (C := zeroC) (t := 154) (heap_alloc_new w2 _) rfl
  have hr3 : w3.heap[w2.heap.size]? = some (.cells (ctCells MC (.slice a2 n2 c2)) 154 (0, 0)) := by
    rw [hw3, hpa]
    have := heap_setCells_row (b := w2.heap.size) (T := 154) (ctCells MC (.slice a2 n2 c2)).toList 0 _ zeroC (heap_alloc_new w2 (.cells zeroC 154))
    rwa [show wr zeroC 0 (ctCells MC (.slice a2 n2 c2)).toList = ctCells MC (.slice a2 n2 c2) by simp [wr, zeroC, ctCells]] at this
  have hb23 : Below w2.heap.size w2 w3 := by rw [hw3]; exact below_setCells (Nat.le_refl _) _ _ _ ((Below.refl _ _).alloc (Nat.le_refl _) _)
  have hb3 : Below w1.heap.size w1 w3 := hb2.trans (hb23.mono hb2.size)
  obtain ⟨d0, d1, d2, d3⟩ := ct_at hr3
  have HR3 := hid hr3
  have HS3 := hid (hs2.below hb23)
  have HW3 : Hid (w3 = (w2.alloc (.cells #[.int .u8 0, .int .u8 0, .int .u32 0, .slice none 0 0] 154)).setCells w2.heap.size 0 pa.toList) := hw3
  have HB3 := hid hb3
  have hlt3 : w2.heap.size < w3.heap.size := (Array.getElem?_eq_some_iff.1 hr3).1
  have HLT := hid hlt3
  rw [← hpa]
  clear hpa hw3 hr3 hb23 hb3 hs2 hn2 hb2 hlt3
  go_upto_region 2 with (first
    | (refine wpList_store_mid rfl 154 (.tmp 5) (.tmp 10) rfl w2.heap.size 0 pa rfl rfl HTA.out HZA.out HOA.out ?_)
    | fail)
  rw [← HW3.out]
  by_cases hq : q = 0
  · subst hq
    have HA2 : Hid (AB = if kF MC.t then readL MC.B false else (zeroH, [], 62)) := by unfold Hid; rw [HA.out, if_neg (by simp)]
    cases hk : kF MC.t with
    | false =>
      have HA3 : Hid (AB = (zeroH, [], 62)) := by unfold Hid; rw [HA2.out, hk]; rfl
      have HF3 := hid (HFL.out _ HB3.out)
      rw [hk] at HF3
      generalize MC.t = mt at *
      go_wp2_with fail
      refine HF3.out.mono ?_
      rintro _ w4 ⟨rfl, hb4⟩
      have hb14 := HB3.out.trans (hb4.mono HB3.out.size)
      have HTU : Hid (w4.there (w.heap.size + 1) 0 zz.size) := by unfold Hid; rw [HZS.out]; exact HTH.out _ hb14
      obtain ⟨q1, q2⟩ := res_end (w := w) HTU.out (by omega) (HBW.out _ hb14) Tryz.underlying33 HINF.out
      have HLV := hid q1
      have HBF := hid q2
      clear q1 q2 hb14
      go_wp2_with (first
        | (refine wpList_store_mid rfl 33 (.tmp 2) (.tmp 20) rfl (w.heap.size + 1) 0 zz rfl (by rw [HZ.out]; rfl) HTU.out HINF.out HONE.out ?_)
        | fail)
      generalize w4.setCells (w.heap.size + 1) 0 zz.toList = wf at HLV HBF ⊢
      refine bodyPost_ret (v := .tuple #[.agg zz, .slice none 0 0, .int .i64 62]) (by simp [results, Tryz.results54, asAddr, HLV.out]) rfl ?_
      rw [HA3.out]
      exact ⟨none, 0, 0, none, 0, 0, by rw [HZC.out], sees_nil _, sees_nil _, HBF.out⟩
    | true =>
      have HA3 : Hid (AB = readL MC.B false) := by unfold Hid; rw [HA2.out, hk]; rfl
      have HF3 := hid (HFL.out _ HB3.out)
      rw [hk] at HF3
      have HC4 : Hid (∀ u, Below w3.heap.size w3 u → u.cell? ⟨w2.heap.size, 3, none⟩ = some (.slice a2 n2 c2)) := fun u hu => (ct_at ((hu.block _ HLT.out).trans HR3.out)).2.2.2
      go_wp2_with fail
      refine HF3.out.mono ?_
      rintro _ w4 ⟨rfl, hb4⟩
      have e4 := HC4.out _ hb4
      have HP4 := hid (HPK.out _ w4 (HS3.out.below hb4))
      have hb14 := HB3.out.trans (hb4.mono HB3.out.size)
      have HB14 := hid hb14
      clear d0 d1 d2 d3 hb14 HC4 hb4 HF3 HFL HPK
      generalize readL MC.B false = RL at *
      go_wp2_with fail
      refine HP4.out.mono ?_
      rintro _ w5 ⟨vo5, vb5, rfl, ho5, hbd5, hno, hnb, hb5⟩
      obtain ⟨a5, n5, c5, rfl, _, _, _⟩ := ho5.shape
      obtain ⟨a6, n6, c6, rfl, _, _, _⟩ := hbd5.shape
      obtain ⟨yy, hyy⟩ : ∃ yy : Array Value, yy = hdCells RL.1 (.slice a5 n5 c5) := ⟨_, rfl⟩
      have HYC := hid hyy
      have HOY : Hid (yy.all (·.oneCell') = true) := by unfold Hid; rw [hyy]; exact hd_one _ _ _ _
      have HIY : Hid ((Tryz.prog.info? 33).map (·.size) = some yy.size) := by unfold Hid; rw [hyy]; exact size_hd
      have hb15 := HB14.out.trans (hb5.mono HB14.out.size)
      have HTU : Hid (w5.there (w.heap.size + 1) 0 yy.size) := by unfold Hid; rw [hyy]; exact HTH.out _ hb15
      obtain ⟨q1, q2⟩ := res_end (w := w) HTU.out (by omega) (HBW.out _ hb15) Tryz.underlying33 HIY.out
      have HLV := hid q1
      have HBF := hid q2
      have hsz : w.heap.size + 2 ≤ w4.heap.size := by have := HB14.out.size; have := HS1.out; omega
      have HSO := hid (sees_setI (b := w.heap.size + 1) (vs := yy.toList) ho5 (fun a ha => by have := hno a n5 c5 (by rw [ha]); omega))
      have HSB := hid (sees_setI (b := w.heap.size + 1) (vs := yy.toList) hbd5 (fun a ha => by have := hnb a n6 c6 (by rw [ha]); omega))
      rw [← hyy]
      clear q1 q2 hyy ho5 hbd5 hno hnb hb15 hsz hb5
      go_wp2_with (first
        | (refine wpList_store_mid rfl 33 (.tmp 2) (.tmp 24) rfl (w.heap.size + 1) 0 yy rfl rfl HTU.out HIY.out HOY.out ?_)
        | fail)
      generalize w5.setCells (w.heap.size + 1) 0 yy.toList = wf at HLV HBF HSO HSB ⊢
      refine bodyPost_ret (v := .tuple #[.agg yy, .slice a6 n6 c6, .int .i64 RL.2.2]) (by simp [results, Tryz.results54, asAddr, HLV.out]) rfl ?_
      rw [HA3.out]
      exact ⟨_, _, _, _, _, _, by rw [HYC.out], HSO.out, HSB.out, HBF.out⟩
  · have HA3 : Hid (AB = (zeroH, [], q)) := by unfold Hid; rw [HA.out, if_pos hq]
    have hqq : (q != 0) = true := by simp [hq]
    have HTU : Hid (w3.there (w.heap.size + 1) 0 zz.size) := by unfold Hid; rw [HZS.out]; exact HTH.out _ HB3.out
    obtain ⟨q1, q2⟩ := res_end (w := w) HTU.out (by omega) (HBW.out _ HB3.out) Tryz.underlying33 HINF.out
    have HLV := hid q1
    have HBF := hid q2
    clear q1 q2
    go_wp2_with (first
      | (refine wpList_store_mid rfl 33 (.tmp 2) (.tmp 14) rfl (w.heap.size + 1) 0 zz rfl (by rw [HZ.out]; rfl) HTU.out HINF.out HONE.out ?_)
      | fail)
    generalize w3.setCells (w.heap.size + 1) 0 zz.toList = wf at HLV HBF ⊢
    refine bodyPost_ret (v := .tuple #[.agg zz, .slice none 0 0, .int .i64 q]) (by simp [results, Tryz.results54, asAddr, HLV.out]) rfl ?_
    rw [HA3.out]
    exact ⟨none, 0, 0, none, 0, 0, by rw [HZC.out], sees_nil _, sees_nil _, HBF.out⟩
end Go.Proofs.YtkkfioebpppffaaGreatDoor.N
