import Derived.Test.YtpdnnikkaojnkaaGreatYKLF
import Derived.Test.YtpdnnikkaojnkaaGreatYKI
namespace Go.Proofs.YtpdnnikkaojnkaaGreat.Rt
open Go.Proofs.YtpdnnikkaojnkaaGreat Go.ChangeShapes Go.WideShapes Go.ChangeAt Go.RowKit Go.Maps Tri N
set_option maxHeartbeats 8000000
set_option maxRecDepth 100000
structure Bks where
 kb : Nat
 rb : Nat
 tb : Nat
 nb : Nat
 bm : Nat
 fb : Nat
 fm : Nat
structure KAt (w : World) (X : Nat -> Prop) (b : Bks) (s : Ks) : Prop where
 row : w.heap[b.kb]? = some (.cells #[.pointer (some ⟨b.rb, 0, none⟩), .pointer (some ⟨b.nb, 0, none⟩), .pointer (some ⟨b.fb, 0, none⟩)] 71)
 rt : RtAt w X b.rb b.tb s.cr s.R
 nt : BdN w b.nb b.bm s.cn s.N
 ft : BdF w b.fb b.fm s.cf s.F
 ok : s.Ok
 mem : X b.kb /\ X b.nb /\ X b.bm /\ X b.fb /\ X b.fm
 nd : [b.kb, b.rb, b.tb, b.nb, b.bm, b.fb, b.fm].Nodup
theorem KAt.lt {w : World} {X : Nat -> Prop} {b : Bks} {s : Ks} (h : KAt w X b s) : ∀ c, X c -> c < w.heap.size := by
 obtain ⟨t, ht, _⟩ := h.rt.tree
 exact ht.lt
theorem KAt.cells {w : World} {X : Nat -> Prop} {b : Bks} {s : Ks} (h : KAt w X b s) : w.cell? ⟨b.kb, 0, none⟩ = some (.pointer (some ⟨b.rb, 0, none⟩)) /\ w.cell? ⟨b.kb, 1, none⟩ = some (.pointer (some ⟨b.nb, 0, none⟩)) /\ w.cell? ⟨b.kb, 2, none⟩ = some (.pointer (some ⟨b.fb, 0, none⟩)) := by
 refine ⟨?_, ?_, ?_⟩ <;> rw [cell_of_row _ _ _ _ _ _ h.row] <;> rfl
theorem KAt.below {w w' : World} {X : Nat -> Prop} {b : Bks} {s : Ks} (h : KAt w X b s) (hb : Below w.heap.size w w') : KAt w' X b s :=
 ⟨below_keeps hb h.row (h.lt _ h.mem.1), h.rt.below hb, h.nt.below hb, h.ft.below hb, h.ok, h.mem, h.nd⟩
theorem KAt.setR {w w' : World} {X : Nat -> Prop} {b : Bks} {s : Ks} {R : List Vt} (h : KAt w X b s) (hr : RtAt w' X b.rb b.tb s.cr R) (hc : Chg (fun c => c = b.tb) w w') (ok : ({ s with R := R } : Ks).Ok) : KAt w' X b { s with R := R } := by
 have hn := h.nd
 simp only [List.nodup_cons, List.mem_cons, List.not_mem_nil, or_false, not_or, List.nodup_nil, not_false_eq_true, and_true] at hn
 have hk : ∀ c, c ≠ b.tb -> c < w.heap.size -> w'.heap[c]? = w.heap[c]? := fun c hm hl => hc.block c hl hm
 exact ⟨(hk _ (by omega) (h.lt _ h.mem.1)).trans h.row, hr, h.nt.kept (hk _ (by omega) h.nt.lt.1) (hk _ (by omega) h.nt.lt.2), h.ft.kept (hk _ (by omega) h.ft.lt.1) (hk _ (by omega) h.ft.lt.2), ok, h.mem, h.nd⟩
theorem KAt.setN {w w' : World} {X : Nat -> Prop} {b : Bks} {s : Ks} {L : List Nb} (h : KAt w X b s) (hr : BdN w' b.nb b.bm s.cn L) (hc : Chg (fun c => c = b.bm) w w') (ok : ({ s with N := L } : Ks).Ok) : KAt w' X b { s with N := L } := by
 have hn := h.nd
 simp only [List.nodup_cons, List.mem_cons, List.not_mem_nil, or_false, not_or, List.nodup_nil, not_false_eq_true, and_true] at hn
 have hk : ∀ c, c ≠ b.bm -> c < w.heap.size -> w'.heap[c]? = w.heap[c]? := fun c hm hl => hc.block c hl hm
 exact ⟨(hk _ (by omega) (h.lt _ h.mem.1)).trans h.row, h.rt.chg hc (fun c hz hl => ⟨by rw [hz]; exact h.mem.2.2.1, by rw [hz]; omega, by rw [hz]; omega⟩) (fun _ hx => .inl hx) (fun _ hx => hx) (fun c hx => Nat.lt_of_lt_of_le (h.lt c hx) hc.size), hr, h.ft.kept (hk _ (by omega) h.ft.lt.1) (hk _ (by omega) h.ft.lt.2), ok, h.mem, h.nd⟩
theorem KAt.setF {w w' : World} {X : Nat -> Prop} {b : Bks} {s : Ks} {L : List Fd} (h : KAt w X b s) (hr : BdF w' b.fb b.fm s.cf L) (hc : Chg (fun c => c = b.fm) w w') (ok : ({ s with F := L } : Ks).Ok) : KAt w' X b { s with F := L } := by
 have hn := h.nd
 simp only [List.nodup_cons, List.mem_cons, List.not_mem_nil, or_false, not_or, List.nodup_nil, not_false_eq_true, and_true] at hn
 have hk : ∀ c, c ≠ b.fm -> c < w.heap.size -> w'.heap[c]? = w.heap[c]? := fun c hm hl => hc.block c hl hm
 exact ⟨(hk _ (by omega) (h.lt _ h.mem.1)).trans h.row, h.rt.chg hc (fun c hz hl => ⟨by rw [hz]; exact h.mem.2.2.2.2, by rw [hz]; omega, by rw [hz]; omega⟩) (fun _ hx => .inl hx) (fun _ hx => hx) (fun c hx => Nat.lt_of_lt_of_le (h.lt c hx) hc.size), h.nt.kept (hk _ (by omega) h.nt.lt.1) (hk _ (by omega) h.nt.lt.2), hr, ok, h.mem, h.nd⟩
theorem oneS_ne {s : Ks} {o : Opv} (h : oneE s o ≠ 0) : oneS s o = s := by unfold oneS; rw [if_pos h]
theorem oneE1 {s : Ks} {o : Opv} (h : o.kind = 1) : oneE s o = rE s.R s.cr o.r := by
 unfold oneE rE
 rw [if_pos h]
theorem oneS1 {s : Ks} {o : Opv} (h : o.kind = 1) (h0 : oneE s o = 0) : oneS s o = { s with R := putK Tri.Vt.key s.R o.r } := by
 unfold oneS
 rw [if_neg (fun hn => hn h0), if_pos h]
theorem oneE2 {s : Ks} {o : Opv} (h : o.kind = 2) : oneE s o = if valB o.r.x o.r.n then 0 else 93 := by
 unfold oneE
 rw [if_neg (by rw [h]; decide), if_pos h]
 cases valB o.r.x o.r.n <;> rfl
theorem oneS2 {s : Ks} {o : Opv} (h : o.kind = 2) (h0 : oneE s o = 0) : oneS s o = { s with R := delK Tri.Vt.key s.R o.r.key } := by
 unfold oneS
 rw [if_neg (fun hn => hn h0), if_neg (by rw [h]; decide), if_pos h]
theorem oneE3 {s : Ks} {o : Opv} (h : o.kind = 3) : oneE s o = bEN s.N s.cn o.n.ip := by
 unfold oneE bEN
 rw [if_neg (by rw [h]; decide), if_neg (by rw [h]; decide), if_pos h]
theorem oneS3 {s : Ks} {o : Opv} (h : o.kind = 3) (h0 : oneE s o = 0) : oneS s o = { s with N := putK Nb.ip s.N o.n } := by
 unfold oneS
 rw [if_neg (fun hn => hn h0), if_neg (by rw [h]; decide), if_neg (by rw [h]; decide), if_pos h]
theorem oneE4 {s : Ks} {o : Opv} (h : o.kind = 4) : oneE s o = 0 := by
 unfold oneE
 rw [if_neg (by rw [h]; decide), if_neg (by rw [h]; decide), if_neg (by rw [h]; decide), if_pos h]
theorem oneS4 {s : Ks} {o : Opv} (h : o.kind = 4) (h0 : oneE s o = 0) : oneS s o = { s with N := delK Nb.ip s.N o.n.ip } := by
 unfold oneS
 rw [if_neg (fun hn => hn h0), if_neg (by rw [h]; decide), if_neg (by rw [h]; decide), if_neg (by rw [h]; decide), if_pos h]
theorem oneE5 {s : Ks} {o : Opv} (h : o.kind = 5) : oneE s o = bEF s.F s.cf o.f.mac := by
 unfold oneE bEF
 rw [if_neg (by rw [h]; decide), if_neg (by rw [h]; decide), if_neg (by rw [h]; decide), if_neg (by rw [h]; decide), if_pos h]
theorem oneS5 {s : Ks} {o : Opv} (h : o.kind = 5) (h0 : oneE s o = 0) : oneS s o = { s with F := putK Fd.mac s.F o.f } := by
 unfold oneS
 rw [if_neg (fun hn => hn h0), if_neg (by rw [h]; decide), if_neg (by rw [h]; decide), if_neg (by rw [h]; decide), if_neg (by rw [h]; decide), if_pos h]
theorem oneE6 {s : Ks} {o : Opv} (h : o.kind = 6) : oneE s o = 0 := by
 unfold oneE
 rw [if_neg (by rw [h]; decide), if_neg (by rw [h]; decide), if_neg (by rw [h]; decide), if_neg (by rw [h]; decide), if_neg (by rw [h]; decide), if_pos h]
theorem oneS6 {s : Ks} {o : Opv} (h : o.kind = 6) (h0 : oneE s o = 0) : oneS s o = { s with F := delK Fd.mac s.F o.f.mac } := by
 unfold oneS
 rw [if_neg (fun hn => hn h0), if_neg (by rw [h]; decide), if_neg (by rw [h]; decide), if_neg (by rw [h]; decide), if_neg (by rw [h]; decide), if_neg (by rw [h]; decide)]
theorem oneE7 {s : Ks} {o : Opv} (h : o.kind ≠ 1 /\ o.kind ≠ 2 /\ o.kind ≠ 3 /\ o.kind ≠ 4 /\ o.kind ≠ 5 /\ o.kind ≠ 6) : oneE s o = 93 := by
 unfold oneE
 rw [if_neg h.1, if_neg h.2.1, if_neg h.2.2.1, if_neg h.2.2.2.1, if_neg h.2.2.2.2.1, if_neg h.2.2.2.2.2]
def tabV (b : Bks) (k : Int) : Value := if k = 1 \/ k = 2 then .iface 64 (.pointer (some ⟨b.rb, 0, none⟩)) else if k = 3 \/ k = 4 then .iface 66 (.pointer (some ⟨b.nb, 0, none⟩)) else if k = 5 \/ k = 6 then .iface 68 (.pointer (some ⟨b.fb, 0, none⟩)) else .nilIface
theorem tableOf_any {X : Nat -> Prop} {b : Bks} {s : Ks} (w : World) (k : Int) (h : KAt w X b s) : Calls Tryz.prog 48 #[.pointer (some ⟨b.kb, 0, none⟩), .int .i64 k] w fun e w' => e = .returned (tabV b k) /\ w' = w := by
 obtain ⟨c0, c1, c2⟩ := h.cells
 clear h
 by_cases h1 : k = 1
 ·subst h1
  have e : tabV b 1 = .iface 64 (.pointer (some ⟨b.rb, 0, none⟩)) := by unfold tabV; simp
  rw [e]
  clear e
  go_enter Tryz.func48, Tryz.ntmps48
  go_wp2_with fail
  go_ret
  exact ⟨rfl, rfl⟩
 by_cases h2 : k = 2
 ·subst h2
  have e : tabV b 2 = .iface 64 (.pointer (some ⟨b.rb, 0, none⟩)) := by unfold tabV; simp
  rw [e]
  clear e h1
  go_enter Tryz.func48, Tryz.ntmps48
  go_wp2_with fail
  go_ret
  exact ⟨rfl, rfl⟩
 by_cases h3 : k = 3
 ·subst h3
  have e : tabV b 3 = .iface 66 (.pointer (some ⟨b.nb, 0, none⟩)) := by unfold tabV; simp
  rw [e]
  clear e h1 h2
  go_enter Tryz.func48, Tryz.ntmps48
  go_wp2_with fail
  go_ret
  exact ⟨rfl, rfl⟩
 by_cases h4 : k = 4
 ·subst h4
  have e : tabV b 4 = .iface 66 (.pointer (some ⟨b.nb, 0, none⟩)) := by unfold tabV; simp
  rw [e]
  clear e h1 h2 h3
  go_enter Tryz.func48, Tryz.ntmps48
  go_wp2_with fail
  go_ret
  exact ⟨rfl, rfl⟩
 by_cases h5 : k = 5
 ·subst h5
  have e : tabV b 5 = .iface 68 (.pointer (some ⟨b.fb, 0, none⟩)) := by unfold tabV; simp
  rw [e]
  clear e h1 h2 h3 h4
  go_enter Tryz.func48, Tryz.ntmps48
  go_wp2_with fail
  go_ret
  exact ⟨rfl, rfl⟩
 by_cases h6 : k = 6
 ·subst h6
  have e : tabV b 6 = .iface 68 (.pointer (some ⟨b.fb, 0, none⟩)) := by unfold tabV; simp
  rw [e]
  clear e h1 h2 h3 h4 h5
  go_enter Tryz.func48, Tryz.ntmps48
  go_wp2_with fail
  go_ret
  exact ⟨rfl, rfl⟩
 have e : tabV b k = .nilIface := by unfold tabV; simp [h1, h2, h3, h4, h5, h6]
 rw [e]
 clear e
 go_enter Tryz.func48, Tryz.ntmps48
 go_wp2_with fail
 go_ret
 exact ⟨rfl, rfl⟩
theorem change_any {X : Nat -> Prop} {b : Bks} {s : Ks} (w : World) (o : Opv) (h : KAt w X b s) (ho : o.Ok) :
  Calls Tryz.prog 20 #[.pointer (some ⟨b.kb, 0, none⟩), .agg o.cells] w fun e w' => e = .returned (.int .i64 (oneE s o)) /\ KAt w' X b (oneS s o) /\ Chg (fun c => c = b.tb \/ c = b.bm \/ c = b.fm) w w' := by
 obtain ⟨x, HX⟩ : ∃ x, Hid (x = oneE s o) := ⟨_, rfl⟩
 rw [<- HX.out]
 obtain ⟨w1, hw1⟩ : ∃ w1, w1 = w.alloc (.cells o.cells 46) := ⟨_, rfl⟩
 have hb1 : Below w.heap.size w w1 := by rw [hw1]; exact bR.alloc nL _
 have hop : OpB w1 w.heap.size o := by unfold OpB; rw [hw1]; exact heap_alloc_new w _
 have h1 := h.below hb1
 have HT := hid (tableOf_any w1 o.kind h1)
 have HP := hid (isPut_any o.kind w1)
 have HW1 := hid hw1
 have hk0 := hop.kind
 have HLD := hid hop.load
 have HK := hid h1
 have HOK := hid ho
 have HB1 := hid hb1
 have HO1 : Hid ((oneS s o).Ok) := h.ok.one ho
 clear hw1 hb1 hop h1 h ho
 by_cases hk : o.kind = 1
 ·have hm : ∀ u : World, (method 334 64 (.pointer (some ⟨b.rb, 0, none⟩)) "weft/tables.put").run Tryz.prog u = .ok (144, .pointer (some ⟨b.rb, 0, none⟩)) u := fun u => by kernel_rfl
  have HE : Hid (x = rE s.R s.cr o.r) := by unfold Hid; rw [HX.out, oneE1 hk]
  have HC := hid (putR_any w1 o HK.out.rt HOK.out)
  rw [<- HE.out] at HC
  have e1 : tabV b o.kind = .iface 64 (.pointer (some ⟨b.rb, 0, none⟩)) := by unfold tabV; rw [hk]; simp
  have e2 : decide (o.kind = 1 \/ o.kind = 3 \/ o.kind = 5) = true := by rw [hk]; decide
  rw [e1] at HT
  rw [e2] at HP
  have HKD := hid hk
  clear e1 e2 HE hk
  go_enter Tryz.func20, Tryz.ntmps20
  go_upto_region 1 with fail
  rw [<- HW1.out]
  go_wp2_with fail
  refine HT.out.mono ?_
  rintro _ _ ⟨rfl, ew⟩
  obtain rfl := ew.symm
  go_wp2_with fail
  refine HP.out.mono ?_
  rintro _ _ ⟨rfl, ew⟩
  obtain rfl := ew.symm
  go_wp2_with (first | (refine wpList_ld 46 ⟨w.heap.size, 0, none⟩ (.tmp 3) rfl rfl HLD.out rfl ?_) | fail)
  refine HC.out.mono ?_
  rintro _ w2 ⟨rfl, hpt, hch⟩
  have hk := HKD.out
  have HF : Hid (KAt w2 X b (oneS s o) /\ Chg (fun c => c = b.tb \/ c = b.bm \/ c = b.fm) w w2) := by
   refine ⟨?_, (Chg.of_below HB1.out).trans (hch.mono fun c hc => by rw [hc]; simp)⟩
   by_cases h0 : x = 0
   ·have hok := HO1.out
    rw [oneS1 hk (HX.out ▸ h0)] at hok ⊢
    exact HK.out.setR (hpt.1 h0) hch hok
   ·rw [oneS_ne (HX.out ▸ h0)]
    exact HK.out.setR (hpt.2 h0) hch HK.out.ok
  clear hpt hch HC HT HP HK hk
  go_wp2_with fail
  go_ret
  exact ⟨rfl, HF.out⟩
 have hk1 := hid hk
 clear hk
 by_cases hk : o.kind = 2
 ·have hm : ∀ u : World, (method 334 64 (.pointer (some ⟨b.rb, 0, none⟩)) "weft/tables.delete").run Tryz.prog u = .ok (143, .pointer (some ⟨b.rb, 0, none⟩)) u := fun u => by kernel_rfl
  have HE : Hid (x = if valB o.r.x o.r.n then 0 else 93) := by unfold Hid; rw [HX.out, oneE2 hk]
  have HC := hid (deleteR_any w1 o HK.out.rt HOK.out)
  rw [<- HE.out] at HC
  have e1 : tabV b o.kind = .iface 64 (.pointer (some ⟨b.rb, 0, none⟩)) := by unfold tabV; rw [hk]; simp
  have e2 : decide (o.kind = 1 \/ o.kind = 3 \/ o.kind = 5) = false := by rw [hk]; decide
  rw [e1] at HT
  rw [e2] at HP
  have HKD := hid hk
  clear e1 e2 HE hk
  go_enter Tryz.func20, Tryz.ntmps20
  go_upto_region 1 with fail
  rw [<- HW1.out]
  go_wp2_with fail
  refine HT.out.mono ?_
  rintro _ _ ⟨rfl, ew⟩
  obtain rfl := ew.symm
  go_wp2_with fail
  refine HP.out.mono ?_
  rintro _ _ ⟨rfl, ew⟩
  obtain rfl := ew.symm
  go_wp2_with (first | (refine wpList_ld 46 ⟨w.heap.size, 0, none⟩ (.tmp 3) rfl rfl HLD.out rfl ?_) | fail)
  refine HC.out.mono ?_
  rintro _ w2 ⟨rfl, hpt, hch⟩
  have hk := HKD.out
  have HF : Hid (KAt w2 X b (oneS s o) /\ Chg (fun c => c = b.tb \/ c = b.bm \/ c = b.fm) w w2) := by
   refine ⟨?_, (Chg.of_below HB1.out).trans (hch.mono fun c hc => by rw [hc]; simp)⟩
   have hx := HX.out
   rw [oneE2 hk] at hx
   cases hv : valB o.r.x o.r.n with
   | true =>
    rw [hv] at hpt hx
    have hok := HO1.out
    have h0 : oneE s o = 0 := by rw [oneE2 hk, hv]; rfl
    rw [oneS2 hk h0] at hok ⊢
    exact HK.out.setR hpt hch hok
   | false =>
    rw [hv] at hpt hx
    have h0 : oneE s o ≠ 0 := by rw [oneE2 hk, hv]; decide
    rw [oneS_ne h0]
    exact HK.out.setR hpt hch HK.out.ok
  clear hpt hch HC HT HP HK hk
  go_wp2_with fail
  go_ret
  exact ⟨rfl, HF.out⟩
 have hk2 := hid hk
 clear hk
 by_cases hk : o.kind = 3
 ·have hm : ∀ u : World, (method 334 66 (.pointer (some ⟨b.nb, 0, none⟩)) "weft/tables.put").run Tryz.prog u = .ok (157, .pointer (some ⟨b.nb, 0, none⟩)) u := fun u => by kernel_rfl
  have HE : Hid (x = bEN s.N s.cn o.n.ip) := by unfold Hid; rw [HX.out, oneE3 hk]
  have HC := hid (putN_any w1 o HK.out.nt HOK.out)
  rw [<- HE.out] at HC
  have e1 : tabV b o.kind = .iface 66 (.pointer (some ⟨b.nb, 0, none⟩)) := by unfold tabV; rw [hk]; simp
  have e2 : decide (o.kind = 1 \/ o.kind = 3 \/ o.kind = 5) = true := by rw [hk]; decide
  rw [e1] at HT
  rw [e2] at HP
  have HKD := hid hk
  clear e1 e2 HE hk
  go_enter Tryz.func20, Tryz.ntmps20
  go_upto_region 1 with fail
  rw [<- HW1.out]
  go_wp2_with fail
  refine HT.out.mono ?_
  rintro _ _ ⟨rfl, ew⟩
  obtain rfl := ew.symm
  go_wp2_with fail
  refine HP.out.mono ?_
  rintro _ _ ⟨rfl, ew⟩
  obtain rfl := ew.symm
  go_wp2_with (first | (refine wpList_ld 46 ⟨w.heap.size, 0, none⟩ (.tmp 3) rfl rfl HLD.out rfl ?_) | fail)
  refine HC.out.mono ?_
  rintro _ w2 ⟨rfl, hpt, hch⟩
  have hk := HKD.out
  have HF : Hid (KAt w2 X b (oneS s o) /\ Chg (fun c => c = b.tb \/ c = b.bm \/ c = b.fm) w w2) := by
   refine ⟨?_, (Chg.of_below HB1.out).trans (hch.mono fun c hc => by rw [hc]; simp)⟩
   by_cases h0 : x = 0
   ·have hok := HO1.out
    rw [oneS3 hk (HX.out ▸ h0)] at hok ⊢
    exact HK.out.setN (hpt.1 h0) hch hok
   ·rw [oneS_ne (HX.out ▸ h0)]
    exact HK.out.setN (hpt.2 h0) hch HK.out.ok
  clear hpt hch HC HT HP HK hk
  go_wp2_with fail
  go_ret
  exact ⟨rfl, HF.out⟩
 have hk3 := hid hk
 clear hk
 by_cases hk : o.kind = 4
 ·have hm : ∀ u : World, (method 334 66 (.pointer (some ⟨b.nb, 0, none⟩)) "weft/tables.delete").run Tryz.prog u = .ok (156, .pointer (some ⟨b.nb, 0, none⟩)) u := fun u => by kernel_rfl
  have HE : Hid (x = 0) := by unfold Hid; rw [HX.out, oneE4 hk]
  have HC := hid (deleteN_any w1 o HK.out.nt HOK.out)
  rw [<- HE.out] at HC
  have e1 : tabV b o.kind = .iface 66 (.pointer (some ⟨b.nb, 0, none⟩)) := by unfold tabV; rw [hk]; simp
  have e2 : decide (o.kind = 1 \/ o.kind = 3 \/ o.kind = 5) = false := by rw [hk]; decide
  rw [e1] at HT
  rw [e2] at HP
  have HKD := hid hk
  clear e1 e2 HE hk
  go_enter Tryz.func20, Tryz.ntmps20
  go_upto_region 1 with fail
  rw [<- HW1.out]
  go_wp2_with fail
  refine HT.out.mono ?_
  rintro _ _ ⟨rfl, ew⟩
  obtain rfl := ew.symm
  go_wp2_with fail
  refine HP.out.mono ?_
  rintro _ _ ⟨rfl, ew⟩
  obtain rfl := ew.symm
  go_wp2_with (first | (refine wpList_ld 46 ⟨w.heap.size, 0, none⟩ (.tmp 3) rfl rfl HLD.out rfl ?_) | fail)
  refine HC.out.mono ?_
  rintro _ w2 ⟨rfl, hpt, hch⟩
  have hk := HKD.out
  have HF : Hid (KAt w2 X b (oneS s o) /\ Chg (fun c => c = b.tb \/ c = b.bm \/ c = b.fm) w w2) := by
   refine ⟨?_, (Chg.of_below HB1.out).trans (hch.mono fun c hc => by rw [hc]; simp)⟩
   have hok := HO1.out
   rw [oneS4 hk (oneE4 hk)] at hok ⊢
   exact HK.out.setN hpt hch hok
  clear hpt hch HC HT HP HK hk
  go_wp2_with fail
  go_ret
  exact ⟨rfl, HF.out⟩
 have hk4 := hid hk
 clear hk
 by_cases hk : o.kind = 5
 ·have hm : ∀ u : World, (method 334 68 (.pointer (some ⟨b.fb, 0, none⟩)) "weft/tables.put").run Tryz.prog u = .ok (160, .pointer (some ⟨b.fb, 0, none⟩)) u := fun u => by kernel_rfl
  have HE : Hid (x = bEF s.F s.cf o.f.mac) := by unfold Hid; rw [HX.out, oneE5 hk]
  have HC := hid (putF_any w1 o HK.out.ft HOK.out)
  rw [<- HE.out] at HC
  have e1 : tabV b o.kind = .iface 68 (.pointer (some ⟨b.fb, 0, none⟩)) := by unfold tabV; rw [hk]; simp
  have e2 : decide (o.kind = 1 \/ o.kind = 3 \/ o.kind = 5) = true := by rw [hk]; decide
  rw [e1] at HT
  rw [e2] at HP
  have HKD := hid hk
  clear e1 e2 HE hk
  go_enter Tryz.func20, Tryz.ntmps20
  go_upto_region 1 with fail
  rw [<- HW1.out]
  go_wp2_with fail
  refine HT.out.mono ?_
  rintro _ _ ⟨rfl, ew⟩
  obtain rfl := ew.symm
  go_wp2_with fail
  refine HP.out.mono ?_
  rintro _ _ ⟨rfl, ew⟩
  obtain rfl := ew.symm
  go_wp2_with (first | (refine wpList_ld 46 ⟨w.heap.size, 0, none⟩ (.tmp 3) rfl rfl HLD.out rfl ?_) | fail)
  refine HC.out.mono ?_
  rintro _ w2 ⟨rfl, hpt, hch⟩
  have hk := HKD.out
  have HF : Hid (KAt w2 X b (oneS s o) /\ Chg (fun c => c = b.tb \/ c = b.bm \/ c = b.fm) w w2) := by
   refine ⟨?_, (Chg.of_below HB1.out).trans (hch.mono fun c hc => by rw [hc]; simp)⟩
   by_cases h0 : x = 0
   ·have hok := HO1.out
    rw [oneS5 hk (HX.out ▸ h0)] at hok ⊢
    exact HK.out.setF (hpt.1 h0) hch hok
   ·rw [oneS_ne (HX.out ▸ h0)]
    exact HK.out.setF (hpt.2 h0) hch HK.out.ok
  clear hpt hch HC HT HP HK hk
  go_wp2_with fail
  go_ret
  exact ⟨rfl, HF.out⟩
 have hk5 := hid hk
 clear hk
 by_cases hk : o.kind = 6
 ·have hm : ∀ u : World, (method 334 68 (.pointer (some ⟨b.fb, 0, none⟩)) "weft/tables.delete").run Tryz.prog u = .ok (159, .pointer (some ⟨b.fb, 0, none⟩)) u := fun u => by kernel_rfl
  have HE : Hid (x = 0) := by unfold Hid; rw [HX.out, oneE6 hk]
  have HC := hid (deleteF_any w1 o HK.out.ft HOK.out)
  rw [<- HE.out] at HC
  have e1 : tabV b o.kind = .iface 68 (.pointer (some ⟨b.fb, 0, none⟩)) := by unfold tabV; rw [hk]; simp
  have e2 : decide (o.kind = 1 \/ o.kind = 3 \/ o.kind = 5) = false := by rw [hk]; decide
  rw [e1] at HT
  rw [e2] at HP
  have HKD := hid hk
  clear e1 e2 HE hk
  go_enter Tryz.func20, Tryz.ntmps20
  go_upto_region 1 with fail
  rw [<- HW1.out]
  go_wp2_with fail
  refine HT.out.mono ?_
  rintro _ _ ⟨rfl, ew⟩
  obtain rfl := ew.symm
  go_wp2_with fail
  refine HP.out.mono ?_
  rintro _ _ ⟨rfl, ew⟩
  obtain rfl := ew.symm
  go_wp2_with (first | (refine wpList_ld 46 ⟨w.heap.size, 0, none⟩ (.tmp 3) rfl rfl HLD.out rfl ?_) | fail)
  refine HC.out.mono ?_
  rintro _ w2 ⟨rfl, hpt, hch⟩
  have hk := HKD.out
  have HF : Hid (KAt w2 X b (oneS s o) /\ Chg (fun c => c = b.tb \/ c = b.bm \/ c = b.fm) w w2) := by
   refine ⟨?_, (Chg.of_below HB1.out).trans (hch.mono fun c hc => by rw [hc]; simp)⟩
   have hok := HO1.out
   rw [oneS6 hk (oneE6 hk)] at hok ⊢
   exact HK.out.setF hpt hch hok
  clear hpt hch HC HT HP HK hk
  go_wp2_with fail
  go_ret
  exact ⟨rfl, HF.out⟩
 have hk6 := hid hk
 clear hk
 have HE : Hid (oneE s o = 93) := oneE7 ⟨hk1.out, hk2.out, hk3.out, hk4.out, hk5.out, hk6.out⟩
 have e1 : tabV b o.kind = .nilIface := by unfold tabV; simp [hk1.out, hk2.out, hk3.out, hk4.out, hk5.out, hk6.out]
 rw [e1] at HT
 have hx : x = 93 := HX.out.trans HE.out
 subst hx
 have HF : Hid (KAt w1 X b (oneS s o) /\ Chg (fun c => c = b.tb \/ c = b.bm \/ c = b.fm) w w1) := by
  refine ⟨?_, Chg.of_below HB1.out⟩
  rw [oneS_ne (by rw [HE.out]; decide)]
  exact HK.out
 clear e1 hk1 hk2 hk3 hk4 hk5 hk6 HP
 go_enter Tryz.func20, Tryz.ntmps20
 go_upto_region 1 with fail
 rw [<- HW1.out]
 go_wp2_with fail
 refine HT.out.mono ?_
 rintro _ _ ⟨rfl, ew⟩
 obtain rfl := ew.symm
 go_wp2_with fail
 go_ret
 exact ⟨rfl, HF.out⟩
end Go.Proofs.YtpdnnikkaojnkaaGreat.Rt
