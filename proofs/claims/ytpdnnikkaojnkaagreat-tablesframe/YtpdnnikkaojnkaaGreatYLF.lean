import Derived.Test.YtpdnnikkaojnkaaGreatZF
import Derived.Test.YtpdnnikkaojnkaaGreatYKT
namespace Go.Proofs.YtpdnnikkaojnkaaGreat.Rt
open Go.Proofs.YtpdnnikkaojnkaaGreat Go.ChangeShapes Go.WideShapes Go.ChangeAt Go.RowKit Go.Maps Tri N
set_option maxHeartbeats 4000000
set_option maxRecDepth 100000
theorem oneR_any (w : World) {m : Nat} {v : Vs} {s : Ks} (o : Opv) (h : Rf w m v s) (ho : o.Ok) :
  Calls Tryz.prog 64 #[.pointer (some ⟨m, 0, none⟩), .agg o.cells] w fun e w' => e = .returned (.int .i64 (oneE s o)) /\ ∃ v', RTurn w w' m v (oneS s o) v' := by
 obtain ⟨w1, HW1⟩ : ∃ w1, Hid (w1 = w.alloc (.cells o.cells 46)) := ⟨_, rfl⟩
 have hb1 : Below w.heap.size w w1 := by rw [HW1.out]; exact bR.alloc nL _
 have hop : OpB w1 w.heap.size o := by unfold OpB; rw [HW1.out]; exact heap_alloc_new w _
 have HLD := hid hop.load
 have c0 := hop.kind
 have HB1 := hid hb1
 have HR := hid (h.below hb1)
 have HO := hid ho
 obtain ⟨E, HE⟩ : ∃ E, Hid (E = oneE s o) := ⟨_, rfl⟩
 obtain ⟨S, HS⟩ : ∃ S, Hid (S = oneS s o) := ⟨_, rfl⟩
 rw [<- HE.out, <- HS.out]
 clear hop hb1 h ho
 by_cases k1 : o.kind = 1 \/ o.kind = 2
 ·have HC := hid (routeR_any w1 o HR.out HO.out k1)
  rw [<- HE.out, <- HS.out] at HC
  rcases k1 with hk | hk
  all_goals
   rw [hk] at c0
   clear hk
   go_enter Tryz.func64, Tryz.ntmps64
   go_upto_region 1 with fail
   rw [<- HW1.out]
   clear HW1
   go_wp2_with (first | (refine wpList_ld 46 ⟨w.heap.size, 0, none⟩ (.tmp 3) rfl rfl HLD.out rfl ?_) | fail)
   refine HC.out.mono ?_
   rintro _ w3 ⟨rfl, v3, ht⟩
   have HT := hid (ht.behind HB1.out)
   clear ht
   go_wp2_with fail
   go_ret
   exact ⟨rfl, _, HT.out⟩
 ·by_cases k2 : o.kind = 3 \/ o.kind = 4
  ·have HC := hid (neighR_any w1 o HR.out HO.out k2)
   rw [<- HE.out, <- HS.out] at HC
   clear k1
   rcases k2 with hk | hk
   all_goals
    rw [hk] at c0
    clear hk
    go_enter Tryz.func64, Tryz.ntmps64
    go_upto_region 1 with fail
    rw [<- HW1.out]
    clear HW1
    go_wp2_with (first | (refine wpList_ld 46 ⟨w.heap.size, 0, none⟩ (.tmp 3) rfl rfl HLD.out rfl ?_) | fail)
    refine HC.out.mono ?_
    rintro _ w3 ⟨rfl, v3, ht⟩
    have HT := hid (ht.behind HB1.out)
    clear ht
    go_wp2_with fail
    go_ret
    exact ⟨rfl, _, HT.out⟩
  ·by_cases k3 : o.kind = 5 \/ o.kind = 6
   ·have HC := hid (fdbR_any w1 o HR.out HO.out k3)
    rw [<- HE.out, <- HS.out] at HC
    clear k1 k2
    rcases k3 with hk | hk
    all_goals
     rw [hk] at c0
     clear hk
     go_enter Tryz.func64, Tryz.ntmps64
     go_upto_region 1 with fail
     rw [<- HW1.out]
     clear HW1
     go_wp2_with (first | (refine wpList_ld 46 ⟨w.heap.size, 0, none⟩ (.tmp 3) rfl rfl HLD.out rfl ?_) | fail)
     refine HC.out.mono ?_
     rintro _ w3 ⟨rfl, v3, ht⟩
     have HT := hid (ht.behind HB1.out)
     clear ht
     go_wp2_with fail
     go_ret
     exact ⟨rfl, _, HT.out⟩
   ·have n1 : ¬ o.kind = 1 := fun e => k1 (.inl e)
    have n2 : ¬ o.kind = 2 := fun e => k1 (.inr e)
    have n3 : ¬ o.kind = 3 := fun e => k2 (.inl e)
    have n4 : ¬ o.kind = 4 := fun e => k2 (.inr e)
    have n5 : ¬ o.kind = 5 := fun e => k3 (.inl e)
    have n6 : ¬ o.kind = 6 := fun e => k3 (.inr e)
    have HEE : Hid (oneE s o = 93) := oneE7 ⟨n1, n2, n3, n4, n5, n6⟩
    have HSS : Hid (oneS s o = s) := oneS_ne (by rw [HEE.out]; decide)
    have HT : Hid (RTurn w w1 m v s v) := (RTurn.refl HR.out).behind HB1.out
    clear k1 k2 k3
    go_enter Tryz.func64, Tryz.ntmps64
    go_upto_region 1 with fail
    rw [<- HW1.out]
    clear HW1
    go_wp2_with fail
    go_ret
    exact ⟨ret_int (by rw [HE.out, HEE.out]), _, by rw [HS.out, HSS.out]; exact HT.out⟩
theorem doR_any {K : Nat -> Prop} {s : Ks} (w : World) {m : Nat} {v : Vs} {a : Option Addr} {n : Nat} (c : Nat) {L : List Opv} (h : Rf w m v s) (hs : SeesOp K w a n L) (hK : ∀ c, K c -> ¬ fpR m v c) (hL : ∀ o ∈ L, o.Ok) (hn : n <= 9223372036854775807) :
  Calls Tryz.prog 44 #[.pointer (some ⟨m, 0, none⟩), .slice a n c] w fun e w' => e = .returned (.tuple #[.int .i64 (doN s L : Int), .int .i64 (doE s L)]) /\ ∃ v', RTurn w w' m v (doS s L) v' := by
 obtain ⟨dn, HDN⟩ : ∃ dn, Hid (dn = doN s L) := ⟨_, rfl⟩
 obtain ⟨de, HDE⟩ : ∃ de, Hid (de = doE s L) := ⟨_, rfl⟩
 rw [<- HDN.out, <- HDE.out]
 have HL := hid hL
 have HNL := hid hs.1
 have HK := hid h
 have HSS := hid hs
 have HKK := hid hK
 clear h hs hL hK
 go_enter Tryz.func44, Tryz.ntmps44
 go_upto_region 2 with fail
 go_loopw [6] (fun i wr => ∃ (j : Nat) (wx : World), wx = wr /\ i = .int .i64 (j : Int) /\ j <= n /\ Hid (∃ t v1, RTurn w wx m v t v1 /\ doN s L = j + doN t (L.drop j) /\ doE s L = doE t (L.drop j) /\ doS s L = doS t (L.drop j))) (fun i _ => n - (intOf i).toNat)
 case atStart => exact ⟨0, _, rfl, rfl, Nat.zero_le _, s, v, RTurn.refl HK.out, by simp, by simp, by simp⟩
 case round =>
 obtain ⟨j, wx, rfl, rfl, hj, HI⟩ := hrel
 obtain ⟨t, v1, ht, q1, q2, q3⟩ := HI.out
 by_cases hjn : j < n
 ·have b1 : (j : Int) < (n : Int) := by omega
  have b2 : (0 : Int) <= (j : Int) := by omega
  have hjl : j < L.length := by have := HNL.out; omega
  obtain ⟨o, ho⟩ : ∃ o, L[j]? = some o := ⟨_, List.getElem?_eq_getElem hjl⟩
  have hso : SeesOp K wx a n L := HSS.out.kept (fun c hc hl => ht.keeps.block c hl (HKK.out c hc)) ht.keeps.size
  obtain ⟨g, off, rfl, hld⟩ := hso.load ho
  have HLD := hid hld
  have HT := hid ht
  have HOK : Hid (o.Ok) := HL.out o (List.mem_of_getElem? ho)
  have hdr : L.drop j = o :: L.drop (j + 1) := by
   obtain ⟨h1, h2⟩ := List.getElem?_eq_some_iff.1 ho
   rw [List.drop_eq_getElem_cons h1, h2]
  rw [hdr] at q1 q2 q3
  have HQ := hid (And.intro q1 (And.intro q2 q3))
  have HC := hid (oneR_any wx o ht.ref HOK.out)
  obtain ⟨x, HX⟩ : ∃ x, Hid (x = oneE t o) := ⟨_, rfl⟩
  rw [<- HX.out] at HC
  clear hld ho ht hso q1 q2 q3 hdr HI HK hjl
  go_wp2_with (first | (refine wpList_ld 46 ⟨g, off + j * 19, none⟩ (.tmp 17) rfl rfl HLD.out rfl ?_) | fail)
  refine HC.out.mono ?_
  rintro _ w3 ⟨rfl, v3, ht3⟩
  have htt := HT.out.trans ht3
  obtain ⟨q1, q2, q3⟩ := HQ.out
  by_cases hx : x = 0
  ·have h0 : oneE t o = 0 := HX.out ▸ hx
   subst hx
   simp only [doN, doE, doS, h0, if_true] at q1 q2 q3
   have HI3 : Hid (∃ t v1, RTurn w w3 m v t v1 /\ doN s L = (j + 1) + doN t (L.drop (j + 1)) /\ doE s L = doE t (L.drop (j + 1)) /\ doS s L = doS t (L.drop (j + 1))) := ⟨_, _, htt, by omega, q2, q3⟩
   clear ht3 htt q1 q2 q3 HQ h0 HC HT HX HLD
   go_wp2_with fail
   go_roundw
   case rel => exact ⟨j + 1, _, rfl, by go_num, by omega, HI3.out⟩
   case measure => simp [intOf]; omega
  ·have h0 : oneE t o ≠ 0 := HX.out ▸ hx
   simp only [doN, doE, doS, h0, if_false] at q1 q2 q3
   rw [oneS_ne h0] at htt
   have HFIN : Hid (dn = j /\ de = x /\ RTurn w w3 m v (doS s L) v3) := ⟨by rw [HDN.out, q1]; rfl, by rw [HDE.out, q2, HX.out], by rw [q3]; exact htt⟩
   clear ht3 htt q1 q2 q3 HQ h0 HC HT HX HLD
   go_wp2_with fail
   go_ret2
   exact ⟨by rw [HFIN.out.1, HFIN.out.2.1]; rfl, _, HFIN.out.2.2⟩
 ·have b1 : ¬ (j : Int) < (n : Int) := by omega
  have hdn : L.drop j = [] := List.drop_eq_nil_of_le (by have := HNL.out; omega)
  rw [hdn] at q1 q2 q3
  have HFIN : Hid (dn = n /\ de = 0 /\ RTurn w wx m v (doS s L) v1) := ⟨by rw [HDN.out, q1]; simp [doN]; omega, by rw [HDE.out, q2]; rfl, by rw [q3]; exact ht⟩
  clear ht q1 q2 q3 HI hdn
  go_wp2_with fail
  go_ret2
  exact ⟨by rw [HFIN.out.1, HFIN.out.2.1]; rfl, _, HFIN.out.2.2⟩
def NewRf (w w' : World) (r n f : Int) (e : Ending) : Prop :=
 (Cap r n f -> e = .returned (.tuple #[.pointer (some ⟨w.heap.size, 0, none⟩), .int .i64 0]) /\ Rf w' w.heap.size ⟨.slice none 0 0, .slice none 0 0, .slice none 0 0⟩ ⟨[], [], [], r.toNat, n.toNat, f.toNat⟩ /\ Below w.heap.size w w') /\ (¬ Cap r n f -> e = .returned (.tuple #[.pointer none, .int .i64 1]) /\ w' = w)
theorem newRf_any (w : World) (r n f : Int) : Calls Tryz.prog 43 #[.int .i64 r, .int .i64 n, .int .i64 f] w fun e w' => NewRf w w' r n f e := by
 by_cases hc : Cap r n f
 ·obtain ⟨⟨a1, a2⟩, ⟨b1, b2⟩, ⟨c1, c2⟩⟩ := id hc
  have a3 : ¬ r < 1 := by omega
  have b3 : ¬ n < 1 := by omega
  have c3 : ¬ f < 1 := by omega
  have a4 : ¬ 256 < r := by omega
  have b4 : ¬ 256 < n := by omega
  have c4 : ¬ 256 < f := by omega
  obtain ⟨w1, HW1⟩ : ∃ w1, Hid (w1 = w.alloc (.cells #[.slice none 0 0, .slice none 0 0, .slice none 0 0, .int .i64 r, .int .i64 n, .int .i64 f] 142)) := ⟨_, rfl⟩
  have HF : Hid (NewRf w w1 r n f (.returned (.tuple #[.pointer (some ⟨w.heap.size, 0, none⟩), .int .i64 0]))) := by
   refine ⟨fun _ => ⟨rfl, ⟨?_, Own.nil _ _, Own.nil _ _, Own.nil _ _, ⟨List.nodup_nil, fun v hv => (by cases hv), ⟨Nat.zero_le _, ?_⟩, List.nodup_nil, fun v hv => (by cases hv), ⟨Nat.zero_le _, ?_⟩, List.nodup_nil, fun v hv => (by cases hv), ⟨Nat.zero_le _, ?_⟩⟩⟩, ?_⟩, fun h => absurd hc h⟩
   ·rw [HW1.out, heap_alloc_new w _]
    simp only [rkC]
    rw [Int.toNat_of_nonneg (by omega), Int.toNat_of_nonneg (by omega), Int.toNat_of_nonneg (by omega)]
   ·show r.toNat <= 256; omega
   ·show n.toNat <= 256; omega
   ·show f.toNat <= 256; omega
   ·rw [HW1.out]; exact bR.alloc nL _
  clear hc a1 a2 b1 b2 c1 c2
  go_enter Tryz.func43, Tryz.ntmps43
  go_wp2_with fail
  rw [<- HW1.out]
  go_ret2
  exact HF.out
 ·have HF : Hid (NewRf w w r n f (.returned (.tuple #[.pointer none, .int .i64 1]))) := ⟨fun h => absurd h hc, fun _ => ⟨rfl, rfl⟩⟩
  unfold Cap at hc
  by_cases a1 : r < 1
  ·clear hc
   go_enter Tryz.func43, Tryz.ntmps43
   go_wp2_with fail
   go_ret2
   exact HF.out
  ·by_cases b1 : n < 1
   ·clear hc
    go_enter Tryz.func43, Tryz.ntmps43
    go_wp2_with fail
    go_ret2
    exact HF.out
   ·by_cases c1 : f < 1
    ·clear hc
     go_enter Tryz.func43, Tryz.ntmps43
     go_wp2_with fail
     go_ret2
     exact HF.out
    ·by_cases a2 : 256 < r
     ·clear hc
      go_enter Tryz.func43, Tryz.ntmps43
      go_wp2_with fail
      go_ret2
      exact HF.out
     ·by_cases b2 : 256 < n
      ·clear hc
       go_enter Tryz.func43, Tryz.ntmps43
       go_wp2_with fail
       go_ret2
       exact HF.out
      ·have c2 : 256 < f := by omega
       clear hc
       go_enter Tryz.func43, Tryz.ntmps43
       go_wp2_with fail
       go_ret2
       exact HF.out
theorem flushRf_any {s : Ks} (w : World) {m : Nat} {v : Vs} (h : Rf w m v s) :
  Calls Tryz.prog 47 #[.pointer (some ⟨m, 0, none⟩)] w fun e w' => e = .returned (.tuple #[]) /\ ∃ v', RTurn w w' m v { s with R := [], N := [], F := [] } v' := by
 have t1 := h.storeR (x := .slice none 0 0) (L := []) (Me.Keeps.refl _ _) (Own.nil _ _) (fun k e => by cases e) h.ok.clrR
 have t2 := t1.trans (t1.ref.storeN (x := .slice none 0 0) (L := []) (Me.Keeps.refl _ _) (Own.nil _ _) (fun k e => by cases e) h.ok.clrR.clrN)
 have t3 := t2.trans (t2.ref.storeF (x := .slice none 0 0) (L := []) (Me.Keeps.refl _ _) (Own.nil _ _) (fun k e => by cases e) h.ok.clrR.clrN.clrF)
 obtain ⟨w1, HW1⟩ : ∃ w1, Hid (w1 = w.setCell ⟨m, 0, none⟩ (.slice none 0 0)) := ⟨_, rfl⟩
 rw [<- HW1.out] at t1 t2 t3
 obtain ⟨w2, HW2⟩ : ∃ w2, Hid (w2 = w1.setCell ⟨m, 1, none⟩ (.slice none 0 0)) := ⟨_, rfl⟩
 rw [<- HW2.out] at t2 t3
 obtain ⟨w3, HW3⟩ : ∃ w3, Hid (w3 = w2.setCell ⟨m, 2, none⟩ (.slice none 0 0)) := ⟨_, rfl⟩
 rw [<- HW3.out] at t3
 obtain ⟨x0, c0⟩ : ∃ x, w.cell? ⟨m, 0, none⟩ = some x := ⟨_, h.cells.1⟩
 obtain ⟨x1, c1⟩ : ∃ x, w1.cell? ⟨m, 1, none⟩ = some x := ⟨_, t1.ref.cells.2.1⟩
 obtain ⟨x2, c2⟩ : ∃ x, w2.cell? ⟨m, 2, none⟩ = some x := ⟨_, t2.ref.cells.2.2.1⟩
 have f0 := h.frozen 0
 have f1 := t1.ref.frozen 1
 have f2 := t2.ref.frozen 2
 have HT := hid t3
 clear h t1 t2 t3
 go_enter Tryz.func47, Tryz.ntmps47
 go_upto_region 1 with fail
 rw [<- HW1.out]
 go_upto_region 2 with fail
 rw [<- HW2.out]
 go_wp2_with fail
 rw [<- HW3.out]
 exact bodyPost_end (results_none Tryz.results47 _ _ _) rfl ⟨rfl, _, HT.out⟩
end Go.Proofs.YtpdnnikkaojnkaaGreat.Rt
