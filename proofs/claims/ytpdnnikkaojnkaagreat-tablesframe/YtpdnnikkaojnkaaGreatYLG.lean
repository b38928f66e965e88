import Derived.Test.YtpdnnikkaojnkaaGreatYLF
namespace Go.Proofs.YtpdnnikkaojnkaaGreat.Rt
open Go.Proofs.YtpdnnikkaojnkaaGreat Go.ChangeShapes Go.WideShapes Go.ChangeAt Go.RowKit Go.Maps Tri N
set_option maxHeartbeats 8000000
set_option maxRecDepth 100000
def Bst (R : List Vt) (a j : Nat) : Option Nat -> Prop
 | none => ∀ i u, i < j -> R[i]? = some u -> hasK u.k a = false
 | some m => ∃ v, m < j /\ R[m]? = some v /\ hasK v.k a = true /\ ∀ i u, i < j -> R[i]? = some u -> hasK u.k a = true -> u.k.n <= v.k.n
theorem Bst.skip {R : List Vt} {a j : Nat} {o : Option Nat} {e : Vt} (h : Bst R a j o) (he : R[j]? = some e) (hk : hasK e.k a = false) : Bst R a (j + 1) o := by
 have key : ∀ i, i < j + 1 -> i = j \/ i < j := fun i hi => by omega
 cases o with
 | none =>
  intro i u hi hu
  rcases key i hi with rfl | hi
  ·rw [he] at hu; cases hu; exact hk
  ·exact h i u hi hu
 | some m =>
  obtain ⟨v, h1, h2, h3, h4⟩ := h
  refine ⟨v, by omega, h2, h3, fun i u hi hu hh => ?_⟩
  rcases key i hi with rfl | hi
  ·rw [he] at hu; cases hu; rw [hk] at hh; cases hh
  ·exact h4 i u hi hu hh
theorem Bst.first {R : List Vt} {a j : Nat} {e : Vt} (h : Bst R a j none) (he : R[j]? = some e) (hk : hasK e.k a = true) : Bst R a (j + 1) (some j) :=
 ⟨e, by omega, he, hk, fun i u hi hu hh => by
  by_cases hij : i = j
  ·subst hij; rw [he] at hu; cases hu; exact nL
  ·have := h i u (by omega) hu; rw [this] at hh; cases hh⟩
theorem Bst.better {R : List Vt} {a j m : Nat} {e f : Vt} (h : Bst R a j (some m)) (he : R[j]? = some e) (hk : hasK e.k a = true) (hf : R[m]? = some f) (hl : f.k.n < e.k.n) : Bst R a (j + 1) (some j) := by
 obtain ⟨v, h1, h2, h3, h4⟩ := h
 rw [hf] at h2; cases h2
 refine ⟨e, by omega, he, hk, fun i u hi hu hh => ?_⟩
 by_cases hij : i = j
 ·subst hij; rw [he] at hu; cases hu; exact nL
 ·have := h4 i u (by omega) hu hh; omega
theorem Bst.keep {R : List Vt} {a j m : Nat} {e f : Vt} (h : Bst R a j (some m)) (he : R[j]? = some e) (hf : R[m]? = some f) (hl : e.k.n <= f.k.n) : Bst R a (j + 1) (some m) := by
 obtain ⟨v, h1, h2, h3, h4⟩ := h
 rw [hf] at h2; cases h2
 refine ⟨f, by omega, hf, h3, fun i u hi hu hh => ?_⟩
 by_cases hij : i = j
 ·subst hij; rw [he] at hu; cases hu; exact hl
 ·exact h4 i u (by omega) hu hh
theorem Bst.none_lr {R : List Vt} {a j : Nat} (h : Bst R a j none) (hj : R.length <= j) : LR R a none := fun u hu => by
 obtain ⟨i, hi, rfl⟩ := List.mem_iff_getElem.1 hu
 exact h i _ (by omega) (List.getElem?_eq_getElem hi)
theorem Bst.some_lr {R : List Vt} {a j m : Nat} {v : Vt} (h : Bst R a j (some m)) (hv : R[m]? = some v) (hj : R.length <= j) : LR R a (some v) := by
 obtain ⟨v', h1, h2, h3, h4⟩ := h
 rw [hv] at h2; cases h2
 refine ⟨List.mem_of_getElem? hv, h3, fun u hu hh => ?_⟩
 obtain ⟨i, hi, rfl⟩ := List.mem_iff_getElem.1 hu
 exact h4 i _ (by omega) (List.getElem?_eq_getElem hi) hh
theorem cellsN {w : World} {B : Nat} {a : Option Addr} {n c : Nat} {L : List Nb} (h : Own kN w B (.slice a n c) L) {j : Nat} {e : Nb} (hx : L[j]? = some e) :
  ∃ g, a = some ⟨g, 0, none⟩ /\ g < w.heap.size /\ ∀ u : World, u.heap[g]? = w.heap[g]? -> u.cell? ⟨g, j * 7 + 1, none⟩ = some (.int .u8 (e.mac.b0 : Int)) /\ u.cell? ⟨g, j * 7 + 2, none⟩ = some (.int .u8 (e.mac.b1 : Int)) /\ u.cell? ⟨g, j * 7 + 3, none⟩ = some (.int .u8 (e.mac.b2 : Int)) /\ u.cell? ⟨g, j * 7 + 4, none⟩ = some (.int .u8 (e.mac.b3 : Int)) /\ u.cell? ⟨g, j * 7 + 5, none⟩ = some (.int .u8 (e.mac.b4 : Int)) /\ u.cell? ⟨g, j * 7 + 6, none⟩ = some (.int .u8 (e.mac.b5 : Int)) /\ u.cell? ⟨g, j * 7, none⟩ = some (.int .u32 (e.ip : Int)) := by
 obtain ⟨g, h1, h2, h3⟩ := h.at hx
 refine ⟨g, h1, h2, fun u hu => ?_⟩
 obtain ⟨h4, -⟩ := h3 u hu
 exact ⟨(h4 1 (by decide)).1, (h4 2 (by decide)).1, (h4 3 (by decide)).1, (h4 4 (by decide)).1, (h4 5 (by decide)).1, (h4 6 (by decide)).1, (h4 0 (by decide)).1⟩
def zR4 : Array Value := #[.int .u32 0, .int .i64 0, .int .u32 0, .bool false]
theorem alloc_rt (u : World) : (Instr.alloc 38 true (.tuple #[])).run Tryz.prog u = .ok (.pointer (some ⟨u.heap.size, 0, none⟩)) (u.alloc (.cells zR4 38)) := by kernel_rfl
theorem resolveR_any {s : Ks} (w : World) {m : Nat} {v : Vs} (a : Nat) (h : Rf w m v s) (ha : a < 4294967296) :
  Calls Tryz.prog 45 #[.pointer (some ⟨m, 0, none⟩), .int .u32 (a : Int)] w fun e w' => ResP w w' s a e := by
 obtain ⟨vr, vn, vf⟩ := v
 obtain ⟨av, nv, cv, hv, HN, hnc, -⟩ := h.r.shape
 obtain rfl : vr = .slice av nv cv := hv
 obtain ⟨an, nn, cn, hv, HNN, hnn, -⟩ := h.n.shape
 obtain rfl : vn = .slice an nn cn := hv
 obtain ⟨af, nf, cf, hv, HNF, hnf, -⟩ := h.f.shape
 obtain rfl : vf = .slice af nf cf := hv
 have hle : nv <= 256 := by have := h.ok.rl; have := HN.out; omega
 have hlen : nn <= 256 := by have := h.ok.nl; have := HNN.out; omega
 have hlef : nf <= 256 := by have := h.ok.fl; have := HNF.out; omega
 have HRF := hid h
 have HA := hid ha
 clear h ha
 go_enter Tryz.func45, Tryz.ntmps45
 go_upto_region 1 with (first | (refine wpList_alB rfl 56 hopZ rfl alloc_hop ?_; intro w1 hb1 hs1 hr1) | fail)
 have HR := hid (HRF.out.below hb1)
 have HB1 := hid hb1
 have HR1 := hid hr1
 clear hb1 hs1 hr1 HRF
 go_upto_region 3 with fail
 go_loopw [6, 7] (fun kk i wr => ∃ (j : Nat) (o : Option Nat) (t : Beh w1), i = .int .i64 (j : Int) /\ kk = .int .i64 (pz o) /\ j <= nv /\ Hid (Bst s.R a j o) /\ wr = t.wd) (fun _ i _ => nv - (intOf i).toNat)
 case atStart => exact ⟨0, none, ⟨w1, bR⟩, rfl, rfl, Nat.zero_le _, fun i u hi => absurd hi (by omega), rfl⟩
 case round =>
 obtain ⟨j, o, t, rfl, rfl, hj, HBE, rfl⟩ := hrel
 have hrr := HR.out.below t.ok
 have HRR := hid hrr
 have c0 : t.wd.cell? ⟨m, 0, none⟩ = some (.slice av nv cv) := hrr.cells.1
 by_cases hlt : j < nv
 ·have hlt' : (j : Int) < (nv : Int) := int_lt hlt
  have hj0 : (0 : Int) <= (j : Int) := by omega
  obtain ⟨e, HX⟩ : ∃ e, Hid (s.R[j]? = some e) := ⟨_, hid (List.getElem?_eq_getElem (by have := HN.out; omega))⟩
  have HEO : Hid (e.Ok) := hrr.ok.rk e (List.mem_of_getElem? HX.out)
  obtain ⟨hek, hen⟩ := Vt_k_ok HEO.out
  obtain ⟨g, rfl, hg, hcl⟩ := atR hrr.r HX.out
  have k0 : ∀ t2 : Beh t.wd, t2.wd.cell? ⟨m, 0, none⟩ = some (.slice (some ⟨g, 0, none⟩) nv cv) := fun t2 => (hrr.below t2.ok).cells.1
  have k1 : ∀ t2 : Beh t.wd, t2.wd.cell? ⟨g, j * 4, none⟩ = some (.int .u32 (e.x : Int)) := fun t2 => (hcl t2.wd (t2.ok.block g hg)).1
  have k2 : ∀ t2 : Beh t.wd, t2.wd.cell? ⟨g, j * 4 + 1, none⟩ = some (.int .i64 e.n) := fun t2 => (hcl t2.wd (t2.ok.block g hg)).2.1
  have HH : ∀ t2 : Beh t.wd, Hid (Calls Tryz.prog 65 #[.agg #[.int .u32 (e.x : Int), .int .i64 e.n], .int .u32 (a : Int)] t2.wd fun r w'' => r = .returned (.bool (hasK e.k a)) /\ ∃ t' : Beh t.wd, w'' = t'.wd) := fun t2 => by
   have := holds9 (p := e.k) a t2.wd hek HA.out
   rw [<- hen] at this
   exact Calls.beh this
  have HEN := hid hen
  clear hcl hek hen hrr
  cases hk : hasK e.k a with
  | false =>
   rw [hk] at HH
   have HNX : Hid (Bst s.R a (j + 1) o) := HBE.out.skip HX.out hk
   clear hk hg
   go_upto_region 5 with fail
   refine wp_region_beh (by kernel_rfl) (by kernel_rfl) ?_
   repeat (go_big_quiet_step (first | (go_at_call 65; exact (HH _).out) | fail))
   refine wpQuiet_nil ?_
   rintro _ ⟨t2, rfl⟩
   clear k0 k1 k2 c0 HH
   go_wp2_with fail
   go_roundw
   case rel => exact ⟨j + 1, o, ⟨t2.wd, t.ok.trans (t2.ok.mono t.ok.size)⟩, by go_num, rfl, hlt, HNX, rfl⟩
   case measure => simp [intOf]; omega
  | true =>
   rw [hk] at HH
   cases o with
   | none =>
    have HNX : Hid (Bst s.R a (j + 1) (some j)) := HBE.out.first HX.out hk
    clear hk hg
    simp only [pz]
    go_upto_region 5 with fail
    refine wp_region_beh (by kernel_rfl) (by kernel_rfl) ?_
    repeat (go_big_quiet_step (first | (go_at_call 65; exact (HH _).out) | fail))
    refine wpQuiet_nil ?_
    rintro _ ⟨t2, rfl⟩
    clear k0 k1 k2 c0 HH
    go_wp2_with fail
    go_roundw
    case rel => exact ⟨j + 1, some j, ⟨t2.wd, t.ok.trans (t2.ok.mono t.ok.size)⟩, by go_num, rfl, hlt, HNX, rfl⟩
    case measure => simp [intOf]; omega
   | some q =>
    obtain ⟨f, hqj, hfq, -, -⟩ := HBE.out
    obtain ⟨g', hav, -, hcl'⟩ := atR HRR.out.r hfq
    obtain rfl : g = g' := by simpa using hav
    have k3 : ∀ t2 : Beh t.wd, t2.wd.cell? ⟨g, q * 4 + 1, none⟩ = some (.int .i64 f.n) := fun t2 => (hcl' t2.wd (t2.ok.block g hg)).2.1
    have HFN : Hid (f.n = (f.k.n : Int)) := (Vt_k_ok (HRR.out.ok.rk f (List.mem_of_getElem? hfq))).2
    have HFQ := hid hfq
    have b3 : (q : Int) < (nv : Int) := by omega
    have b4 : (0 : Int) <= (q : Int) := by omega
    have b5 : ¬ (q : Int) < 0 := by omega
    clear hcl' hav hfq hg
    simp only [pz]
    by_cases hln : f.n < e.n
    ·have HNX : Hid (Bst s.R a (j + 1) (some j)) := HBE.out.better HX.out hk HFQ.out (by have := HFN.out; have := HEN.out; omega)
     clear hk
     go_upto_region 5 with fail
     refine wp_region_beh (by kernel_rfl) (by kernel_rfl) ?_
     repeat (go_big_quiet_step (first | (go_at_call 65; exact (HH _).out) | fail))
     refine wpQuiet_nil ?_
     rintro _ ⟨t2, rfl⟩
     clear k0 k1 k2 k3 c0 HH
     go_wp2_with fail
     go_roundw
     case rel => exact ⟨j + 1, some j, ⟨t2.wd, t.ok.trans (t2.ok.mono t.ok.size)⟩, by go_num, rfl, hlt, HNX, rfl⟩
     case measure => simp [intOf]; omega
    ·have HNX : Hid (Bst s.R a (j + 1) (some q)) := HBE.out.keep HX.out HFQ.out (by have := HFN.out; have := HEN.out; omega)
     clear hk
     go_upto_region 5 with fail
     refine wp_region_beh (by kernel_rfl) (by kernel_rfl) ?_
     repeat (go_big_quiet_step (first | (go_at_call 65; exact (HH _).out) | fail))
     refine wpQuiet_nil ?_
     rintro _ ⟨t2, rfl⟩
     clear k0 k1 k2 k3 c0 HH
     go_wp2_with fail
     go_roundw
     case rel => exact ⟨j + 1, some q, ⟨t2.wd, t.ok.trans (t2.ok.mono t.ok.size)⟩, by go_num, rfl, hlt, HNX, rfl⟩
     case measure => simp [intOf]; omega
 ·have hlt' : ¬ (j : Int) < (nv : Int) := int_nlt hlt
  have HJ : Hid (s.R.length <= j) := by have := HN.out; unfold Hid; omega
  have HBT : Hid (Below w.heap.size w t.wd) := HB1.out.trans (t.ok.mono HB1.out.size)
  have HRT : Hid (t.wd.heap[w.heap.size]? = some (.cells hopZ 56)) := below_keeps t.ok HR1.out (gsl HR1.out)
  clear hrr hlt HB1 HR1
  generalize t.wd = w2 at *
  clear t
  cases o with
  | none =>
   have HLR : Hid (LR s.R a none) := HBE.out.none_lr HJ.out
   have HEQ : Hid (hopR s none = (hopZ, 90)) := rfl
   simp only [pz]
   go_wp2_with (first | (refine wpList_stB rfl 56 (.tmp 4) (.tmp 58) rfl w.heap.size #[.bool false, .int .u32 0, .int .i64 0, .int .u32 0, .int .u8 0, .int .u8 0, .int .u8 0, .int .u8 0, .int .u8 0, .int .u8 0, .int .u32 0] rfl rfl _ HRT.out (by kernel_rfl) rfl (by simp [Value.oneCell']) ?_; intro w9 hbt hr9) | fail)
   have u0 : w9.cell? ⟨w.heap.size, 0, none⟩ = some (.bool false) := crw hr9 rfl
   have u1 : w9.cell? ⟨w.heap.size, 1, none⟩ = some (.int .u32 0) := crw hr9 rfl
   have u2 : w9.cell? ⟨w.heap.size, 2, none⟩ = some (.int .i64 0) := crw hr9 rfl
   have u3 : w9.cell? ⟨w.heap.size, 3, none⟩ = some (.int .u32 0) := crw hr9 rfl
   have u4 : w9.cell? ⟨w.heap.size, 4, none⟩ = some (.int .u8 0) := crw hr9 rfl
   have u5 : w9.cell? ⟨w.heap.size, 5, none⟩ = some (.int .u8 0) := crw hr9 rfl
   have u6 : w9.cell? ⟨w.heap.size, 6, none⟩ = some (.int .u8 0) := crw hr9 rfl
   have u7 : w9.cell? ⟨w.heap.size, 7, none⟩ = some (.int .u8 0) := crw hr9 rfl
   have u8 : w9.cell? ⟨w.heap.size, 8, none⟩ = some (.int .u8 0) := crw hr9 rfl
   have u9 : w9.cell? ⟨w.heap.size, 9, none⟩ = some (.int .u8 0) := crw hr9 rfl
   have u10 : w9.cell? ⟨w.heap.size, 10, none⟩ = some (.int .u32 0) := crw hr9 rfl
   have hb9 : Below w.heap.size w w9 := ⟨hbt.os.trans HBT.out.os, hbt.tape.trans HBT.out.tape, hbt.output.trans HBT.out.output, Nat.le_trans HBT.out.size hbt.size, fun k hk => (hbt.block k (Nat.lt_of_lt_of_le hk HBT.out.size) (by omega)).trans (HBT.out.block k hk)⟩
   exact bodyPost_ret (v := .tuple #[.agg #[.bool false, .int .u32 0, .int .i64 0, .int .u32 0, .int .u8 0, .int .u8 0, .int .u8 0, .int .u8 0, .int .u8 0, .int .u8 0, .int .u32 0], .int .i64 90]) (by simp [results, Tryz.results45, go_sem, u0, u1, u2, u3, u4, u5, u6, u7, u8, u9, u10]) rfl ⟨_, HLR.out, by rw [HEQ.out]; rfl, hb9⟩
  | some q =>
   obtain ⟨e, hqj, he, -, -⟩ := HBE.out
   have HLR : Hid (LR s.R a (some e)) := HBE.out.some_lr he HJ.out
   have HEO : Hid (e.Ok) := HRR.out.ok.rk e (List.mem_of_getElem? he)
   obtain ⟨g, rfl, hg, hcl⟩ := atR HRR.out.r he
   have HLD := hid (hcl w2 rfl).2.2.2.2
   have hqn : q < nv := by have := (List.getElem?_eq_some_iff.1 he).1; have := HN.out; omega
   have b3 : (q : Int) < (nv : Int) := by omega
   have b4 : (0 : Int) <= (q : Int) := by omega
   have b5 : ¬ (q : Int) < 0 := by omega
   have HZC : Hid (e.cells.all (·.oneCell') = true) := one_cells e
   clear hcl hg he hqj hqn HBE
   simp only [pz]
   go_upto_region 10 with (first | (refine wpList_ld 38 ⟨g, q * 4, none⟩ (.tmp 64) rfl rfl HLD.out rfl ?_) | (refine wpList_alB rfl 38 zR4 rfl alloc_rt ?_; intro w3 hb3 hs3 hr3) | (refine wpList_stB rfl 38 (.tmp 8) (.tmp 65) rfl w2.heap.size e.cells rfl rfl zR4 hr3 (by kernel_rfl) rfl HZC.out ?_; intro w4 hbt hr4) | fail)
   have hb4 : Below w2.heap.size w2 w4 := ⟨hbt.os.trans hb3.os, hbt.tape.trans hb3.tape, hbt.output.trans hb3.output, Nat.le_trans hb3.size hbt.size, fun k hk => (hbt.block k (by omega) (by omega)).trans (hb3.block k hk)⟩
   have HR4 := hid (HRR.out.below hb4)
   have HB4 : Hid (Below w.heap.size w w4) := HBT.out.trans (hb4.mono HBT.out.size)
   have HRT4 : Hid (w4.heap[w.heap.size]? = some (.cells hopZ 56)) := below_keeps hb4 HRT.out (gsl HRT.out)
   have HP4 : Hid (w4.heap[w2.heap.size]? = some (.cells e.cells 38)) := hr4
   have p0 : w4.cell? ⟨w2.heap.size, 0, none⟩ = some (.int .u32 (e.x : Int)) := crw hr4 rfl
   have p1 : w4.cell? ⟨w2.heap.size, 1, none⟩ = some (.int .i64 e.n) := crw hr4 rfl
   have p2 : w4.cell? ⟨w2.heap.size, 2, none⟩ = some (.int .u32 (e.via : Int)) := crw hr4 rfl
   have p3 : w4.cell? ⟨w2.heap.size, 3, none⟩ = some (.bool e.loc) := crw hr4 rfl
   clear hb4 hbt hr4 hb3 hs3 hr3 HLD c0 HZC HRT HBT HRR
   cases hloc : e.loc with
   | true =>
    rw [hloc] at p3
    have HEQ : Hid (hopR s (some e) = (hopL e, 0)) := by unfold Hid hopR; simp [hloc]
    clear hloc
    go_wp2_with (first | (refine wpList_stB rfl 56 (.tmp 4) (.tmp 70) rfl w.heap.size #[.bool true, .int .u32 (e.x : Int), .int .i64 e.n, .int .u32 0, .int .u8 0, .int .u8 0, .int .u8 0, .int .u8 0, .int .u8 0, .int .u8 0, .int .u32 0] rfl rfl _ HRT4.out (by kernel_rfl) rfl (by simp [Value.oneCell']) ?_; intro w9 hbt hr9) | fail)
    have u0 : w9.cell? ⟨w.heap.size, 0, none⟩ = some (.bool true) := crw hr9 rfl
    have u1 : w9.cell? ⟨w.heap.size, 1, none⟩ = some (.int .u32 (e.x : Int)) := crw hr9 rfl
    have u2 : w9.cell? ⟨w.heap.size, 2, none⟩ = some (.int .i64 e.n) := crw hr9 rfl
    have u3 : w9.cell? ⟨w.heap.size, 3, none⟩ = some (.int .u32 0) := crw hr9 rfl
    have u4 : w9.cell? ⟨w.heap.size, 4, none⟩ = some (.int .u8 0) := crw hr9 rfl
    have u5 : w9.cell? ⟨w.heap.size, 5, none⟩ = some (.int .u8 0) := crw hr9 rfl
    have u6 : w9.cell? ⟨w.heap.size, 6, none⟩ = some (.int .u8 0) := crw hr9 rfl
    have u7 : w9.cell? ⟨w.heap.size, 7, none⟩ = some (.int .u8 0) := crw hr9 rfl
    have u8 : w9.cell? ⟨w.heap.size, 8, none⟩ = some (.int .u8 0) := crw hr9 rfl
    have u9 : w9.cell? ⟨w.heap.size, 9, none⟩ = some (.int .u8 0) := crw hr9 rfl
    have u10 : w9.cell? ⟨w.heap.size, 10, none⟩ = some (.int .u32 0) := crw hr9 rfl
    have hb9 : Below w.heap.size w w9 := ⟨hbt.os.trans HB4.out.os, hbt.tape.trans HB4.out.tape, hbt.output.trans HB4.out.output, Nat.le_trans HB4.out.size hbt.size, fun k hk => (hbt.block k (Nat.lt_of_lt_of_le hk HB4.out.size) (by omega)).trans (HB4.out.block k hk)⟩
    exact bodyPost_ret (v := .tuple #[.agg #[.bool true, .int .u32 (e.x : Int), .int .i64 e.n, .int .u32 0, .int .u8 0, .int .u8 0, .int .u8 0, .int .u8 0, .int .u8 0, .int .u8 0, .int .u32 0], .int .i64 0]) (by simp [results, Tryz.results45, go_sem, u0, u1, u2, u3, u4, u5, u6, u7, u8, u9, u10]) rfl ⟨_, HLR.out, by rw [HEQ.out]; rfl, hb9⟩
   | false =>
    rw [hloc] at p3
    have HLOC := hid hloc
    have HNA := hid (neighAt_any w4 e.via HR4.out)
    clear hloc
    go_wp2_with fail
    refine HNA.out.mono ?_
    rintro _ _ ⟨rfl, ew⟩
    obtain rfl := ew.symm
    clear ew HNA
    cases hni : ix Nb.ip s.N e.via with
    | none =>
     have HEQ : Hid (hopR s (some e) = (hopZ, 91)) := by
      have hl : lk Nb.ip s.N e.via = none := by have := ix_lk (key := Nb.ip) (L := s.N) e.via; rw [hni] at this; simpa using this.symm
      unfold Hid hopR; simp [HLOC.out, hl]
     clear hni
     simp only [pz]
     go_wp2_with (first | (refine wpList_stB rfl 56 (.tmp 4) (.tmp 77) rfl w.heap.size #[.bool false, .int .u32 0, .int .i64 0, .int .u32 0, .int .u8 0, .int .u8 0, .int .u8 0, .int .u8 0, .int .u8 0, .int .u8 0, .int .u32 0] rfl rfl _ HRT4.out (by kernel_rfl) rfl (by simp [Value.oneCell']) ?_; intro w9 hbt hr9) | fail)
     have u0 : w9.cell? ⟨w.heap.size, 0, none⟩ = some (.bool false) := crw hr9 rfl
     have u1 : w9.cell? ⟨w.heap.size, 1, none⟩ = some (.int .u32 0) := crw hr9 rfl
     have u2 : w9.cell? ⟨w.heap.size, 2, none⟩ = some (.int .i64 0) := crw hr9 rfl
     have u3 : w9.cell? ⟨w.heap.size, 3, none⟩ = some (.int .u32 0) := crw hr9 rfl
     have u4 : w9.cell? ⟨w.heap.size, 4, none⟩ = some (.int .u8 0) := crw hr9 rfl
     have u5 : w9.cell? ⟨w.heap.size, 5, none⟩ = some (.int .u8 0) := crw hr9 rfl
     have u6 : w9.cell? ⟨w.heap.size, 6, none⟩ = some (.int .u8 0) := crw hr9 rfl
     have u7 : w9.cell? ⟨w.heap.size, 7, none⟩ = some (.int .u8 0) := crw hr9 rfl
     have u8 : w9.cell? ⟨w.heap.size, 8, none⟩ = some (.int .u8 0) := crw hr9 rfl
     have u9 : w9.cell? ⟨w.heap.size, 9, none⟩ = some (.int .u8 0) := crw hr9 rfl
     have u10 : w9.cell? ⟨w.heap.size, 10, none⟩ = some (.int .u32 0) := crw hr9 rfl
     have hb9 : Below w.heap.size w w9 := ⟨hbt.os.trans HB4.out.os, hbt.tape.trans HB4.out.tape, hbt.output.trans HB4.out.output, Nat.le_trans HB4.out.size hbt.size, fun k hk => (hbt.block k (Nat.lt_of_lt_of_le hk HB4.out.size) (by omega)).trans (HB4.out.block k hk)⟩
     exact bodyPost_ret (v := .tuple #[.agg #[.bool false, .int .u32 0, .int .i64 0, .int .u32 0, .int .u8 0, .int .u8 0, .int .u8 0, .int .u8 0, .int .u8 0, .int .u8 0, .int .u32 0], .int .i64 91]) (by simp [results, Tryz.results45, go_sem, u0, u1, u2, u3, u4, u5, u6, u7, u8, u9, u10]) rfl ⟨_, HLR.out, by rw [HEQ.out]; rfl, hb9⟩
    | some i =>
     obtain ⟨nb, hnb, -⟩ := ix_some hni
     have HLN : Hid (lk Nb.ip s.N e.via = some nb) := by unfold Hid; rw [ix_at hni HR4.out.ok.nn, hnb]
     have HNK : Hid (nb.mac.Ok) := (HR4.out.ok.nk nb (List.mem_of_getElem? hnb)).2
     obtain ⟨gn, rfl, hgn, hcn⟩ := atN HR4.out.n hnb
     have HLM := hid (hcn w4 rfl).2.1
     obtain ⟨gn2, hgn2, -, hcn2⟩ := cellsN HR4.out.n hnb
     obtain rfl : gn = gn2 := by simpa using hgn2
     have HCN := hid hcn2
     have HGN := hid hgn
     have i1 : (i : Int) < (nn : Int) := by have := (List.getElem?_eq_some_iff.1 hnb).1; have := HNN.out; omega
     have i2 : (0 : Int) <= (i : Int) := by omega
     have i3 : ¬ (i : Int) < 0 := by omega
     have n1 : w4.cell? ⟨m, 1, none⟩ = some (.slice (some ⟨gn, 0, none⟩) nn cn) := HR4.out.cells.2.1
     have HFA := hid (fdbAt_any w4 nb.mac HNK.out HR4.out)
     clear hni hnb hcn hgn hgn2 hcn2
     simp only [pz]
     unfold Mc.v at HLM
     go_wp2_with (first | (refine wpList_ld 40 ⟨gn, i * 7 + 1, none⟩ (.tmp 85) rfl rfl HLM.out rfl ?_) | fail)
     refine HFA.out.mono ?_
     rintro _ w5 ⟨rfl, hb5⟩
     have HR5 := hid (HR4.out.below hb5)
     have HB5 : Hid (Below w.heap.size w w5) := HB4.out.trans (hb5.mono HB4.out.size)
     have HRT5 : Hid (w5.heap[w.heap.size]? = some (.cells hopZ 56)) := below_keeps hb5 HRT4.out (gsl HRT4.out)
     have HP5 : Hid (w5.heap[w2.heap.size]? = some (.cells e.cells 38)) := below_keeps hb5 HP4.out (gsl HP4.out)
     have HNB5 : Hid (w5.heap[gn]? = w4.heap[gn]?) := hb5.block gn HGN.out
     clear hb5 HR4 HB4 HRT4 HP4 p0 p1 p2 p3 n1 HFA HLM
     cases hfi : ix Fd.mac s.F nb.mac with
     | none =>
      have HEQ : Hid (hopR s (some e) = (hopZ, 92)) := by
       have hl : lk Fd.mac s.F nb.mac = none := by have := ix_lk (key := Fd.mac) (L := s.F) nb.mac; rw [hfi] at this; simpa using this.symm
       unfold Hid hopR; simp [HLOC.out, HLN.out, hl]
      clear hfi
      simp only [pz]
      go_wp2_with (first | (refine wpList_stB rfl 56 (.tmp 4) (.tmp 90) rfl w.heap.size #[.bool false, .int .u32 0, .int .i64 0, .int .u32 0, .int .u8 0, .int .u8 0, .int .u8 0, .int .u8 0, .int .u8 0, .int .u8 0, .int .u32 0] rfl rfl _ HRT5.out (by kernel_rfl) rfl (by simp [Value.oneCell']) ?_; intro w9 hbt hr9) | fail)
      have u0 : w9.cell? ⟨w.heap.size, 0, none⟩ = some (.bool false) := crw hr9 rfl
      have u1 : w9.cell? ⟨w.heap.size, 1, none⟩ = some (.int .u32 0) := crw hr9 rfl
      have u2 : w9.cell? ⟨w.heap.size, 2, none⟩ = some (.int .i64 0) := crw hr9 rfl
      have u3 : w9.cell? ⟨w.heap.size, 3, none⟩ = some (.int .u32 0) := crw hr9 rfl
      have u4 : w9.cell? ⟨w.heap.size, 4, none⟩ = some (.int .u8 0) := crw hr9 rfl
      have u5 : w9.cell? ⟨w.heap.size, 5, none⟩ = some (.int .u8 0) := crw hr9 rfl
      have u6 : w9.cell? ⟨w.heap.size, 6, none⟩ = some (.int .u8 0) := crw hr9 rfl
      have u7 : w9.cell? ⟨w.heap.size, 7, none⟩ = some (.int .u8 0) := crw hr9 rfl
      have u8 : w9.cell? ⟨w.heap.size, 8, none⟩ = some (.int .u8 0) := crw hr9 rfl
      have u9 : w9.cell? ⟨w.heap.size, 9, none⟩ = some (.int .u8 0) := crw hr9 rfl
      have u10 : w9.cell? ⟨w.heap.size, 10, none⟩ = some (.int .u32 0) := crw hr9 rfl
      have hb9 : Below w.heap.size w w9 := ⟨hbt.os.trans HB5.out.os, hbt.tape.trans HB5.out.tape, hbt.output.trans HB5.out.output, Nat.le_trans HB5.out.size hbt.size, fun k hk => (hbt.block k (Nat.lt_of_lt_of_le hk HB5.out.size) (by omega)).trans (HB5.out.block k hk)⟩
      exact bodyPost_ret (v := .tuple #[.agg #[.bool false, .int .u32 0, .int .i64 0, .int .u32 0, .int .u8 0, .int .u8 0, .int .u8 0, .int .u8 0, .int .u8 0, .int .u8 0, .int .u32 0], .int .i64 92]) (by simp [results, Tryz.results45, go_sem, u0, u1, u2, u3, u4, u5, u6, u7, u8, u9, u10]) rfl ⟨_, HLR.out, by rw [HEQ.out]; rfl, hb9⟩
     | some l =>
      obtain ⟨fd, hfd, -⟩ := ix_some hfi
      have HEQ : Hid (hopR s (some e) = (hopT e nb fd, 0)) := by
       have hl : lk Fd.mac s.F nb.mac = some fd := by rw [ix_at hfi HR5.out.ok.fn, hfd]
       unfold Hid hopR; simp [HLOC.out, HLN.out, hl]
      obtain ⟨gf, rfl, hgf, hcf⟩ := atF HR5.out.f hfd
      have f6 : w5.cell? ⟨gf, l * 7 + 6, none⟩ = some (.int .u32 (fd.dest : Int)) := (hcf w5 rfl).1
      have l1 : (l : Int) < (nf : Int) := by have := (List.getElem?_eq_some_iff.1 hfd).1; have := HNF.out; omega
      have l2 : (0 : Int) <= (l : Int) := by omega
      have l3 : ¬ (l : Int) < 0 := by omega
      have p0 : w5.cell? ⟨w2.heap.size, 0, none⟩ = some (.int .u32 (e.x : Int)) := crw HP5.out rfl
      have p1 : w5.cell? ⟨w2.heap.size, 1, none⟩ = some (.int .i64 e.n) := crw HP5.out rfl
      have p2 : w5.cell? ⟨w2.heap.size, 2, none⟩ = some (.int .u32 (e.via : Int)) := crw HP5.out rfl
      have n1 : w5.cell? ⟨m, 1, none⟩ = some (.slice (some ⟨gn, 0, none⟩) nn cn) := HR5.out.cells.2.1
      have n2 : w5.cell? ⟨m, 2, none⟩ = some (.slice (some ⟨gf, 0, none⟩) nf cf) := HR5.out.cells.2.2.1
      obtain ⟨q0, q1, q2, q3, q4, q5, -⟩ := HCN.out w5 HNB5.out
      clear hfi hfd hcf hgf HCN HNB5
      simp only [pz]
      go_upto_region 18 with fail
      refine wp_region_still_tail 21 (by kernel_rfl) (by kernel_rfl) ?_
      simp only [List.take_succ_cons, List.take_zero, List.drop_succ_cons, List.drop_zero]
      iterate 21 still_step
      refine wpStill_nil ?_
      have HRT6 : Hid ((World.heap { heap := w5.heap, tape := w5.tape, drawn := w5.drawn + 1, os := w5.os, output := w5.output })[w.heap.size]? = some (.cells hopZ 56)) := HRT5.out
      have HB6 : Hid (Below w.heap.size w { heap := w5.heap, tape := w5.tape, drawn := w5.drawn + 1, os := w5.os, output := w5.output }) := below_drewN HB5.out 1
      generalize ({ heap := w5.heap, tape := w5.tape, drawn := w5.drawn + 1, os := w5.os, output := w5.output } : World) = w6 at *
      go_wp2_with (first | (refine wpList_stB rfl 56 (.tmp 4) (.tmp 111) rfl w.heap.size #[.bool false, .int .u32 (e.x : Int), .int .i64 e.n, .int .u32 (e.via : Int), .int .u8 (nb.mac.b0 : Int), .int .u8 (nb.mac.b1 : Int), .int .u8 (nb.mac.b2 : Int), .int .u8 (nb.mac.b3 : Int), .int .u8 (nb.mac.b4 : Int), .int .u8 (nb.mac.b5 : Int), .int .u32 (fd.dest : Int)] rfl rfl _ HRT6.out (by kernel_rfl) rfl (by simp [Value.oneCell']) ?_; intro w9 hbt hr9) | fail)
      have u0 : w9.cell? ⟨w.heap.size, 0, none⟩ = some (.bool false) := crw hr9 rfl
      have u1 : w9.cell? ⟨w.heap.size, 1, none⟩ = some (.int .u32 (e.x : Int)) := crw hr9 rfl
      have u2 : w9.cell? ⟨w.heap.size, 2, none⟩ = some (.int .i64 e.n) := crw hr9 rfl
      have u3 : w9.cell? ⟨w.heap.size, 3, none⟩ = some (.int .u32 (e.via : Int)) := crw hr9 rfl
      have u4 : w9.cell? ⟨w.heap.size, 4, none⟩ = some (.int .u8 (nb.mac.b0 : Int)) := crw hr9 rfl
      have u5 : w9.cell? ⟨w.heap.size, 5, none⟩ = some (.int .u8 (nb.mac.b1 : Int)) := crw hr9 rfl
      have u6 : w9.cell? ⟨w.heap.size, 6, none⟩ = some (.int .u8 (nb.mac.b2 : Int)) := crw hr9 rfl
      have u7 : w9.cell? ⟨w.heap.size, 7, none⟩ = some (.int .u8 (nb.mac.b3 : Int)) := crw hr9 rfl
      have u8 : w9.cell? ⟨w.heap.size, 8, none⟩ = some (.int .u8 (nb.mac.b4 : Int)) := crw hr9 rfl
      have u9 : w9.cell? ⟨w.heap.size, 9, none⟩ = some (.int .u8 (nb.mac.b5 : Int)) := crw hr9 rfl
      have u10 : w9.cell? ⟨w.heap.size, 10, none⟩ = some (.int .u32 (fd.dest : Int)) := crw hr9 rfl
      have hb9 : Below w.heap.size w w9 := ⟨hbt.os.trans HB6.out.os, hbt.tape.trans HB6.out.tape, hbt.output.trans HB6.out.output, Nat.le_trans HB6.out.size hbt.size, fun k hk => (hbt.block k (Nat.lt_of_lt_of_le hk HB6.out.size) (by omega)).trans (HB6.out.block k hk)⟩
      exact bodyPost_ret (v := .tuple #[.agg #[.bool false, .int .u32 (e.x : Int), .int .i64 e.n, .int .u32 (e.via : Int), .int .u8 (nb.mac.b0 : Int), .int .u8 (nb.mac.b1 : Int), .int .u8 (nb.mac.b2 : Int), .int .u8 (nb.mac.b3 : Int), .int .u8 (nb.mac.b4 : Int), .int .u8 (nb.mac.b5 : Int), .int .u32 (fd.dest : Int)], .int .i64 0]) (by simp [results, Tryz.results45, go_sem, u0, u1, u2, u3, u4, u5, u6, u7, u8, u9, u10]) rfl ⟨_, HLR.out, by rw [HEQ.out]; rfl, hb9⟩
end Go.Proofs.YtpdnnikkaojnkaaGreat.Rt
