/-
  weftref6.Parse.
-/
import Derived.Test.YtcboenmmkaochabDoorIF
namespace Go.Proofs.YtcboenmmkaochabDoor.N
open Go.ChangeShapes Go.WideShapes Go.ChangeAt Go.RowKit
set_option maxHeartbeats 2000000
set_option maxRecDepth 100000

theorem ct_load {u : World} {n : Nat} {C : Array Value} (hC : C.size = 4) (hb : u.heap[n]? = some (.cells C 29 (0, 0))) : (Instr.loadAt 29 (.pointer (some ⟨n, 0, none⟩))).run Tryd.prog u = .ok (.agg C) u := by
  refine run_loadAt_mid u n 0 29 C.toList (.struct _) (fun j v hv => ?_) Tryd.underlying29 rfl (by rw [Array.length_toList, hC]; exact size_ct)
  rw [Nat.zero_add, cell_of_row _ _ _ _ _ _ hb, ← hv, Array.getElem?_toList]

theorem rparse_bad (v : Value) (L : List Nat) (w : World) (hv : SeesB w v L) (he : Im.prE L ≠ 0) :
    Calls Tryd.prog 16 #[v] w fun e w' => e = .returned (.tuple #[.agg zeroC, .int .i64 (Im.prE L)]) ∧ Below w.heap.size w w' := by
  obtain ⟨zz, hzz⟩ : ∃ zz : Array Value, zz = zeroC := ⟨_, rfl⟩
  obtain ⟨w1, hw1⟩ : ∃ w1, w1 = (w.alloc (.cells zeroC 29)).alloc (.cells zeroC 29) := ⟨_, rfl⟩
  have hb1 : Below w.heap.size w w1 := by rw [hw1]; exact ((Below.refl _ _).alloc (Nat.le_refl _) _).alloc (by simp) _
  have hs1 : w1.heap.size = w.heap.size + 2 := by rw [hw1]; simp
  have hk0 : w1.heap[w.heap.size]? = some (.cells zeroC 29) := by
    rw [hw1, Below.heap_alloc _ _ _ (by simp)]; exact heap_alloc_new w _
  have hk1 : w1.heap[w.heap.size + 1]? = some (.cells zeroC 29) := by
    rw [hw1]
    have := heap_alloc_new (w.alloc (.cells zeroC 29)) (.cells zeroC 29)
    rwa [World.size_alloc] at this
  have HTH : Hid (∀ u, Below w1.heap.size w1 u → u.there w.heap.size 0 zz.size) := fun u hu => by
    rw [hzz]
    exact there_blk (C := zeroC) (t := 29) ((hu.block _ (by omega)).trans hk0) rfl
  have HLD : Hid (∀ u, Below w1.heap.size w1 u → (Instr.loadAt 29 (.pointer (some ⟨w.heap.size + 1, 0, none⟩))).run Tryd.prog u = .ok (.agg zz) u) := fun u hu => by
    rw [hzz]
    exact ct_load rfl ((hu.block _ (by omega)).trans hk1)
  have HW1 : Hid (w1 = (w.alloc (.cells #[.int .u8 0, .int .u8 0, .int .u32 0, .slice none 0 0] 29)).alloc (.cells #[.int .u8 0, .int .u8 0, .int .u32 0, .slice none 0 0] 29)) := hw1
  have HB1 := hid hb1
  have HONE : Hid (zz.all (·.oneCell') = true) := by unfold Hid; rw [hzz]; simp [zeroC, Value.oneCell']
  have HINF : Hid ((Tryd.prog.info? 29).map (·.size) = some zz.size) := by unfold Hid; rw [hzz]; exact size_ct
  obtain ⟨ao, n, cap, rfl, HN, hn1, hn2⟩ := hv.shape
  unfold maxLen at hn2
  rw [← hzz]
  have HLV : Hid (∀ u, Below w1.heap.size w1 u → (loadVar 29 ⟨w.heap.size, 0, none⟩).run Tryd.prog (u.setCells w.heap.size 0 zz.toList) = .ok (.agg zz) (u.setCells w.heap.size 0 zz.toList)) := fun u hu => load_cell (HTH.out u hu) Tryd.underlying29 HINF.out
  have HBF : Hid (∀ u, Below w1.heap.size w1 u → Below w.heap.size w (u.setCells w.heap.size 0 zz.toList)) := fun u hu => below_setCells (Nat.le_refl _) _ _ _ (HB1.out.trans (hu.mono HB1.out.size))
  have HPE : Hid (Im.prE L = if n < 8 then 30 else if 65515 < n then 37 else if M.csum L = 0 then 0 else 33) := by unfold Hid; rw [HN.out]; rfl
  by_cases h8 : n < 8
  · have HE : Hid (Im.prE L = 30) := by unfold Hid; rw [HPE.out, if_pos h8]
    have h0 := Below.refl w1.heap.size w1
    have HTZ := hid (HTH.out _ h0)
    have HLV := hid (HLV.out _ h0)
    have HBF := hid (HBF.out _ h0)
    have HLD := hid (HLD.out _ h0)
    clear hw1 hb1 hs1 hv he hzz HPE h0 hk0 hk1
    go_enter Tryd.func16, Tryd.ntmps16
    go_upto_region 2 with fail
    rw [← HW1.out]
    go_wp2_with (first
      | (refine wpList_ld 29 ⟨w.heap.size + 1, 0, none⟩ _ rfl rfl HLD.out rfl ?_)
      | (refine wpList_store_mid rfl 29 (.tmp 2) (.tmp 10) rfl w.heap.size 0 zz rfl rfl HTZ.out HINF.out HONE.out ?_)
      | fail)
    generalize w1.setCells w.heap.size 0 zz.toList = wf at HLV HBF ⊢
    refine bodyPost_ret (v := .tuple #[.agg zz, .int .i64 30]) (by simp [results, Tryd.results16, asAddr, HLV.out]) rfl ?_
    exact ⟨by rw [HE.out], HBF.out⟩
  · by_cases hB : 65515 < n
    · have HE : Hid (Im.prE L = 37) := by unfold Hid; rw [HPE.out, if_neg h8, if_pos hB]
      have h0 := Below.refl w1.heap.size w1
      have HTZ := hid (HTH.out _ h0)
      have HLV := hid (HLV.out _ h0)
      have HBF := hid (HBF.out _ h0)
      have HLD := hid (HLD.out _ h0)
      clear hw1 hb1 hs1 hv he hzz HPE h0 hk0 hk1
      go_enter Tryd.func16, Tryd.ntmps16
      go_upto_region 2 with fail
      rw [← HW1.out]
      go_wp2_with (first
        | (refine wpList_ld 29 ⟨w.heap.size + 1, 0, none⟩ _ rfl rfl HLD.out rfl ?_)
        | (refine wpList_store_mid rfl 29 (.tmp 2) (.tmp 14) rfl w.heap.size 0 zz rfl rfl HTZ.out HINF.out HONE.out ?_)
        | fail)
      generalize w1.setCells w.heap.size 0 zz.toList = wf at HLV HBF ⊢
      refine bodyPost_ret (v := .tuple #[.agg zz, .int .i64 37]) (by simp [results, Tryd.results16, asAddr, HLV.out]) rfl ?_
      exact ⟨by rw [HE.out], HBF.out⟩
    · have hc : M.csum L ≠ 0 := fun h => he (by rw [HPE.out, if_neg h8, if_neg hB, if_pos h])
      have HE : Hid (Im.prE L = 33) := by unfold Hid; rw [HPE.out, if_neg h8, if_neg hB, if_neg hc]
      have hs := seesBB_one (w := w1) rfl _ _ (hv.below hb1) 26
      have HSM0 := sum_ref _ _ _ hs (by simp; have := HN.out; omega)
      rw [show [L].flatten = L by simp] at HSM0
      have HSM : Hid (Calls Tryd.prog 35 #[.slice (some ⟨w1.heap.size, 0, none⟩) 1 1] (w1.alloc (.cells #[.slice ao n cap] 26)) fun e w' => e = .returned (.int .u16 ((M.csum L : Nat) : Int)) ∧ Below w1.heap.size w1 w') := by
        refine HSM0.mono ?_
        rintro e w' ⟨rfl, hb⟩
        have hbA : Below w1.heap.size w1 (w1.alloc (.cells #[.slice ao n cap] 26)) := (Below.refl w1.heap.size w1).alloc (Nat.le_refl _) _
        exact ⟨rfl, hbA.trans (hb.mono hbA.size)⟩
      generalize M.csum L = s at *
      have hq : ((s : Int) != 0) = true := by simp; omega
      clear hw1 hb1 hs1 hv he hzz HPE hs HSM0 hc hk0 hk1
      go_enter Tryd.func16, Tryd.ntmps16
      go_upto_region 2 with fail
      rw [← HW1.out]
      go_wp2_with fail
      refine HSM.out.mono ?_
      rintro _ w2 ⟨rfl, hb2⟩
      have HTZ := hid (HTH.out _ hb2)
      have HLV := hid (HLV.out _ hb2)
      have HBF := hid (HBF.out _ hb2)
      have HLD := hid (HLD.out _ hb2)
      go_wp2_with (first
        | (refine wpList_ld 29 ⟨w.heap.size + 1, 0, none⟩ _ rfl rfl HLD.out rfl ?_)
        | (refine wpList_store_mid rfl 29 (.tmp 2) (.tmp 19) rfl w.heap.size 0 zz rfl rfl HTZ.out HINF.out HONE.out ?_)
        | fail)
      generalize w2.setCells w.heap.size 0 zz.toList = wf at HLV HBF ⊢
      refine bodyPost_ret (v := .tuple #[.agg zz, .int .i64 33]) (by simp [results, Tryd.results16, asAddr, HLV.out]) rfl ?_
      exact ⟨by rw [HE.out], HBF.out⟩

theorem conv32 (x : Nat) (hx : x < 4294967296) (u : World) : (convert 3 27 (.int .i64 (x : Int))).run Tryd.prog u = .ok (.int .u32 (x : Int)) u := by
  have h1 : Tryd.prog.underlying 3 = some (.int .i64) := by kernel_rfl
  have h2 : Tryd.prog.underlying 27 = some (.int .u32) := by kernel_rfl
  simp [convert, run_underlying h1, run_underlying h2, go_sem]
  rw [IntKind.wrap_u32]
  omega

theorem ex_conv {P : Program} {o : Oper} {a : Act} {w : World} (S D : TypeId) (x : Operand) (s v : Value) (ho : o.op = .convert S D x) (hx : a.eval x = s) (hr : (convert S D s).run P w = .ok v w) : (execOp a.eval o).run P w = .ok (.value v) w := by
  unfold execOp
  simp only [ho, hx, Sem.run_bind, hr, Result.andThen_ok, Sem.run_pure]

/-- Values of a region with one list of its own among them. -/
def Vo (l : List Value) (base : Nat) (D : List Nat) (p q : Nat) (mk : Value → Value) (i : Nat) (v : Value) (w : World) : Prop :=
  if i = p then OwnB w base v D else if i = q then ∃ vb, v = mk vb ∧ OwnB w base vb D else l[i]? = some v

theorem Vo.keeps (l : List Value) (base : Nat) (D : List Nat) (p q : Nat) (mk : Value → Value) : ∀ (i : Nat) (v : Value) (w w' : World), Vo l base D p q mk i v w → Below w.heap.size w w' → Vo l base D p q mk i v w' := fun i v w w' h hb => by
  unfold Vo at *
  split at h
  · rename_i h1; rw [if_pos h1]; exact h.below hb
  · rename_i h1
    rw [if_neg h1]
    split at h
    · rename_i h2; rw [if_pos h2]
      obtain ⟨vb, e, ho⟩ := h
      exact ⟨vb, e, ho.below hb⟩
    · rename_i h2; rw [if_neg h2]; exact h

theorem Vo.plain {l : List Value} {base : Nat} {D : List Nat} {p q : Nat} {mk : Value → Value} {i : Nat} {v y : Value} {w : World} (h : Vo l base D p q mk i v w) (h1 : i ≠ p) (h2 : i ≠ q) (hy : l[i]? = some y) : v = y := by
  unfold Vo at h
  rw [if_neg h1, if_neg h2, hy] at h
  exact (Option.some.inj h).symm

theorem wp_stillO {P : Program} {o : Oper} {a : Act} {W w : World} {Q : Exit → Act → World → Prop} {l : List Value} {base : Nat} {D : List Nat} {p q : Nat} {mk : Value → Value} {i : Nat} {t : Tmp} {v : Value} (hr : (execOp a.eval o).run P w = .ok (.value v) w) (ht : o.dst = some t) (h1 : i ≠ p) (h2 : i ≠ q) (hv : l[i]? = some v) (hW : Below W.heap.size W w) :
    o.wp P a w (fun a' w' => ∃ v', a' = a.put (some t) v' ∧ Vo l base D p q mk i v' w' ∧ Below W.heap.size W w' ∧ Below w.heap.size w w') Q :=
  wp_val hr (by rw [ht]; exact ⟨v, rfl, by unfold Vo; rw [if_neg h1, if_neg h2]; exact hv, hW, Below.refl _ _⟩)

theorem rparse_good (v : Value) (L : List Nat) (w : World) (hv : SeesB w v L) (he : Im.prE L = 0) :
    Calls Tryd.prog 16 #[v] w fun e w' => ∃ vb, e = .returned (.tuple #[.agg (ctCells (Im.prC L) vb), .int .i64 0]) ∧ SeesB w' vb (Im.prC L).B ∧ Below w.heap.size w w' := by
  have hC : Im.prC L = ⟨byt L 0, byt L 1, Im.rest4 L, L.drop 8⟩ := by unfold Im.prC; rw [if_pos he]; rfl
  have hr4 : Im.rest4 L = (byt L 4 * 256 + byt L 5) * 65536 + (byt L 6 * 256 + byt L 7) := rfl
  rw [hC, hr4]
  obtain ⟨w1, hw1⟩ : ∃ w1, w1 = (w.alloc (.cells zeroC 29)).alloc (.cells zeroC 29) := ⟨_, rfl⟩
  have hb1 : Below w.heap.size w w1 := by rw [hw1]; exact ((Below.refl _ _).alloc (Nat.le_refl _) _).alloc (by simp) _
  have hs1 : w1.heap.size = w.heap.size + 2 := by rw [hw1]; simp
  have hk0 : w1.heap[w.heap.size]? = some (.cells zeroC 29) := by
    rw [hw1, Below.heap_alloc _ _ _ (by simp)]; exact heap_alloc_new w _
  obtain ⟨ao, n, cap, rfl, HN, hn1, hn2⟩ := hv.shape
  unfold maxLen at hn2
  have h8 : 8 ≤ n ∧ n ≤ 65515 ∧ M.csum L = 0 := by
    rw [HN.out]
    unfold Im.prE at he
    split at he
    · cases he
    · split at he
      · cases he
      · split at he
        · omega
        · cases he
  obtain ⟨h8, hB, hc⟩ := h8
  have hs := seesBB_one (w := w1) rfl _ _ (hv.below hb1) 26
  have HSM0 := sum_ref _ _ _ hs (by simp; have := HN.out; omega)
  rw [show [L].flatten = L by simp, hc] at HSM0
  have HSM : Hid (Calls Tryd.prog 35 #[.slice (some ⟨w1.heap.size, 0, none⟩) 1 1] (w1.alloc (.cells #[.slice ao n cap] 26)) fun e w' => e = .returned (.int .u16 0) ∧ Below w1.heap.size w1 w') := by
    refine HSM0.mono ?_
    rintro e w' ⟨rfl, hb⟩
    have hbA : Below w1.heap.size w1 (w1.alloc (.cells #[.slice ao n cap] 26)) := (Below.refl w1.heap.size w1).alloc (Nat.le_refl _) _
    exact ⟨rfl, hbA.trans (hb.mono hbA.size)⟩
  obtain ⟨a8, HS8, hl8⟩ := hv.low 8 8 rfl (by omega)
  obtain ⟨g0, off, rfl, hg0, hc0⟩ := hv.atB 0 (by omega)
  have hcell : ∀ j, j < n → w.cell? ⟨g0, off + j, none⟩ = some (.int .u8 ((byt L j : Nat) : Int)) := fun j hj => by
    obtain ⟨g1, off1, he1, _, hc1⟩ := hv.atB j hj
    simp at he1
    obtain ⟨rfl, rfl⟩ := he1
    exact hc1
  have hlt := fun j => byt_lt hv.bytes j
  have HLL : Hid ((L.drop 8).length ≤ 65535) := by unfold Hid; rw [List.length_drop]; have := HN.out; omega
  have HSV := hid hv
  have HW1 : Hid (w1 = (w.alloc (.cells #[.int .u8 0, .int .u8 0, .int .u32 0, .slice none 0 0] 29)).alloc (.cells #[.int .u8 0, .int .u8 0, .int .u32 0, .slice none 0 0] 29)) := hw1
  have HB1 := hid hb1
  have HTH : Hid (∀ u, Below w1.heap.size w1 u → u.there w.heap.size 0 4) := fun u hu =>
    there_blk (C := zeroC) (t := 29) ((hu.block _ (by omega)).trans hk0) rfl
  have HS1 := hid hs1
  have HCE : Hid (∀ u, Below w1.heap.size w1 u → ∀ j, j < n → u.cell? ⟨g0, off + j, none⟩ = some (.int .u8 ((byt L j : Nat) : Int))) := fun u hu j hj =>
    ((HB1.out.trans (hu.mono HB1.out.size)).cell (p := ⟨g0, off + j, none⟩) hg0).trans (hcell j hj)
  have q4 := hlt 4
  have q5 := hlt 5
  have q6 := hlt 6
  have q7 := hlt 7
  have HC6 : Hid (∀ u, Below w1.heap.size w1 u → u.cell? ⟨g0, off, none⟩ = some (.int .u8 ((byt L 0 : Nat) : Int)) ∧ u.cell? ⟨g0, off + 1, none⟩ = some (.int .u8 ((byt L 1 : Nat) : Int)) ∧ u.cell? ⟨g0, off + 4, none⟩ = some (.int .u8 ((byt L 4 : Nat) : Int)) ∧ u.cell? ⟨g0, off + 5, none⟩ = some (.int .u8 ((byt L 5 : Nat) : Int)) ∧ u.cell? ⟨g0, off + 6, none⟩ = some (.int .u8 ((byt L 6 : Nat) : Int)) ∧ u.cell? ⟨g0, off + 7, none⟩ = some (.int .u8 ((byt L 7 : Nat) : Int))) := fun u hu =>
    ⟨by have := HCE.out u hu 0 (by omega); rwa [Nat.add_zero] at this, HCE.out u hu 1 (by omega), HCE.out u hu 4 (by omega), HCE.out u hu 5 (by omega), HCE.out u hu 6 (by omega), HCE.out u hu 7 (by omega)⟩
  clear hw1 hb1 hs1 hv hs HSM0 hc hC he hk0 hcell hlt hr4 hc0 HCE
  generalize byt L 4 = x4 at *
  generalize byt L 5 = x5 at *
  generalize byt L 6 = x6 at *
  generalize byt L 7 = x7 at *
  generalize byt L 0 = x0 at *
  generalize byt L 1 = x1 at *
  go_enter Tryd.func16, Tryd.ntmps16
  go_upto_region 2 with fail
  rw [← HW1.out]
  go_wp2_with fail
  refine HSM.out.mono ?_
  rintro _ w2 ⟨rfl, hb2⟩
  obtain ⟨d0, d1, d4, d5, d6, d7⟩ := HC6.out w2 hb2
  have b0 : (0 : Int) < (n : Int) := by omega
  have b4 : (4 : Int) < (n : Int) := by omega
  have b5 : (5 : Int) < (n : Int) := by omega
  have b6 : (6 : Int) < (n : Int) := by omega
  have b7 : (7 : Int) < (n : Int) := by omega
  have HB2 := hid hb2
  have HD := hid (And.intro d0 d1)
  clear hb2 HSM HC6 d0 d1
  go_wp2_with fail
  refine wp_loop_rounds 5 ?_
  rw [rounds_succ]
  go_wp2_with fail
  rw [rounds_succ]
  go_wp2_with fail
  rw [rounds_succ]
  go_wp2_with fail
  rw [rounds_succ]
  go_wp2_with fail
  rw [rounds_succ]
  go_wp2_with fail
  obtain ⟨r, hr⟩ : ∃ r : Nat, r = (x4 * 256 + x5) * 65536 + (x6 * 256 + x7) := ⟨_, rfl⟩
  have HR := hid hr
  have hrl : r < 4294967296 := by omega
  rw [show (256 * (256 * (256 * (x4 : Int) + (x5 : Int)) + (x6 : Int)) + (x7 : Int)) = (r : Int) by omega]
  have HCL : Hid (∀ u, Below w2.heap.size w2 u → Calls Tryd.prog 36 #[.slice a8 (n - 8) (cap - 8)] u fun e w' => ∃ v', e = .returned v' ∧ OwnB w' u.heap.size v' (L.drop 8) ∧ Below u.heap.size u w') := fun u hu => by
    have hb := HB1.out.trans ((HB2.out.trans (hu.mono HB2.out.size)).mono HB1.out.size)
    exact clone6_any _ (L.drop 8) u (HS8.out.below hb) (by have := HLL.out; omega)
  have HBS : Hid (∀ x ∈ L.drop 8, x < 256) := fun x hx => HSV.out.bytes x (List.mem_of_mem_drop hx)
  clear d4 d5 d6 d7 hr
  refine wp_region_mono' 12 (fun i => 32 + i) (Vo [.slice (some ⟨g0, off, none⟩) n cap, .pointer (some ⟨g0, off, none⟩), .int .u8 (x0 : Int), .slice (some ⟨g0, off, none⟩) n cap, .pointer (some ⟨g0, off + 1, none⟩), .int .u8 (x1 : Int), .int .i64 (r : Int), .int .u32 (r : Int), .slice (some ⟨g0, off, none⟩) n cap, .slice a8 (n - 8) (cap - 8)] w2.heap.size (L.drop 8) 10 11 (fun vb => .agg #[.int .u8 (x0 : Int), .int .u8 (x1 : Int), .int .u32 (r : Int), vb])) (by kernel_rfl) (by kernel_rfl) (Vo.keeps _ _ _ _ _ _) ?_ ?_
  · simp only [List.take_succ_cons, List.take_zero, stepsOk]
    refine ⟨?_, ?_, ?_, ?_, ?_, ?_, ?_, ?_, ?_, ?_, ?_, ?_, trivial⟩
    · intro a u vs hb hold hdep
      exact wp_stillO (ex_move (.tmp 0) _ rfl (hold 0 (fun j _ => low (by decide)))) rfl (by decide) (by decide) rfl hb
    · intro a u vs hb hold hdep
      have h := hdep ⟨0, .data⟩ (by simp) rfl (by decide)
      exact wp_stillO (ex_index _ _ _ _ _ _ rfl (h.1.trans (h.2.plain (by decide) (by decide) rfl)) rfl (idx_at n cap g0 off 0 0 rfl (by omega) u)) rfl (by decide) (by decide) rfl hb
    · intro a u vs hb hold hdep
      have h := hdep ⟨1, .data⟩ (by simp) rfl (by decide)
      exact wp_stillO (ex_load _ _ _ _ rfl (h.1.trans (h.2.plain (by decide) (by decide) rfl)) (load_u8 ((hb.cell (p := ⟨g0, _, none⟩) (World.block_lt_of_cell? w2 _ HD.out.1)).trans HD.out.1))) rfl (by decide) (by decide) rfl hb
    · intro a u vs hb hold hdep
      exact wp_stillO (ex_move (.tmp 0) _ rfl (hold 0 (fun j _ => low (by decide)))) rfl (by decide) (by decide) rfl hb
    · intro a u vs hb hold hdep
      have h := hdep ⟨3, .data⟩ (by simp) rfl (by decide)
      exact wp_stillO (ex_index _ _ _ _ _ _ rfl (h.1.trans (h.2.plain (by decide) (by decide) rfl)) rfl (idx_at n cap g0 off 1 1 rfl (by omega) u)) rfl (by decide) (by decide) rfl hb
    · intro a u vs hb hold hdep
      have h := hdep ⟨4, .data⟩ (by simp) rfl (by decide)
      exact wp_stillO (ex_load _ _ _ _ rfl (h.1.trans (h.2.plain (by decide) (by decide) rfl)) (load_u8 ((hb.cell (p := ⟨g0, _, none⟩) (World.block_lt_of_cell? w2 _ HD.out.2)).trans HD.out.2))) rfl (by decide) (by decide) rfl hb
    · intro a u vs hb hold hdep
      exact wp_stillO (ex_move (.tmp 5) _ rfl (hold 5 (fun j _ => low (by decide)))) rfl (by decide) (by decide) rfl hb
    · intro a u vs hb hold hdep
      have h := hdep ⟨6, .data⟩ (by simp) rfl (by decide)
      exact wp_stillO (ex_conv _ _ _ _ _ rfl (h.1.trans (h.2.plain (by decide) (by decide) rfl)) (conv32 r hrl u)) rfl (by decide) (by decide) rfl hb
    · intro a u vs hb hold hdep
      exact wp_stillO (ex_move (.tmp 0) _ rfl (hold 0 (fun j _ => low (by decide)))) rfl (by decide) (by decide) rfl hb
    · intro a u vs hb hold hdep
      have h := hdep ⟨8, .data⟩ (by simp) rfl (by decide)
      exact wp_stillO (ex_cut _ _ _ _ _ _ rfl (h.1.trans (h.2.plain (by decide) (by decide) rfl)) rfl (hl8 u)) rfl (by decide) (by decide) rfl hb
    · intro a u vs hb hold hdep
      have h := hdep ⟨9, .data⟩ (by simp) rfl (by decide)
      have e1 : a.eval (.tmp 41) = .slice a8 (n - 8) (cap - 8) := h.1.trans (h.2.plain (by decide) (by decide) rfl)
      refine wp_call 36 _ _ rfl (enters_of Tryd.func36 (by kernel_rfl) rfl) #[.slice a8 (n - 8) (cap - 8)] (by simp only [List.map_toArray, List.map_cons, List.map_nil, e1]) ?_
      refine (HCL.out u hb).mono ?_
      rintro _ u' ⟨v', rfl, ho, hb'⟩
      exact ⟨_, rfl, _, rfl, (by unfold Vo; rw [if_pos rfl]; exact OwnB.mono ho hb.size), hb.trans (hb'.mono hb.size), hb'⟩
    · intro a u vs hb hold hdep
      have h2 := hdep ⟨2, .data⟩ (by simp) rfl (by decide)
      have h5 := hdep ⟨5, .data⟩ (by simp) rfl (by decide)
      have h7 := hdep ⟨7, .data⟩ (by simp) rfl (by decide)
      have h10 := hdep ⟨10, .data⟩ (by simp) rfl (by decide)
      have e2 : a.eval (.tmp 34) = .int .u8 (x0 : Int) := h2.1.trans (h2.2.plain (by decide) (by decide) rfl)
      have e5 : a.eval (.tmp 37) = .int .u8 (x1 : Int) := h5.1.trans (h5.2.plain (by decide) (by decide) rfl)
      have e7 : a.eval (.tmp 39) = .int .u32 (r : Int) := h7.1.trans (h7.2.plain (by decide) (by decide) rfl)
      have ho : OwnB u w2.heap.size (vs 10) (L.drop 8) := by have := h10.2; unfold Vo at this; rwa [if_pos rfl] at this
      obtain ⟨a1, n1, c1, hvv, _, _, _⟩ := (ho.sees HBS.out).shape
      have e10 : a.eval (.tmp 42) = .slice a1 n1 c1 := h10.1.trans hvv
      rw [hvv] at ho
      exact wp_val (ex_build _ _ #[(0, .int .u8 (x0 : Int)), (1, .int .u8 (x1 : Int)), (2, .int .u32 (r : Int)), (3, .slice a1 n1 c1)] (.agg #[.int .u8 (x0 : Int), .int .u8 (x1 : Int), .int .u32 (r : Int), .slice a1 n1 c1]) rfl (by simp only [List.map_toArray, List.map_cons, List.map_nil, e2, e5, e7, e10]) (build_ct _ _ _ _ _ _ u))
        ⟨_, rfl, (by unfold Vo; rw [if_neg (by decide), if_pos rfl]; exact ⟨_, rfl, ho⟩), hb, Below.refl _ _⟩
  intro vs u hb hF
  have e0 := (hF 0 (by decide)).plain (by decide) (by decide) rfl
  have e1 := (hF 1 (by decide)).plain (by decide) (by decide) rfl
  have e2 := (hF 2 (by decide)).plain (by decide) (by decide) rfl
  have e3 := (hF 3 (by decide)).plain (by decide) (by decide) rfl
  have e4 := (hF 4 (by decide)).plain (by decide) (by decide) rfl
  have e5 := (hF 5 (by decide)).plain (by decide) (by decide) rfl
  have e6 := (hF 6 (by decide)).plain (by decide) (by decide) rfl
  have e7 := (hF 7 (by decide)).plain (by decide) (by decide) rfl
  have e8 := (hF 8 (by decide)).plain (by decide) (by decide) rfl
  have e9 := (hF 9 (by decide)).plain (by decide) (by decide) rfl
  obtain ⟨vb, e11, ho⟩ : ∃ vb, vs 11 = .agg #[.int .u8 (x0 : Int), .int .u8 (x1 : Int), .int .u32 (r : Int), vb] ∧ OwnB u w2.heap.size vb (L.drop 8) := by
    have := hF 11 (by decide)
    unfold Vo at this
    rwa [if_neg (by decide), if_pos rfl] at this
  obtain ⟨a1, n1, c1, rfl, _, _, _⟩ := (ho.sees HBS.out).shape
  obtain ⟨zz, hzz⟩ : ∃ zz : Array Value, zz = #[.int .u8 (x0 : Int), .int .u8 (x1 : Int), .int .u32 (r : Int), .slice a1 n1 c1] := ⟨_, rfl⟩
  rw [← hzz] at e11
  simp only [List.drop_succ_cons, List.drop_zero, puts, List.range, List.range.loop, List.foldr, if_true, Act.put, e0, e1, e2, e3, e4, e5, e6, e7, e8, e9, e11, Nat.reduceAdd, List.setIfInBounds_toArray, List.set_cons_succ, List.set_cons_zero]
  generalize vs 10 = v10
  clear e0 e1 e2 e3 e4 e5 e6 e7 e8 e9 e11 hF
  have HZ := hid hzz
  have HONE : Hid (zz.all (·.oneCell') = true) := by unfold Hid; rw [hzz]; simp [Value.oneCell']
  have HINF : Hid ((Tryd.prog.info? 29).map (·.size) = some zz.size) := by unfold Hid; rw [hzz]; exact size_ct
  have hb12 := HB2.out.trans (hb.mono HB2.out.size)
  have HTU : Hid (u.there w.heap.size 0 zz.size) := by unfold Hid; rw [hzz]; exact HTH.out _ hb12
  have HLV := hid (load_cell HTU.out Tryd.underlying29 HINF.out)
  have HBF := hid (below_setCells (Nat.le_refl _) zz.toList 0 u (HB1.out.trans (hb12.mono HB1.out.size)))
  have HSF : Hid (SeesB (u.setCells w.heap.size 0 zz.toList) (.slice a1 n1 c1) (L.drop 8)) := by
    refine sees_setI (ho.sees HBS.out) (fun a ha => ?_)
    have h1 := (World.ownsRow.lt ho a.block (by rw [ha]; rfl)).1
    have := HB2.out.size
    have := HS1.out
    omega
  clear hzz ho hb12
  go_wp2_with (first
    | (refine wpList_store_mid rfl 29 (.tmp 2) (.tmp 43) rfl w.heap.size 0 zz rfl rfl HTU.out HINF.out HONE.out ?_)
    | fail)
  generalize u.setCells w.heap.size 0 zz.toList = wf at HLV HBF HSF ⊢
  refine bodyPost_ret (v := .tuple #[.agg zz, .int .i64 0]) (by simp [results, Tryd.results16, asAddr, HLV.out]) rfl ?_
  exact ⟨_, by rw [HZ.out, HR.out]; rfl, HSF.out, HBF.out⟩

theorem rparse_any (v : Value) (L : List Nat) (w : World) (hv : SeesB w v L) :
    Calls Tryd.prog 16 #[v] w fun e w' => ∃ ao n cap, e = .returned (.tuple #[.agg (ctCells (Im.prC L) (.slice ao n cap)), .int .i64 (Im.prE L)]) ∧ SeesB w' (.slice ao n cap) (Im.prC L).B ∧ Below w.heap.size w w' := by
  by_cases he : Im.prE L = 0
  · refine (rparse_good v L w hv he).mono ?_
    rintro e w' ⟨vb, rfl, hs, hb⟩
    rw [he]
    obtain ⟨a1, n1, c1, rfl, _, _, _⟩ := hs.shape
    exact ⟨_, _, _, rfl, hs, hb⟩
  · refine (rparse_bad v L w hv he).mono ?_
    rintro e w' ⟨rfl, hb⟩
    have hc : Im.prC L = Im.none0 := by unfold Im.prC; rw [if_neg he]
    rw [hc]
    exact ⟨none, 0, 0, rfl, sees_nil _, hb⟩
end Go.Proofs.YtcboenmmkaochabDoor.N
