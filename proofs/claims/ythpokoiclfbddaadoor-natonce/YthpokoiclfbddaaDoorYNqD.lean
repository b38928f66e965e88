import Derived.Test.YthpokoiclfbddaaDoorYNqC
namespace Go.Proofs.YthpokoiclfbddaaDoor.Nq
open Go.Proofs.YthpokoiclfbddaaDoor Go.ChangeShapes Go.WideShapes Go.ChangeAt Go.RowKit Go.Maps Fl
open Go.Proofs.YthpokoiclfbddaaDoor.N hiding But But.set But.of_below But.refl But.trans But.below But.drew wpList_ld
set_option maxHeartbeats 4000000
set_option maxRecDepth 100000

def mz (X : List Nat) : List Nat := if X.all (· == 0) then p16 X 2 65535 else X
theorem mz_len (X : List Nat) : (mz X).length = X.length := by unfold mz; split <;> simp [p16_len]
theorem mz_lt {X : List Nat} (h : ∀ x ∈ X, x < 256) : ∀ x ∈ mz X, x < 256 := by
  unfold mz; split
  · exact p16_lt h (by omega)
  · exact h
theorem mend_any (g n c : Nat) (X : List Nat) (w : World) (hB : Bk w g c X) (hn : n = X.length) (h4 : 4 ≤ n) (hc : n ≤ c) (hm : n ≤ 140737488355328) :
    Calls Tryd.prog 37 #[.slice (some ⟨g, 0, none⟩) n c] w fun e w' => e = .returned (.tuple #[]) ∧ Bk w' g c (mz X) ∧ But g w w' := by
  have HC2 := cutm g 0 n c 2 2 rfl (by omega) hc (by omega)
  have HCE : Hid (∀ i, i < n → w.cell? ⟨g, i, none⟩ = some (.int .u8 ((byt X i : Nat) : Int))) := fun i hi => hB.cell (by omega)
  have HNO : Hid (∀ i, i < n → byt X i ≠ 0 → Bk w g c (mz X)) := fun i hi h0 => by
    have : mz X = X := by
      unfold mz
      rw [if_neg]
      intro e
      rw [List.all_eq_true] at e
      have := e (byt X i) (by unfold byt; rw [List.getD_eq_getElem?_getD, List.getElem?_eq_getElem (by omega)]; exact List.getElem_mem _)
      simp at this
      exact h0 this
    rw [this]; exact hB
  have HWR : Hid ((∀ i, i < n → byt X i = 0) → Calls Tryd.prog 58 #[.slice (some ⟨g, 0 + 2, none⟩) (n - 2) (c - 2), .int .u16 65535] w fun e w' => e = .returned (.tuple #[]) ∧ Bk w' g c (mz X) ∧ But g w w') := fun h0 => by
    have := write16_any g (0 + 2) (n - 2) (c - 2) c 65535 X w hB (by omega) (by omega) (by omega)
    refine this.mono fun e w' ⟨a1, a2, a3⟩ => ⟨a1, ?_, a3⟩
    have : mz X = p16 X 2 65535 := by
      unfold mz
      rw [if_pos]
      rw [List.all_eq_true]
      intro x hx
      obtain ⟨i, hi, rfl⟩ := List.getElem_of_mem hx
      have := h0 i (by omega)
      unfold byt at this
      rw [List.getD_eq_getElem?_getD, List.getElem?_eq_getElem hi] at this
      simpa using this
    rw [this]; exact a2
  have HZ0 : Hid (∀ i, i < 0 → byt X i = 0) := fun i hi => by omega
  clear hB hn hc
  go_enter Tryd.func37, Tryd.ntmps37
  go_wp2_with fail
  go_loopw [6] (fun iv wr => ∃ i : Nat, iv = .int .i64 (i : Int) ∧ i ≤ n ∧ wr = w ∧ Hid (∀ j, j < i → byt X j = 0)) (fun iv _ => match iv with | .int _ z => n - z.toNat | _ => 0)
  case atStart => exact ⟨0, rfl, Nat.zero_le _, rfl, HZ0⟩
  case round =>
    obtain ⟨i, rfl, hi, hwr, HZ⟩ := hrel
    obtain rfl : w = wr := hwr.symm
    by_cases hin : i < n
    · have h1 : (i : Int) < (n : Int) := by omega
      have h2 : (0 : Int) ≤ (i : Int) := by omega
      have h3 : decide ((i : Int) < 0) = false := by simp
      have ce := HCE.out i hin
      have wi : IntKind.i64.wrap ((i : Int) + 1) = ((i + 1 : Nat) : Int) := by rw [IntKind.wrap_i64]; omega
      have HNO' := hid (HNO.out i hin)
      have HZ2 : Hid (byt X i = 0 → ∀ j, j < i + 1 → byt X j = 0) := fun h0 j hj => by
        by_cases e : j = i
        · rw [e]; exact h0
        · exact HZ.out j (by omega)
      generalize byt X i = v at *
      by_cases hv : v = 0
      · subst hv
        have HZ3 := hid (HZ2.out rfl)
        go_wp2_with fail
        go_roundw
        case rel => exact ⟨i + 1, rfl, by omega, by first | rfl | trivial, HZ3⟩
        case measure => simp; omega
      · have q : ((v : Int) != 0) = true := by simp; omega
        have HF := hid (HNO'.out hv)
        clear hv
        go_wp2_with fail
        exact bodyPost_ret (results_none Tryd.results37 _ _ _) rfl ⟨by first | rfl | trivial, HF.out, But.refl _ _⟩
    · have h1 : ¬ (i : Int) < (n : Int) := by omega
      have HW := hid (HWR.out fun j hj => HZ.out j (by omega))
      go_wp2_with fail
      refine HW.out.mono ?_
      rintro _ w2 ⟨rfl, a1, a2⟩
      have HF := hid (And.intro a1 a2)
      clear a1 a2
      go_wp2_with fail
      exact bodyPost_end (results_none Tryd.results37 _ _ _) rfl ⟨by first | rfl | trivial, HF.out⟩

/-! ### Turn -/
theorem wpList_val {ops : Array Oper} {Q : Exit → Act → World → Prop} {a : Act} {w : World} {rest : List Oper} {o : Oper} {v : Value} (hr : (execOp a.eval o).run Tryd.prog w = .ok (.value v) w)
    (hw : Region.wanted o (yielded ops a.tmps) = true) (h : wpList Tryd.prog ops Q rest (a.put o.dst v) w) : wpList Tryd.prog ops Q (o :: rest) a w := by
  refine wpList_step fun K hK => ?_
  rw [if_pos hw]
  unfold Oper.wp
  rw [hr]
  exact hK _ _ h
def nzH : Hd := ⟨0, 0, false, false, 0, 0, 0, 0, 0, []⟩
def trE (h : Hd) (B : List Nat) (t : Tu) : Int := if refE h B.length ≠ 0 then refE h B.length else if rdE h B = 0 ∧ kindT (ofT h B) t = true then 0 else 230
def trX (h : Hd) (B : List Nat) (t : Tu) : List Nat := if (ofT h B).p = 1 ∧ (ofT h B).sp ≠ t.sp then mz (tmL (ofT h B).p 0 B.length B (ofT h B) t) else tmL (ofT h B).p 0 B.length B (ofT h B) t
def trH (h : Hd) (B : List Nat) (t : Tu) : Hd := if trE h B t = 0 then hdU h t.s t.d else nzH
def trB (h : Hd) (B : List Nat) (t : Tu) : List Nat := if trE h B t = 0 then trX h B t else []
theorem build_zpk (u : World) : (Instr.build 36 #[]).run Tryd.prog u = .ok (.agg (pkCells nzH (.slice none 0 0) (.slice none 0 0))) u := by kernel_rfl
theorem build_pk (h : Hd) (a1 a2 : Option Addr) (n1 c1 n2 c2 : Nat) (u : World) : (Instr.build 36 #[(0, .agg (hdCells h (.slice a1 n1 c1))), (1, .slice a2 n2 c2)]).run Tryd.prog u = .ok (.agg (pkCells h (.slice a1 n1 c1) (.slice a2 n2 c2))) u := by kernel_rfl
theorem pk_oneq (h : Hd) (a1 a2 : Option Addr) (n1 c1 n2 c2 : Nat) : (pkCells h (.slice a1 n1 c1) (.slice a2 n2 c2)).all (·.oneCell') = true := by simp [pkCells, Value.oneCell']
theorem pk_lv {u : World} {n : Nat} {h : Hd} {vo vb : Value} {r : Nat × Nat} (hb : u.heap[n]? = some (.cells (pkCells h vo vb) 36 r)) : (loadVar 36 ⟨n, 0, none⟩).run Tryd.prog u = .ok (.agg (pkCells h vo vb)) u := by
  obtain ⟨fs, hu⟩ := und29
  exact lv_at (cs := (pkCells h vo vb).toList) hb rfl hu rfl (by kernel_rfl)
theorem pk_ldH {u : World} {n : Nat} {h : Hd} {vo vb : Value} {r : Nat × Nat} (hb : u.heap[n]? = some (.cells (pkCells h vo vb) 36 r)) : (Instr.loadAt 34 (.pointer (some ⟨n, 0, none⟩))).run Tryd.prog u = .ok (.agg (hdCells h vo)) u := by
  obtain ⟨fs, hu⟩ := und27
  exact load_at (cs := (hdCells h vo).toList) hb rfl hu rfl (by kernel_rfl)
theorem ofT_ok {h : Hd} (hok : h.Ok) {B : List Nat} (hb : ∀ x ∈ B, x < 256) : (ofT h B).Ok := by
  unfold ofT
  cases hc : rdC h B with
  | none => exact zTu_ok
  | some c =>
    have := rdC_ok hb hc
    simp only
    cases c with
    | dg s d => exact ⟨hok.src, hok.dst, hok.proto, this.1, this.2⟩
    | ec n r => exact ⟨hok.src, hok.dst, hok.proto, this, this⟩
    | sg s d f => exact ⟨hok.src, hok.dst, hok.proto, this.1, this.2.1⟩
theorem rdE_kind {h : Hd} {B : List Nat} (e : rdE h B = 0) : ((ofT h B).p = 17 ∨ (ofT h B).p = 6 ∨ (ofT h B).p = 1) ∧ 8 ≤ B.length ∧ (ofT h B).p = h.proto ∧ ((ofT h B).p = 6 → 20 ≤ B.length) := by
  obtain ⟨c, hc⟩ := rdE_zero e
  have hrc : rdC h B = some c := by unfold rdC; rw [if_pos e]; exact hc
  have hp : (ofT h B).p = h.proto := by unfold ofT; rw [hrc]; rfl
  have hk : h.proto = 17 ∨ h.proto = 6 ∨ h.proto = 1 := by
    unfold contC at hc
    split at hc
    · omega
    · split at hc
      · omega
      · split at hc
        · omega
        · cases hc
  have hl : ¬ B.length < least h.proto := fun hlt => by
    unfold rdE at e
    split at e
    · contradiction
    · split at e
      · cases e
      · simp at e
  rw [hp]
  refine ⟨hk, ?_, rfl, fun h6 => ?_⟩
  · unfold least at hl
    rcases hk with k | k | k <;> rw [k] at hl <;> simp at hl <;> omega
  · unfold least at hl
    rw [h6] at hl
    simp at hl
    omega

/-- Three boxes, made one behind the other. -/
theorem box3 (w : World) (A C D : Array Value) (T T' T2 : TypeId) : ∃ w0 : World, w0 = ((w.alloc (.cells A T)).alloc (.cells C T')).alloc (.cells D T2) ∧ Below w.heap.size w w0 ∧ w0.heap[w.heap.size]? = some (.cells A T (0, 0)) ∧ w0.heap[w.heap.size + 1]? = some (.cells C T' (0, 0)) ∧ w0.heap[w.heap.size + 2]? = some (.cells D T2 (0, 0)) := by
  obtain ⟨w1, h1, h2, h3, h4⟩ := box2 w A C T T'
  rw [← h1]
  have hs : w1.heap.size = w.heap.size + 2 := by rw [h1]; simp
  have hb : Below w1.heap.size w1 (w1.alloc (.cells D T2)) := (Below.refl _ _).alloc (Nat.le_refl _) _
  refine ⟨_, rfl, h2.trans (hb.mono h2.size), below_keeps hb h3 (by omega), below_keeps hb h4 (by omega), ?_⟩
  have := heap_alloc_new w1 (.cells D T2)
  rw [hs] at this
  exact this

theorem turn_any (h : Hd) (vo vb : Value) (B : List Nat) (t : Tu) (w : World) (hok : h.Ok) (ht : t.Ok) (hvo : SeesB w vo h.opts) (hvb : SeesB w vb B) (hlo : h.opts.length ≤ 140737488355328) (hlb : B.length ≤ 140737488355328) :
    Calls Tryd.prog 18 #[.agg (pkCells h vo vb), .agg t.cells] w fun e w' => ∃ vo' vb', e = .returned (.tuple #[.agg (pkCells (trH h B t) vo' vb'), .int .i64 (trE h B t)]) ∧ SeesB w' vo' (trH h B t).opts ∧ SeesB w' vb' (trB h B t) ∧ Below w.heap.size w w' := by
  obtain ⟨w0, hw0, hb0, r0, r1, r2⟩ := box3 w (pkCells h vo vb) t.cells (pkCells nzH (.slice none 0 0) (.slice none 0 0)) 36 38 36
  obtain ⟨b, HB⟩ : ∃ b, Hid (b = w.heap.size) := ⟨_, rfl⟩
  have HW0 := hid hw0
  rw [← HB.out] at r0 r1 r2
  have hl2 := (Array.getElem?_eq_some_iff.1 r2).1
  have HK : Hid (∀ u, Below w0.heap.size w0 u → u.heap[b]? = some (.cells (pkCells h vo vb) 36 (0, 0)) ∧ TuB u (b + 1) t ∧ u.heap[b + 2]? = some (.cells (pkCells nzH (.slice none 0 0) (.slice none 0 0)) 36 (0, 0))) := fun u hu =>
    ⟨below_keeps hu r0 (by omega), tub (below_keeps hu r1 (by omega)), below_keeps hu r2 (by omega)⟩
  have HB0 := hid hb0
  have HZC : Hid (#[.int .u8 0, .int .u16 0, .bool false, .bool false, .int .i64 0, .int .u8 0, .int .u8 0, .int .u32 0, .int .u32 0, .slice none 0 0, .slice none 0 0] = pkCells nzH (.slice none 0 0) (.slice none 0 0)) := rfl
  have HBD := hid (build_code h vo vb B w0 hok (hvo.below hb0) (hvb.below hb0) hlo hlb)
  have HOF : Hid (∀ u, Below w0.heap.size w0 u → Calls Tryd.prog 28 #[.agg (pkCells h vo vb)] u fun e w' => e = .returned (.tuple #[.agg (ofT h B).cells, .int .i64 (rdE h B)]) ∧ Below u.heap.size u w') := fun u hu => of_any h vo vb B u hok (hvo.below (hb0.trans (hu.mono hb0.size))) (hvb.below (hb0.trans (hu.mono hb0.size))) hlo hlb
  have HPLD : Hid (∀ u, Below w0.heap.size w0 u → (Instr.loadAt 36 (.pointer (some ⟨b, 0, none⟩))).run Tryd.prog u = .ok (.agg (pkCells h vo vb)) u ∧ (Instr.loadAt 34 (.pointer (some ⟨b, 0, none⟩))).run Tryd.prog u = .ok (.agg (hdCells h vo)) u ∧ u.cell? ⟨b, 10, none⟩ = some vb) := fun u hu => ⟨pk_load (HK.out u hu).1, pk_ldH (HK.out u hu).1, by rw [cell_of_row _ _ _ _ _ _ (HK.out u hu).1]; rfl⟩
  have L0 := hid (pk_load r0)
  have HLL : Hid (w.heap.size ≤ b ∧ b + 2 < w0.heap.size) := ⟨by rw [HB.out]; exact Nat.le_refl _, hl2⟩
  clear hw0 r0 r1 r2 hl2 hb0
  by_cases hE : refE h B.length = 0
  case neg =>
    obtain ⟨E, HE⟩ : ∃ E, Hid (E = refE h B.length) := ⟨_, rfl⟩
    have e1 : trE h B t = E := by unfold trE; rw [if_pos hE, HE.out]
    have hE0 : E ≠ 0 := by rw [HE.out]; exact hE
    have e2 : trH h B t = nzH := by unfold trH; rw [if_neg (by rw [e1]; exact hE0)]
    have e3 : trB h B t = [] := by unfold trB; rw [if_neg (by rw [e1]; exact hE0)]
    rw [← HE.out] at HBD
    rw [e1, e2, e3]
    have qE : (E != 0) = true := by simp [hE0]
    generalize pkCells h vo vb = pk at *
    clear hE e1 e2 e3 hE0
    go_enter Tryd.func18, Tryd.ntmps18
    go_upto_region 1 with fail
    rw [HZC.out, ← HW0.out, ← HB.out]
    go_wp2_with (first | (refine wpList_ld 36 ⟨b, 0, none⟩ (.tmp 2) rfl rfl L0.out rfl ?_) | fail)
    refine HBD.out.mono ?_
    rintro _ w1 ⟨ao, n1, cap1, rfl, -, hb1⟩
    have HB1 := hid hb1
    have HZ1 := hid (HK.out w1 hb1).2.2
    clear hb1
    go_wp2_with (first | (refine wpList_val (ex_build 36 _ #[] _ rfl rfl (build_zpk _)) rfl ?_) | (refine wpList_st rfl 36 (.tmp 4) (.tmp 18) rfl (b + 2) (pkCells nzH (.slice none 0 0) (.slice none 0 0)) rfl rfl _ (pkCells nzH (.slice none 0 0) (.slice none 0 0)) HZ1.out (by kernel_rfl) rfl (pk_oneq _ _ _ _ _ _ _) ?_; intro w2 hw2 hbut2) | fail)
    have hlv := pk_lv hw2
    have HF : Hid (Below w.heap.size w w2) := hbut2.below (HB0.out.trans (HB1.out.mono HB0.out.size)) (HB0.out.trans (HB1.out.mono HB0.out.size)).size (by have := HLL.out.1; omega)
    refine bodyPost_ret (v := .tuple #[.agg (pkCells nzH (.slice none 0 0) (.slice none 0 0)), .int .i64 E]) (by simp [results, Tryd.results18, asAddr, hlv]) rfl ?_
    exact ⟨_, _, rfl, sees_nil _, sees_nil _, HF.out⟩
  case pos =>
  rw [hE] at HBD
  obtain ⟨f, HFT⟩ : ∃ f, Hid (f = ofT h B) := ⟨_, rfl⟩
  obtain ⟨R, HR⟩ : ∃ R, Hid (R = rdE h B) := ⟨_, rfl⟩
  obtain ⟨kd, HKD⟩ : ∃ k, Hid (k = kindT f t) := ⟨_, rfl⟩
  have HFO : Hid f.Ok := by rw [HFT.out]; exact ofT_ok hok hvb.bytes
  rw [← HFT.out, ← HR.out] at HOF
  have HIK : Hid (∀ u, Calls Tryd.prog 34 #[.agg f.cells, .agg t.cells] u fun e w' => e = .returned (.bool kd) ∧ Below u.heap.size u w') := fun u => by rw [HKD.out]; exact isOfOneKind_any f t u
  by_cases hG : R = 0 ∧ kd = true
  case neg =>
    have hT : trE h B t = 230 := by
      unfold trE
      rw [if_neg (by simp [hE]), if_neg]
      rw [← HR.out, ← HFT.out, ← HKD.out]
      exact hG
    have e2 : trH h B t = nzH := by unfold trH; rw [hT, if_neg (by decide)]
    have e3 : trB h B t = [] := by unfold trB; rw [hT, if_neg (by decide)]
    rw [hT, e2, e3]
    have HG := hid hG
    generalize pkCells h vo vb = pk at *
    clear hE hT e2 e3 hG
    go_enter Tryd.func18, Tryd.ntmps18
    go_upto_region 1 with fail
    rw [HZC.out, ← HW0.out, ← HB.out]
    go_wp2_with (first | (refine wpList_ld 36 ⟨b, 0, none⟩ (.tmp 2) rfl rfl L0.out rfl ?_) | fail)
    refine HBD.out.mono ?_
    rintro _ w1 ⟨ao, n1, cap1, rfl, -, hb1⟩
    have HB1 := hid hb1
    have L1 := hid (HPLD.out w1 hb1).1
    have HOF1 := hid (HOF.out w1 hb1)
    clear hb1
    go_wp2_with (first | (refine wpList_ld 36 ⟨b, 0, none⟩ (.tmp 2) rfl rfl L1.out rfl ?_) | fail)
    refine HOF1.out.mono ?_
    rintro _ w2 ⟨rfl, hb2⟩
    have HB2 := hid (HB1.out.trans (hb2.mono HB1.out.size))
    clear hb2
    have HN2 : Hid ((w2.alloc (.cells #[.int .u32 0, .int .u32 0, .int .u8 0, .int .u16 0, .int .u16 0] 38)).heap[w2.heap.size]? = some (.cells zTu.cells 38 (0, 0))) := heap_alloc_new _ _
    go_upto_region 5 with (first | (refine wpList_st rfl 38 (.tmp 8) (.tmp 23) rfl w2.heap.size f.cells rfl rfl _ zTu.cells HN2.out (by kernel_rfl) rfl f.one ?_; intro w3 hw3 hbut3) | fail)
    have hb3 : Below w2.heap.size w2 w3 := hbut3.below ((Below.refl _ _).alloc (Nat.le_refl _) _) (by simp) (Nat.le_refl _)
    obtain ⟨g8, HG8⟩ : ∃ g, Hid (g = w2.heap.size) := ⟨_, rfl⟩
    rw [← HG8.out] at hw3 ⊢
    have HB3 := hid (HB2.out.trans (hb3.mono HB2.out.size))
    have HL8 := hid (load_tu hw3)
    have HLT := hid (HK.out w3 HB3.out).2.1.ld
    clear hw3 hb3 hbut3 HN2
    go_cut [32] from 11 (fun c wx => c = .bool true ∧ ∃ y, y = wx ∧ Hid (Below w0.heap.size w0 y))
    case first =>
      by_cases hR : R = 0
      · have hk : kd = false := by
          cases kd with
          | false => rfl
          | true => exact absurd ⟨hR, rfl⟩ HG.out
        subst hR
        subst hk
        go_wp2_with (first | (refine wpList_ld 38 ⟨g8, 0, none⟩ (.tmp 8) rfl rfl HL8.out rfl ?_) | (refine wpList_ld 38 ⟨b + 1, 0, none⟩ (.tmp 3) rfl rfl HLT.out rfl ?_) | fail)
        refine (HIK.out w3).mono ?_
        rintro _ w4 ⟨rfl, hb4⟩
        have HB4 := hid (HB3.out.trans (hb4.mono HB3.out.size))
        clear hb4
        go_wp2_with fail
        go_meet
        exact ⟨by first | rfl | simp, _, rfl, HB4⟩
      · have qR : (R != 0) = true := by simp [hR]
        clear hR
        go_wp2_with fail
        go_meet
        exact ⟨by first | rfl | simp, _, rfl, HB3⟩
    case rest =>
    obtain ⟨rfl, w4, hww, HB4⟩ := hcut
    obtain rfl : w4 = wc := hww
    have HZ4 := hid (HK.out w4 HB4.out).2.2
    go_wp2_with (first | (refine wpList_val (ex_build 36 _ #[] _ rfl rfl (build_zpk _)) rfl ?_) | (refine wpList_st rfl 36 (.tmp 4) (.tmp 33) rfl (b + 2) (pkCells nzH (.slice none 0 0) (.slice none 0 0)) rfl rfl _ (pkCells nzH (.slice none 0 0) (.slice none 0 0)) HZ4.out (by kernel_rfl) rfl (pk_oneq _ _ _ _ _ _ _) ?_; intro w5 hw5 hbut5) | fail)
    have hlv := pk_lv hw5
    have HBB := hid (HB0.out.trans (HB4.out.mono HB0.out.size))
    have HF : Hid (Below w.heap.size w w5) := hbut5.below HBB.out HBB.out.size (by have := HLL.out.1; omega)
    refine bodyPost_ret (v := .tuple #[.agg (pkCells nzH (.slice none 0 0) (.slice none 0 0)), .int .i64 230]) (by simp [results, Tryd.results18, asAddr, hlv]) rfl ?_
    exact ⟨_, _, rfl, sees_nil _, sees_nil _, HF.out⟩
  case pos =>
  obtain ⟨hR0, hkd⟩ := hG
  have hT : trE h B t = 0 := by
    unfold trE
    rw [if_neg (by simp [hE]), if_pos]
    rw [← HR.out, ← HFT.out, ← HKD.out]
    exact ⟨hR0, hkd⟩
  have e2 : trH h B t = hdU h t.s t.d := by unfold trH; rw [if_pos hT]
  have e3 : trB h B t = trX h B t := by unfold trB; rw [if_pos hT]
  rw [hT, e2, e3]
  obtain ⟨kp, k8, -, -⟩ := rdE_kind (h := h) (B := B) (by rw [← HR.out]; exact hR0)
  rw [← HFT.out] at kp
  obtain ⟨X1, HX1⟩ : ∃ X, Hid (X = tmL f.p 0 B.length B f t) := ⟨_, rfl⟩
  obtain ⟨X2, HX2⟩ : ∃ X, Hid (X = trX h B t) := ⟨_, rfl⟩
  have HXX : Hid (X2 = if f.p = 1 ∧ f.sp ≠ t.sp then mz X1 else X1) := by
    unfold Hid; rw [HX2.out, HX1.out, HFT.out]; rfl
  have hX1l : X1.length = B.length := by rw [HX1.out]; exact tmL_len _ _ _ _ _ _
  have hX2l : X2.length = B.length := by rw [HXX.out]; split <;> simp [mz_len, hX1l]
  have hX1b : ∀ x ∈ X1, x < 256 := by rw [HX1.out]; exact tmL_lt hvb.bytes ht
  have hX2b : ∀ x ∈ X2, x < 256 := by
    rw [HXX.out]; split
    · exact mz_lt hX1b
    · exact hX1b
  rw [← HX2.out]
  have HCL : Hid (∀ u, Below w0.heap.size w0 u → Calls Tryd.prog 35 #[vb] u fun e w' => ∃ g c, e = .returned (.slice (some ⟨g, 0, none⟩) B.length c) ∧ Bk w' g c B ∧ u.heap.size ≤ g ∧ B.length ≤ c ∧ Below u.heap.size u w') := fun u hu => by
    refine (clone_any vb B u (hvb.below (HB0.out.trans (hu.mono HB0.out.size))) hlb).mono fun e w' ⟨v', he, ho, hb⟩ => ?_
    rcases ho.2 with ⟨_, h0⟩ | ⟨g, cap, cur, rfl, _, _, h1, _⟩
    · omega
    · obtain ⟨a1, a2, -⟩ := Bk.of ho
      exact ⟨g, cap, he, a1, a2, h1, hb⟩
  have HTM : Hid (∀ g c u, Bk u g c B → B.length ≤ c → Calls Tryd.prog 36 #[.slice (some ⟨g, 0, none⟩) B.length c, .agg f.cells, .agg t.cells] u fun e w' => e = .returned (.tuple #[]) ∧ Bk w' g c X1 ∧ But g u w') := fun g c u hk hc => by
    have := turnMessage_any g 0 B.length c c B f t u hk hvb.bytes HFO.out ht k8 hc (by omega) kp
    rw [← HX1.out] at this
    exact this
  have HMZ : Hid (∀ g c u, Bk u g c X1 → B.length ≤ c → f.p = 1 ∧ f.sp ≠ t.sp → Calls Tryd.prog 37 #[.slice (some ⟨g, 0, none⟩) B.length c] u fun e w' => e = .returned (.tuple #[]) ∧ Bk w' g c X2 ∧ But g u w') := fun g c u hk hc hcd => by
    have := mend_any g B.length c X1 u hk hX1l.symm (by omega) hc hlb
    rw [HXX.out, if_pos hcd]
    exact this
  have HNM : Hid (¬ (f.p = 1 ∧ f.sp ≠ t.sp) → X2 = X1) := fun hcd => by rw [HXX.out, if_neg hcd]
  have HHU : Hid (∀ u, Below w.heap.size w u → Calls Tryd.prog 38 #[.agg (hdCells h vo), .int .u32 (t.s : Int), .int .u32 (t.d : Int)] u fun e w' => ∃ vo', e = .returned (.agg (hdCells (hdU h t.s t.d) vo')) ∧ OwnB w' u.heap.size vo' h.opts ∧ Below u.heap.size u w') := fun u hu => headUnder_any h vo t.s t.d u (hvo.below hu) hlo
  have HOB : Hid (∀ x ∈ h.opts, x < 256) := hvo.bytes
  have HXB : Hid (∀ (g c : Nat) (u : World), Bk u g c X2 → SeesB u (.slice (some ⟨g, 0, none⟩) B.length c) X2) := fun g c u hk => by
    have h0 := hk
    obtain ⟨_, _, _, h3, h4, _⟩ := hk
    have := h0.sees hX2b 0 B.length c (by omega) (by omega) h4
    rwa [List.drop_zero, List.take_of_length_le (by omega)] at this
  have HOPT : Hid ((hdU h t.s t.d).opts = h.opts) := rfl
  subst hkd
  subst hR0
  obtain ⟨N, HNB⟩ : ∃ N, Hid (N = B.length) := ⟨_, rfl⟩
  rw [← HNB.out] at HCL HTM HMZ HXB
  generalize pkCells h vo vb = pk at *
  generalize hdCells h vo = hcv at *
  clear hE hT e2 e3 hok ht hvo hvb hlo hlb kp k8 hX1l hX2l hX1b hX2b HX1 HX2 HXX HR HKD HFO HFT
  go_enter Tryd.func18, Tryd.ntmps18
  go_upto_region 1 with fail
  rw [HZC.out, ← HW0.out, ← HB.out]
  go_wp2_with (first | (refine wpList_ld 36 ⟨b, 0, none⟩ (.tmp 2) rfl rfl L0.out rfl ?_) | fail)
  refine HBD.out.mono ?_
  rintro _ w1 ⟨ao, n1, cap1, rfl, -, hb1⟩
  have HB1 := hid hb1
  have L1 := hid (HPLD.out w1 hb1).1
  have HOF1 := hid (HOF.out w1 hb1)
  clear hb1
  go_wp2_with (first | (refine wpList_ld 36 ⟨b, 0, none⟩ (.tmp 2) rfl rfl L1.out rfl ?_) | fail)
  refine HOF1.out.mono ?_
  rintro _ w2 ⟨rfl, hb2⟩
  have HB2 := hid (HB1.out.trans (hb2.mono HB1.out.size))
  clear hb2
  have HN2 : Hid ((w2.alloc (.cells #[.int .u32 0, .int .u32 0, .int .u8 0, .int .u16 0, .int .u16 0] 38)).heap[w2.heap.size]? = some (.cells zTu.cells 38 (0, 0))) := heap_alloc_new _ _
  go_upto_region 5 with (first | (refine wpList_st rfl 38 (.tmp 8) (.tmp 23) rfl w2.heap.size f.cells rfl rfl _ zTu.cells HN2.out (by kernel_rfl) rfl f.one ?_; intro w3 hw3 hbut3) | fail)
  have hb3 : Below w2.heap.size w2 w3 := hbut3.below ((Below.refl _ _).alloc (Nat.le_refl _) _) (by simp) (Nat.le_refl _)
  obtain ⟨g8, HG8⟩ : ∃ g, Hid (g = w2.heap.size) := ⟨_, rfl⟩
  rw [← HG8.out] at hw3 ⊢
  have HB3 := hid (HB2.out.trans (hb3.mono HB2.out.size))
  have HL8 := hid (load_tu hw3)
  have HLT := hid (HK.out w3 HB3.out).2.1.ld
  have HR8 : Hid (∀ u, Below w3.heap.size w3 u → TuB u g8 f) := fun u hu => tub (below_keeps hu hw3 (Array.getElem?_eq_some_iff.1 hw3).1)
  have HG8L : Hid (g8 < w3.heap.size) := (Array.getElem?_eq_some_iff.1 hw3).1
  clear hw3 hb3 hbut3 HN2
  go_wp2_with (first | (refine wpList_ld 38 ⟨g8, 0, none⟩ (.tmp 8) rfl rfl HL8.out rfl ?_) | (refine wpList_ld 38 ⟨b + 1, 0, none⟩ (.tmp 3) rfl rfl HLT.out rfl ?_) | fail)
  refine (HIK.out w3).mono ?_
  rintro _ w4 ⟨rfl, hb4⟩
  have HB43 := hid hb4
  have HB4 := hid (HB3.out.trans (hb4.mono HB3.out.size))
  clear hb4
  have ce10 := (HPLD.out w4 HB4.out).2.2
  go_wp2_with fail
  refine (HCL.out w4 HB4.out).mono ?_
  rintro _ w5 ⟨g, c, rfl, hk5, hg5, hc5, hb5⟩
  clear ce10
  have HB53 := hid (HB43.out.trans (hb5.mono HB43.out.size))
  have HB5 := hid (HB4.out.trans (hb5.mono HB4.out.size))
  have HK5 := hid hk5
  have HGW : Hid (w3.heap.size ≤ g ∧ w0.heap.size ≤ g ∧ w.heap.size ≤ g) := by
    have h1 := HB43.out.size
    have h2 := HB4.out.size
    have h3 := HB0.out.size
    exact ⟨by omega, by omega, by omega⟩
  have HC5 := hid hc5
  have HL85 := hid (HR8.out w5 HB53.out).ld
  have HLT5 := hid (HK.out w5 HB5.out).2.1.ld
  clear hk5 hg5 hc5 hb5
  go_wp2_with (first | (refine wpList_ld 38 ⟨g8, 0, none⟩ (.tmp 8) rfl rfl HL85.out rfl ?_) | (refine wpList_ld 38 ⟨b + 1, 0, none⟩ (.tmp 3) rfl rfl HLT5.out rfl ?_) | fail)
  refine (HTM.out g c w5 HK5.out HC5.out).mono ?_
  rintro _ w6 ⟨rfl, hk6, hu6⟩
  have HK6 := hid hk6
  have HB63 : Hid (Below w3.heap.size w3 w6) := hu6.below HB53.out HB53.out.size HGW.out.1
  have HB6 : Hid (Below w0.heap.size w0 w6) := hu6.below HB5.out HB5.out.size HGW.out.2.1
  clear hk6 hu6
  obtain ⟨-, m2, m3, m4, -, -⟩ := (HR8.out w6 HB63.out)
  obtain ⟨-, n2, n3, n4, n0, n1x⟩ := (HK.out w6 HB6.out).2.1
  clear m4 n2 n4 n0 n1x
  go_upto_region 9 with fail
  go_cut [50] from 11 (fun c wx => c = .bool (decide (f.p = 1 ∧ f.sp ≠ t.sp)) ∧ wx = w6)
  case first =>
    by_cases h1 : f.p = 1
    · have q1 : ((f.p : Int) == 1) = true := by simp [h1]
      by_cases h2 : f.sp = t.sp
      · have q2 : ((f.sp : Int) != (t.sp : Int)) = false := by simp [h2]
        go_wp2_with fail
        go_meet
        exact ⟨by simp [h2], rfl⟩
      · have q2 : ((f.sp : Int) != (t.sp : Int)) = true := by simp; omega
        go_wp2_with fail
        go_meet
        exact ⟨by simp [h1, h2], rfl⟩
    · have q1 : ((f.p : Int) == 1) = false := by simp; omega
      go_wp2_with fail
      go_meet
      exact ⟨by simp [h1], rfl⟩
  case rest =>
  obtain ⟨rfl, hww⟩ := hcut
  obtain rfl : w6 = wc := hww.symm
  clear m2 m3 n3
  go_upto_if 50 with fail
  go_cut [] from 11 (fun wx => ∃ y, y = wx ∧ Hid (Bk y g c X2 ∧ Below w0.heap.size w0 y))
  case first =>
    by_cases hcd : f.p = 1 ∧ f.sp ≠ t.sp
    · have HM := hid (HMZ.out g c w6 HK6.out HC5.out hcd)
      rw [decide_eq_true hcd]
      clear hcd
      go_wp2_with fail
      refine HM.out.mono ?_
      rintro _ w7 ⟨rfl, hk7, hu7⟩
      have HF : Hid (Bk w7 g c X2 ∧ Below w0.heap.size w0 w7) := ⟨hk7, hu7.below HB6.out HB6.out.size HGW.out.2.1⟩
      clear hk7 hu7
      go_wp2_with fail
      go_meet
      exact ⟨_, rfl, HF⟩
    · have HF : Hid (Bk w6 g c X2 ∧ Below w0.heap.size w0 w6) := ⟨by rw [HNM.out hcd]; exact HK6.out, HB6.out⟩
      rw [decide_eq_false hcd]
      clear hcd
      go_wp2_with fail
      go_meet
      exact ⟨_, rfl, HF⟩
  case rest =>
  obtain ⟨w7, hww, HF7⟩ := hcut
  obtain rfl : w7 = wc := hww
  have HBW7 := hid (HB0.out.trans (HF7.out.2.mono HB0.out.size))
  have HLH := hid (HPLD.out w7 HF7.out.2).2.1
  obtain ⟨-, -, -, -, n0, n1x⟩ := (HK.out w7 HF7.out.2).2.1
  have HHU7 := hid (HHU.out w7 HBW7.out)
  go_wp2_with (first | (refine wpList_ld 34 ⟨b, 0, none⟩ (.tmp 53) rfl rfl HLH.out rfl ?_) | fail)
  refine HHU7.out.mono ?_
  rintro _ w8 ⟨vo', rfl, ho8, hb8⟩
  obtain ⟨a', n', c', rfl⟩ := own_slice ho8
  have HOO := hid ho8
  have HB87 := hid hb8
  have HB8 := hid (HF7.out.2.trans (hb8.mono HF7.out.2.size))
  have HBW8 := hid (HB0.out.trans (HB8.out.mono HB0.out.size))
  have HZ8 := hid (HK.out w8 HB8.out).2.2
  clear ho8 hb8 n0 n1x
  go_wp2_with (first | (refine wpList_val (ex_build 36 _ #[(0, .agg (hdCells (hdU h t.s t.d) (.slice a' n' c'))), (1, .slice (some ⟨g, 0, none⟩) N c)] _ rfl (by simp only [List.map_toArray, List.map_cons, List.map_nil]; rfl) (build_pk _ _ _ _ _ _ _ _)) rfl ?_) | (refine wpList_st rfl 36 (.tmp 4) (.tmp 61) rfl (b + 2) (pkCells (hdU h t.s t.d) (.slice a' n' c') (.slice (some ⟨g, 0, none⟩) N c)) rfl rfl _ (pkCells nzH (.slice none 0 0) (.slice none 0 0)) HZ8.out (by kernel_rfl) rfl (pk_oneq _ _ _ _ _ _ _) ?_; intro w9 hw9 hbut9) | fail)
  have hlv := pk_lv hw9
  have HF : Hid (Below w.heap.size w w9) := hbut9.below HBW8.out HBW8.out.size (by have := HLL.out.1; omega)
  have HX9 := hid (HXB.out g c w9 ((HF7.out.1.below HB87.out).at (hbut9.block g (Nat.lt_of_lt_of_le HF7.out.1.lt HB87.out.size) (by have := HGW.out.2.1; have := HLL.out.2; omega))))
  have HO9 : Hid (SeesB w9 (.slice a' n' c') h.opts) := by
    have hk : Me.Keeps (fun k => k = b + 2) w8 w9 := ⟨hbut9.os, hbut9.tape, hbut9.output, hbut9.size, hbut9.block⟩
    have h9 : OwnB w9 w7.heap.size (.slice a' n' c') h.opts := Me.row_keeps (S := fun k => k = b + 2) HOO.out hk fun k hk2 e => by
      have := (World.ownsRow.lt HOO.out k hk2).1
      have := HF7.out.2.size
      have := HLL.out.2
      omega
    exact h9.sees HOB.out
  refine bodyPost_ret (v := .tuple #[.agg (pkCells (hdU h t.s t.d) (.slice a' n' c') (.slice (some ⟨g, 0, none⟩) N c)), .int .i64 0]) (by simp [results, Tryd.results18, asAddr, hlv]) rfl ?_
  exact ⟨_, _, rfl, by rw [HOPT.out]; exact HO9.out, HX9.out, HF.out⟩
end Go.Proofs.YthpokoiclfbddaaDoor.Nq
