import Derived.Test.YthpokoiclfbddaaDoorYNqS
namespace Go.Proofs.YthpokoiclfbddaaDoor.Nq
open Go.Proofs.YthpokoiclfbddaaDoor Go.ChangeShapes Go.WideShapes Go.ChangeAt Go.RowKit Fl
open Go.Proofs.YthpokoiclfbddaaDoor.N hiding But But.set But.of_below But.refl But.trans But.below But.drew wpList_ld
open Go.Shelf
set_option maxHeartbeats 4000000
set_option maxRecDepth 100000

def zOp : Array Value := #[.int .i64 0, .bool false, .int .u8 0, .int .u16 0, .bool false, .bool false, .int .i64 0, .int .u8 0, .int .u8 0, .int .u32 0, .int .u32 0, .slice none 0 0, .slice none 0 0, .int .u32 0, .int .u32 0, .int .u8 0, .int .u16 0, .int .u16 0, .int .u32 0, .int .u32 0, .slice none 0 0, .int .u8 0, .int .u16 0]
theorem op_cells {u : World} {g : Nat} {x : Sq} (h : u.heap[g]? = some (.cells x.cells 41 (0, 0))) : u.cell? ⟨g, 0, none⟩ = some (.int .i64 x.k) ∧ u.cell? ⟨g, 21, none⟩ = some (.int .u8 (x.pr : Int)) ∧ u.cell? ⟨g, 22, none⟩ = some (.int .u16 (x.po : Int)) := by
  refine ⟨?_, ?_, ?_⟩ <;> (rw [cell_of_row _ _ _ _ _ _ h]; rfl)
theorem po_ld {u : World} {g : Nat} {x : Po} (h : u.heap[g]? = some (.cells x.cells 43 (0, 0))) : (Instr.loadAt 43 (.pointer (some ⟨g, 0, none⟩))).run Tryd.prog u = .ok (.agg x.cells) u := by
  obtain ⟨d, hd1, hd2⟩ := isPo
  refine run_loadAt_mid u g 0 43 x.cells.toList d (fun i v hv => ?_) hd1 hd2 (by kernel_rfl)
  rw [cell_of_row _ _ _ _ _ _ h, Nat.zero_add, ← hv, Array.getElem?_toList]
theorem op_fl7 (g : Nat) (u : World) : (Instr.fieldAt 41 (.pointer (some ⟨g, 0, none⟩)) 7).run Tryd.prog u = .ok (.pointer (some ⟨g, 21, none⟩)) u := by kernel_rfl
theorem ld8 {u : World} {p : Addr} {x : Int} (h : u.cell? p = some (.int .u8 x)) : (Instr.loadAt 5 (.pointer (some p))).run Tryd.prog u = .ok (.int .u8 x) u := by simp [go_sem, h]

theorem natOnce_any (lo hi : Nat) (v : Value) (S : List Sq) (w : World) (hlo : lo < 65536) (hhi : hi < 65536) (hS : SeesQ w v S) (hT : TabAt 0 Lib.deBruijn64tab w) (hl : 0 < w.heap.size) :
    Calls Tryd.prog 3 #[.int .u16 (lo : Int), .int .u16 (hi : Int), v] w fun e w' => e = .returned (.bool true) ∧ Below w.heap.size w w' := by
  obtain ⟨ao, cap, rfl, hcn, hcm, hat⟩ := hS
  obtain ⟨N, HN⟩ : ∃ N, Hid (N = S.length) := ⟨_, rfl⟩
  have HAT : Hid (∀ u, Below w.heap.size w u → ∀ j, j < N → ∃ x : Sq, x.pr < 256 ∧ x.po < 65536 ∧ x.cells.all (·.oneCell') = true ∧ ∃ g off, ao = some ⟨g, off, none⟩ ∧ ∀ i v, x.cells[i]? = some v → u.cell? ⟨g, off + j * 23 + i, none⟩ = some v) := fun u hu j hj => by
    have hjl : j < S.length := by rw [← HN.out]; exact hj
    obtain ⟨h1, g, off, e, hg, h2⟩ := hat j hjl
    refine ⟨S[j], h1.pr, h1.po, h1.one, g, off, e, fun i v hv => ?_⟩
    have := h2 i v hv
    unfold World.cell? at this ⊢
    simp only at this ⊢
    rw [hu.block g hg]
    exact this
  have hN : N ≤ 9223372036854775807 := by
    unfold maxLen at hcm
    rw [HN.out]; omega
  have HNEW := hid (new_any lo hi w hlo hhi)
  have HT := hid (And.intro hT hl)
  rw [← HN.out]
  clear hat hT hl hcn hcm
  go_enter Tryd.func3, Tryd.ntmps3
  go_wp2_with fail
  refine HNEW.out.mono ?_
  rintro e w1 ⟨hnew, hb1⟩
  have HFI := hid (first_any w1 (tab_at HT.out.1 (hb1.block _ HT.out.2)) (Nat.lt_of_lt_of_le HT.out.2 hb1.size))
  have HB1 := hid hb1
  clear hb1 HNEW
  by_cases hz : lo = 0
  · rw [if_pos (.inl hz)] at hnew
    subst hnew
    subst hz
    go_wp2_with fail
    refine HFI.out.mono ?_
    rintro _ w2 ⟨rfl, hb2⟩
    have HB2 := hid (HB1.out.trans (hb2.mono HB1.out.size))
    clear hb2
    go_wp2_with fail
    go_ret
    exact ⟨rfl, HB2.out⟩
  · have g0 : (0 : Int) < (lo : Int) := by omega
    by_cases hc : hi < lo
    · rw [if_pos (.inr hc)] at hnew
      subst hnew
      have g1 : ¬ (lo : Int) ≤ (hi : Int) := by omega
      clear hz hc
      go_wp2_with fail
      refine HFI.out.mono ?_
      rintro _ w2 ⟨rfl, hb2⟩
      have HB2 := hid (HB1.out.trans (hb2.mono HB1.out.size))
      clear hb2
      go_wp2_with fail
      go_ret
      exact ⟨rfl, HB2.out⟩
    · rw [if_neg (by omega)] at hnew
      obtain ⟨pb, F, rfl, hst, hF⟩ := hnew
      have g1 : (lo : Int) ≤ (hi : Int) := by omega
      have HST := hid (And.intro hst hF)
      clear hst hF hz hc
      go_wp2_with fail
      refine HFI.out.mono ?_
      rintro _ w2 ⟨rfl, hb2⟩
      have HJ0 : Hid (Jv w.heap.size w w2 pb lo hi (tOf []) (.slice none 0 0) [] (.slice none 0 0) [] []) := ⟨F, HST.out.1.below hb2, HST.out.2, Ow.Own.nil _ _, Ow.Own.nil _ _, fun k e => (by cases e), fun k e => (by cases e), fun r hr => (by cases hr), HB1.out.trans (hb2.mono HB1.out.size), Nat.le_refl _, HT.out.2, HT.out.1⟩
      have HL0 : Hid (([] : List Po).Nodup ∧ ∀ x ∈ ([] : List Po), x.Ok) := ⟨List.nodup_nil, fun x hx => (by cases hx)⟩
      clear hb2 HFI HST HB1 HT
      go_wp2_with fail
      go_loopw [10, 9] (fun iv hv wr => ∃ (i : Nat) (L : List Po), iv = .int .i64 (i : Int) ∧ i ≤ N ∧ Hid (Jv w.heap.size w wr pb lo hi (tOf L) hv L (.slice none 0 0) [] []) ∧ Hid (L.Nodup ∧ ∀ x ∈ L, x.Ok)) (fun iv _ _ => match iv with | .int _ z => N - z.toNat | _ => 0)
      case atStart => exact ⟨0, [], rfl, Nat.zero_le _, HJ0, HL0⟩
      case round =>
        obtain ⟨i, L, rfl, hi2, HJ, HL⟩ := hrel
        by_cases hin : i < N
        · obtain ⟨x, hpr, hpo, hone, g, off, rfl, hcell⟩ := HAT.out wr HJ.out.bel i hin
          have h1 : (i : Int) < (N : Int) := by omega
          have h2 : (0 : Int) ≤ (i : Int) := by omega
          have HLD := hid (sq_load hcell)
          have HX := hid (And.intro hpr (And.intro hpo hone))
          obtain ⟨ha, hn, hc, rfl, HHN, hcc1, hcc2⟩ := HJ.out.own.1.shape
          have wi : IntKind.i64.wrap ((i : Int) + 1) = ((i + 1 : Nat) : Int) := by rw [IntKind.wrap_i64]; omega
          clear hcell hpr hpo hone hcc1 hcc2
          have HN1 : Hid ((wr.alloc (.cells zOp 41)).heap[wr.heap.size]? = some (.cells zOp 41 (0, 0))) := heap_alloc_new _ _
          have HZO : Hid (zOp = #[.int .i64 0, .bool false, .int .u8 0, .int .u16 0, .bool false, .bool false, .int .i64 0, .int .u8 0, .int .u8 0, .int .u32 0, .int .u32 0, .slice none 0 0, .slice none 0 0, .int .u32 0, .int .u32 0, .int .u8 0, .int .u16 0, .int .u16 0, .int .u32 0, .int .u32 0, .slice none 0 0, .int .u8 0, .int .u16 0]) := rfl
          have HLB := hid (held_len HL.out.1 HL.out.2)
          go_upto_region 11 with (first | (refine wpList_ld 41 ⟨g, off + i * 23, none⟩ (.tmp 58) rfl rfl HLD.out rfl ?_) | (refine wpList_st rfl 41 (.tmp 11) (.tmp 59) rfl wr.heap.size x.cells rfl rfl _ zOp HN1.out (by kernel_rfl) rfl HX.out.2.2 ?_; intro w2 hw2 hbut2) | fail)
          have HJ2 := hid (HJ.out.new hbut2 hw2)
          clear hw2 hbut2 HN1 HLD HJ HZO
          generalize wr.heap.size = g1 at *
          obtain ⟨c0, c21, c22⟩ := op_cells (HJ2.out.row (List.mem_cons_self ..))
          have HN2 : Hid ((w2.alloc (.cells #[.int .u8 0, .int .u16 0] 43)).heap[w2.heap.size]? = some (.cells #[.int .u8 0, .int .u16 0] 43 (0, 0))) := heap_alloc_new _ _
          go_upto_region 12 with (first | (refine wpList_st rfl 43 (.tmp 12) (.tmp 64) rfl w2.heap.size (Po.cells ⟨x.pr, x.po⟩) rfl rfl _ #[.int .u8 0, .int .u16 0] HN2.out (by kernel_rfl) rfl (Po.one _) ?_; intro w3 hw3 hbut3) | fail)
          have HJ3 := hid (HJ2.out.new hbut3 hw3)
          clear hw3 hbut3 HN2 HJ2 c0 c21 c22
          generalize w2.heap.size = g2 at *
          obtain ⟨c0, c21, c22⟩ := op_cells (HJ3.out.row (r := ⟨g1, x.cells, 41⟩) (by simp))
          by_cases k4 : x.k = 4
          · have HTK := hid (HJ3.out.take (k := x.pr) (want := x.po) HX.out.1 HX.out.2.1)
            go_wp2_with fail
            refine HTK.out.mono ?_
            rintro e w4 htk
            rcases htk with ⟨q, rfl, q1, q2, q3, q4, hj4⟩ | ⟨rfl, hlen, hj4⟩
            · have HJ4 := hid hj4
              obtain ⟨c0, c21, c22⟩ := op_cells (hj4.row (r := ⟨g1, x.cells, 41⟩) (by simp))
              have HQ := hid (And.intro q1 (And.intro q2 (And.intro q3 q4)))
              have HLA : Hid ((L ++ [⟨x.pr, q⟩] : List Po).Nodup ∧ ∀ y ∈ (L ++ [⟨x.pr, q⟩] : List Po), y.Ok) := by
                have hm : (⟨x.pr, q⟩ : Po) ∉ L := fun e => q1 (tOf_mem.2 e)
                refine ⟨?_, fun y hy => ?_⟩
                · rw [List.nodup_append]
                  refine ⟨HL.out.1, by simp, fun a ha b hb => ?_⟩
                  simp at hb
                  rw [hb]
                  rintro rfl
                  exact hm ha
                · rcases List.mem_append.1 hy with e | e
                  · exact HL.out.2 y e
                  · simp at e
                    rw [e]
                    exact ⟨HX.out.1, by show q < 65536; omega⟩
              have HN4 : Hid ((w4.alloc (.cells #[.int .u8 0, .int .u16 0] 43)).heap[w4.heap.size]? = some (.cells #[.int .u8 0, .int .u16 0] 43 (0, 0))) := heap_alloc_new _ _
              clear hj4 q1 q2 q3 q4 HTK
              go_upto_region 19 with (first | (refine wpList_st rfl 43 (.tmp 15) (.tmp 102) rfl w4.heap.size (Po.cells ⟨x.pr, q⟩) rfl rfl _ #[.int .u8 0, .int .u16 0] HN4.out (by kernel_rfl) rfl (Po.one _) ?_; intro w5 hw5 hbut5) | fail)
              have HJ5 := hid (HJ4.out.new hbut5 hw5)
              clear hw5 hbut5 HN4 HJ4 c0 c21 c22
              generalize w4.heap.size = g5 at *
              obtain ⟨c0, c21, c22⟩ := op_cells (HJ5.out.row (r := ⟨g1, x.cells, 41⟩) (by simp))
              have HLG5 := hid (po_ld (HJ5.out.row (List.mem_cons_self ..)))
              have HH1 := hid (hasP_any ⟨x.pr, q⟩ w5 w.heap.size ha hn hc L HJ5.out.own.1 (by have := HLB.out; omega))
              rw [decide_eq_false (fun e => HQ.out.1 (tOf_mem.2 e))] at HH1
              have l1 : ¬ (q : Int) < (lo : Int) := by have := HQ.out.2.1; omega
              have l2 : ¬ (hi : Int) < (q : Int) := by have := HQ.out.2.2.1; omega
              go_wp2_with (first | (refine wpList_ld 43 ⟨g5, 0, none⟩ (.tmp 15) rfl rfl HLG5.out rfl ?_) | fail)
              refine HH1.out.mono ?_
              rintro _ w6 ⟨rfl, hb6⟩
              have HJ6 := hid (HJ5.out.below hb6)
              clear hb6 HH1 HLG5 HJ5 c0 c21 c22
              obtain ⟨c0, c21, c22⟩ := op_cells (HJ6.out.row (r := ⟨g1, x.cells, 41⟩) (by simp))
              by_cases p1 : x.po < lo
              · have p2 : (x.po : Int) < (lo : Int) := by omega
                have p3 : ¬ (lo : Int) ≤ (x.po : Int) := by omega
                clear p1
                have HJ7 := HJ6
                have HLG := hid (po_ld (HJ7.out.row (List.mem_cons_self ..)))
                go_wp2_with (first | (refine wpList_ld 43 ⟨g5, 0, none⟩ (.tmp 15) rfl rfl HLG.out rfl ?_) | (refine wpList_bsP rfl ⟨x.pr, q⟩ (.tmp 141) rfl rfl ?_; intro w8 hb8 hr8; have HJ8 := hid (HJ7.out.below hb8); have HS8 := hid (Nat.le_trans HJ7.out.size hb8.size); clear hb8) | (refine wpList_apP rfl (.tmp 140) (.tmp 142) rfl (B := w.heap.size) ⟨x.pr, q⟩ _ rfl rfl HJ8.out.own.1 hr8 HS8.out (by have := HLB.out; omega) ?_; intro g9 n9 c9 w9 ho9 hg9 hn9) | fail)
                have HJ9 : Hid (Jv w.heap.size w w9 pb lo hi (tOf (L ++ [⟨x.pr, q⟩])) (.slice (some ⟨g9, 0, none⟩) n9 c9) (L ++ [⟨x.pr, q⟩]) (.slice none 0 0) [] []) := by
                  rw [tOf_add]
                  exact ((HJ8.out.swap.push ho9 hg9 hn9).swap).sub (fun r hr => (by cases hr))
                have HL9 : Hid ((L ++ [⟨x.pr, q⟩] : List Po).Nodup ∧ ∀ y ∈ (L ++ [⟨x.pr, q⟩] : List Po), y.Ok) := HLA.out
                go_roundw
                case rel => exact ⟨i + 1, L ++ [⟨x.pr, q⟩], rfl, by omega, HJ9, HL9⟩
                case measure => simp; omega
              · have p2 : (lo : Int) ≤ (x.po : Int) := by omega
                by_cases p3 : hi < x.po
                · have p4 : ¬ (x.po : Int) ≤ (hi : Int) := by omega
                  clear p1 p3
                  have HJ7 := HJ6
                  have HLG := hid (po_ld (HJ7.out.row (List.mem_cons_self ..)))
                  go_wp2_with (first | (refine wpList_ld 43 ⟨g5, 0, none⟩ (.tmp 15) rfl rfl HLG.out rfl ?_) | (refine wpList_bsP rfl ⟨x.pr, q⟩ (.tmp 141) rfl rfl ?_; intro w8 hb8 hr8; have HJ8 := hid (HJ7.out.below hb8); have HS8 := hid (Nat.le_trans HJ7.out.size hb8.size); clear hb8) | (refine wpList_apP rfl (.tmp 140) (.tmp 142) rfl (B := w.heap.size) ⟨x.pr, q⟩ _ rfl rfl HJ8.out.own.1 hr8 HS8.out (by have := HLB.out; omega) ?_; intro g9 n9 c9 w9 ho9 hg9 hn9) | fail)
                  have HJ9 : Hid (Jv w.heap.size w w9 pb lo hi (tOf (L ++ [⟨x.pr, q⟩])) (.slice (some ⟨g9, 0, none⟩) n9 c9) (L ++ [⟨x.pr, q⟩]) (.slice none 0 0) [] []) := by
                    rw [tOf_add]
                    exact ((HJ8.out.swap.push ho9 hg9 hn9).swap).sub (fun r hr => (by cases hr))
                  have HL9 : Hid ((L ++ [⟨x.pr, q⟩] : List Po).Nodup ∧ ∀ y ∈ (L ++ [⟨x.pr, q⟩] : List Po), y.Ok) := HLA.out
                  go_roundw
                  case rel => exact ⟨i + 1, L ++ [⟨x.pr, q⟩], rfl, by omega, HJ9, HL9⟩
                  case measure => simp; omega
                · have p4 : (x.po : Int) ≤ (hi : Int) := by omega
                  have HLW := hid (po_ld (HJ6.out.row (r := ⟨g2, Po.cells ⟨x.pr, x.po⟩, 43⟩) (by simp)))
                  have HH2 := hid (hasP_any ⟨x.pr, x.po⟩ w6 w.heap.size ha hn hc L HJ6.out.own.1 (by have := HLB.out; omega))
                  by_cases hm : (⟨x.pr, x.po⟩ : Po) ∈ L
                  · rw [decide_eq_true hm] at HH2
                    clear p1 p3 hm
                    go_wp2_with (first | (refine wpList_ld 43 ⟨g2, 0, none⟩ (.tmp 12) rfl rfl HLW.out rfl ?_) | fail)
                    refine HH2.out.mono ?_
                    rintro _ w7 ⟨rfl, hb7⟩
                    have HJ7 := hid (HJ6.out.below hb7)
                    have HLG := hid (po_ld (HJ7.out.row (List.mem_cons_self ..)))
                    go_wp2_with (first | (refine wpList_ld 43 ⟨g5, 0, none⟩ (.tmp 15) rfl rfl HLG.out rfl ?_) | (refine wpList_bsP rfl ⟨x.pr, q⟩ (.tmp 141) rfl rfl ?_; intro w8 hb8 hr8; have HJ8 := hid (HJ7.out.below hb8); have HS8 := hid (Nat.le_trans HJ7.out.size hb8.size); clear hb8) | (refine wpList_apP rfl (.tmp 140) (.tmp 142) rfl (B := w.heap.size) ⟨x.pr, q⟩ _ rfl rfl HJ8.out.own.1 hr8 HS8.out (by have := HLB.out; omega) ?_; intro g9 n9 c9 w9 ho9 hg9 hn9) | fail)
                    have HJ9 : Hid (Jv w.heap.size w w9 pb lo hi (tOf (L ++ [⟨x.pr, q⟩])) (.slice (some ⟨g9, 0, none⟩) n9 c9) (L ++ [⟨x.pr, q⟩]) (.slice none 0 0) [] []) := by
                      rw [tOf_add]
                      exact ((HJ8.out.swap.push ho9 hg9 hn9).swap).sub (fun r hr => (by cases hr))
                    have HL9 : Hid ((L ++ [⟨x.pr, q⟩] : List Po).Nodup ∧ ∀ y ∈ (L ++ [⟨x.pr, q⟩] : List Po), y.Ok) := HLA.out
                    go_roundw
                    case rel => exact ⟨i + 1, L ++ [⟨x.pr, q⟩], rfl, by omega, HJ9, HL9⟩
                    case measure => simp; omega
                  · rw [decide_eq_false hm] at HH2
                    have hqe : (q : Int) = (x.po : Int) := by have := HQ.out.2.2.2 (by omega) (by omega) (fun e => hm (tOf_mem.1 e)); omega
                    clear p1 p3 hm
                    go_wp2_with (first | (refine wpList_ld 43 ⟨g2, 0, none⟩ (.tmp 12) rfl rfl HLW.out rfl ?_) | fail)
                    refine HH2.out.mono ?_
                    rintro _ w7 ⟨rfl, hb7⟩
                    obtain ⟨d0, d21, d22⟩ := op_cells ((HJ6.out.below hb7).row (r := ⟨g1, x.cells, 41⟩) (by simp))
                    have HJ7 := hid (HJ6.out.below hb7)
                    have HLG := hid (po_ld (HJ7.out.row (List.mem_cons_self ..)))
                    go_wp2_with (first | (refine wpList_ld 43 ⟨g5, 0, none⟩ (.tmp 15) rfl rfl HLG.out rfl ?_) | (refine wpList_bsP rfl ⟨x.pr, q⟩ (.tmp 141) rfl rfl ?_; intro w8 hb8 hr8; have HJ8 := hid (HJ7.out.below hb8); have HS8 := hid (Nat.le_trans HJ7.out.size hb8.size); clear hb8) | (refine wpList_apP rfl (.tmp 140) (.tmp 142) rfl (B := w.heap.size) ⟨x.pr, q⟩ _ rfl rfl HJ8.out.own.1 hr8 HS8.out (by have := HLB.out; omega) ?_; intro g9 n9 c9 w9 ho9 hg9 hn9) | fail)
                    have HJ9 : Hid (Jv w.heap.size w w9 pb lo hi (tOf (L ++ [⟨x.pr, q⟩])) (.slice (some ⟨g9, 0, none⟩) n9 c9) (L ++ [⟨x.pr, q⟩]) (.slice none 0 0) [] []) := by
                      rw [tOf_add]
                      exact ((HJ8.out.swap.push ho9 hg9 hn9).swap).sub (fun r hr => (by cases hr))
                    have HL9 : Hid ((L ++ [⟨x.pr, q⟩] : List Po).Nodup ∧ ∀ y ∈ (L ++ [⟨x.pr, q⟩] : List Po), y.Ok) := HLA.out
                    go_roundw
                    case rel => exact ⟨i + 1, L ++ [⟨x.pr, q⟩], rfl, by omega, HJ9, HL9⟩
                    case measure => simp; omega
            · have HJ4 := hid hj4
              obtain ⟨c0, c21, c22⟩ := op_cells (hj4.row (r := ⟨g1, x.cells, 41⟩) (by simp))
              have HCT := hid (countP_any x.pr w4 w.heap.size ha hn hc L hj4.own.1 (by have := HLB.out; omega))
              rw [hlen] at HCT
              obtain ⟨d, HD⟩ : ∃ d, Hid (d = hi - lo) := ⟨_, rfl⟩
              rw [← HD.out] at HCT
              have ws : IntKind.i64.wrap ((hi : Int) - (lo : Int)) = (d : Int) := by rw [IntKind.wrap_i64]; have := HD.out; omega
              have wa : IntKind.i64.wrap ((d : Int) + 1) = (d : Int) + 1 := by rw [IntKind.wrap_i64]; have := HD.out; omega
              clear hj4 hlen HTK
              go_wp2_with fail
              refine HCT.out.mono ?_
              rintro _ w5 ⟨rfl, rfl⟩
              go_wp2_with fail
              go_roundw
              case rel => exact ⟨i + 1, L, rfl, by omega, HJ4.out.sub (fun r hr => (by cases hr)), HL⟩
              case measure => simp; omega
          · by_cases k5 : x.k = 5
            · have HGV := hid (HJ3.out.give (k := x.pr) (p := x.po) HX.out.1 HX.out.2.1)
              go_wp2_with fail
              refine HGV.out.mono ?_
              rintro e w4 hgv
              rcases hgv with ⟨q1, rfl, hj4⟩ | ⟨q1, rfl, hj4⟩
              · have HJ4 := hid hj4
                have HLW := hid (po_ld (hj4.row (r := ⟨g2, Po.cells ⟨x.pr, x.po⟩, 43⟩) (by simp)))
                have HH := hid (hasP_any ⟨x.pr, x.po⟩ w4 w.heap.size ha hn hc L hj4.own.1 (by have := HLB.out; omega))
                rw [decide_eq_false (fun e => q1 (tOf_mem.2 e))] at HH
                clear hj4 q1 HGV
                go_wp2_with (first | (refine wpList_ld 43 ⟨g2, 0, none⟩ (.tmp 12) rfl rfl HLW.out rfl ?_) | fail)
                refine HH.out.mono ?_
                rintro _ w5 ⟨rfl, hb5⟩
                have HJ5 := hid (HJ4.out.below hb5)
                clear hb5
                go_wp2_with fail
                go_roundw
                case rel => exact ⟨i + 1, L, rfl, by omega, HJ5.out.sub (fun r hr => (by cases hr)), HL⟩
                case measure => simp; omega
              · have HJ4 := hid hj4
                have HLW := hid (po_ld (hj4.row (r := ⟨g2, Po.cells ⟨x.pr, x.po⟩, 43⟩) (by simp)))
                have HH := hid (hasP_any ⟨x.pr, x.po⟩ w4 w.heap.size ha hn hc L hj4.own.1 (by have := HLB.out; omega))
                rw [decide_eq_true (tOf_mem.1 q1)] at HH
                clear hj4 q1 HGV
                go_wp2_with (first | (refine wpList_ld 43 ⟨g2, 0, none⟩ (.tmp 12) rfl rfl HLW.out rfl ?_) | fail)
                refine HH.out.mono ?_
                rintro _ w5 ⟨rfl, hb5⟩
                have HJ5 := hid (((HJ4.out.below hb5).drop).sub (R' := [⟨g2, Po.cells ⟨x.pr, x.po⟩, 43⟩]) (fun r hr => by simp at hr; simp [hr]))
                clear hb5 HLW HJ4 HH
                go_wp2_with fail
                go_loopw [18, 17] (fun jv lv wr => ∃ j : Nat, jv = .int .i64 (j : Int) ∧ j ≤ hn ∧ Hid (Jv w.heap.size w wr pb lo hi (out (tOf L) x.pr x.po) (.slice ha hn hc) L lv ((L.take j).filter fun y => decide (y ≠ ⟨x.pr, x.po⟩)) [⟨g2, Po.cells ⟨x.pr, x.po⟩, 43⟩])) (fun jv _ _ => match jv with | .int _ z => hn - z.toNat | _ => 0)
                case atStart => exact ⟨0, rfl, Nat.zero_le _, HJ5⟩
                case round =>
                  obtain ⟨j, rfl, hj2, HK⟩ := hrel
                  by_cases hjn : j < hn
                  · have hjl : j < L.length := by have := HHN.out; omega
                    obtain ⟨g7, rfl, hent⟩ := ents HK.out.own.1 j hjl
                    obtain ⟨X, HXX⟩ : ∃ y : Po, Hid (y = L[j]'hjl) := ⟨_, rfl⟩
                    rw [← HXX.out] at hent
                    have HIN := hid hjn
                    have HE := hid hent
                    have HXE : Hid (∀ u : World, Below wr.heap.size wr u → (Instr.loadAt 43 (.pointer (some ⟨g2, 0, none⟩))).run Tryd.prog u = .ok (.agg (Po.cells ⟨x.pr, x.po⟩)) u) := fun u hu => po_ld ((HK.out.below hu).row (List.mem_cons_self ..))
                    have j1 : (j : Int) < (hn : Int) := by omega
                    have j2 : (0 : Int) ≤ (j : Int) := by omega
                    have wj : IntKind.i64.wrap ((j : Int) + 1) = ((j + 1 : Nat) : Int) := by rw [IntKind.wrap_i64]; have := HHN.out; have := HLB.out; omega
                    obtain ⟨r, HR⟩ : ∃ r, Hid ((!decide (X = ⟨x.pr, x.po⟩)) = r) := ⟨_, rfl⟩
                    have HTS : Hid (L.take (j + 1) = L.take j ++ [X]) := by
                      unfold Hid
                      rw [List.take_add_one, List.getElem?_eq_getElem hjl, HXX.out]; rfl
                    clear hent
                    go_upto_region 31 with fail
                    refine wp_region_guarded' 5 (fun i => ([164, 165, 166, 167, 168] : List Tmp).getD i 0) (Vs [.slice (some ⟨g7, 0, none⟩) hn hc, .int .i64 (j : Int), .pointer (some ⟨g7, j * 2, none⟩), .agg X.cells, .agg (Po.cells ⟨x.pr, x.po⟩)]) (fun u => Below wr.heap.size wr u) (fun _ u u' => Below u.heap.size u u') (by kernel_rfl) (by kernel_rfl) ⟨rfl, rfl, rfl, Nat.le_refl _, fun _ _ => rfl⟩ (fun _ _ _ _ _ _ h _ _ => h) ?_ ?_
                    · simp only [List.take_succ_cons, List.take_zero, stepsG]
                      refine ⟨?_, ?_, ?_, ?_, ?_, trivial⟩
                      · intro a u vs hI hold hdep
                        exact opAt_plain rfl (wp_still (ex_move (.tmp 9) _ rfl (hold 9 (dlM (L := [164, 165, 166, 167, 168]) (by decide)))) rfl rfl hI)
                      · intro a u vs hI hold hdep
                        exact opAt_plain rfl (wp_still (ex_move (.tmp 18) _ rfl (hold 18 (dlM (L := [164, 165, 166, 167, 168]) (by decide)))) rfl rfl hI)
                      · intro a u vs hI hold hdep
                        exact opAt_plain rfl (wp_still (ex_index 29 (.tmp 164) (.tmp 165) _ _ _ rfl (Vs.dep (hdep ⟨0, .data⟩ (by simp) rfl (by decide)) rfl) (Vs.dep (hdep ⟨1, .data⟩ (by simp) rfl (by decide)) rfl) (idxPo HIN.out u)) rfl rfl hI)
                      · intro a u vs hI hold hdep
                        exact opAt_plain rfl (wp_still (ex_load _ ⟨g7, j * 2, none⟩ (.tmp 166) _ rfl (Vs.dep (hdep ⟨2, .data⟩ (by simp) rfl (by decide)) rfl) ((HE.out u hI).ld)) rfl rfl hI)
                      · intro a u vs hI hold hdep
                        exact opAt_plain rfl (wp_still (ex_load _ ⟨g2, 0, none⟩ (.tmp 12) _ rfl (hold 12 (dlM (L := [164, 165, 166, 167, 168]) (by decide))) (HXE.out u hI)) rfl rfl hI)
                    intro vs u hI hF
                    have e0 : vs 0 = .slice (some ⟨g7, 0, none⟩) hn hc := (Option.some.inj (hF 0 (by decide))).symm
                    have e1 : vs 1 = .int .i64 (j : Int) := (Option.some.inj (hF 1 (by decide))).symm
                    have e2 : vs 2 = .pointer (some ⟨g7, j * 2, none⟩) := (Option.some.inj (hF 2 (by decide))).symm
                    have e3 : vs 3 = .agg X.cells := (Option.some.inj (hF 3 (by decide))).symm
                    have e4 : vs 4 = .agg (Po.cells ⟨x.pr, x.po⟩) := (Option.some.inj (hF 4 (by decide))).symm
                    clear hF
                    simp only [List.drop_succ_cons, List.drop_zero, puts, List.range, List.range.loop, List.foldr, if_true, List.getD_cons_zero, List.getD_cons_succ, e0, e1, e2, e3, e4, Act.put, List.setIfInBounds_toArray, List.set_cons_zero, List.set_cons_succ]
                    clear e0 e1 e2 e3 e4
                    have HKU := hid (HK.out.below hI)
                    have HEU := hid ((HE.out u hI).ld)
                    clear hI HXE
                    cases r with
                    | true =>
                      have hf2 : Hid (((L.take (j + 1)).filter fun y => decide (y ≠ ⟨x.pr, x.po⟩)) = ((L.take j).filter fun y => decide (y ≠ ⟨x.pr, x.po⟩)) ++ [X]) := by
                        have hx : ¬ X = ⟨x.pr, x.po⟩ := by have := HR.out; simpa using this
                        unfold Hid
                        rw [HTS.out, List.filter_append]
                        simp [hx]
                      have hbg : Hid (((L.take j).filter fun y => decide (y ≠ ⟨x.pr, x.po⟩)).length ≤ 16777216) := by
                        have a1 := List.length_filter_le (fun y => decide (y ≠ (⟨x.pr, x.po⟩ : Po))) (L.take j)
                        have a2 := HLB.out
                        rw [List.length_take] at a1
                        unfold Hid
                        omega
                      go_wp2_with (first | (refine wpList_val (ex_neP (.tmp 167) (.tmp 168) _ X ⟨x.pr, x.po⟩ true rfl rfl rfl HR.out) rfl ?_) | (refine wpList_ld 43 ⟨g7, j * 2, none⟩ (.tmp 173) rfl rfl HEU.out rfl ?_) | (refine wpList_bsP rfl X (.tmp 174) rfl rfl ?_; intro w8 hb8 hr8; have HJ8 := hid (HKU.out.below hb8); have HS8 := hid (Nat.le_trans HKU.out.size hb8.size); clear hb8) | (refine wpList_apP rfl (.tmp 170) (.tmp 175) rfl (B := w.heap.size) X _ rfl rfl HJ8.out.own.2 hr8 HS8.out (by have := hbg.out; omega) ?_; intro g9 n9 c9 w9 ho9 hg9 hn9) | fail)
                      have HJ9 := hid (HJ8.out.push ho9 hg9 hn9)
                      rw [← hf2.out] at HJ9
                      go_roundw
                      case rel => exact ⟨j + 1, rfl, by omega, HJ9⟩
                      case measure => simp; omega
                    | false =>
                      have hf2 : Hid (((L.take (j + 1)).filter fun y => decide (y ≠ ⟨x.pr, x.po⟩)) = ((L.take j).filter fun y => decide (y ≠ ⟨x.pr, x.po⟩))) := by
                        have hx : X = ⟨x.pr, x.po⟩ := by have := HR.out; simpa using this
                        unfold Hid
                        rw [HTS.out, List.filter_append]
                        simp [hx]
                      rw [← hf2.out] at HKU
                      go_wp2_with (first | (refine wpList_val (ex_neP (.tmp 167) (.tmp 168) _ X ⟨x.pr, x.po⟩ false rfl rfl rfl HR.out) rfl ?_) | fail)
                      go_roundw
                      case rel => exact ⟨j + 1, rfl, by omega, HKU⟩
                      case measure => simp; omega
                  · have j1 : ¬ (j : Int) < (hn : Int) := by omega
                    have HKE := HK
                    rw [List.take_of_length_le (by have := HHN.out; omega)] at HKE
                    have HFL : Hid ((L.filter fun y => decide (y ≠ ⟨x.pr, x.po⟩)).Nodup ∧ ∀ y ∈ (L.filter fun y => decide (y ≠ ⟨x.pr, x.po⟩)), y.Ok) := ⟨HL.out.1.filter _, fun y hy => HL.out.2 y (List.mem_filter.1 hy).1⟩
                    have HKF := hid ((HKE.out.swap.drop).sub (R' := []) (fun r hr => (by cases hr)))
                    rw [← tOf_sub] at HKF
                    clear HKE HK
                    go_wp2_with fail
                    go_roundw
                    case rel => exact ⟨i + 1, _, rfl, by omega, HKF, HFL⟩
                    case measure => simp; omega
            · by_cases k6 : x.k = 6
              · have HTN : Hid (∀ u, Below w3.heap.size w3 u → Calls Tryd.prog 12 #[.pointer (some ⟨pb, 0, none⟩), .int .u8 (x.pr : Int)] u fun e w' => e = .returned (.int .i64 ((tOf L x.pr).length : Nat)) ∧ w' = u) := fun u hu => (HJ3.out.below hu).taken HX.out.1
                have HCN : Hid (∀ u, Below w3.heap.size w3 u → Calls Tryd.prog 9 #[.slice ha hn hc, .int .u8 (x.pr : Int)] u fun e w' => e = .returned (.int .i64 ((tOf L x.pr).length : Nat)) ∧ w' = u) := fun u hu => countP_any x.pr u w.heap.size ha hn hc L (HJ3.out.below hu).own.1 (by have := HLB.out; omega)
                have HC21 : Hid (∀ u, Below w3.heap.size w3 u → u.cell? ⟨g1, 21, none⟩ = some (.int .u8 (x.pr : Int))) := fun u hu => (op_cells ((HJ3.out.below hu).row (r := ⟨g1, x.cells, 41⟩) (by simp))).2.1
                generalize (tOf L x.pr).length = m at *
                go_upto_region 37 with fail
                refine wp_region_guarded' 8 (fun i => ([182, 183, 184, 185, 186, 187, 188, 189] : List Tmp).getD i 0) (Vs [.pointer (some ⟨pb, 0, none⟩), .pointer (some ⟨g1, 21, none⟩), .int .u8 (x.pr : Int), .int .i64 (m : Int), .slice ha hn hc, .pointer (some ⟨g1, 21, none⟩), .int .u8 (x.pr : Int), .int .i64 (m : Int)]) (fun u => Below w3.heap.size w3 u) (fun _ u u' => Below u.heap.size u u') (by kernel_rfl) (by kernel_rfl) ⟨rfl, rfl, rfl, Nat.le_refl _, fun _ _ => rfl⟩ (fun _ _ _ _ _ _ h _ _ => h) ?_ ?_
                · simp only [List.take_succ_cons, List.take_zero, stepsG]
                  refine ⟨?_, ?_, ?_, ?_, ?_, ?_, ?_, ?_, trivial⟩
                  · intro a u vs hI hold hdep
                    exact opAt_plain rfl (wp_still (ex_move (.tmp 7) _ rfl (hold 7 (dlM (L := [182, 183, 184, 185, 186, 187, 188, 189]) (by decide)))) rfl rfl hI)
                  · intro a u vs hI hold hdep
                    exact opAt_plain rfl (wp_still (ex_field _ ⟨g1, 0, none⟩ (.tmp 11) 7 _ rfl (hold 11 (dlM (L := [182, 183, 184, 185, 186, 187, 188, 189]) (by decide))) (op_fl7 g1 u)) rfl rfl hI)
                  · intro a u vs hI hold hdep
                    exact opAt_plain rfl (wp_still (ex_load _ ⟨g1, 21, none⟩ (.tmp 183) _ rfl (Vs.dep (hdep ⟨1, .data⟩ (by simp) rfl (by decide)) rfl) (ld8 (HC21.out u hI))) rfl rfl hI)
                  · intro a u vs hI hold hdep
                    have e0 : a.eval (.tmp 182) = .pointer (some ⟨pb, 0, none⟩) := (Vs.dep (hdep ⟨0, .data⟩ (by simp) rfl (by decide)) rfl)
                    have e1 : a.eval (.tmp 184) = .int .u8 (x.pr : Int) := (Vs.dep (hdep ⟨2, .data⟩ (by simp) rfl (by decide)) rfl)
                    refine opAt_plain rfl ?_
                    refine wp_call 12 _ _ rfl (enters_of Tryd.func12 (by kernel_rfl) rfl) #[.pointer (some ⟨pb, 0, none⟩), .int .u8 (x.pr : Int)] (by simp only [List.map_toArray, List.map_cons, List.map_nil, e0, e1]) ?_
                    refine (CB1 (HTN.out u hI)).mono ?_
                    rintro _ u' ⟨rfl, hb'⟩
                    exact ⟨_, rfl, _, rfl, rfl, hI.trans (hb'.mono hI.size), hb'⟩
                  · intro a u vs hI hold hdep
                    exact opAt_plain rfl (wp_still (ex_move (.tmp 9) _ rfl (hold 9 (dlM (L := [182, 183, 184, 185, 186, 187, 188, 189]) (by decide)))) rfl rfl hI)
                  · intro a u vs hI hold hdep
                    exact opAt_plain rfl (wp_still (ex_field _ ⟨g1, 0, none⟩ (.tmp 11) 7 _ rfl (hold 11 (dlM (L := [182, 183, 184, 185, 186, 187, 188, 189]) (by decide))) (op_fl7 g1 u)) rfl rfl hI)
                  · intro a u vs hI hold hdep
                    exact opAt_plain rfl (wp_still (ex_load _ ⟨g1, 21, none⟩ (.tmp 187) _ rfl (Vs.dep (hdep ⟨5, .data⟩ (by simp) rfl (by decide)) rfl) (ld8 (HC21.out u hI))) rfl rfl hI)
                  · intro a u vs hI hold hdep
                    have e0 : a.eval (.tmp 186) = .slice ha hn hc := (Vs.dep (hdep ⟨4, .data⟩ (by simp) rfl (by decide)) rfl)
                    have e1 : a.eval (.tmp 188) = .int .u8 (x.pr : Int) := (Vs.dep (hdep ⟨6, .data⟩ (by simp) rfl (by decide)) rfl)
                    refine opAt_plain rfl ?_
                    refine wp_call 9 _ _ rfl (enters_of Tryd.func9 (by kernel_rfl) rfl) #[.slice ha hn hc, .int .u8 (x.pr : Int)] (by simp only [List.map_toArray, List.map_cons, List.map_nil, e0, e1]) ?_
                    refine (CB1 (HCN.out u hI)).mono ?_
                    rintro _ u' ⟨rfl, hb'⟩
                    exact ⟨_, rfl, _, rfl, rfl, hI.trans (hb'.mono hI.size), hb'⟩
                intro vs u hI hF
                have e0 : vs 0 = .pointer (some ⟨pb, 0, none⟩) := (Option.some.inj (hF 0 (by decide))).symm
                have e1 : vs 1 = .pointer (some ⟨g1, 21, none⟩) := (Option.some.inj (hF 1 (by decide))).symm
                have e2 : vs 2 = .int .u8 (x.pr : Int) := (Option.some.inj (hF 2 (by decide))).symm
                have e3 : vs 3 = .int .i64 (m : Int) := (Option.some.inj (hF 3 (by decide))).symm
                have e4 : vs 4 = .slice ha hn hc := (Option.some.inj (hF 4 (by decide))).symm
                have e5 : vs 5 = .pointer (some ⟨g1, 21, none⟩) := (Option.some.inj (hF 5 (by decide))).symm
                have e6 : vs 6 = .int .u8 (x.pr : Int) := (Option.some.inj (hF 6 (by decide))).symm
                have e7 : vs 7 = .int .i64 (m : Int) := (Option.some.inj (hF 7 (by decide))).symm
                clear hF
                simp only [List.drop_succ_cons, List.drop_zero, puts, List.range, List.range.loop, List.foldr, if_true, List.getD_cons_zero, List.getD_cons_succ, e0, e1, e2, e3, e4, e5, e6, e7, Act.put, List.setIfInBounds_toArray, List.set_cons_zero, List.set_cons_succ]
                clear e0 e1 e2 e3 e4 e5 e6 e7
                have HJU := hid (HJ3.out.below hI)
                clear hI HTN HCN HC21
                go_wp2_with fail
                go_roundw
                case rel => exact ⟨i + 1, L, rfl, by omega, HJU.out.sub (fun r hr => (by cases hr)), HL⟩
                case measure => simp; omega
              · go_wp2_with fail
                go_roundw
                case rel => exact ⟨i + 1, L, rfl, by omega, HJ3.out.sub (fun r hr => (by cases hr)), HL⟩
                case measure => simp; omega
        · have h1 : ¬ (i : Int) < (N : Int) := by omega
          have HB := hid HJ.out.bel
          go_wp2_with fail
          go_ret
          exact ⟨rfl, HB.out⟩
end Go.Proofs.YthpokoiclfbddaaDoor.Nq
