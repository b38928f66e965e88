/-
  (*runs).remove.
-/
import Derived.Test.YtahoileampdnkaaOR
namespace Go.Proofs.Ytahoileampdnkaa
open Go.ChangeShapes Go.WideShapes Go.ChangeAt Go.RowKit Ru N
set_option maxHeartbeats 4000000
set_option maxRecDepth 100000

/-- What remove leaves. -/
def Removed (pb off : Nat) (cs : Array Value) (v : Value) (rs : List R) (n : Nat) (w w' : World) : Prop :=
  ∃ v' rs', Runs rs' ∧ (∀ m, Mem rs' m ↔ m ≠ n ∧ Mem rs m) ∧ OwnR w' 0 v' rs' ∧ w'.heap[pb]? = some (.cells (cs.setIfInBounds off v') 68 (0, 0)) ∧ NewBlk v v' w.heap.size ∧ Keeps (fun k => k = pb ∨ v.ownBlock = some k) w w'

theorem removed_of {pb off n i m t : Nat} {cs : Array Value} {v v' : Value} {rs ps : List R} {r : R} {w u u' : World} (hu : Below w.heap.size w u) (hp : w.heap[pb]? = some (.cells cs 68 (0, 0))) (hv : OwnR w 0 v rs) (hr : Runs rs) (hi : rs[i]? = some r) (h1 : r.1 ≤ n) (h2 : n ≤ r.2)
    (hps : ps = (if r.1 < n then [(r.1, n - 1)] else []) ++ (if n < r.2 then [(n + 1, r.2)] else [])) (hm : m = ps.length) (ht : t = i + m + (rs.length - (i + 1))) (hrow : Row u' 0 v' t ((rc rs).take (i * 2) ++ rc ps ++ (rc rs).drop ((i + 1) * 2))) (hg : u.grownBy u' v.ownBlock) (hnb : NewBlk v v' u.heap.size) :
    Removed pb off cs v rs n w (u'.setCell ⟨pb, off, none⟩ v') := by
  obtain ⟨hil, hir⟩ := List.getElem?_eq_some_iff.1 hi
  have e0 : rs = rs.take i ++ r :: rs.drop (i + 1) := by rw [← hir, ← List.drop_eq_getElem_cons hil, List.take_append_drop]
  obtain ⟨hR, hM⟩ := remove_runs (by rw [← e0]; exact hr) h1 h2 hps
  have hvb : ∀ g, v.ownBlock = some g → g < w.heap.size ∧ g ≠ pb := fun g hgv => ⟨own_lt hv hgv, own_ne hv hp hgv⟩
  have hpl := (Array.getElem?_eq_some_iff.1 hp).1
  have hpu : u'.heap[pb]? = some (.cells cs 68 (0, 0)) := by
    rw [hg.block pb (Nat.lt_of_lt_of_le hpl hu.size) (fun e => (hvb pb e.symm).2 rfl), hu.block pb hpl]; exact hp
  have hvp : ∀ g, v'.ownBlock = some g → g ≠ pb := by
    intro g hgv
    rcases hnb with h | ⟨g', h, h'⟩
    · rw [hgv] at h; exact (hvb g h.symm).2
    · rw [hgv] at h; simp at h; subst h; have := hu.size; omega
  refine ⟨v', rs.take i ++ ps ++ rs.drop (i + 1), hR, fun m => by rw [hM m, ← e0], ?_, set_cells hpu, ?_, ?_⟩
  · have hr2 : Row u' 0 v' (rs.take i ++ ps ++ rs.drop (i + 1)).length (rc (rs.take i ++ ps ++ rs.drop (i + 1))) := by
      rw [rc_take rs i (by omega), rc_drop rs (i + 1) (by omega)] at hrow
      rw [rc_append, rc_append]
      rw [show (rs.take i ++ ps ++ rs.drop (i + 1)).length = t by simp; omega]
      exact hrow
    have hk : Keeps (fun k => k = pb) u' (u'.setCell ⟨pb, off, none⟩ v') := Keeps.set (S := fun k => k = pb) (Keeps.refl _ _) ⟨pb, off, none⟩ rfl v'
    exact OwnR.keeps (S := fun k => k = pb) (h := hr2) hk (fun k hk e => hvp k hk e)
  · rcases hnb with h | ⟨g', h, h'⟩
    · exact .inl h
    · exact .inr ⟨g', h, Nat.le_trans hu.size h'⟩
  · refine Keeps.set ?_ ⟨pb, off, none⟩ (.inl rfl) v'
    exact (Keeps.of hu).trans (Keeps.grown hg fun k hk => .inr hk)

/-- What is left of a run, of k parts. -/
def lef (r : R) (n k : Nat) : List R := (if 1 ≤ k ∧ r.1 < n then [(r.1, n - 1)] else []) ++ (if 2 ≤ k ∧ n < r.2 then [(n + 1, r.2)] else [])

structure Lf (w1 : World) (r : R) (n k : Nat) (lv : Value) (u : World) : Prop where
  be : Below w1.heap.size w1 u
  row : Row u w1.heap.size lv (lef r n k).length (rc (lef r n k))
  nil : (lef r n k).length = 0 → lv = .slice none 0 0

theorem remove_any (pb off n : Nat) (cs : Array Value) (v : Value) (rs : List R) (w : World) (hp : w.heap[pb]? = some (.cells cs 68 (0, 0))) (hoff : cs[off]? = some v) (hv : OwnR w 0 v rs) (hr : Runs rs) (hn : n < 4294967296) :
    Calls Try.prog 35 #[.pointer (some ⟨pb, off, none⟩), .int .i64 (n : Int)] w fun e w' => (e = .returned (.bool false) ∧ ¬ Mem rs n ∧ Below w.heap.size w w') ∨ (e = .returned (.bool true) ∧ Mem rs n ∧ Removed pb off cs v rs n w w') := by
  have hl := hr.len
  have HC := hid (seek_any 0 v rs n w hr hv (by omega))
  obtain ⟨a, len, cap, rfl, HL, hc1, hc2⟩ := hv.shape
  have hlen : len ≤ 4294967296 := by rw [HL.out]; exact hl
  have HV := hid hv
  have HR := hid hr
  have HP := hid hp
  have HO := hid hoff
  have c0 : w.cell? ⟨pb, off, none⟩ = some (.slice a len cap) := by rw [cell_of_row _ _ _ _ _ _ hp]; exact hoff
  have hpl := (Array.getElem?_eq_some_iff.1 hp).1
  clear hv hr hp hoff hl
  go_enter Try.func35, Try.ntmps35
  go_upto_region 2 with fail
  clear c0
  go_wp2_with fail
  refine HC.out.mono ?_
  rintro _ w1 ⟨i, b, rfl, hat, hmem, hb1⟩
  have HAT := hid hat
  have HM := hid hmem
  have HB1 := hid hb1
  clear hat hmem hb1 HC
  cases b with
  | false =>
    have HNM : Hid (¬ Mem rs n) := fun h => by have := HM.out.2 h; cases this
    go_wp2_with fail
    go_ret
    exact .inl ⟨rfl, HNM.out, HB1.out⟩
  | true =>
    have HMM : Hid (Mem rs n) := HM.out.1 rfl
    obtain ⟨r, hr, hr1⟩ := (HAT.out.mem HR.out).1 HMM.out
    have hlt : i < rs.length := (List.getElem?_eq_some_iff.1 hr).1
    have hil : i < len := by have := HL.out; omega
    have hr2 : n ≤ r.2 := HAT.out.hi r (by
      rw [List.mem_iff_getElem]
      refine ⟨0, by simp; omega, ?_⟩
      have := (List.getElem?_eq_some_iff.1 hr).2
      simpa using this)
    have hr3 : r.2 < 4294967296 := (HR.out.ok r (List.mem_of_getElem? hr)).2
    obtain ⟨g, rfl, hg, hcell⟩ := HV.out.at hr
    obtain ⟨d0, d1⟩ := hcell w1.drew (HB1.out.block g hg)
    obtain ⟨p, q⟩ := r
    have HRI := hid hr
    simp only at d0 d1 hr1 hr2 hr3
    have hw1 : IntKind.i64.wrap ((n : Int) - 1) = (n : Int) - 1 := by rw [IntKind.wrap_i64]; omega
    have hw2 : IntKind.i64.wrap ((n : Int) + 1) = (n : Int) + 1 := by rw [IntKind.wrap_i64]; omega
    clear hcell hg hr HM hlt
    go_upto_region 6 with fail
    go_still (by kernel_rfl)
    clear d0 d1 hw1 hw2
    go_upto_region 7 with fail
    have HLF0 : Hid (Lf w1 (p, q) n 0 (.slice none 0 0) w1.drew) := ⟨⟨rfl, rfl, rfl, Nat.le_refl _, fun _ _ => rfl⟩, ⟨rfl, .inl ⟨rfl, rfl⟩⟩, fun _ => rfl⟩
    go_loopw [8, 39] (fun lv k wr => ∃ (m : Nat) (la : Option Addr) (ll lc : Nat), lv = .slice la ll lc ∧ k = .int .i64 (m : Int) ∧ m ≤ 2 ∧ Hid (Lf w1 (p, q) n m (.slice la ll lc) wr)) (fun _ k _ => 2 - (intOf k).toNat)
    case atStart => exact ⟨0, none, 0, 0, rfl, rfl, by omega, HLF0⟩
    case round =>
      obtain ⟨m, la, ll, lc, rfl, rfl, hm, HLF⟩ := hrel
      match m, hm with
      | 0, _ =>
        have hix : ∀ u : World, (Instr.index 89 (.agg #[.int .i64 (p : Int), .int .i64 ((n : Int) - 1), .int .i64 ((n : Int) + 1), .int .i64 (q : Int)]) (.int .i64 0)).run Try.prog u = .ok (.agg #[.int .i64 (p : Int), .int .i64 ((n : Int) - 1)]) u := fun u => by kernel_rfl
        obtain ⟨jb, HJB⟩ : ∃ jb, Hid (jb = wr.heap.size) := ⟨_, rfl⟩
        obtain ⟨w2, HW2⟩ : ∃ w2, Hid (w2 = wr.alloc (.cells #[.int .i64 (p : Int), .int .i64 ((n : Int) - 1)] 64)) := ⟨_, rfl⟩
        have hb2 : Below wr.heap.size wr w2 := by rw [HW2.out]; exact (Below.refl _ _).alloc (Nat.le_refl _) _
        have r2 : w2.heap[jb]? = some (.cells #[.int .i64 (p : Int), .int .i64 ((n : Int) - 1)] 64 (0, 0)) := by rw [HW2.out, HJB.out]; exact heap_alloc_new wr _
        have R2 := hid r2
        have HB2 := hid hb2
        have k0 : w2.cell? ⟨jb, 0, none⟩ = some (.int .i64 (p : Int)) := by rw [cell_of_row _ _ _ _ _ _ r2]; rfl
        have k1 : w2.cell? ⟨jb, 1, none⟩ = some (.int .i64 ((n : Int) - 1)) := by rw [cell_of_row _ _ _ _ _ _ r2]; rfl
        have HSZ := hid (run_size (p : Int) ((n : Int) - 1) (by omega) (by omega) w2)
        clear hb2 r2
        go_upto_region 9 with fail
        rw [← HW2.out, ← HJB.out]
        clear hix
        go_wp2_with fail
        refine HSZ.out.mono ?_
        rintro _ w3 ⟨rfl, hb3⟩
        have r3 := below_keeps hb3 R2.out (Array.getElem?_eq_some_iff.1 R2.out).1
        have HB3 : Hid (Below wr.heap.size wr w3) := HB2.out.trans (hb3.mono HB2.out.size)
        have m0 : w3.cell? ⟨jb, 0, none⟩ = some (.int .i64 (p : Int)) := by rw [cell_of_row _ _ _ _ _ _ r3]; rfl
        have m1 : w3.cell? ⟨jb, 1, none⟩ = some (.int .i64 ((n : Int) - 1)) := by rw [cell_of_row _ _ _ _ _ _ r3]; rfl
        clear hb3 r3 k0 k1
        by_cases hc : p < n
        · have hpos : (0 : Int) < ((n : Int) - 1) - (p : Int) + 1 := by omega
          have elf : lef (p, q) n 1 = lef (p, q) n 0 ++ [(p, (n - 1))] := by unfold lef; simp [hc]
          obtain ⟨w4, HW4⟩ : ∃ w4, Hid (w4 = w3.alloc (.cells #[.int .i64 (p : Int), .int .i64 ((n : Int) - 1)] 64)) := ⟨_, rfl⟩
          have hb4 : Below wr.heap.size wr w4 := by rw [HW4.out]; exact HB3.out.alloc HB3.out.size _
          have hr4 : Row w4 0 (.slice (some ⟨w3.heap.size, 0, none⟩) 1 1) 1 [.int .i64 (p : Int), .int .i64 ((n : Int) - 1)] := by rw [HW4.out]; exact World.ownsRow_lit w3 #[.int .i64 (p : Int), .int .i64 ((n : Int) - 1)] 1 (Nat.zero_le _) (by decide) rfl
          have hb14 := HLF.out.be.trans (hb4.mono HLF.out.be.size)
          have hrow4 : Row w4 w1.heap.size (.slice la ll lc) (lef (p, q) n 0).length (rc (lef (p, q) n 0)) := World.ownsRow.kept (row := none) HLF.out.row ⟨hb4.os, hb4.tape, hb4.output, hb4.size, fun k hk _ => hb4.block k hk⟩ (by cases hvv : Value.ownBlock (.slice la ll lc) <;> simp)
          obtain ⟨v5, w5, hap, how, hgr, hnb⟩ := append_run w4 65 w1.heap.size _ 1 (.slice la ll lc) (.slice (some ⟨w3.heap.size, 0, none⟩) 1 1) _ [.int .i64 (p : Int), .int .i64 ((n : Int) - 1)] hrow4 hr4 (fun u hu => by simp at hu; rcases hu with rfl | rfl <;> rfl) (by decide) hb14.size (by unfold lef; split <;> split <;> simp)
          obtain ⟨a5, l5, c5, rfl⟩ : ∃ a5 l5 c5, v5 = .slice a5 l5 c5 := by
            rcases how.2 with ⟨h, -⟩ | ⟨g', cap', cur', h, -⟩
            · exact ⟨none, 0, 0, h⟩
            · exact ⟨_, _, _, h⟩
          have HAP := hid (by rw [append_66] at hap; exact hap : (Builtin.append_ #[65, 65] 65 #[(.slice la ll lc), .slice (some ⟨w3.heap.size, 0, none⟩) 1 1]).run Try.prog w4 = .ok (.slice a5 l5 c5) w5)
          have HLF2 : Hid (Lf w1 (p, q) n 1 (.slice a5 l5 c5) w5) := by
            refine ⟨⟨hgr.os.trans hb14.os, hgr.tape.trans hb14.tape, hgr.output.trans hb14.output, Nat.le_trans hb14.size hgr.size, fun k hk => (hgr.block k (Nat.lt_of_lt_of_le hk hb14.size) (fun e => ?_)).trans (hb14.block k hk)⟩, ?_, fun h => ?_⟩
            · have := (World.ownsRow.lt hrow4 k e.symm).1; omega
            · rw [elf, List.length_append, rc_append]
              have ex : rc [(p, (n - 1))] = [.int .i64 (p : Int), .int .i64 ((n : Int) - 1)] := by
                simp [rc, rv]
                omega
              rw [ex]
              exact how
            · rw [elf] at h; simp at h
          clear hb4 hr4 hb14 hrow4 hap how hgr hnb elf
          go_upto_region 11 with (at_builtin; rw [← HW4.out]; refine wpList_append_run _ rfl _ _ 65 65 rfl _ _ rfl rfl HAP.out ?_)
          clear m0 m1
          go_wp2_with fail
          go_roundw
          case rel => exact ⟨1, a5, l5, c5, rfl, by go_num, by omega, HLF2⟩
          case measure => simp [intOf]
        · have hneg : ¬ (0 : Int) < ((n : Int) - 1) - (p : Int) + 1 := by omega
          have elf : lef (p, q) n 1 = lef (p, q) n 0 := by unfold lef; simp [hc]
          have HLF2 : Hid (Lf w1 (p, q) n 1 (.slice la ll lc) w3) := by
            refine ⟨HLF.out.be.trans (HB3.out.mono HLF.out.be.size), ?_, ?_⟩
            · rw [elf]; exact World.ownsRow.kept (row := none) HLF.out.row ⟨HB3.out.os, HB3.out.tape, HB3.out.output, HB3.out.size, fun k hk _ => HB3.out.block k hk⟩ (by cases hvv : Value.ownBlock (.slice la ll lc) <;> simp)
            · rw [elf]; exact HLF.out.nil
          clear m0 m1 elf
          go_wp2_with fail
          go_roundw
          case rel => exact ⟨1, la, ll, lc, rfl, by go_num, by omega, HLF2⟩
          case measure => simp [intOf]
      | 1, _ =>
        have hix : ∀ u : World, (Instr.index 89 (.agg #[.int .i64 (p : Int), .int .i64 ((n : Int) - 1), .int .i64 ((n : Int) + 1), .int .i64 (q : Int)]) (.int .i64 1)).run Try.prog u = .ok (.agg #[.int .i64 ((n : Int) + 1), .int .i64 (q : Int)]) u := fun u => by kernel_rfl
        obtain ⟨jb, HJB⟩ : ∃ jb, Hid (jb = wr.heap.size) := ⟨_, rfl⟩
        obtain ⟨w2, HW2⟩ : ∃ w2, Hid (w2 = wr.alloc (.cells #[.int .i64 ((n : Int) + 1), .int .i64 (q : Int)] 64)) := ⟨_, rfl⟩
        have hb2 : Below wr.heap.size wr w2 := by rw [HW2.out]; exact (Below.refl _ _).alloc (Nat.le_refl _) _
        have r2 : w2.heap[jb]? = some (.cells #[.int .i64 ((n : Int) + 1), .int .i64 (q : Int)] 64 (0, 0)) := by rw [HW2.out, HJB.out]; exact heap_alloc_new wr _
        have R2 := hid r2
        have HB2 := hid hb2
        have k0 : w2.cell? ⟨jb, 0, none⟩ = some (.int .i64 ((n : Int) + 1)) := by rw [cell_of_row _ _ _ _ _ _ r2]; rfl
        have k1 : w2.cell? ⟨jb, 1, none⟩ = some (.int .i64 (q : Int)) := by rw [cell_of_row _ _ _ _ _ _ r2]; rfl
        have HSZ := hid (run_size ((n : Int) + 1) (q : Int) (by omega) (by omega) w2)
        clear hb2 r2
        go_upto_region 9 with fail
        rw [← HW2.out, ← HJB.out]
        clear hix
        go_wp2_with fail
        refine HSZ.out.mono ?_
        rintro _ w3 ⟨rfl, hb3⟩
        have r3 := below_keeps hb3 R2.out (Array.getElem?_eq_some_iff.1 R2.out).1
        have HB3 : Hid (Below wr.heap.size wr w3) := HB2.out.trans (hb3.mono HB2.out.size)
        have m0 : w3.cell? ⟨jb, 0, none⟩ = some (.int .i64 ((n : Int) + 1)) := by rw [cell_of_row _ _ _ _ _ _ r3]; rfl
        have m1 : w3.cell? ⟨jb, 1, none⟩ = some (.int .i64 (q : Int)) := by rw [cell_of_row _ _ _ _ _ _ r3]; rfl
        clear hb3 r3 k0 k1
        by_cases hc : n < q
        · have hpos : (0 : Int) < (q : Int) - ((n : Int) + 1) + 1 := by omega
          have elf : lef (p, q) n 2 = lef (p, q) n 1 ++ [((n + 1), q)] := by unfold lef; simp [hc]
          obtain ⟨w4, HW4⟩ : ∃ w4, Hid (w4 = w3.alloc (.cells #[.int .i64 ((n : Int) + 1), .int .i64 (q : Int)] 64)) := ⟨_, rfl⟩
          have hb4 : Below wr.heap.size wr w4 := by rw [HW4.out]; exact HB3.out.alloc HB3.out.size _
          have hr4 : Row w4 0 (.slice (some ⟨w3.heap.size, 0, none⟩) 1 1) 1 [.int .i64 ((n : Int) + 1), .int .i64 (q : Int)] := by rw [HW4.out]; exact World.ownsRow_lit w3 #[.int .i64 ((n : Int) + 1), .int .i64 (q : Int)] 1 (Nat.zero_le _) (by decide) rfl
          have hb14 := HLF.out.be.trans (hb4.mono HLF.out.be.size)
          have hrow4 : Row w4 w1.heap.size (.slice la ll lc) (lef (p, q) n 1).length (rc (lef (p, q) n 1)) := World.ownsRow.kept (row := none) HLF.out.row ⟨hb4.os, hb4.tape, hb4.output, hb4.size, fun k hk _ => hb4.block k hk⟩ (by cases hvv : Value.ownBlock (.slice la ll lc) <;> simp)
          obtain ⟨v5, w5, hap, how, hgr, hnb⟩ := append_run w4 65 w1.heap.size _ 1 (.slice la ll lc) (.slice (some ⟨w3.heap.size, 0, none⟩) 1 1) _ [.int .i64 ((n : Int) + 1), .int .i64 (q : Int)] hrow4 hr4 (fun u hu => by simp at hu; rcases hu with rfl | rfl <;> rfl) (by decide) hb14.size (by unfold lef; split <;> split <;> simp)
          obtain ⟨a5, l5, c5, rfl⟩ : ∃ a5 l5 c5, v5 = .slice a5 l5 c5 := by
            rcases how.2 with ⟨h, -⟩ | ⟨g', cap', cur', h, -⟩
            · exact ⟨none, 0, 0, h⟩
            · exact ⟨_, _, _, h⟩
          have HAP := hid (by rw [append_66] at hap; exact hap : (Builtin.append_ #[65, 65] 65 #[(.slice la ll lc), .slice (some ⟨w3.heap.size, 0, none⟩) 1 1]).run Try.prog w4 = .ok (.slice a5 l5 c5) w5)
          have HLF2 : Hid (Lf w1 (p, q) n 2 (.slice a5 l5 c5) w5) := by
            refine ⟨⟨hgr.os.trans hb14.os, hgr.tape.trans hb14.tape, hgr.output.trans hb14.output, Nat.le_trans hb14.size hgr.size, fun k hk => (hgr.block k (Nat.lt_of_lt_of_le hk hb14.size) (fun e => ?_)).trans (hb14.block k hk)⟩, ?_, fun h => ?_⟩
            · have := (World.ownsRow.lt hrow4 k e.symm).1; omega
            · rw [elf, List.length_append, rc_append]
              have ex : rc [((n + 1), q)] = [.int .i64 ((n : Int) + 1), .int .i64 (q : Int)] := by
                simp [rc, rv]
              rw [ex]
              exact how
            · rw [elf] at h; simp at h
          clear hb4 hr4 hb14 hrow4 hap how hgr hnb elf
          go_upto_region 11 with (at_builtin; rw [← HW4.out]; refine wpList_append_run _ rfl _ _ 65 65 rfl _ _ rfl rfl HAP.out ?_)
          clear m0 m1
          go_wp2_with fail
          go_roundw
          case rel => exact ⟨2, a5, l5, c5, rfl, by go_num, by omega, HLF2⟩
          case measure => simp [intOf]
        · have hneg : ¬ (0 : Int) < (q : Int) - ((n : Int) + 1) + 1 := by omega
          have elf : lef (p, q) n 2 = lef (p, q) n 1 := by unfold lef; simp [hc]
          have HLF2 : Hid (Lf w1 (p, q) n 2 (.slice la ll lc) w3) := by
            refine ⟨HLF.out.be.trans (HB3.out.mono HLF.out.be.size), ?_, ?_⟩
            · rw [elf]; exact World.ownsRow.kept (row := none) HLF.out.row ⟨HB3.out.os, HB3.out.tape, HB3.out.output, HB3.out.size, fun k hk _ => HB3.out.block k hk⟩ (by cases hvv : Value.ownBlock (.slice la ll lc) <;> simp)
            · rw [elf]; exact HLF.out.nil
          clear m0 m1 elf
          go_wp2_with fail
          go_roundw
          case rel => exact ⟨2, la, ll, lc, rfl, by go_num, by omega, HLF2⟩
          case measure => simp [intOf]
      | 2, _ =>
        obtain ⟨ps, HPS⟩ : ∃ ps, Hid (ps = lef (p, q) n 2) := ⟨_, rfl⟩
        have hps : ps = (if p < n then [(p, n - 1)] else []) ++ (if n < q then [(n + 1, q)] else []) := by rw [HPS.out]; unfold lef; simp
        have hrow := HLF.out.row
        have hnil := HLF.out.nil
        rw [← HPS.out] at hrow hnil
        have HB := hid HLF.out.be
        have hpl2 : ps.length ≤ 2 := by rw [hps]; split <;> split <;> simp
        have HVW := hid ((HV.out.below HB1.out).below HB.out)
        have hrow0 : Row wr 0 (.slice la ll lc) ps.length (rc ps) := ⟨hrow.1, by
          rcases hrow.2 with h | ⟨g', cap', cur', h, hb', rest⟩
          · exact .inl h
          · exact .inr ⟨g', cap', cur', h, Nat.zero_le _, rest⟩⟩
        have hil' : i + 1 ≤ rs.length := by have := HL.out; omega
        have HREP := hid (replace_any 0 rs.length ps.length i (i + 1) (.slice (some ⟨g, 0, none⟩) len cap) (.slice la ll lc) (rc rs) (rc ps) wr HVW.out hrow0 (rc_one rs) (rc_one ps) (fun h => ⟨hnil h, by omega⟩) (by
          cases hob : Value.ownBlock (.slice la ll lc) with
          | none => exact .inl rfl
          | some k =>
            right
            intro e
            have h1 := (World.ownsRow.lt hrow k hob).1
            have h2 := own_lt (HV.out.below HB1.out) e.symm
            omega) (by omega) hil' (by have := HL.out; omega) (Nat.zero_le _))
        have HF0 : Hid (∀ (v' : Value) (u' : World), Row u' 0 v' (i + ps.length + (rs.length - (i + 1))) ((rc rs).take (i * 2) ++ rc ps ++ (rc rs).drop ((i + 1) * 2)) → wr.grownBy u' (Value.ownBlock (.slice (some ⟨g, 0, none⟩) len cap)) → NewBlk (.slice (some ⟨g, 0, none⟩) len cap) v' wr.heap.size → Removed pb off cs (.slice (some ⟨g, 0, none⟩) len cap) rs n w (u'.setCell ⟨pb, off, none⟩ v')) := fun v' u' h1 h2 h3 =>
          removed_of (i := i) (r := (p, q)) (ps := ps) (HB1.out.trans (HB.out.mono HB1.out.size)) HP.out HV.out HR.out HRI.out hr1 hr2 hps rfl rfl h1 h2 h3
        clear hrow hnil hrow0 hps hil'
        go_wp2_with fail
        refine HREP.out.mono ?_
        rintro _ w5 ⟨v5, rfl, hrow5, hg5, hnb5⟩
        have HREM := hid (HF0.out v5 w5 hrow5 hg5 hnb5)
        have hp5 : w5.heap[pb]? = some (.cells cs 68 (0, 0)) := by
          have hx : (Value.ownBlock (.slice (some ⟨g, 0, none⟩) len cap)) ≠ some pb := fun e => own_ne HV.out HP.out e rfl
          have hbw := HB1.out.trans (HB.out.mono HB1.out.size)
          rw [hg5.block pb (by have := hbw.size; omega) (fun e => hx e.symm), hbw.block pb hpl]
          exact HP.out
        have d0 : w5.cell? ⟨pb, off, none⟩ = some (.slice (some ⟨g, 0, none⟩) len cap) := by rw [cell_of_row _ _ _ _ _ _ hp5]; exact HO.out
        have d1 : w5.frozen? ⟨pb, off, none⟩ = false := frozen_of_row _ _ _ _ _ hp5
        obtain ⟨a5, l5, c5, rfl⟩ : ∃ a5 l5 c5, v5 = .slice a5 l5 c5 := by
          rcases hrow5.2 with ⟨h, -⟩ | ⟨g', cap', cur', h, -⟩
          · exact ⟨none, 0, 0, h⟩
          · exact ⟨_, _, _, h⟩
        clear hrow5 hg5 hnb5 hp5
        go_wp2_with fail
        go_ret
        exact .inr ⟨rfl, HMM.out, HREM.out⟩
end Go.Proofs.Ytahoileampdnkaa
