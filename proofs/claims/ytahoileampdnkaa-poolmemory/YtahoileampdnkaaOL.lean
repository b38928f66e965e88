/-
  seek, has; what add and remove need.
-/
import Derived.Test.YtahoileampdnkaaOK
namespace Go.Proofs.Ytahoileampdnkaa
open Go.ChangeShapes Go.WideShapes Go.ChangeAt Go.RowKit Ru N
set_option maxHeartbeats 1000000
set_option maxRecDepth 100000

theorem seek_any (B : Nat) (v : Value) (rs : List R) (n : Nat) (w : World) (hr : Runs rs) (hv : OwnR w B v rs) (hl : rs.length ≤ 8589934592) :
    Calls Try.prog 48 #[v, .int .i64 (n : Int)] w fun e w' => ∃ (i : Nat) (b : Bool), e = .returned (.tuple #[.int .i64 (i : Int), .bool b]) ∧ At rs n i ∧ (b = true ↔ Mem rs n) ∧ Below w.heap.size w w' := by
  have HC := hid (search_any B v rs n w hr hv hl)
  obtain ⟨a, len, cap, rfl, HL, hc1, hc2⟩ := hv.shape
  have HV := hid hv
  have HR := hid hr
  have HH := fun r n u => hid (run_has r n u)
  clear hv hr
  go_enter Try.func48, Try.ntmps48
  go_wp2_with fail
  refine HC.out.mono ?_
  rintro _ w1 ⟨i, b0, rfl, hat, hb1⟩
  have HAT := hid hat
  have HB1 := hid hb1
  have hil : i ≤ len := by have := hat.le; have := HL.out; omega
  clear hat hb1
  by_cases hi : i < len
  · have hlt : i < rs.length := by have := HL.out; omega
    obtain ⟨g, rfl, hg, hcell⟩ := HV.out.at (i := i) (List.getElem?_eq_getElem hlt)
    obtain ⟨c0, c1⟩ := hcell w1 (HB1.out.block g hg)
    have HCC := HH rs[i] n w1
    have HM : Hid (decide (rs[i].1 ≤ n ∧ n ≤ rs[i].2) = true ↔ Mem rs n) := by
      unfold Hid
      rw [decide_eq_true_eq, HAT.out.mem HR.out]
      constructor
      · rintro ⟨h, _⟩; exact ⟨_, List.getElem?_eq_getElem hlt, h⟩
      · rintro ⟨r, hr, h⟩
        rw [List.getElem?_eq_getElem hlt] at hr
        simp at hr
        subst hr
        refine ⟨h, HAT.out.hi _ ?_⟩
        rw [List.mem_iff_getElem]
        exact ⟨0, by simp; omega, by simp⟩
    generalize decide (rs[i].1 ≤ n ∧ n ≤ rs[i].2) = bb at *
    generalize hr0 : rs[i] = r at *
    obtain ⟨p, q⟩ := r
    simp only at c0 c1 HCC
    clear hr0 hcell hg
    go_wp2_with fail
    refine HCC.out.mono ?_
    rintro _ w2 ⟨rfl, hb2⟩
    have HB2 : Hid (Below w.heap.size w w2) := HB1.out.trans (hb2.mono HB1.out.size)
    clear hb2 c0 c1
    go_wp2_with fail
    refine bodyPost_ret (v := .tuple #[.int .i64 (i : Int), .bool bb]) (by simp [results, Try.results48, go_sem]) rfl ?_
    exact ⟨i, bb, rfl, HAT.out, HM.out, HB2.out⟩
  · have HM : Hid (false = true ↔ Mem rs n) := by
      unfold Hid
      rw [HAT.out.mem HR.out]
      constructor
      · intro h; cases h
      · rintro ⟨r, hr, h⟩
        have := (List.getElem?_eq_some_iff.1 hr).1
        have := HL.out
        omega
    go_wp2_with fail
    refine bodyPost_ret (v := .tuple #[.int .i64 (i : Int), .bool false]) (by simp [results, Try.results48, go_sem]) rfl ?_
    exact ⟨i, false, rfl, HAT.out, HM.out, HB1.out⟩

theorem runs_has (B : Nat) (v : Value) (rs : List R) (n : Nat) (w : World) (hr : Runs rs) (hv : OwnR w B v rs) (hl : rs.length ≤ 8589934592) :
    Calls Try.prog 30 #[v, .int .i64 (n : Int)] w fun e w' => ∃ (b : Bool), e = .returned (.bool b) ∧ (b = true ↔ Mem rs n) ∧ Below w.heap.size w w' := by
  have HC := hid (seek_any B v rs n w hr hv hl)
  obtain ⟨a, len, cap, rfl, HL, hc1, hc2⟩ := hv.shape
  clear hv hr
  go_enter Try.func30, Try.ntmps30
  go_wp2_with fail
  refine HC.out.mono ?_
  rintro _ w1 ⟨i, b0, rfl, -, hm, hb1⟩
  have HF := hid (And.intro hm hb1)
  clear hm hb1
  go_wp2_with fail
  go_ret
  exact ⟨b0, rfl, HF.out⟩

/-- All but the blocks of S are as they were. -/
structure Keeps (S : Nat → Prop) (w w' : World) : Prop where
  os : w'.os = w.os
  tape : w'.tape = w.tape
  output : w'.output = w.output
  size : w.heap.size ≤ w'.heap.size
  block : ∀ k, k < w.heap.size → ¬ S k → w'.heap[k]? = w.heap[k]?

theorem Keeps.refl (S : Nat → Prop) (w : World) : Keeps S w w := ⟨rfl, rfl, rfl, Nat.le_refl _, fun _ _ _ => rfl⟩
theorem Keeps.trans {S : Nat → Prop} {a b c : World} (h : Keeps S a b) (h' : Keeps S b c) : Keeps S a c := ⟨h'.os.trans h.os, h'.tape.trans h.tape, h'.output.trans h.output, Nat.le_trans h.size h'.size, fun k hk hn => (h'.block k (Nat.lt_of_lt_of_le hk h.size) hn).trans (h.block k hk hn)⟩
theorem Keeps.mono {S S' : Nat → Prop} {a b : World} (h : Keeps S a b) (hs : ∀ k, k < a.heap.size → S k → S' k) : Keeps S' a b := ⟨h.os, h.tape, h.output, h.size, fun k hk hn => h.block k hk fun hk' => hn (hs k hk hk')⟩
theorem Keeps.of {S : Nat → Prop} {a b : World} (h : Below a.heap.size a b) : Keeps S a b := ⟨h.os, h.tape, h.output, h.size, fun k hk _ => h.block k hk⟩
theorem Keeps.grown {S : Nat → Prop} {a b : World} {r : Option Nat} (h : a.grownBy b r) (hr : ∀ k, r = some k → S k) : Keeps S a b := ⟨h.os, h.tape, h.output, h.size, fun k hk hn => h.block k hk fun e => hn (hr k e.symm)⟩
theorem Keeps.set {S : Nat → Prop} {a b : World} (h : Keeps S a b) (p : Addr) (hp : S p.block) (v : Value) : Keeps S a (b.setCell p v) :=
  ⟨h.os, h.tape, h.output, by simpa [World.setCell] using h.size, fun k hk hn => by
    have : p.block ≠ k := fun e => hn (e ▸ hp)
    rw [show (b.setCell p v).heap[k]? = b.heap[k]? by simp [World.setCell, Array.getElem?_modify, this]]
    exact h.block k hk hn⟩

theorem OwnR.keeps {S : Nat → Prop} {w w' : World} {B : Nat} {v : Value} {rs : List R} (h : OwnR w B v rs) (hb : Keeps S w w') (hn : ∀ k, v.ownBlock = some k → ¬ S k) : OwnR w' B v rs := by
  refine ⟨h.1, ?_⟩
  rcases h.2 with hn | ⟨g, cap, cur, rfl, hbb, hg, rest⟩
  · exact .inl hn
  · exact .inr ⟨g, cap, cur, rfl, hbb, (hb.block g (Array.getElem?_eq_some_iff.1 hg).1 (hn g rfl)).trans hg, rest⟩

/-- A run that is being joined. -/
structure Ad (w : World) (jb p q : Nat) (u : World) : Prop where
  new : w.heap.size ≤ jb
  be : Below w.heap.size w u
  row : u.heap[jb]? = some (.cells #[.int .i64 (p : Int), .int .i64 (q : Int)] 64 (0, 0))

theorem Ad.cells {w u : World} {jb p q : Nat} (h : Ad w jb p q u) : u.cell? ⟨jb, 0, none⟩ = some (.int .i64 (p : Int)) ∧ u.cell? ⟨jb, 1, none⟩ = some (.int .i64 (q : Int)) ∧ u.frozen? ⟨jb, 0, none⟩ = false ∧ u.frozen? ⟨jb, 1, none⟩ = false :=
  ⟨by rw [cell_of_row _ _ _ _ _ _ h.row]; rfl, by rw [cell_of_row _ _ _ _ _ _ h.row]; rfl, frozen_of_row _ _ _ _ _ h.row, frozen_of_row _ _ _ _ _ h.row⟩

theorem set_cells {w : World} {b i : Nat} {cs : Array Value} {v : Value} {t : TypeId} (h : w.heap[b]? = some (.cells cs t (0, 0))) : (w.setCell ⟨b, i, none⟩ v).heap[b]? = some (.cells (cs.setIfInBounds i v) t (0, 0)) := by
  simp only [World.setCell, Array.getElem?_modify, if_true, h, Option.map_some]
  rfl

theorem Ad.set0 {w u : World} {jb p q : Nat} (h : Ad w jb p q u) (p' : Nat) : Ad w jb p' q (u.setCell ⟨jb, 0, none⟩ (.int .i64 (p' : Int))) := ⟨h.new, h.be.setCell (p := ⟨jb, 0, none⟩) h.new _, set_cells h.row⟩
theorem Ad.set1 {w u : World} {jb p q : Nat} (h : Ad w jb p q u) (q' : Nat) : Ad w jb p q' (u.setCell ⟨jb, 1, none⟩ (.int .i64 (q' : Int))) := ⟨h.new, h.be.setCell (p := ⟨jb, 1, none⟩) h.new _, set_cells h.row⟩
end Go.Proofs.Ytahoileampdnkaa
