/-
  ipam: an Ipam at rest; New, Gateway, behind, Find, Owner.
-/
import Derived.Test.YtjilahbkolcekabEB
namespace Go.Proofs.Ytjilahbkolcekab
open Go.ChangeShapes Go.WideShapes Go.ChangeAt Go.RowKit Go.Maps Tri
set_option maxHeartbeats 1000000
set_option maxRecDepth 100000

def icells (b e l : Nat) (bn ba : Nat) : Array Value := #[.int .u32 (b : Int), .int .u32 (e : Int), .int .u32 (l : Int), .map (some bn), .map (some ba)]

/-- An Ipam at rest. -/
structure IpAt (w : World) (pb bn ba : Nat) (s : Ist) : Prop where
  row : w.heap[pb]? = some (.cells (icells s.b (s.b + s.z - 1) (s.b + s.l) bn ba) 75 (0, 0))
  mn : MapN w bn (fun n => (s.byN n).map Pod.ad) s.S.length
  ma : MapA w ba s.byA s.S.length
  ne : bn ≠ ba
  ok : s.Ok

/-- Its blocks. -/
def fpI (pb bn ba k : Nat) : Prop := k = pb ∨ k = bn ∨ k = ba

theorem MapN.isMap {w : World} {bm c : Nat} {f : ByteArray → Option Nat} (h : MapN w bm f c) : ∃ es clock, w.heap[bm]? = some (.map es clock) := by
  obtain ⟨D, ⟨es, clock, h0, _⟩, _⟩ := h
  exact ⟨es, clock, h0⟩
theorem MapA.isMap {w : World} {bm c : Nat} {f : Nat → Option Pod} (h : MapA w bm f c) : ∃ es clock, w.heap[bm]? = some (.map es clock) := by
  obtain ⟨D, ⟨es, clock, h0, _⟩, _⟩ := h
  exact ⟨es, clock, h0⟩

section
variable {w w' : World} {pb bn ba : Nat} {s : Ist}
theorem IpAt.n1 (h : IpAt w pb bn ba s) : pb ≠ bn := fun e => by
  obtain ⟨es, c, h1⟩ := h.mn.isMap
  have := h.row
  rw [e, h1] at this
  cases this
theorem IpAt.n2 (h : IpAt w pb bn ba s) : pb ≠ ba := fun e => by
  obtain ⟨es, c, h1⟩ := h.ma.isMap
  have := h.row
  rw [e, h1] at this
  cases this
theorem IpAt.lt (h : IpAt w pb bn ba s) : pb < w.heap.size ∧ bn < w.heap.size ∧ ba < w.heap.size := ⟨(Array.getElem?_eq_some_iff.1 h.row).1, h.mn.lt, h.ma.lt⟩
theorem IpAt.keeps {S : Nat → Prop} (h : IpAt w pb bn ba s) (hk : Keeps S w w') (hn : ∀ k, fpI pb bn ba k → ¬ S k) : IpAt w' pb bn ba s :=
  ⟨(hk.block pb h.lt.1 (hn _ (.inl rfl))).trans h.row, h.mn.kept (hk.block bn h.lt.2.1 (hn _ (.inr (.inl rfl)))), h.ma.kept (hk.block ba h.lt.2.2 (hn _ (.inr (.inr rfl)))), h.ne, h.ok⟩
theorem IpAt.below (h : IpAt w pb bn ba s) (hb : Below w.heap.size w w') : IpAt w' pb bn ba s := h.keeps (S := fun _ => False) (Keeps.of hb) fun _ _ e => e
theorem IpAt.cells (h : IpAt w pb bn ba s) : w.cell? ⟨pb, 0, none⟩ = some (.int .u32 (s.b : Int)) ∧ w.cell? ⟨pb, 1, none⟩ = some (.int .u32 ((s.b + s.z - 1 : Nat) : Int)) ∧ w.cell? ⟨pb, 2, none⟩ = some (.int .u32 ((s.b + s.l : Nat) : Int)) ∧ w.cell? ⟨pb, 3, none⟩ = some (.map (some bn)) ∧ w.cell? ⟨pb, 4, none⟩ = some (.map (some ba)) ∧ w.frozen? ⟨pb, 2, none⟩ = false := by
  have hr := h.row
  refine ⟨?_, ?_, ?_, ?_, ?_, frozen_of_row _ _ _ _ _ hr⟩ <;> (rw [cell_of_row _ _ _ _ _ _ hr]; rfl)
end

theorem wrap32 {a : Nat} (h : a < 4294967296) : ((a : Int) % 4294967296) = (a : Int) := by omega

theorem gateway_c (w : World) (pb b : Nat) (c0 : w.cell? ⟨pb, 0, none⟩ = some (.int .u32 (b : Int))) (h3 : b + 1 < 4294967296) :
    Calls Try.prog 37 #[.pointer (some ⟨pb, 0, none⟩)] w fun e w' => e = .returned (.int .u32 ((b + 1 : Nat) : Int)) ∧ w' = w := by
  go_enter Try.func37, Try.ntmps37
  go_wp2_with fail
  go_ret
  exact ⟨ret_int (by omega), rfl⟩

theorem gateway_any (w : World) (pb bn ba : Nat) (s : Ist) (h : IpAt w pb bn ba s) :
    Calls Try.prog 37 #[.pointer (some ⟨pb, 0, none⟩)] w fun e w' => e = .returned (.int .u32 ((s.b + 1 : Nat) : Int)) ∧ w' = w :=
  gateway_c w pb s.b h.cells.1 (by have h1 := h.ok.be; have h2 := h.ok.z4; omega)

theorem behind_any (w : World) (pb bn ba : Nat) (s : Ist) (p : Nat) (h : IpAt w pb bn ba s) (h1 : 1 ≤ p) (h2 : p + 2 ≤ s.z) :
    Calls Try.prog 53 #[.pointer (some ⟨pb, 0, none⟩), .int .u32 ((s.b + p : Nat) : Int)] w fun e w' => e = .returned (.int .u32 ((s.b + nx s.z p : Nat) : Int)) ∧ w' = w := by
  obtain ⟨c0, c1, -⟩ := h.cells
  have HG := hid (gateway_any w pb bn ba s h)
  have hb := h.ok.be
  have hz := h.ok.z4
  obtain ⟨a, ha⟩ : ∃ a, a = s.b + p := ⟨_, rfl⟩
  obtain ⟨g, hg⟩ : ∃ g, g = s.b + 1 := ⟨_, rfl⟩
  obtain ⟨l, hl⟩ : ∃ l, l = s.b + s.z - 1 := ⟨_, rfl⟩
  obtain ⟨r, hr⟩ : ∃ r, r = s.b + nx s.z p := ⟨_, rfl⟩
  rw [← hl] at c1
  rw [← hg] at HG
  rw [← ha, ← hr]
  by_cases e : s.z - 2 < p + 1
  · have HE : Hid (r = g + 1 ∧ g + 1 < 4294967296) := by unfold Hid; rw [hr, hg]; unfold nx; rw [if_pos e]; omega
    have q1 : ((((a : Int) + 1) % 4294967296) == (l : Int)) = true := by simp; omega
    have HA : Hid (a + 1 < 4294967296) := by unfold Hid; omega
    have a1 : a + 1 < 4294967296 := HA.out
    have q2 : (((a : Int) + 1) == (l : Int)) = true := by simp; omega
    have q3 : (a : Int) + 1 = (l : Int) := by omega
    have g1 := HE.out.2
    clear h c0 hb hz ha hl hr e hg h1 h2
    go_enter Try.func53, Try.ntmps53
    go_wp2_with fail
    refine HG.out.mono ?_
    rintro _ _ ⟨rfl, ew⟩
    obtain rfl := ew.symm
    go_wp2_with fail
    go_ret
    exact ⟨ret_int (by have := HE.out; omega), rfl⟩
  · have HE : Hid (r = a + 1 ∧ a + 1 < 4294967296) := by unfold Hid; rw [hr, ha]; unfold nx; rw [if_neg e]; omega
    have a1 : a + 1 < 4294967296 := HE.out.2
    have q2 : (((a : Int) + 1) == (l : Int)) = false := by simp; omega
    have q3 : ¬ (a : Int) + 1 = (l : Int) := by omega
    have q1 : ((((a : Int) + 1) % 4294967296) == (l : Int)) = false := by simp; omega
    clear h c0 hb hz ha hl hr e hg h1 h2 HG
    go_enter Try.func53, Try.ntmps53
    go_wp2_with fail
    go_ret
    exact ⟨ret_int (by have := HE.out; omega), rfl⟩

/-- What Find answers. -/
def Ist.fnA (s : Ist) (n : ByteArray) : Nat := ((s.byN n).map Pod.ad).getD 0
def Ist.fnE (s : Ist) (n : ByteArray) : Int := if (s.byN n).isSome then 0 else 3

theorem wpList_lookup_run {P : Program} (w : World) {ops : Array Oper} {rest : List Oper} {o : Oper} {a : Act} {Q : Exit → Act → World → Prop} (hgd : o.guard = none) (m x : Operand) (t : TypeId) (ho : o.op = .lookup t m x true) (vm vx : Value) (hm : a.eval m = vm) (hx : a.eval x = vx) {v : Value}
    (hr : (Instr.lookup t vm vx true).run P w = .ok v w) (h : wpList P ops Q rest (a.put o.dst v) w) : wpList P ops Q (o :: rest) a w :=
  wpList_plain hgd fun _ hK => by
    unfold Oper.wp
    simp [execOp, ho, hm, hx, hr, Result.andThen]
    exact hK _ _ h

theorem find_any (w : World) (pb bn ba : Nat) (s : Ist) (n : ByteArray) (h : IpAt w pb bn ba s) (hn : n.size ≤ maxLen) :
    Calls Try.prog 31 #[.pointer (some ⟨pb, 0, none⟩), .string n] w fun e w' => e = .returned (.tuple #[.int .u32 (s.fnA n : Int), .int .i64 (s.fnE n)]) ∧ w' = w := by
  obtain ⟨-, -, -, c3, -⟩ := h.cells
  have HL := hid (h.mn.look hn)
  cases hf : s.byN n with
  | none =>
    have HE : Hid (s.fnA n = 0 ∧ s.fnE n = 3) := by unfold Hid Ist.fnA Ist.fnE; rw [hf]; exact ⟨rfl, rfl⟩
    rw [hf] at HL
    simp only [Option.map_none, Option.getD_none, Option.isSome_none] at HL
    generalize s.fnA n = A at *
    generalize s.fnE n = E at *
    clear h hf
    go_enter Try.func31, Try.ntmps31
    go_wp2_with (refine wpList_lookup_run _ rfl _ _ _ rfl _ _ rfl rfl HL.out ?_)
    go_ret2
    exact ⟨by rw [HE.out.1, HE.out.2]; rfl, rfl⟩
  | some p =>
    have HE : Hid (s.fnA n = p.ad ∧ s.fnE n = 0) := by unfold Hid Ist.fnA Ist.fnE; rw [hf]; exact ⟨rfl, rfl⟩
    rw [hf] at HL
    simp only [Option.map_some, Option.getD_some, Option.isSome_some] at HL
    generalize s.fnA n = A at *
    generalize s.fnE n = E at *
    clear h hf
    go_enter Try.func31, Try.ntmps31
    go_wp2_with (refine wpList_lookup_run _ rfl _ _ _ rfl _ _ rfl rfl HL.out ?_)
    go_ret2
    exact ⟨by rw [HE.out.1, HE.out.2]; rfl, rfl⟩
end Go.Proofs.Ytjilahbkolcekab
