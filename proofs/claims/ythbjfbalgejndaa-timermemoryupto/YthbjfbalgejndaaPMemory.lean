import Derived.Test.YthbjfbalgejndaaZH
import Derived.Test.YthbjfbalgejndaaTO
import Derived.Deep.Slices
import Derived.SizedLaws
import Derived.Deep.MidRow
import Derived.JoinedCond
namespace Go.Proofs.Ythbjfbalgejndaa.timerMemory
open Go.ChangeShapes Go.WideShapes Go.ChangeAt Go.RowKit Go.Proofs.Ythbjfbalgejndaa

theorem own : ownKnob Try.prog.godebug = none := by kernel_rfl
theorem laidOut : laidOutB Try.prog = true := by kernel_rfl

theorem bulk_pos {H : Type} (d : DataW H) : 1 ≤ Rows.uptoBulk d := by
  cases d with
  | lit l => cases l <;> simp [Rows.uptoBulk]
  | nil => simp [Rows.uptoBulk]
  | ptr d => simp [Rows.uptoBulk]
  | slice a b => simp [Rows.uptoBulk]
  | agg a => simp [Rows.uptoBulk]
  | iface a b => simp [Rows.uptoBulk]
  | map a => simp [Rows.uptoBulk]
  | held a => simp [Rows.uptoBulk]
theorem bulk_all {H : Type} : ∀ l : List (DataW H), l.length ≤ Rows.uptoBulkAll l
  | [] => Nat.zero_le _
  | d :: r => by
    have h1 := bulk_pos d
    have h2 := bulk_all r
    simp only [Rows.uptoBulkAll, List.length_cons]
    omega

theorem cell1_2 : Try.prog.cellsOf 2 = 1 := by kernel_rfl
theorem u22 : Try.prog.underlying 22 = some (.slice 2) := by kernel_rfl
theorem u2 : Try.prog.underlying 2 = some (.int .i64) := by kernel_rfl

theorem wf_i64 {a : Int} (h : (Lit.int .i64 a).wf = true) : In64 a := by
  have h' : (decide (IntKind.i64.min ≤ a) && decide (a ≤ IntKind.i64.max)) = true := h
  rw [show IntKind.i64.min = -9223372036854775808 from by decide +kernel, show IntKind.i64.max = 9223372036854775807 from by decide +kernel] at h'
  simp at h'
  exact ⟨h'.1, h'.2⟩

theorem spot_none {W : World} {a : Addr} {v : Value} (z0 : W.cell? a = some v) : ∃ g off, a = ⟨g, off, none⟩ ∧ g < W.heap.size := by
  have hlt := World.block_lt_of_cell? W a z0
  obtain ⟨g, off, sp⟩ := a
  cases sp with
  | none => exact ⟨g, off, rfl, hlt⟩
  | some s =>
    exfalso
    simp only [World.cell?] at z0
    split at z0 <;> simp at z0

set_option maxRecDepth 100000 in
theorem open_numsU {H : Type} {enc : TypeId × Value → H} {W : World} {fuel : Nat} {cs : List Value} {d : DataW H} {ps : List MemPlace} (hf : DataW.trod enc Try.prog W 0 (fun _ => true) true fuel 22 cs = some (d, ps)) (hlim : Rows.uptoBulk d ≤ 1048576) :
    ∃ v L, cs = [v] ∧ SeesI W v L ∧ L.length ≤ 1048576 := by
  rcases Go.Deep.open_slice u22 hf with ⟨h1, hx⟩ | ⟨a, len, cap, m, n, D, Pl, h1, _, hlc, hcm, hm, hxx, hx⟩
  · exact ⟨_, [], h1, ⟨none, 0, rfl, by simp, by unfold maxLen; omega, fun j h => absurd h (by simp)⟩, by simp⟩
  · simp at hm
    subst hm
    simp only [Prod.mk.injEq] at hxx
    obtain ⟨rfl, _⟩ := hxx
    have hbig : len ≤ 1048576 := by
      have h9 := bulk_all ((List.range len).map D)
      simp only [Rows.uptoBulk, List.length_map, List.length_range] at hlim h9
      omega
    have key : ∀ i, i < len → ∃ y : Int, In64 y ∧ W.cell? (a.add i) = some (.int .i64 y) := by
      intro i hi
      obtain ⟨cs', k1, k2⟩ := hx i (by omega)
      rw [cell1_2, Nat.mul_one] at k1
      obtain ⟨_, _, hc⟩ := World.cells?_some k1
      obtain ⟨z, e1, _, wf⟩ := DataW.trod_int u2 k2
      refine ⟨z, wf_i64 wf, ?_⟩
      have := hc 0 (by omega)
      rw [e1] at this
      simpa [Addr.add] using this
    have hch : ∃ F : Nat → Int, ∀ i, i < len → In64 (F i) ∧ W.cell? (a.add i) = some (.int .i64 (F i)) := by
      refine ⟨fun i => if h : i < len then (key i h).choose else 0, fun i hi => ?_⟩
      simp only [dif_pos hi]
      exact (key i hi).choose_spec
    obtain ⟨F, hF⟩ := hch
    refine ⟨_, (List.range len).map F, h1, ⟨some a, m, by simp, by simpa using hlc, hcm, fun j hj => ?_⟩, by simpa using hbig⟩
    have hj' : j < len := by simpa using hj
    obtain ⟨g, off, rfl, hg⟩ : ∃ g off, a = ⟨g, off, none⟩ ∧ g < W.heap.size := by
      have z0 := (hF 0 (by omega)).2
      have e : a.add 0 = a := by simp [Addr.add]
      rw [e] at z0
      exact spot_none z0
    have y0 := (hF j hj').2
    rw [Addr.add_mid] at y0
    exact ⟨g, off, rfl, hg, by rw [y0]; simp, by simpa using (hF j hj').1⟩


set_option maxRecDepth 100000 in
theorem contract (H : Type) (enc : TypeId × Value → H) (W : World) (base : Nat) (args : Array Value) (ds gs : List (DataW H)) (before : List MemPlace)
    (hval0 : ∀ (j : Nat) t v, Try.f4.params[j]? = some t → args[j]? = some v → Value.okWide Try.prog W .any base t v)
    (hW : DataW.Whole enc Try.prog Try.f4.params.toList Rows.timerMemorySpec.vars false W args.toList ds gs before) (hk : Rows.uptoSmall H (ds ++ gs) = true) :
    Calls Try.prog 4 args W fun e W' => ∃ v, e = .returned v ∧ Rows.timerMemorySpec.post enc Try.prog Try.f4 false true false false W args v W' := by
  have hval := hval0
  have hW' := hW
  obtain ⟨p, q, hA0, hV, rfl, hfz, hnd⟩ := hW
  have hA : DataW.TrodAll enc Try.prog W 0 (fun _ => true) true Try.f4.params.toList args.toList ds p := hA0
  rw [Try.params4] at hA hval
  obtain ⟨v0, vs0, d0, ds0, p0, q0, hargs, rfl, rfl, h0, r0⟩ := trodAll_cons hA
  obtain ⟨v1, vs1, d1, ds1, p1, q1, rfl, rfl, rfl, h1, r1⟩ := trodAll_cons r0
  obtain ⟨rfl, rfl, rfl⟩ := trodAll_nil r1
  obtain rfl : args = #[v0, v1] := by cases args; simp_all
  obtain ⟨rfl, rfl⟩ := trodVars_none hV
  clear hA0 hval0
  simp only [List.append_nil] at hW'
  have hlim : Rows.uptoBulk d1 ≤ 1048576 := by
    have h9 : Rows.uptoBulkAll ([d0, d1] ++ []) ≤ 1048576 := of_decide_eq_true hk
    simp only [List.append_nil, Rows.uptoBulkAll] at h9
    omega
  obtain ⟨L0, hs0, -⟩ := open_pairs (hval 0 25 v0 rfl rfl) h0
  obtain ⟨fuel1, hf1⟩ := id h1
  obtain ⟨v1', L1, e1, hs1, hb1⟩ := open_numsU hf1 hlim
  obtain ⟨a1, len1, cap1, ev1⟩ := okWide_slice u22 (hval 1 22 v1 rfl rfl)
  obtain rfl : v1' = v1 := by
    subst ev1
    simp [Value.cells] at e1
    exact e1.symm
  have hlt : ∀ x, x ∈ p0 ∨ x ∈ p1 → x.block < W.heap.size := fun x hx => hW'.lt x (by simpa using hx)
  refine (memory_walk v0 v1' L0 L1 W hs0 hs1 hb1).mono fun e W' ⟨he, hg⟩ => ?_
  subst he
  exact ⟨_, rfl, _, _, _, [], p0 ++ (p1 ++ []), [], hW', trodAll_cons_mk (shut_bool Try.underlying4 _) trodAll_mk0, trodAll_cons_mk (Below.trod laidOut (by kernel_rfl) (of_decide_eq_true (by kernel_rfl)) h0 hg (fun x hx => hlt x (.inl hx))) (trodAll_cons_mk (Below.trod laidOut (by kernel_rfl) (of_decide_eq_true (by kernel_rfl)) h1 hg (fun x hx => hlt x (.inr hx))) trodAll_mk0), rfl, hg.frame _, fun h => by cases h⟩

set_option maxRecDepth 100000 in
theorem lifted (os : Os) (started : os.Started) (H : Type) (enc : TypeId × Value → H) (F : Stop.Interp) :
    ReturnsInHanded {} Try.checked os 4 .any ((Rows.OpenSpec.upto Rows.timerMemorySpec).pre6 enc Try.prog Try.f4 Rows.timerMemoryUptoRow.domain false) (((Rows.OpenSpec.upto Rows.timerMemorySpec).at F).post enc Try.prog Try.f4 false true false false) := by
  refine returnsInHanded_of_cond (C := Try.checked) (s := Rows.OpenSpec.upto Rows.timerMemorySpec) (k := Rows.uptoSmall) rfl own started (by kernel_rfl) Try.func4
    (OpenSpec.witness (enc := enc) (C := Try.checked) (s := Rows.OpenSpec.upto Rows.timerMemorySpec) (k := Rows.uptoSmall) rfl false ⟨#[], #[.slice none 0 0, .slice none 0 0], []⟩ 8 (by kernel_rfl) (by kernel_rfl) (by kernel_rfl)
      (x := ([.nil, .nil], [], [])) (by kernel_rfl) rfl (by kernel_rfl)) ?_
  intro W base args ds gs before hval hW _ hk _
  exact contract H enc W base args ds gs before hval hW hk

theorem over : Rows.timerMemoryUptoRow.holds Try.pinned (Rows.OpenSpec.upto Rows.timerMemorySpec) :=
  OpenClaim.holds_of_cond 4 Try.f4 rfl rfl rfl rfl rfl rfl rfl ⟨rfl, rfl, rfl, rfl, rfl⟩ rfl rfl rfl rfl rfl (by kernel_rfl) Try.func4 (by kernel_rfl)
    (of_decide_eq_true (by kernel_rfl)) (by unfold Func.isWrapper; first | (rw [if_pos (by decide +kernel)]; kernel_rfl) | (rw [if_neg (by decide +kernel)]; exact ⟨rfl, rfl⟩))
    (fun os started H enc _ F => lifted os started H enc F)
end Go.Proofs.Ythbjfbalgejndaa.timerMemory
namespace Go.Proofs.Ythbjfbalgejndaa
theorem timerMemoryUpto_holds : Rows.TimerMemoryUptoSaid := timerMemory.over
#print axioms timerMemoryUpto_holds
end Go.Proofs.Ythbjfbalgejndaa
