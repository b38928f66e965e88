import Derived.Test.YtjilahbkolcekabEW
import Derived.Test.YtjilahbkolcekabGN1
import Derived.JoinedCond
namespace Go.Proofs.Ytjilahbkolcekab.ipamFresh
open Go.ChangeShapes Go.WideShapes Go.ChangeAt Go.RowKit Go.Proofs.Ytjilahbkolcekab

theorem own : ownKnob Try.prog.godebug = none := by kernel_rfl
theorem laidOut : laidOutB Try.prog = true := by kernel_rfl

theorem bulk_pos {H : Type} (d : DataW H) : 1 ≤ Rows.uptoBulk d := by
  cases d with
  | lit l => cases l <;> simp [Rows.uptoBulk]
  | nil => simp [Rows.uptoBulk]
  | ptr d => simp [Rows.uptoBulk]
  | slice a b => simp [Rows.uptoBulk]
  | agg a => simp [Rows.uptoBulk]
  | iface a b => simp [Rows.uptoBulk]
  | map a => simp [Rows.uptoBulk]
  | held a => simp [Rows.uptoBulk]
theorem bulk_all {H : Type} : ∀ l : List (DataW H), l.length ≤ Rows.uptoBulkAll l
  | [] => Nat.zero_le _
  | d :: r => by
    have h1 := bulk_pos d
    have h2 := bulk_all r
    simp only [Rows.uptoBulkAll, List.length_cons]
    omega

section
variable {H : Type} {enc : TypeId × Value → H} {W : World}
set_option maxRecDepth 100000 in
theorem open_osU {base : Nat} {v : Value} {d : DataW H} {ps : List MemPlace} (hval : Value.okWide Try.prog W .any base 26 v) (h : DataW.Trod enc Try.prog W 0 (fun _ => true) true 26 v d ps) (hlim : Rows.uptoBulk d ≤ 1048576) :
    ∃ S : List Stp, SeesO W v S ∧ OkO S ∧ S.length ≤ 1048576 := by
  obtain ⟨a0, len, cap, rfl⟩ := okWide_slice Try.underlying26 hval
  obtain ⟨fuel, hf⟩ := h
  rcases Go.Deep.open_slice Try.underlying26 hf with ⟨h1, _⟩ | ⟨a, len', cap', m, n, D, Pl, h1, _, hlc, hcm, hm, hxx, hx⟩
  · simp [Value.cells] at h1
    obtain ⟨rfl, rfl, rfl⟩ := h1
    exact ⟨[], ⟨none, 0, rfl, by simp, by unfold maxLen; omega, fun j hj => absurd hj (by simp)⟩, (fun o ho => by cases ho), by simp⟩
  · simp [Value.cells] at h1
    obtain ⟨rfl, rfl, rfl⟩ := h1
    simp at hm
    subst hm
    simp only [Prod.mk.injEq] at hxx
    obtain ⟨rfl, _⟩ := hxx
    have hbig : len ≤ 1048576 := by
      have h9 := bulk_all ((List.range len).map D)
      simp only [Rows.uptoBulk, List.length_map, List.length_range] at hlim h9
      omega
    have key : ∀ i, i < len → ∃ q : Stp, (q.n.size ≤ maxLen ∧ q.a < 4294967296) ∧ ∀ j (hj : j < 3), W.cell? ((a.add (i * 3)).add j) = q.cells[j]? := by
      intro i hi
      obtain ⟨cs', k1, k2⟩ := hx i (by omega)
      rw [cellsOp] at k1
      obtain ⟨_, hlen, hc⟩ := World.cells?_some k1
      obtain ⟨q, hq, hcs⟩ := open_op k2
      refine ⟨q, hq, fun j hj => ?_⟩
      rw [hc j (by omega), hcs]
      simp
    by_cases h0 : len = 0
    · subst h0
      exact ⟨[], ⟨some a, m, rfl, by simp, hcm, fun j hj => absurd hj (by simp)⟩, (fun o ho => by cases ho), by simp⟩
    obtain ⟨c0, _⟩ := key 0 (by omega)
    obtain ⟨F, hF⟩ : ∃ F : Nat → Stp, ∀ i, i < len → ((F i).n.size ≤ maxLen ∧ (F i).a < 4294967296) ∧ ∀ j (hj : j < 3), W.cell? ((a.add (i * 3)).add j) = (F i).cells[j]? := by
      refine ⟨fun i => if h : i < len then (key i h).choose else c0, fun i hi => ?_⟩
      simp only [dif_pos hi]
      exact (key i hi).choose_spec
    obtain ⟨g, off, rfl, hg⟩ : ∃ g off, a = ⟨g, off, none⟩ ∧ g < W.heap.size := by
      have z0 := (hF 0 (by omega)).2 0 (by omega)
      have e : (a.add (0 * 3)).add 0 = a := by simp [Addr.add]
      rw [e] at z0
      exact spot_none (z0.trans (by rfl))
    refine ⟨(List.range len).map F, ⟨some ⟨g, off, none⟩, m, by simp, by simpa using hlc, hcm, fun j hj => ?_⟩, fun o ho => ?_, by simpa using hbig⟩
    · have hj' : j < len := by simpa using hj
      simp only [List.getElem_map, List.getElem_range]
      have hh := (hF j hj').2
      simp only [add_plain] at hh
      exact ⟨g, off, rfl, hg, hh 0 (by omega), hh 1 (by omega), hh 2 (by omega)⟩
    · obtain ⟨i, hi, rfl⟩ := List.mem_map.1 ho
      exact (hF i (by simpa using hi)).1
end

set_option maxRecDepth 100000 in
theorem contract (H : Type) (enc : TypeId × Value → H) (W : World) (base : Nat) (args : Array Value) (ds gs : List (DataW H)) (before : List MemPlace)
    (hval0 : ∀ (j : Nat) t v, Try.f7.params[j]? = some t → args[j]? = some v → Value.okWide Try.prog W .any base t v)
    (hW : DataW.Whole enc Try.prog Try.f7.params.toList Rows.ipamFreshSpec.vars false W args.toList ds gs before) (hk : Rows.uptoSmall H (ds ++ gs) = true) :
    Calls Try.prog 7 args W fun e W' => ∃ v, e = .returned v ∧ Rows.ipamFreshSpec.post enc Try.prog Try.f7 false true false false W args v W' := by
  have hval := hval0
  have hW' := hW
  obtain ⟨p, q, hA0, hV, rfl, hfz, hnd⟩ := hW
  have hA : DataW.TrodAll enc Try.prog W 0 (fun _ => true) true Try.f7.params.toList args.toList ds p := hA0
  rw [Try.params7] at hA hval
  obtain ⟨v0, vs0, d0, ds0, p0, q0, hargs, rfl, rfl, h0, r0⟩ := trodAll_cons hA
  obtain ⟨v1, vs1, d1, ds1, p1, q1, rfl, rfl, rfl, h1, r1⟩ := trodAll_cons r0
  obtain ⟨rfl, rfl, rfl⟩ := trodAll_nil r1
  obtain rfl : args = #[v0, v1] := by cases args; simp_all
  obtain ⟨rfl, rfl⟩ := trodVars_none hV
  clear hA0 hval0
  simp only [List.append_nil] at hW'
  have hlim : Rows.uptoBulk d1 ≤ 1048576 := by
    have h9 : Rows.uptoBulkAll ([d0, d1] ++ []) ≤ 1048576 := of_decide_eq_true hk
    simp only [List.append_nil, Rows.uptoBulkAll] at h9
    omega
  obtain ⟨x0, y0, rfl, hx0, -, -⟩ := open_px (hval 0 25 v0 rfl rfl) h0
  obtain ⟨L1, hs1, hk1, hb1⟩ := open_osU (hval 1 26 v1 rfl rfl) h1 hlim
  have hlt : ∀ x, x ∈ p0 ∨ x ∈ p1 → x.block < W.heap.size := fun x hx => hW'.lt x (by simpa using hx)
  refine (fresh_walk x0 y0 v1 L1 W hx0 hs1 hk1 hb1).mono fun e W' ⟨he, hg⟩ => ?_
  subst he
  exact ⟨_, rfl, _, _, _, [], p0 ++ (p1 ++ []), [], hW', trodAll_cons_mk (shut_bool Try.underlying4 _) trodAll_mk0, trodAll_cons_mk (Below.trod laidOut (by kernel_rfl) (of_decide_eq_true (by kernel_rfl)) h0 hg (fun x hx => hlt x (.inl hx))) (trodAll_cons_mk (Below.trod laidOut (by kernel_rfl) (of_decide_eq_true (by kernel_rfl)) h1 hg (fun x hx => hlt x (.inr hx))) trodAll_mk0), rfl, hg.frame _, fun h => by cases h⟩

set_option maxRecDepth 100000 in
theorem lifted (os : Os) (started : os.Started) (H : Type) (enc : TypeId × Value → H) (F : Stop.Interp) :
    ReturnsInHanded {} Try.checked os 7 .any ((Rows.OpenSpec.upto Rows.ipamFreshSpec).pre6 enc Try.prog Try.f7 Rows.ipamFreshUptoRow.domain false) (((Rows.OpenSpec.upto Rows.ipamFreshSpec).at F).post enc Try.prog Try.f7 false true false false) := by
  refine returnsInHanded_of_cond (C := Try.checked) (s := Rows.OpenSpec.upto Rows.ipamFreshSpec) (k := Rows.uptoSmall) rfl own started (by kernel_rfl) Try.func7
    (OpenSpec.witness (enc := enc) (C := Try.checked) (s := Rows.OpenSpec.upto Rows.ipamFreshSpec) (k := Rows.uptoSmall) rfl false ⟨#[], #[.agg #[.int .u32 0, .int .i64 0], .slice none 0 0], []⟩ 8 (by kernel_rfl) (by kernel_rfl) (by kernel_rfl)
      (x := ([.agg [.lit (.int .u32 0), .lit (.int .i64 0)], .nil], [], [])) (by kernel_rfl) rfl (by kernel_rfl)) ?_
  intro W base args ds gs before hval hW _ hk _
  exact contract H enc W base args ds gs before hval hW hk

theorem over : Rows.ipamFreshUptoRow.holds Try.pinned (Rows.OpenSpec.upto Rows.ipamFreshSpec) :=
  OpenClaim.holds_of_cond 7 Try.f7 rfl rfl rfl rfl rfl rfl rfl ⟨rfl, rfl, rfl, rfl, rfl⟩ rfl rfl rfl rfl rfl (by kernel_rfl) Try.func7 (by kernel_rfl)
    (of_decide_eq_true (by kernel_rfl)) (by unfold Func.isWrapper; first | (rw [if_pos (by decide +kernel)]; kernel_rfl) | (rw [if_neg (by decide +kernel)]; exact ⟨rfl, rfl⟩))
    (fun os started H enc _ F => lifted os started H enc F)
end Go.Proofs.Ytjilahbkolcekab.ipamFresh
namespace Go.Proofs.Ytjilahbkolcekab
theorem ipamFreshUpto_holds : Rows.IpamFreshUptoSaid := ipamFresh.over
#print axioms ipamFreshUpto_holds
end Go.Proofs.Ytjilahbkolcekab
