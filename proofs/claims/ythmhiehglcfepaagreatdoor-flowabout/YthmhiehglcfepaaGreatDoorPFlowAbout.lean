import Derived.Test.YthmhiehglcfepaaGreatDoorYFwT
import Derived.Test.YthmhiehglcfepaaGreatDoorEX
import Derived.Test.YthmhiehglcfepaaGreatDoorCards
import Derived.Test.YthmhiehglcfepaaGreatDoorTie
namespace Go.Proofs.YthmhiehglcfepaaGreatDoor.N.flowAbout
open Fl
open Go.ChangeShapes Go.WideShapes Go.ChangeAt Go.RowKit

def putC (cs : Array Value) : Obj → Obj
  | .cells _ t frozen => .cells cs t frozen
  | o => o
def aggCells : DataW Unit → Array Value
  | .agg ds => (ds.flatMap fun d => match d with
    | .agg es => es.map fun e => match e with | .lit (.int k z) => Value.int k z | .lit (.bool b) => Value.bool b | _ => .bool false
    | _ => [.bool false]).toArray
  | _ => #[]
noncomputable def laidWorld (os : Os) : World :=
  { World.holding Tryz.prog os ⟨#[], #[], []⟩ with heap := ((((World.holding Tryz.prog os ⟨#[], #[], []⟩).heap.modify 2 (putC (aggCells Rows.laid_weft_addr_classRows))).modify 1 (putC (aggCells Rows.laid_weft_icmp_kinds))).modify 0 (putC (spansN.map fun x => Value.int .i64 x).toArray)).modify 3 (putC (rowsN.map fun (x : Nat) => Value.int .u8 (x : Int)).toArray) }
theorem und_ad : Tryz.prog.underlying 31 = some (.int .u32) := by kernel_rfl
theorem u5 : Tryz.prog.underlying 5 = some (.int .u8) := by kernel_rfl
theorem wf_u8 {a : Int} (h : (Lit.int .u8 a).wf = true) : ∃ n : Nat, a = (n : Int) ∧ n < 256 := q8 h
theorem wf_u32 {a : Int} (h : (Lit.int .u32 a).wf = true) : ∃ n : Nat, a = (n : Int) ∧ n < 4294967296 := q32 h
theorem u3 : Tryz.prog.underlying 3 = some (.int .i64) := by kernel_rfl
theorem wf_i64 {a : Int} (h : (Lit.int .i64 a).wf = true) : Tm.In64 a := q64 h

set_option maxRecDepth 100000 in
theorem contract (H : Type) (enc : TypeId × Value → H) (W : World) (base : Nat) (args : Array Value) (ds gs : List (DataW H)) (before : List MemPlace)
    (hval : ∀ (j : Nat) t v, Tryz.f6.params[j]? = some t → args[j]? = some v → Value.okWide Tryz.prog W .any base t v)
    (hW : DataW.Whole enc Tryz.prog Tryz.f6.params.toList Rows.flowAboutSpec.vars false W args.toList ds gs before) (hsz0 : (DataW.weightsEach Tryz.prog (Tryz.f6.params.toList ++ (OpenSpec.ofChange Rows.flowAboutSpec).bare.plain.varTypes Tryz.prog) (ds ++ gs)).all (· ≤ reachBytes) = true) (hL : laidMetH Tryz.prog Rows.flowAboutRow.laid W) :
    Calls Tryz.prog 6 args W fun e W' => ∃ v, e = .returned v ∧ Rows.flowAboutSpec.post enc Tryz.prog Tryz.f6 false true false false W args v W' := by
  have hsz : (DataW.weightsEach Tryz.prog (Tryz.f6.params.toList ++ Rows.flowAboutSpec.plain.varTypes Tryz.prog) (ds ++ gs)).all (· ≤ reachBytes) = true := hsz0
  have htF := La.tabF4 hL
  have htK := La.tabK hL
  have htC := La.tabC hL
  have hW' := hW
  obtain ⟨p, q, hA0, hV, rfl, hfz, hnd⟩ := hW
  have hA : DataW.TrodAll enc Tryz.prog W 0 (fun _ => true) true Tryz.f6.params.toList args.toList ds p := hA0
  rw [Tryz.params6] at hA hval hsz
  obtain ⟨v0, vs0, d0, ds0, p0, q0, hargs, rfl, rfl, h0, r0⟩ := trodAll_cons hA
  obtain ⟨v1, vs1, d1, ds1, p1, q1, rfl, rfl, rfl, h1, r1⟩ := trodAll_cons r0
  obtain ⟨v2, vs2, d2, ds2, p2, q2, rfl, rfl, rfl, h2, r2⟩ := trodAll_cons r1
  obtain ⟨v3, vs3, d3, ds3, p3, q3, rfl, rfl, rfl, h3, r3⟩ := trodAll_cons r2
  obtain ⟨v4, vs4, d4, ds4, p4, q4, rfl, rfl, rfl, h4, r4⟩ := trodAll_cons r3
  obtain ⟨v5, vs5, d5, ds5, p5, q5, rfl, rfl, rfl, h5, r5⟩ := trodAll_cons r4
  obtain ⟨v6, vs6, d6, ds6, p6, q6, rfl, rfl, rfl, h6, r6⟩ := trodAll_cons r5
  obtain ⟨rfl, rfl, rfl⟩ := trodAll_nil r6
  obtain rfl : args = #[v0, v1, v2, v3, v4, v5, v6] := by cases args; simp_all
  obtain ⟨rfl, rfl⟩ := trodVars_none hV
  clear hA0
  simp only [List.append_nil] at hW'
  obtain ⟨f0, hf0⟩ := h0
  obtain ⟨t0, e0, ht0⟩ := Fl.open_tu hf0
  have hv0 : v0 = .agg t0.cells := by
    obtain ⟨_, _, _, _, _, hu, _⟩ := Fl.undTu
    obtain ⟨cs, rfl, _⟩ := okWide_struct hu (hval 0 34 v0 rfl rfl)
    have : cs.toList = t0.cells.toList := by simpa [Value.cells] using e0
    rw [show cs = t0.cells from Array.toList_inj.1 this]
  subst hv0
  obtain ⟨f1, hf1⟩ := h1
  obtain ⟨t1, e1, ht1⟩ := Fl.open_tu hf1
  have hv1 : v1 = .agg t1.cells := by
    obtain ⟨_, _, _, _, _, hu, _⟩ := Fl.undTu
    obtain ⟨cs, rfl, _⟩ := okWide_struct hu (hval 1 34 v1 rfl rfl)
    have : cs.toList = t1.cells.toList := by simpa [Value.cells] using e1
    rw [show cs = t1.cells from Array.toList_inj.1 this]
  subst hv1
  obtain ⟨b2, rfl⟩ : ∃ b, v2 = .bool b := by
    exact okWide_bool Tryz.underlying4 (hval 2 4 v2 rfl rfl)
  obtain ⟨z3, rfl, _, _, wk3⟩ := open_int u5 (hval 3 5 v3 rfl rfl) h3
  obtain ⟨k3, rfl, hk3⟩ := wf_u8 wk3
  obtain ⟨z4, rfl, _, _, wk4⟩ := open_int u5 (hval 4 5 v4 rfl rfl) h4
  obtain ⟨k4, rfl, hk4⟩ := wf_u8 wk4
  obtain ⟨k5, rfl, _, _, wk5⟩ := open_int u3 (hval 5 3 v5 rfl rfl) h5
  have hk5 := wf_i64 wk5
  obtain ⟨z6, rfl, _, _, wk6⟩ := open_int und_ad (hval 6 31 v6 rfl rfl) h6
  obtain ⟨k6, rfl, hk6⟩ := wf_u32 wk6
  have hlt : ∀ x, x ∈ p0 ∨ x ∈ p1 ∨ x ∈ p2 ∨ x ∈ p3 ∨ x ∈ p4 ∨ x ∈ p5 ∨ x ∈ p6 → x.block < W.heap.size := fun x hx => hW'.lt x (by simpa using hx)
  refine (Fl.flowAbout_any W t0 t1 b2 k3 k4 k5 k6 htF htK htC ht0 ht1 hk3 hk4 hk6).mono fun e W' ⟨he, hg⟩ => ?_
  subst he
  exact ⟨_, rfl, _, _, _, [], p0 ++ (p1 ++ (p2 ++ (p3 ++ (p4 ++ (p5 ++ (p6 ++ [])))))), [], hW', trodAll_cons_mk (shut_bool Tryz.underlying4 _) trodAll_mk0,
    trodAll_cons_mk (Below.trod laidOut (by kernel_rfl) (of_decide_eq_true (by kernel_rfl)) ⟨f0, hf0⟩ hg (fun x hx => hlt x (.inl hx))) (trodAll_cons_mk (Below.trod laidOut (by kernel_rfl) (of_decide_eq_true (by kernel_rfl)) ⟨f1, hf1⟩ hg (fun x hx => hlt x (.inr (.inl hx)))) (trodAll_cons_mk (Below.trod laidOut (by kernel_rfl) (of_decide_eq_true (by kernel_rfl)) h2 hg (fun x hx => hlt x (.inr (.inr (.inl hx))))) (trodAll_cons_mk (Below.trod laidOut (by kernel_rfl) (of_decide_eq_true (by kernel_rfl)) h3 hg (fun x hx => hlt x (.inr (.inr (.inr (.inl hx)))))) (trodAll_cons_mk (Below.trod laidOut (by kernel_rfl) (of_decide_eq_true (by kernel_rfl)) h4 hg (fun x hx => hlt x (.inr (.inr (.inr (.inr (.inl hx))))))) (trodAll_cons_mk (Below.trod laidOut (by kernel_rfl) (of_decide_eq_true (by kernel_rfl)) h5 hg (fun x hx => hlt x (.inr (.inr (.inr (.inr (.inr (.inl hx)))))))) (trodAll_cons_mk (Below.trod laidOut (by kernel_rfl) (of_decide_eq_true (by kernel_rfl)) h6 hg (fun x hx => hlt x (.inr (.inr (.inr (.inr (.inr (.inr hx)))))))) trodAll_mk0)))))), rfl, hg.frame _, fun h => by cases h⟩

theorem laid_met (os : Os) : laidMet Tryz.prog Rows.flowAboutRow.laid ((laidWorld os).forCall (fun _ _ => 0) ⟨#[], #[.agg #[.int .u32 0, .int .u32 0, .int .u8 0, .int .u16 0, .int .u16 0], .agg #[.int .u32 0, .int .u32 0, .int .u8 0, .int .u16 0, .int .u16 0], .bool false, .int .u8 0, .int .u8 0, .int .i64 0, .int .u32 0], []⟩).memory :=
  laidMet_of_run' 8 (by kernel_rfl) (by kernel_rfl)
theorem reads (os : Os) {H : Type} (enc : TypeId × Value → H) : ∃ places, DataW.whole enc Tryz.prog ((laidWorld os).forCall (fun _ _ => 0) ⟨#[], #[.agg #[.int .u32 0, .int .u32 0, .int .u8 0, .int .u16 0, .int .u16 0], .agg #[.int .u32 0, .int .u32 0, .int .u8 0, .int .u16 0, .int .u16 0], .bool false, .int .u8 0, .int .u8 0, .int .i64 0, .int .u32 0], []⟩).memory Tryz.f6.params.toList Rows.flowAboutSpec.vars false (#[.agg #[.int .u32 0, .int .u32 0, .int .u8 0, .int .u16 0, .int .u16 0], .agg #[.int .u32 0, .int .u32 0, .int .u8 0, .int .u16 0, .int .u16 0], .bool false, .int .u8 0, .int .u8 0, .int .i64 0, .int .u32 0] : Array Value).toList 8 = some ([.agg [.lit (.int .u32 0), .lit (.int .u32 0), .lit (.int .u8 0), .lit (.int .u16 0), .lit (.int .u16 0)], .agg [.lit (.int .u32 0), .lit (.int .u32 0), .lit (.int .u8 0), .lit (.int .u16 0), .lit (.int .u16 0)], .lit (.bool false), .lit (.int .u8 0), .lit (.int .u8 0), .lit (.int .i64 0), .lit (.int .u32 0)], [], places) :=
  ⟨[], by kernel_rfl⟩

set_option maxRecDepth 100000 in
theorem lifted (os : Os) (started : os.Started) (H : Type) (enc : TypeId × Value → H) (F : Stop.Interp) :
    ReturnsInHanded {} Tryz.checked os 6 .any ((OpenSpec.ofChange Rows.flowAboutSpec).preRow enc Tryz.prog Tryz.f6 Rows.flowAboutRow.domain false Rows.flowAboutRow.laid) (((OpenSpec.ofChange Rows.flowAboutSpec).at F).post enc Tryz.prog Tryz.f6 false true false false) := by
  obtain ⟨places, hx⟩ := reads os enc
  refine returnsInHanded_of_row (C := Tryz.checked) (s := OpenSpec.ofChange Rows.flowAboutSpec) own started (by kernel_rfl) Tryz.func6
    (witness_row_at (enc := enc) (C := Tryz.checked) false (laidWorld os) #[.agg #[.int .u32 0, .int .u32 0, .int .u8 0, .int .u16 0, .int .u16 0], .agg #[.int .u32 0, .int .u32 0, .int .u8 0, .int .u16 0, .int .u16 0], .bool false, .int .u8 0, .int .u8 0, .int .i64 0, .int .u32 0] rfl (by kernel_rfl) (by kernel_rfl) (by kernel_rfl)
      (OpenSpec.preRow_of_cond 8 hx (by kernel_rfl) (fun k hk => by cases hk) (by kernel_rfl) (laid_met os))) ?_
  intro W base args ds gs before hval hW _ _ hsz hL _ _
  exact contract H enc W base args ds gs before hval hW hsz hL

theorem said : Rows.FlowAboutSaid :=
  OpenClaim.holds_of_cond 6 Tryz.f6 rfl rfl rfl rfl rfl rfl rfl ⟨rfl, rfl, rfl, rfl, rfl⟩ rfl rfl rfl rfl rfl (by kernel_rfl) Tryz.func6 (by kernel_rfl)
    (of_decide_eq_true (by kernel_rfl)) (by unfold Func.isWrapper; first | (rw [if_pos (by decide +kernel)]; kernel_rfl) | (rw [if_neg (by decide +kernel)]; exact ⟨rfl, rfl⟩))
    (fun os started H enc _ F => by rw [OpenClaim.pre_eq_preRow]; exact lifted os started H enc F)

/-- No parameter wants a stand-in; the program has looks of its own. -/
theorem plain (f : FuncId) (fn : Func) (hf : Tryz.pinned.checked.prog.funcNamed "weft/weftlaw21.FlowAbout" = some f) (hfn : Tryz.pinned.checked.prog.funcs[f]? = some fn) :
    true = Tryz.pinned.checked.prog.looks [] ∧ ∀ (j : Nat) t, fn.params[j]? = some t → Tryz.pinned.checked.prog.wantsStandIn t = false := by
  obtain rfl : f = 6 := Option.some.inj ((show Tryz.prog.funcNamed "weft/weftlaw21.FlowAbout" = some 6 by kernel_rfl).symm.trans hf) |>.symm
  obtain rfl : fn = Tryz.f6 := (Option.some.inj (Tryz.func6.symm.trans hfn)).symm
  refine ⟨by kernel_rfl, fun j t ht => ?_⟩
  rw [Tryz.params6] at ht
  have h : t = 3 ∨ t = 4 ∨ t = 5 ∨ t = 34 ∨ t = 31 := by
    rcases j with _ | _ | _ | _ | _ | _ | _ | j <;> simp at ht <;> simp [← ht]
  rcases h with rfl | rfl | rfl | rfl | rfl
  · exact (show Tryz.prog.wantsStandIn 3 = false by kernel_rfl)
  · exact (show Tryz.prog.wantsStandIn 4 = false by kernel_rfl)
  · exact (show Tryz.prog.wantsStandIn 5 = false by kernel_rfl)
  · exact (show Tryz.prog.wantsStandIn 34 = false by kernel_rfl)
  · exact (show Tryz.prog.wantsStandIn 31 = false by kernel_rfl)

theorem card : Rows.FlowAboutCardSaid :=
  Claim7.holds_tied_plain_at .later [] _ _ _ _ said (fun _ h => by cases h) (by kernel_rfl) (fun _ h => by cases h) flowAbout_row_tie rfl ⟨rfl, rfl⟩ (by kernel_rfl) rfl plain (by kernel_rfl)
end Go.Proofs.YthmhiehglcfepaaGreatDoor.N.flowAbout
namespace Go.Proofs.YthmhiehglcfepaaGreatDoor
theorem flowAbout_holds : Rows.FlowAboutCardSaid := N.flowAbout.card
#print axioms flowAbout_holds
end Go.Proofs.YthmhiehglcfepaaGreatDoor
