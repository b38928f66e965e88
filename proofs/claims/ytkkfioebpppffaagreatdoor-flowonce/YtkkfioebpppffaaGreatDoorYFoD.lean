import Derived.Test.YtkkfioebpppffaaGreatDoorEP
namespace Go.Proofs.YtkkfioebpppffaaGreatDoor.Fl
open Go.Proofs.YtkkfioebpppffaaGreatDoor Go.ChangeShapes Go.WideShapes Go.ChangeAt Go.RowKit Go.Maps N
open Go.Shelf Go.Lib
set_option maxHeartbeats 8000000
set_option maxRecDepth 100000

theorem fl_th (g o : Nat) (u : World) : (Instr.fieldAt 45 (.pointer (some ⟨g, o, none⟩)) 0).run Tryz.prog u = .ok (.pointer (some ⟨g, o, none⟩)) u := by kernel_rfl
theorem fl_bk (g o : Nat) (u : World) : (Instr.fieldAt 45 (.pointer (some ⟨g, o, none⟩)) 1).run Tryz.prog u = .ok (.pointer (some ⟨g, o + 5, none⟩)) u := by kernel_rfl
theorem tu_p (g o : Nat) (u : World) : (Instr.fieldAt 37 (.pointer (some ⟨g, o, none⟩)) 2).run Tryz.prog u = .ok (.pointer (some ⟨g, o + 2, none⟩)) u := by kernel_rfl
theorem tu_sp (g o : Nat) (u : World) : (Instr.fieldAt 37 (.pointer (some ⟨g, o, none⟩)) 3).run Tryz.prog u = .ok (.pointer (some ⟨g, o + 3, none⟩)) u := by kernel_rfl
theorem tu_dp (g o : Nat) (u : World) : (Instr.fieldAt 37 (.pointer (some ⟨g, o, none⟩)) 4).run Tryz.prog u = .ok (.pointer (some ⟨g, o + 4, none⟩)) u := by kernel_rfl

/-- An entry of a list of flows. -/
structure EntF (u : World) (g j : Nat) (f : Fw) : Prop where
  th : (Instr.loadAt 37 (.pointer (some ⟨g, j * 12, none⟩))).run Tryz.prog u = .ok (.agg f.th.cells) u
  bk : (Instr.loadAt 37 (.pointer (some ⟨g, j * 12 + 5, none⟩))).run Tryz.prog u = .ok (.agg f.bk.cells) u
  fl : (Instr.loadAt 45 (.pointer (some ⟨g, j * 12, none⟩))).run Tryz.prog u = .ok (.agg f.cells) u
  tp : u.cell? ⟨g, j * 12 + 2, none⟩ = some (.int .u8 (f.th.p : Int))
  bp : u.cell? ⟨g, j * 12 + 5 + 2, none⟩ = some (.int .u8 (f.bk.p : Int))
  bsp : u.cell? ⟨g, j * 12 + 5 + 3, none⟩ = some (.int .u16 (f.bk.sp : Int))
  bdp : u.cell? ⟨g, j * 12 + 5 + 4, none⟩ = some (.int .u16 (f.bk.dp : Int))
theorem own_ent {w : World} {B : Nat} {a : Option Addr} {n c : Nat} {R : List Fw} {j : Nat} {f : Fw} (h : Ow.Own kF w B (.slice a n c) R) (hx : R[j]? = some f) :
    ∃ g, a = some ⟨g, 0, none⟩ ∧ ∀ u : World, u.heap[g]? = w.heap[g]? → EntF u g j f := by
  obtain ⟨g, h1, h2, h3⟩ := h.at hx
  refine ⟨g, h1, fun u hu => ?_⟩
  obtain ⟨h4, h5⟩ := h3 u hu
  have hc : ∀ i, i < 12 → u.cell? ⟨g, j * 12 + i, none⟩ = f.cells[i]? := fun i hi => (h4 i hi).1
  obtain ⟨d, hd1, hd2⟩ := isTu
  refine ⟨?_, ?_, h5, hc 2 (by omega), ?_, ?_, ?_⟩
  · refine run_loadAt_mid u g (j * 12) 37 f.th.cells.toList d (fun i v hv => ?_) hd1 hd2 (by kernel_rfl)
    have hi : i < 5 := (List.getElem?_eq_some_iff.1 hv).1
    rw [hc i (by omega), ← hv, Array.getElem?_toList]
    match i, hi with
    | 0, _ | 1, _ | 2, _ | 3, _ | 4, _ => rfl
  · refine run_loadAt_mid u g (j * 12 + 5) 37 f.bk.cells.toList d (fun i v hv => ?_) hd1 hd2 (by kernel_rfl)
    have hi : i < 5 := (List.getElem?_eq_some_iff.1 hv).1
    rw [Nat.add_assoc, hc (5 + i) (by omega), ← hv, Array.getElem?_toList]
    match i, hi with
    | 0, _ | 1, _ | 2, _ | 3, _ | 4, _ => rfl
  · rw [Nat.add_assoc]; exact hc 7 (by omega)
  · rw [Nat.add_assoc]; exact hc 8 (by omega)
  · rw [Nat.add_assoc]; exact hc 9 (by omega)
theorem ents {w : World} {B : Nat} {a : Option Addr} {n c : Nat} {R : List Fw} (h : Ow.Own kF w B (.slice a n c) R) : ∀ j (hj : j < R.length), ∃ g, a = some ⟨g, 0, none⟩ ∧ ∀ u, Below w.heap.size w u → EntF u g j R[j] := fun j hj => by
  have hx : R[j]? = some R[j] := List.getElem?_eq_getElem hj
  obtain ⟨g, h1, h2⟩ := own_ent h hx
  have hlt : g < w.heap.size := by
    obtain ⟨g', h3, h4, _⟩ := h.at hx
    rw [h1] at h3
    injection h3 with h3
    injection h3 with h3
    omega
  exact ⟨g, h1, fun u hu => h2 u (hu.block g hlt)⟩
section
variable {o : Oper} {a : Act} {w : World}
theorem ex_ne8 (x y : Operand) (T' : TypeId) (i j : Int) (ho : o.op = .binOp .neq 5 x y T') (hx : a.eval x = .int .u8 i) (hy : a.eval y = .int .u8 j) (h : i = j) : (execOp a.eval o).run Tryz.prog w = .ok (.value (.bool false)) w := by
  subst h
  unfold execOp
  simp only [ho, hx, hy]
  simp [eqGuard, binOp, go_sem]
theorem ex_neF (x y : Operand) (T : TypeId) (c : Fw) (ho : o.op = .binOp .neq 45 x y T) (hx : a.eval x = .agg c.cells) (hy : a.eval y = .agg c.cells) : (execOp a.eval o).run Tryz.prog w = .ok (.value (.bool false)) w := by
  have h : (Op.equal 45 (.agg c.cells) (.agg c.cells)).run Tryz.prog w = .ok (decide (c = c)) w := eqFw 9997 c c w
  unfold execOp
  simp only [ho, hx, hy]
  simp [eqGuard, binOp, go_sem, h]
end

theorem once_any (w : World) (B : Nat) (a : Option Addr) (n c : Nat) (R : List Fw) (ho : Ow.Own kF w B (.slice a n c) R) (hO : Onc R) (hl : R.length ≤ 1000000) :
    Calls Tryz.prog 8 #[.slice a n c] w fun e w' => e = .returned (.bool true) ∧ Below w.heap.size w w' := by
  obtain ⟨_, _, _, e0, HN, -, -⟩ := ho.shape
  simp only [Value.slice.injEq] at e0
  obtain ⟨rfl, rfl, rfl⟩ := e0
  have HAT := hid (ents ho)
  have HO := hid hO
  have hn6 : n ≤ 1000000 := by rw [HN.out]; exact hl
  have HBR : Hid (Below w.heap.size w w) := Below.refl _ _
  clear ho hl hO
  go_enter Tryz.func8, Tryz.ntmps8
  go_wp2_with fail
  go_loopw [3] (fun kv wr => ∃ i : Nat, kv = .int .i64 (i : Int) ∧ i ≤ n ∧ Hid (Below w.heap.size w wr)) (fun kv _ => match kv with | .int _ z => n - z.toNat | _ => 0)
  case atStart => exact ⟨0, rfl, Nat.zero_le _, HBR⟩
  case round =>
    obtain ⟨i, rfl, hi, HB⟩ := hrel
    by_cases hin : i < n
    · have hil : i < R.length := by rw [← HN.out]; exact hin
      obtain ⟨g, rfl, hent⟩ := HAT.out i hil
      obtain ⟨X, HX⟩ : ∃ x : Fw, Hid (x = R[i]'hil) := ⟨_, rfl⟩
      rw [← HX.out] at hent
      obtain ⟨s1, s2⟩ := HO.out.self X (by rw [HX.out]; exact List.getElem_mem hil)
      have HS1 : Hid (decide (X.th = X.bk) = false) := decide_eq_false s1
      have HPP : Hid (X.th.p = X.bk.p) := s2
      have HIN := hid hin
      have HIL := hid hil
      have HE : Hid (∀ u : World, Below wr.heap.size wr u → EntF u g i X) := fun u hu => hent u (HB.out.trans (hu.mono HB.out.size))
      have HENT := hid hent
      clear hent s1 s2
      go_upto_region 4 with fail
      refine wp_region_guarded' 25 (fun i => ([11, 12, 13, 14, 15, 16, 17, 18, 19, 20, 21, 22, 23, 24, 25, 26, 27, 28, 29, 30, 31, 32, 33, 34, 35] : List Tmp).getD i 0) (Vs [.slice (some ⟨g, 0, none⟩) n c, .int .i64 (i : Int), .pointer (some ⟨g, i * 12, none⟩), .pointer (some ⟨g, i * 12, none⟩), .agg (X).th.cells, .slice (some ⟨g, 0, none⟩) n c, .int .i64 (i : Int), .pointer (some ⟨g, i * 12, none⟩), .pointer (some ⟨g, i * 12 + 5, none⟩), .agg (X).bk.cells, .bool false, .bool false, .slice (some ⟨g, 0, none⟩) n c, .int .i64 (i : Int), .pointer (some ⟨g, i * 12, none⟩), .pointer (some ⟨g, i * 12, none⟩), .pointer (some ⟨g, i * 12 + 2, none⟩), .int .u8 ((X.th.p : Nat) : Int), .slice (some ⟨g, 0, none⟩) n c, .int .i64 (i : Int), .pointer (some ⟨g, i * 12, none⟩), .pointer (some ⟨g, i * 12 + 5, none⟩), .pointer (some ⟨g, i * 12 + 5 + 2, none⟩), .int .u8 ((X.bk.p : Nat) : Int), .bool false]) (fun u => Below wr.heap.size wr u) (fun _ u u' => Below u.heap.size u u') (by kernel_rfl) (by kernel_rfl) ⟨rfl, rfl, rfl, Nat.le_refl _, fun _ _ => rfl⟩ (fun _ _ _ _ _ _ h _ _ => h) ?_ ?_
      · simp only [List.take_succ_cons, List.take_zero, stepsG]
        refine ⟨?_, ?_, ?_, ?_, ?_, ?_, ?_, ?_, ?_, ?_, ?_, ?_, ?_, ?_, ?_, ?_, ?_, ?_, ?_, ?_, ?_, ?_, ?_, ?_, ?_, trivial⟩
        · intro a u vs hI hold hdep
          exact opAt_plain rfl (wp_still (ex_move (.tmp 0) _ rfl (hold 0 (dlM (L := [11, 12, 13, 14, 15, 16, 17, 18, 19, 20, 21, 22, 23, 24, 25, 26, 27, 28, 29, 30, 31, 32, 33, 34, 35]) (by decide)))) rfl rfl hI)
        · intro a u vs hI hold hdep
          exact opAt_plain rfl (wp_still (ex_move (.tmp 3) _ rfl (hold 3 (dlM (L := [11, 12, 13, 14, 15, 16, 17, 18, 19, 20, 21, 22, 23, 24, 25, 26, 27, 28, 29, 30, 31, 32, 33, 34, 35]) (by decide)))) rfl rfl hI)
        · intro a u vs hI hold hdep
          exact opAt_plain rfl (wp_still (ex_index 41 (.tmp 11) (.tmp 12) _ _ _ rfl (Vs.dep (hdep ⟨0, .data⟩ (by simp) rfl (by decide)) rfl) (Vs.dep (hdep ⟨1, .data⟩ (by simp) rfl (by decide)) rfl) (idxFl HIN.out u)) rfl rfl hI)
        · intro a u vs hI hold hdep
          exact opAt_plain rfl (wp_still (ex_field _ ⟨g, i * 12, none⟩ (.tmp 13) 0 _ rfl (Vs.dep (hdep ⟨2, .data⟩ (by simp) rfl (by decide)) rfl) (fl_th _ _ u)) rfl rfl hI)
        · intro a u vs hI hold hdep
          exact opAt_plain rfl (wp_still (ex_load _ ⟨g, i * 12, none⟩ (.tmp 14) _ rfl (Vs.dep (hdep ⟨3, .data⟩ (by simp) rfl (by decide)) rfl) ((HE.out u hI).th)) rfl rfl hI)
        · intro a u vs hI hold hdep
          exact opAt_plain rfl (wp_still (ex_move (.tmp 0) _ rfl (hold 0 (dlM (L := [11, 12, 13, 14, 15, 16, 17, 18, 19, 20, 21, 22, 23, 24, 25, 26, 27, 28, 29, 30, 31, 32, 33, 34, 35]) (by decide)))) rfl rfl hI)
        · intro a u vs hI hold hdep
          exact opAt_plain rfl (wp_still (ex_move (.tmp 3) _ rfl (hold 3 (dlM (L := [11, 12, 13, 14, 15, 16, 17, 18, 19, 20, 21, 22, 23, 24, 25, 26, 27, 28, 29, 30, 31, 32, 33, 34, 35]) (by decide)))) rfl rfl hI)
        · intro a u vs hI hold hdep
          exact opAt_plain rfl (wp_still (ex_index 41 (.tmp 16) (.tmp 17) _ _ _ rfl (Vs.dep (hdep ⟨5, .data⟩ (by simp) rfl (by decide)) rfl) (Vs.dep (hdep ⟨6, .data⟩ (by simp) rfl (by decide)) rfl) (idxFl HIN.out u)) rfl rfl hI)
        · intro a u vs hI hold hdep
          exact opAt_plain rfl (wp_still (ex_field _ ⟨g, i * 12, none⟩ (.tmp 18) 1 _ rfl (Vs.dep (hdep ⟨7, .data⟩ (by simp) rfl (by decide)) rfl) (fl_bk _ _ u)) rfl rfl hI)
        · intro a u vs hI hold hdep
          exact opAt_plain rfl (wp_still (ex_load _ ⟨g, i * 12 + 5, none⟩ (.tmp 19) _ rfl (Vs.dep (hdep ⟨8, .data⟩ (by simp) rfl (by decide)) rfl) ((HE.out u hI).bk)) rfl rfl hI)
        · intro a u vs hI hold hdep
          exact opAt_plain rfl (wp_still (ex_eqTb (.tmp 15) (.tmp 20) _ _ _ false rfl (Vs.dep (hdep ⟨4, .data⟩ (by simp) rfl (by decide)) rfl) (Vs.dep (hdep ⟨9, .data⟩ (by simp) rfl (by decide)) rfl) HS1.out) rfl rfl hI)
        · intro a u vs hI hold hdep
          exact opAt_plain rfl (wp_still (ex_move (.tmp 21) _ rfl (Vs.dep (hdep ⟨10, .data⟩ (by simp) rfl (by decide)) rfl)) rfl rfl hI)
        · intro a u vs hI hold hdep
          exact opAt_go (j := 11) (t := 22) (b := false) rfl rfl (Vs.dep (hdep ⟨11, .guard⟩ (by simp) rfl (by decide)) rfl) (wp_still (ex_move (.tmp 0) _ rfl (hold 0 (dlM (L := [11, 12, 13, 14, 15, 16, 17, 18, 19, 20, 21, 22, 23, 24, 25, 26, 27, 28, 29, 30, 31, 32, 33, 34, 35]) (by decide)))) rfl rfl hI)
        · intro a u vs hI hold hdep
          exact opAt_go (j := 11) (t := 22) (b := false) rfl rfl (Vs.dep (hdep ⟨11, .guard⟩ (by simp) rfl (by decide)) rfl) (wp_still (ex_move (.tmp 3) _ rfl (hold 3 (dlM (L := [11, 12, 13, 14, 15, 16, 17, 18, 19, 20, 21, 22, 23, 24, 25, 26, 27, 28, 29, 30, 31, 32, 33, 34, 35]) (by decide)))) rfl rfl hI)
        · intro a u vs hI hold hdep
          exact opAt_go (j := 11) (t := 22) (b := false) rfl rfl (Vs.dep (hdep ⟨11, .guard⟩ (by simp) rfl (by decide)) rfl) (wp_still (ex_index 41 (.tmp 23) (.tmp 24) _ _ _ rfl (Vs.dep (hdep ⟨12, .data⟩ (by simp) rfl (by decide)) rfl) (Vs.dep (hdep ⟨13, .data⟩ (by simp) rfl (by decide)) rfl) (idxFl HIN.out u)) rfl rfl hI)
        · intro a u vs hI hold hdep
          exact opAt_go (j := 11) (t := 22) (b := false) rfl rfl (Vs.dep (hdep ⟨11, .guard⟩ (by simp) rfl (by decide)) rfl) (wp_still (ex_field _ ⟨g, i * 12, none⟩ (.tmp 25) 0 _ rfl (Vs.dep (hdep ⟨14, .data⟩ (by simp) rfl (by decide)) rfl) (fl_th _ _ u)) rfl rfl hI)
        · intro a u vs hI hold hdep
          exact opAt_go (j := 11) (t := 22) (b := false) rfl rfl (Vs.dep (hdep ⟨11, .guard⟩ (by simp) rfl (by decide)) rfl) (wp_still (ex_field _ ⟨g, i * 12, none⟩ (.tmp 26) 2 _ rfl (Vs.dep (hdep ⟨15, .data⟩ (by simp) rfl (by decide)) rfl) (tu_p _ _ u)) rfl rfl hI)
        · intro a u vs hI hold hdep
          exact opAt_go (j := 11) (t := 22) (b := false) rfl rfl (Vs.dep (hdep ⟨11, .guard⟩ (by simp) rfl (by decide)) rfl) (wp_still (ex_load _ ⟨g, i * 12 + 2, none⟩ (.tmp 27) _ rfl (Vs.dep (hdep ⟨16, .data⟩ (by simp) rfl (by decide)) rfl) (ldB (HE.out u hI).tp)) rfl rfl hI)
        · intro a u vs hI hold hdep
          exact opAt_go (j := 11) (t := 22) (b := false) rfl rfl (Vs.dep (hdep ⟨11, .guard⟩ (by simp) rfl (by decide)) rfl) (wp_still (ex_move (.tmp 0) _ rfl (hold 0 (dlM (L := [11, 12, 13, 14, 15, 16, 17, 18, 19, 20, 21, 22, 23, 24, 25, 26, 27, 28, 29, 30, 31, 32, 33, 34, 35]) (by decide)))) rfl rfl hI)
        · intro a u vs hI hold hdep
          exact opAt_go (j := 11) (t := 22) (b := false) rfl rfl (Vs.dep (hdep ⟨11, .guard⟩ (by simp) rfl (by decide)) rfl) (wp_still (ex_move (.tmp 3) _ rfl (hold 3 (dlM (L := [11, 12, 13, 14, 15, 16, 17, 18, 19, 20, 21, 22, 23, 24, 25, 26, 27, 28, 29, 30, 31, 32, 33, 34, 35]) (by decide)))) rfl rfl hI)
        · intro a u vs hI hold hdep
          exact opAt_go (j := 11) (t := 22) (b := false) rfl rfl (Vs.dep (hdep ⟨11, .guard⟩ (by simp) rfl (by decide)) rfl) (wp_still (ex_index 41 (.tmp 29) (.tmp 30) _ _ _ rfl (Vs.dep (hdep ⟨18, .data⟩ (by simp) rfl (by decide)) rfl) (Vs.dep (hdep ⟨19, .data⟩ (by simp) rfl (by decide)) rfl) (idxFl HIN.out u)) rfl rfl hI)
        · intro a u vs hI hold hdep
          exact opAt_go (j := 11) (t := 22) (b := false) rfl rfl (Vs.dep (hdep ⟨11, .guard⟩ (by simp) rfl (by decide)) rfl) (wp_still (ex_field _ ⟨g, i * 12, none⟩ (.tmp 31) 1 _ rfl (Vs.dep (hdep ⟨20, .data⟩ (by simp) rfl (by decide)) rfl) (fl_bk _ _ u)) rfl rfl hI)
        · intro a u vs hI hold hdep
          exact opAt_go (j := 11) (t := 22) (b := false) rfl rfl (Vs.dep (hdep ⟨11, .guard⟩ (by simp) rfl (by decide)) rfl) (wp_still (ex_field _ ⟨g, i * 12 + 5, none⟩ (.tmp 32) 2 _ rfl (Vs.dep (hdep ⟨21, .data⟩ (by simp) rfl (by decide)) rfl) (tu_p _ _ u)) rfl rfl hI)
        · intro a u vs hI hold hdep
          exact opAt_go (j := 11) (t := 22) (b := false) rfl rfl (Vs.dep (hdep ⟨11, .guard⟩ (by simp) rfl (by decide)) rfl) (wp_still (ex_load _ ⟨g, i * 12 + 5 + 2, none⟩ (.tmp 33) _ rfl (Vs.dep (hdep ⟨22, .data⟩ (by simp) rfl (by decide)) rfl) (ldB (HE.out u hI).bp)) rfl rfl hI)
        · intro a u vs hI hold hdep
          exact opAt_go (j := 11) (t := 22) (b := false) rfl rfl (Vs.dep (hdep ⟨11, .guard⟩ (by simp) rfl (by decide)) rfl) (wp_still (ex_ne8 (.tmp 28) (.tmp 34) _ _ _ rfl (Vs.dep (hdep ⟨17, .data⟩ (by simp) rfl (by decide)) rfl) (Vs.dep (hdep ⟨23, .data⟩ (by simp) rfl (by decide)) rfl) (by rw [HPP.out])) rfl rfl hI)
      intro vs u hI hF
      have e0 : vs 0 = .slice (some ⟨g, 0, none⟩) n c := (Option.some.inj (hF 0 (by decide))).symm
      have e1 : vs 1 = .int .i64 (i : Int) := (Option.some.inj (hF 1 (by decide))).symm
      have e2 : vs 2 = .pointer (some ⟨g, i * 12, none⟩) := (Option.some.inj (hF 2 (by decide))).symm
      have e3 : vs 3 = .pointer (some ⟨g, i * 12, none⟩) := (Option.some.inj (hF 3 (by decide))).symm
      have e4 : vs 4 = .agg (X).th.cells := (Option.some.inj (hF 4 (by decide))).symm
      have e5 : vs 5 = .slice (some ⟨g, 0, none⟩) n c := (Option.some.inj (hF 5 (by decide))).symm
      have e6 : vs 6 = .int .i64 (i : Int) := (Option.some.inj (hF 6 (by decide))).symm
      have e7 : vs 7 = .pointer (some ⟨g, i * 12, none⟩) := (Option.some.inj (hF 7 (by decide))).symm
      have e8 : vs 8 = .pointer (some ⟨g, i * 12 + 5, none⟩) := (Option.some.inj (hF 8 (by decide))).symm
      have e9 : vs 9 = .agg (X).bk.cells := (Option.some.inj (hF 9 (by decide))).symm
      have e10 : vs 10 = .bool false := (Option.some.inj (hF 10 (by decide))).symm
      have e11 : vs 11 = .bool false := (Option.some.inj (hF 11 (by decide))).symm
      have e12 : vs 12 = .slice (some ⟨g, 0, none⟩) n c := (Option.some.inj (hF 12 (by decide))).symm
      have e13 : vs 13 = .int .i64 (i : Int) := (Option.some.inj (hF 13 (by decide))).symm
      have e14 : vs 14 = .pointer (some ⟨g, i * 12, none⟩) := (Option.some.inj (hF 14 (by decide))).symm
      have e15 : vs 15 = .pointer (some ⟨g, i * 12, none⟩) := (Option.some.inj (hF 15 (by decide))).symm
      have e16 : vs 16 = .pointer (some ⟨g, i * 12 + 2, none⟩) := (Option.some.inj (hF 16 (by decide))).symm
      have e17 : vs 17 = .int .u8 ((X.th.p : Nat) : Int) := (Option.some.inj (hF 17 (by decide))).symm
      have e18 : vs 18 = .slice (some ⟨g, 0, none⟩) n c := (Option.some.inj (hF 18 (by decide))).symm
      have e19 : vs 19 = .int .i64 (i : Int) := (Option.some.inj (hF 19 (by decide))).symm
      have e20 : vs 20 = .pointer (some ⟨g, i * 12, none⟩) := (Option.some.inj (hF 20 (by decide))).symm
      have e21 : vs 21 = .pointer (some ⟨g, i * 12 + 5, none⟩) := (Option.some.inj (hF 21 (by decide))).symm
      have e22 : vs 22 = .pointer (some ⟨g, i * 12 + 5 + 2, none⟩) := (Option.some.inj (hF 22 (by decide))).symm
      have e23 : vs 23 = .int .u8 ((X.bk.p : Nat) : Int) := (Option.some.inj (hF 23 (by decide))).symm
      have e24 : vs 24 = .bool false := (Option.some.inj (hF 24 (by decide))).symm
      clear hF
      simp only [List.drop_succ_cons, List.drop_zero, puts, List.range, List.range.loop, List.foldr, if_true, List.getD_cons_zero, List.getD_cons_succ, e0, e1, e2, e3, e4, e5, e6, e7, e8, e9, e10, e11, e12, e13, e14, e15, e16, e17, e18, e19, e20, e21, e22, e23, e24, Act.put, List.setIfInBounds_toArray, List.set_cons_zero, List.set_cons_succ]
      clear e0 e1 e2 e3 e4 e5 e6 e7 e8 e9 e10 e11 e12 e13 e14 e15 e16 e17 e18 e19 e20 e21 e22 e23 e24
      have HBU := hid (HB.out.trans (hI.mono HB.out.size))
      clear hI HE
      go_upto_region 7 with fail
      go_loopw [4] (fun jv wr2 => ∃ j : Nat, jv = .int .i64 (j : Int) ∧ j ≤ i ∧ Hid (Below w.heap.size w wr2)) (fun jv _ => match jv with | .int _ z => i - z.toNat | _ => 0)
      case atStart => exact ⟨0, rfl, Nat.zero_le _, HBU⟩
      case round =>
        obtain ⟨j, rfl, hj, HB2⟩ := hrel
        by_cases hji : j < i
        · have hjl : j < R.length := by have := HIL.out; omega
          obtain ⟨Y2, HY⟩ : ∃ x : Fw, Hid (x = R[j]'hjl) := ⟨_, rfl⟩
          have hfn : ∀ u : World, Below wr.heap.size wr u → EntF u g j Y2 := fun u hu => by
            obtain ⟨g', hg', h⟩ := HAT.out j hjl
            injection hg' with hg'
            injection hg' with hg'
            subst hg'
            rw [HY.out]
            exact h u (HB2.out.trans (hu.mono HB2.out.size))
          have HF := hid hfn
          have HE : Hid (∀ u : World, Below wr.heap.size wr u → EntF u g i X) := fun u hu => HENT.out u (HB2.out.trans (hu.mono HB2.out.size))
          have hap := HO.out.at HIL.out hji
          rw [← HX.out, ← HY.out] at hap
          have HA1 : Hid (decide (X.th = Y2.th) = false) := decide_eq_false hap.1
          have HA2 : Hid (decide (X.th = Y2.bk) = false) := decide_eq_false hap.2.1
          have HA3 : Hid (decide (X.bk = Y2.th) = false) := decide_eq_false hap.2.2.1
          have HA4 : Hid (decide (X.bk = Y2.bk) = false) := decide_eq_false hap.2.2.2
          have HJN : Hid (j < n) := by unfold Hid; omega
          clear hfn hap
          go_upto_region 9 with fail
          refine wp_region_guarded' 49 (fun i => ([42, 43, 44, 45, 46, 47, 48, 49, 50, 51, 52, 53, 54, 55, 56, 57, 58, 59, 60, 61, 62, 63, 64, 65, 66, 67, 68, 69, 70, 71, 72, 73, 74, 75, 76, 77, 78, 79, 80, 81, 82, 83, 84, 85, 86, 87, 88, 89, 90] : List Tmp).getD i 0) (Vs [.slice (some ⟨g, 0, none⟩) n c, .int .i64 (i : Int), .pointer (some ⟨g, i * 12, none⟩), .pointer (some ⟨g, i * 12, none⟩), .agg (X).th.cells, .slice (some ⟨g, 0, none⟩) n c, .int .i64 (j : Int), .pointer (some ⟨g, j * 12, none⟩), .pointer (some ⟨g, j * 12, none⟩), .agg (Y2).th.cells, .bool false, .bool false, .slice (some ⟨g, 0, none⟩) n c, .int .i64 (i : Int), .pointer (some ⟨g, i * 12, none⟩), .pointer (some ⟨g, i * 12, none⟩), .agg (X).th.cells, .slice (some ⟨g, 0, none⟩) n c, .int .i64 (j : Int), .pointer (some ⟨g, j * 12, none⟩), .pointer (some ⟨g, j * 12 + 5, none⟩), .agg (Y2).bk.cells, .bool false, .bool false, .bool false, .slice (some ⟨g, 0, none⟩) n c, .int .i64 (i : Int), .pointer (some ⟨g, i * 12, none⟩), .pointer (some ⟨g, i * 12 + 5, none⟩), .agg (X).bk.cells, .slice (some ⟨g, 0, none⟩) n c, .int .i64 (j : Int), .pointer (some ⟨g, j * 12, none⟩), .pointer (some ⟨g, j * 12, none⟩), .agg (Y2).th.cells, .bool false, .bool false, .bool false, .slice (some ⟨g, 0, none⟩) n c, .int .i64 (i : Int), .pointer (some ⟨g, i * 12, none⟩), .pointer (some ⟨g, i * 12 + 5, none⟩), .agg (X).bk.cells, .slice (some ⟨g, 0, none⟩) n c, .int .i64 (j : Int), .pointer (some ⟨g, j * 12, none⟩), .pointer (some ⟨g, j * 12 + 5, none⟩), .agg (Y2).bk.cells, .bool false]) (fun u => Below wr.heap.size wr u) (fun _ u u' => Below u.heap.size u u') (by kernel_rfl) (by kernel_rfl) ⟨rfl, rfl, rfl, Nat.le_refl _, fun _ _ => rfl⟩ (fun _ _ _ _ _ _ h _ _ => h) ?_ ?_
          · simp only [List.take_succ_cons, List.take_zero, stepsG]
            refine ⟨?_, ?_, ?_, ?_, ?_, ?_, ?_, ?_, ?_, ?_, ?_, ?_, ?_, ?_, ?_, ?_, ?_, ?_, ?_, ?_, ?_, ?_, ?_, ?_, ?_, ?_, ?_, ?_, ?_, ?_, ?_, ?_, ?_, ?_, ?_, ?_, ?_, ?_, ?_, ?_, ?_, ?_, ?_, ?_, ?_, ?_, ?_, ?_, ?_, trivial⟩
            · intro a u vs hI hold hdep
              exact opAt_plain rfl (wp_still (ex_move (.tmp 0) _ rfl (hold 0 (dlM (L := [42, 43, 44, 45, 46, 47, 48, 49, 50, 51, 52, 53, 54, 55, 56, 57, 58, 59, 60, 61, 62, 63, 64, 65, 66, 67, 68, 69, 70, 71, 72, 73, 74, 75, 76, 77, 78, 79, 80, 81, 82, 83, 84, 85, 86, 87, 88, 89, 90]) (by decide)))) rfl rfl hI)
            · intro a u vs hI hold hdep
              exact opAt_plain rfl (wp_still (ex_move (.tmp 3) _ rfl (hold 3 (dlM (L := [42, 43, 44, 45, 46, 47, 48, 49, 50, 51, 52, 53, 54, 55, 56, 57, 58, 59, 60, 61, 62, 63, 64, 65, 66, 67, 68, 69, 70, 71, 72, 73, 74, 75, 76, 77, 78, 79, 80, 81, 82, 83, 84, 85, 86, 87, 88, 89, 90]) (by decide)))) rfl rfl hI)
            · intro a u vs hI hold hdep
              exact opAt_plain rfl (wp_still (ex_index 41 (.tmp 42) (.tmp 43) _ _ _ rfl (Vs.dep (hdep ⟨0, .data⟩ (by simp) rfl (by decide)) rfl) (Vs.dep (hdep ⟨1, .data⟩ (by simp) rfl (by decide)) rfl) (idxFl HIN.out u)) rfl rfl hI)
            · intro a u vs hI hold hdep
              exact opAt_plain rfl (wp_still (ex_field _ ⟨g, i * 12, none⟩ (.tmp 44) 0 _ rfl (Vs.dep (hdep ⟨2, .data⟩ (by simp) rfl (by decide)) rfl) (fl_th _ _ u)) rfl rfl hI)
            · intro a u vs hI hold hdep
              exact opAt_plain rfl (wp_still (ex_load _ ⟨g, i * 12, none⟩ (.tmp 45) _ rfl (Vs.dep (hdep ⟨3, .data⟩ (by simp) rfl (by decide)) rfl) ((HE.out u hI).th)) rfl rfl hI)
            · intro a u vs hI hold hdep
              exact opAt_plain rfl (wp_still (ex_move (.tmp 0) _ rfl (hold 0 (dlM (L := [42, 43, 44, 45, 46, 47, 48, 49, 50, 51, 52, 53, 54, 55, 56, 57, 58, 59, 60, 61, 62, 63, 64, 65, 66, 67, 68, 69, 70, 71, 72, 73, 74, 75, 76, 77, 78, 79, 80, 81, 82, 83, 84, 85, 86, 87, 88, 89, 90]) (by decide)))) rfl rfl hI)
            · intro a u vs hI hold hdep
              exact opAt_plain rfl (wp_still (ex_move (.tmp 4) _ rfl (hold 4 (dlM (L := [42, 43, 44, 45, 46, 47, 48, 49, 50, 51, 52, 53, 54, 55, 56, 57, 58, 59, 60, 61, 62, 63, 64, 65, 66, 67, 68, 69, 70, 71, 72, 73, 74, 75, 76, 77, 78, 79, 80, 81, 82, 83, 84, 85, 86, 87, 88, 89, 90]) (by decide)))) rfl rfl hI)
            · intro a u vs hI hold hdep
              exact opAt_plain rfl (wp_still (ex_index 41 (.tmp 47) (.tmp 48) _ _ _ rfl (Vs.dep (hdep ⟨5, .data⟩ (by simp) rfl (by decide)) rfl) (Vs.dep (hdep ⟨6, .data⟩ (by simp) rfl (by decide)) rfl) (idxFl HJN.out u)) rfl rfl hI)
            · intro a u vs hI hold hdep
              exact opAt_plain rfl (wp_still (ex_field _ ⟨g, j * 12, none⟩ (.tmp 49) 0 _ rfl (Vs.dep (hdep ⟨7, .data⟩ (by simp) rfl (by decide)) rfl) (fl_th _ _ u)) rfl rfl hI)
            · intro a u vs hI hold hdep
              exact opAt_plain rfl (wp_still (ex_load _ ⟨g, j * 12, none⟩ (.tmp 50) _ rfl (Vs.dep (hdep ⟨8, .data⟩ (by simp) rfl (by decide)) rfl) ((HF.out u hI).th)) rfl rfl hI)
            · intro a u vs hI hold hdep
              exact opAt_plain rfl (wp_still (ex_eqTb (.tmp 46) (.tmp 51) _ _ _ false rfl (Vs.dep (hdep ⟨4, .data⟩ (by simp) rfl (by decide)) rfl) (Vs.dep (hdep ⟨9, .data⟩ (by simp) rfl (by decide)) rfl) HA1.out) rfl rfl hI)
            · intro a u vs hI hold hdep
              exact opAt_plain rfl (wp_still (ex_move (.tmp 52) _ rfl (Vs.dep (hdep ⟨10, .data⟩ (by simp) rfl (by decide)) rfl)) rfl rfl hI)
            · intro a u vs hI hold hdep
              exact opAt_go (j := 11) (t := 53) (b := false) rfl rfl (Vs.dep (hdep ⟨11, .guard⟩ (by simp) rfl (by decide)) rfl) (wp_still (ex_move (.tmp 0) _ rfl (hold 0 (dlM (L := [42, 43, 44, 45, 46, 47, 48, 49, 50, 51, 52, 53, 54, 55, 56, 57, 58, 59, 60, 61, 62, 63, 64, 65, 66, 67, 68, 69, 70, 71, 72, 73, 74, 75, 76, 77, 78, 79, 80, 81, 82, 83, 84, 85, 86, 87, 88, 89, 90]) (by decide)))) rfl rfl hI)
            · intro a u vs hI hold hdep
              exact opAt_go (j := 11) (t := 53) (b := false) rfl rfl (Vs.dep (hdep ⟨11, .guard⟩ (by simp) rfl (by decide)) rfl) (wp_still (ex_move (.tmp 3) _ rfl (hold 3 (dlM (L := [42, 43, 44, 45, 46, 47, 48, 49, 50, 51, 52, 53, 54, 55, 56, 57, 58, 59, 60, 61, 62, 63, 64, 65, 66, 67, 68, 69, 70, 71, 72, 73, 74, 75, 76, 77, 78, 79, 80, 81, 82, 83, 84, 85, 86, 87, 88, 89, 90]) (by decide)))) rfl rfl hI)
            · intro a u vs hI hold hdep
              exact opAt_go (j := 11) (t := 53) (b := false) rfl rfl (Vs.dep (hdep ⟨11, .guard⟩ (by simp) rfl (by decide)) rfl) (wp_still (ex_index 41 (.tmp 54) (.tmp 55) _ _ _ rfl (Vs.dep (hdep ⟨12, .data⟩ (by simp) rfl (by decide)) rfl) (Vs.dep (hdep ⟨13, .data⟩ (by simp) rfl (by decide)) rfl) (idxFl HIN.out u)) rfl rfl hI)
            · intro a u vs hI hold hdep
              exact opAt_go (j := 11) (t := 53) (b := false) rfl rfl (Vs.dep (hdep ⟨11, .guard⟩ (by simp) rfl (by decide)) rfl) (wp_still (ex_field _ ⟨g, i * 12, none⟩ (.tmp 56) 0 _ rfl (Vs.dep (hdep ⟨14, .data⟩ (by simp) rfl (by decide)) rfl) (fl_th _ _ u)) rfl rfl hI)
            · intro a u vs hI hold hdep
              exact opAt_go (j := 11) (t := 53) (b := false) rfl rfl (Vs.dep (hdep ⟨11, .guard⟩ (by simp) rfl (by decide)) rfl) (wp_still (ex_load _ ⟨g, i * 12, none⟩ (.tmp 57) _ rfl (Vs.dep (hdep ⟨15, .data⟩ (by simp) rfl (by decide)) rfl) ((HE.out u hI).th)) rfl rfl hI)
            · intro a u vs hI hold hdep
              exact opAt_go (j := 11) (t := 53) (b := false) rfl rfl (Vs.dep (hdep ⟨11, .guard⟩ (by simp) rfl (by decide)) rfl) (wp_still (ex_move (.tmp 0) _ rfl (hold 0 (dlM (L := [42, 43, 44, 45, 46, 47, 48, 49, 50, 51, 52, 53, 54, 55, 56, 57, 58, 59, 60, 61, 62, 63, 64, 65, 66, 67, 68, 69, 70, 71, 72, 73, 74, 75, 76, 77, 78, 79, 80, 81, 82, 83, 84, 85, 86, 87, 88, 89, 90]) (by decide)))) rfl rfl hI)
            · intro a u vs hI hold hdep
              exact opAt_go (j := 11) (t := 53) (b := false) rfl rfl (Vs.dep (hdep ⟨11, .guard⟩ (by simp) rfl (by decide)) rfl) (wp_still (ex_move (.tmp 4) _ rfl (hold 4 (dlM (L := [42, 43, 44, 45, 46, 47, 48, 49, 50, 51, 52, 53, 54, 55, 56, 57, 58, 59, 60, 61, 62, 63, 64, 65, 66, 67, 68, 69, 70, 71, 72, 73, 74, 75, 76, 77, 78, 79, 80, 81, 82, 83, 84, 85, 86, 87, 88, 89, 90]) (by decide)))) rfl rfl hI)
            · intro a u vs hI hold hdep
              exact opAt_go (j := 11) (t := 53) (b := false) rfl rfl (Vs.dep (hdep ⟨11, .guard⟩ (by simp) rfl (by decide)) rfl) (wp_still (ex_index 41 (.tmp 59) (.tmp 60) _ _ _ rfl (Vs.dep (hdep ⟨17, .data⟩ (by simp) rfl (by decide)) rfl) (Vs.dep (hdep ⟨18, .data⟩ (by simp) rfl (by decide)) rfl) (idxFl HJN.out u)) rfl rfl hI)
            · intro a u vs hI hold hdep
              exact opAt_go (j := 11) (t := 53) (b := false) rfl rfl (Vs.dep (hdep ⟨11, .guard⟩ (by simp) rfl (by decide)) rfl) (wp_still (ex_field _ ⟨g, j * 12, none⟩ (.tmp 61) 1 _ rfl (Vs.dep (hdep ⟨19, .data⟩ (by simp) rfl (by decide)) rfl) (fl_bk _ _ u)) rfl rfl hI)
            · intro a u vs hI hold hdep
              exact opAt_go (j := 11) (t := 53) (b := false) rfl rfl (Vs.dep (hdep ⟨11, .guard⟩ (by simp) rfl (by decide)) rfl) (wp_still (ex_load _ ⟨g, j * 12 + 5, none⟩ (.tmp 62) _ rfl (Vs.dep (hdep ⟨20, .data⟩ (by simp) rfl (by decide)) rfl) ((HF.out u hI).bk)) rfl rfl hI)
            · intro a u vs hI hold hdep
              exact opAt_go (j := 11) (t := 53) (b := false) rfl rfl (Vs.dep (hdep ⟨11, .guard⟩ (by simp) rfl (by decide)) rfl) (wp_still (ex_eqTb (.tmp 58) (.tmp 63) _ _ _ false rfl (Vs.dep (hdep ⟨16, .data⟩ (by simp) rfl (by decide)) rfl) (Vs.dep (hdep ⟨21, .data⟩ (by simp) rfl (by decide)) rfl) HA2.out) rfl rfl hI)
            · intro a u vs hI hold hdep
              exact opAt_plain rfl (wp_still (ex_pick (.tmp 53) (.const (.bool true)) (.tmp 64) false (.bool false) rfl (Vs.dep (hdep ⟨11, .data⟩ (by simp) rfl (by decide)) rfl) (Vs.dep (hdep ⟨22, .data⟩ (by simp) rfl (by decide)) rfl)) rfl rfl hI)
            · intro a u vs hI hold hdep
              exact opAt_plain rfl (wp_still (ex_move (.tmp 65) _ rfl (Vs.dep (hdep ⟨23, .data⟩ (by simp) rfl (by decide)) rfl)) rfl rfl hI)
            · intro a u vs hI hold hdep
              exact opAt_go (j := 24) (t := 66) (b := false) rfl rfl (Vs.dep (hdep ⟨24, .guard⟩ (by simp) rfl (by decide)) rfl) (wp_still (ex_move (.tmp 0) _ rfl (hold 0 (dlM (L := [42, 43, 44, 45, 46, 47, 48, 49, 50, 51, 52, 53, 54, 55, 56, 57, 58, 59, 60, 61, 62, 63, 64, 65, 66, 67, 68, 69, 70, 71, 72, 73, 74, 75, 76, 77, 78, 79, 80, 81, 82, 83, 84, 85, 86, 87, 88, 89, 90]) (by decide)))) rfl rfl hI)
            · intro a u vs hI hold hdep
              exact opAt_go (j := 24) (t := 66) (b := false) rfl rfl (Vs.dep (hdep ⟨24, .guard⟩ (by simp) rfl (by decide)) rfl) (wp_still (ex_move (.tmp 3) _ rfl (hold 3 (dlM (L := [42, 43, 44, 45, 46, 47, 48, 49, 50, 51, 52, 53, 54, 55, 56, 57, 58, 59, 60, 61, 62, 63, 64, 65, 66, 67, 68, 69, 70, 71, 72, 73, 74, 75, 76, 77, 78, 79, 80, 81, 82, 83, 84, 85, 86, 87, 88, 89, 90]) (by decide)))) rfl rfl hI)
            · intro a u vs hI hold hdep
              exact opAt_go (j := 24) (t := 66) (b := false) rfl rfl (Vs.dep (hdep ⟨24, .guard⟩ (by simp) rfl (by decide)) rfl) (wp_still (ex_index 41 (.tmp 67) (.tmp 68) _ _ _ rfl (Vs.dep (hdep ⟨25, .data⟩ (by simp) rfl (by decide)) rfl) (Vs.dep (hdep ⟨26, .data⟩ (by simp) rfl (by decide)) rfl) (idxFl HIN.out u)) rfl rfl hI)
            · intro a u vs hI hold hdep
              exact opAt_go (j := 24) (t := 66) (b := false) rfl rfl (Vs.dep (hdep ⟨24, .guard⟩ (by simp) rfl (by decide)) rfl) (wp_still (ex_field _ ⟨g, i * 12, none⟩ (.tmp 69) 1 _ rfl (Vs.dep (hdep ⟨27, .data⟩ (by simp) rfl (by decide)) rfl) (fl_bk _ _ u)) rfl rfl hI)
            · intro a u vs hI hold hdep
              exact opAt_go (j := 24) (t := 66) (b := false) rfl rfl (Vs.dep (hdep ⟨24, .guard⟩ (by simp) rfl (by decide)) rfl) (wp_still (ex_load _ ⟨g, i * 12 + 5, none⟩ (.tmp 70) _ rfl (Vs.dep (hdep ⟨28, .data⟩ (by simp) rfl (by decide)) rfl) ((HE.out u hI).bk)) rfl rfl hI)
            · intro a u vs hI hold hdep
              exact opAt_go (j := 24) (t := 66) (b := false) rfl rfl (Vs.dep (hdep ⟨24, .guard⟩ (by simp) rfl (by decide)) rfl) (wp_still (ex_move (.tmp 0) _ rfl (hold 0 (dlM (L := [42, 43, 44, 45, 46, 47, 48, 49, 50, 51, 52, 53, 54, 55, 56, 57, 58, 59, 60, 61, 62, 63, 64, 65, 66, 67, 68, 69, 70, 71, 72, 73, 74, 75, 76, 77, 78, 79, 80, 81, 82, 83, 84, 85, 86, 87, 88, 89, 90]) (by decide)))) rfl rfl hI)
            · intro a u vs hI hold hdep
              exact opAt_go (j := 24) (t := 66) (b := false) rfl rfl (Vs.dep (hdep ⟨24, .guard⟩ (by simp) rfl (by decide)) rfl) (wp_still (ex_move (.tmp 4) _ rfl (hold 4 (dlM (L := [42, 43, 44, 45, 46, 47, 48, 49, 50, 51, 52, 53, 54, 55, 56, 57, 58, 59, 60, 61, 62, 63, 64, 65, 66, 67, 68, 69, 70, 71, 72, 73, 74, 75, 76, 77, 78, 79, 80, 81, 82, 83, 84, 85, 86, 87, 88, 89, 90]) (by decide)))) rfl rfl hI)
            · intro a u vs hI hold hdep
              exact opAt_go (j := 24) (t := 66) (b := false) rfl rfl (Vs.dep (hdep ⟨24, .guard⟩ (by simp) rfl (by decide)) rfl) (wp_still (ex_index 41 (.tmp 72) (.tmp 73) _ _ _ rfl (Vs.dep (hdep ⟨30, .data⟩ (by simp) rfl (by decide)) rfl) (Vs.dep (hdep ⟨31, .data⟩ (by simp) rfl (by decide)) rfl) (idxFl HJN.out u)) rfl rfl hI)
            · intro a u vs hI hold hdep
              exact opAt_go (j := 24) (t := 66) (b := false) rfl rfl (Vs.dep (hdep ⟨24, .guard⟩ (by simp) rfl (by decide)) rfl) (wp_still (ex_field _ ⟨g, j * 12, none⟩ (.tmp 74) 0 _ rfl (Vs.dep (hdep ⟨32, .data⟩ (by simp) rfl (by decide)) rfl) (fl_th _ _ u)) rfl rfl hI)
            · intro a u vs hI hold hdep
              exact opAt_go (j := 24) (t := 66) (b := false) rfl rfl (Vs.dep (hdep ⟨24, .guard⟩ (by simp) rfl (by decide)) rfl) (wp_still (ex_load _ ⟨g, j * 12, none⟩ (.tmp 75) _ rfl (Vs.dep (hdep ⟨33, .data⟩ (by simp) rfl (by decide)) rfl) ((HF.out u hI).th)) rfl rfl hI)
            · intro a u vs hI hold hdep
              exact opAt_go (j := 24) (t := 66) (b := false) rfl rfl (Vs.dep (hdep ⟨24, .guard⟩ (by simp) rfl (by decide)) rfl) (wp_still (ex_eqTb (.tmp 71) (.tmp 76) _ _ _ false rfl (Vs.dep (hdep ⟨29, .data⟩ (by simp) rfl (by decide)) rfl) (Vs.dep (hdep ⟨34, .data⟩ (by simp) rfl (by decide)) rfl) HA3.out) rfl rfl hI)
            · intro a u vs hI hold hdep
              exact opAt_plain rfl (wp_still (ex_pick (.tmp 66) (.const (.bool true)) (.tmp 77) false (.bool false) rfl (Vs.dep (hdep ⟨24, .data⟩ (by simp) rfl (by decide)) rfl) (Vs.dep (hdep ⟨35, .data⟩ (by simp) rfl (by decide)) rfl)) rfl rfl hI)
            · intro a u vs hI hold hdep
              exact opAt_plain rfl (wp_still (ex_move (.tmp 78) _ rfl (Vs.dep (hdep ⟨36, .data⟩ (by simp) rfl (by decide)) rfl)) rfl rfl hI)
            · intro a u vs hI hold hdep
              exact opAt_go (j := 37) (t := 79) (b := false) rfl rfl (Vs.dep (hdep ⟨37, .guard⟩ (by simp) rfl (by decide)) rfl) (wp_still (ex_move (.tmp 0) _ rfl (hold 0 (dlM (L := [42, 43, 44, 45, 46, 47, 48, 49, 50, 51, 52, 53, 54, 55, 56, 57, 58, 59, 60, 61, 62, 63, 64, 65, 66, 67, 68, 69, 70, 71, 72, 73, 74, 75, 76, 77, 78, 79, 80, 81, 82, 83, 84, 85, 86, 87, 88, 89, 90]) (by decide)))) rfl rfl hI)
            · intro a u vs hI hold hdep
              exact opAt_go (j := 37) (t := 79) (b := false) rfl rfl (Vs.dep (hdep ⟨37, .guard⟩ (by simp) rfl (by decide)) rfl) (wp_still (ex_move (.tmp 3) _ rfl (hold 3 (dlM (L := [42, 43, 44, 45, 46, 47, 48, 49, 50, 51, 52, 53, 54, 55, 56, 57, 58, 59, 60, 61, 62, 63, 64, 65, 66, 67, 68, 69, 70, 71, 72, 73, 74, 75, 76, 77, 78, 79, 80, 81, 82, 83, 84, 85, 86, 87, 88, 89, 90]) (by decide)))) rfl rfl hI)
            · intro a u vs hI hold hdep
              exact opAt_go (j := 37) (t := 79) (b := false) rfl rfl (Vs.dep (hdep ⟨37, .guard⟩ (by simp) rfl (by decide)) rfl) (wp_still (ex_index 41 (.tmp 80) (.tmp 81) _ _ _ rfl (Vs.dep (hdep ⟨38, .data⟩ (by simp) rfl (by decide)) rfl) (Vs.dep (hdep ⟨39, .data⟩ (by simp) rfl (by decide)) rfl) (idxFl HIN.out u)) rfl rfl hI)
            · intro a u vs hI hold hdep
              exact opAt_go (j := 37) (t := 79) (b := false) rfl rfl (Vs.dep (hdep ⟨37, .guard⟩ (by simp) rfl (by decide)) rfl) (wp_still (ex_field _ ⟨g, i * 12, none⟩ (.tmp 82) 1 _ rfl (Vs.dep (hdep ⟨40, .data⟩ (by simp) rfl (by decide)) rfl) (fl_bk _ _ u)) rfl rfl hI)
            · intro a u vs hI hold hdep
              exact opAt_go (j := 37) (t := 79) (b := false) rfl rfl (Vs.dep (hdep ⟨37, .guard⟩ (by simp) rfl (by decide)) rfl) (wp_still (ex_load _ ⟨g, i * 12 + 5, none⟩ (.tmp 83) _ rfl (Vs.dep (hdep ⟨41, .data⟩ (by simp) rfl (by decide)) rfl) ((HE.out u hI).bk)) rfl rfl hI)
            · intro a u vs hI hold hdep
              exact opAt_go (j := 37) (t := 79) (b := false) rfl rfl (Vs.dep (hdep ⟨37, .guard⟩ (by simp) rfl (by decide)) rfl) (wp_still (ex_move (.tmp 0) _ rfl (hold 0 (dlM (L := [42, 43, 44, 45, 46, 47, 48, 49, 50, 51, 52, 53, 54, 55, 56, 57, 58, 59, 60, 61, 62, 63, 64, 65, 66, 67, 68, 69, 70, 71, 72, 73, 74, 75, 76, 77, 78, 79, 80, 81, 82, 83, 84, 85, 86, 87, 88, 89, 90]) (by decide)))) rfl rfl hI)
            · intro a u vs hI hold hdep
              exact opAt_go (j := 37) (t := 79) (b := false) rfl rfl (Vs.dep (hdep ⟨37, .guard⟩ (by simp) rfl (by decide)) rfl) (wp_still (ex_move (.tmp 4) _ rfl (hold 4 (dlM (L := [42, 43, 44, 45, 46, 47, 48, 49, 50, 51, 52, 53, 54, 55, 56, 57, 58, 59, 60, 61, 62, 63, 64, 65, 66, 67, 68, 69, 70, 71, 72, 73, 74, 75, 76, 77, 78, 79, 80, 81, 82, 83, 84, 85, 86, 87, 88, 89, 90]) (by decide)))) rfl rfl hI)
            · intro a u vs hI hold hdep
              exact opAt_go (j := 37) (t := 79) (b := false) rfl rfl (Vs.dep (hdep ⟨37, .guard⟩ (by simp) rfl (by decide)) rfl) (wp_still (ex_index 41 (.tmp 85) (.tmp 86) _ _ _ rfl (Vs.dep (hdep ⟨43, .data⟩ (by simp) rfl (by decide)) rfl) (Vs.dep (hdep ⟨44, .data⟩ (by simp) rfl (by decide)) rfl) (idxFl HJN.out u)) rfl rfl hI)
            · intro a u vs hI hold hdep
              exact opAt_go (j := 37) (t := 79) (b := false) rfl rfl (Vs.dep (hdep ⟨37, .guard⟩ (by simp) rfl (by decide)) rfl) (wp_still (ex_field _ ⟨g, j * 12, none⟩ (.tmp 87) 1 _ rfl (Vs.dep (hdep ⟨45, .data⟩ (by simp) rfl (by decide)) rfl) (fl_bk _ _ u)) rfl rfl hI)
            · intro a u vs hI hold hdep
              exact opAt_go (j := 37) (t := 79) (b := false) rfl rfl (Vs.dep (hdep ⟨37, .guard⟩ (by simp) rfl (by decide)) rfl) (wp_still (ex_load _ ⟨g, j * 12 + 5, none⟩ (.tmp 88) _ rfl (Vs.dep (hdep ⟨46, .data⟩ (by simp) rfl (by decide)) rfl) ((HF.out u hI).bk)) rfl rfl hI)
            · intro a u vs hI hold hdep
              exact opAt_go (j := 37) (t := 79) (b := false) rfl rfl (Vs.dep (hdep ⟨37, .guard⟩ (by simp) rfl (by decide)) rfl) (wp_still (ex_eqTb (.tmp 84) (.tmp 89) _ _ _ false rfl (Vs.dep (hdep ⟨42, .data⟩ (by simp) rfl (by decide)) rfl) (Vs.dep (hdep ⟨47, .data⟩ (by simp) rfl (by decide)) rfl) HA4.out) rfl rfl hI)
          intro vs u hI hF
          have e0 : vs 0 = .slice (some ⟨g, 0, none⟩) n c := (Option.some.inj (hF 0 (by decide))).symm
          have e1 : vs 1 = .int .i64 (i : Int) := (Option.some.inj (hF 1 (by decide))).symm
          have e2 : vs 2 = .pointer (some ⟨g, i * 12, none⟩) := (Option.some.inj (hF 2 (by decide))).symm
          have e3 : vs 3 = .pointer (some ⟨g, i * 12, none⟩) := (Option.some.inj (hF 3 (by decide))).symm
          have e4 : vs 4 = .agg (X).th.cells := (Option.some.inj (hF 4 (by decide))).symm
          have e5 : vs 5 = .slice (some ⟨g, 0, none⟩) n c := (Option.some.inj (hF 5 (by decide))).symm
          have e6 : vs 6 = .int .i64 (j : Int) := (Option.some.inj (hF 6 (by decide))).symm
          have e7 : vs 7 = .pointer (some ⟨g, j * 12, none⟩) := (Option.some.inj (hF 7 (by decide))).symm
          have e8 : vs 8 = .pointer (some ⟨g, j * 12, none⟩) := (Option.some.inj (hF 8 (by decide))).symm
          have e9 : vs 9 = .agg (Y2).th.cells := (Option.some.inj (hF 9 (by decide))).symm
          have e10 : vs 10 = .bool false := (Option.some.inj (hF 10 (by decide))).symm
          have e11 : vs 11 = .bool false := (Option.some.inj (hF 11 (by decide))).symm
          have e12 : vs 12 = .slice (some ⟨g, 0, none⟩) n c := (Option.some.inj (hF 12 (by decide))).symm
          have e13 : vs 13 = .int .i64 (i : Int) := (Option.some.inj (hF 13 (by decide))).symm
          have e14 : vs 14 = .pointer (some ⟨g, i * 12, none⟩) := (Option.some.inj (hF 14 (by decide))).symm
          have e15 : vs 15 = .pointer (some ⟨g, i * 12, none⟩) := (Option.some.inj (hF 15 (by decide))).symm
          have e16 : vs 16 = .agg (X).th.cells := (Option.some.inj (hF 16 (by decide))).symm
          have e17 : vs 17 = .slice (some ⟨g, 0, none⟩) n c := (Option.some.inj (hF 17 (by decide))).symm
          have e18 : vs 18 = .int .i64 (j : Int) := (Option.some.inj (hF 18 (by decide))).symm
          have e19 : vs 19 = .pointer (some ⟨g, j * 12, none⟩) := (Option.some.inj (hF 19 (by decide))).symm
          have e20 : vs 20 = .pointer (some ⟨g, j * 12 + 5, none⟩) := (Option.some.inj (hF 20 (by decide))).symm
          have e21 : vs 21 = .agg (Y2).bk.cells := (Option.some.inj (hF 21 (by decide))).symm
          have e22 : vs 22 = .bool false := (Option.some.inj (hF 22 (by decide))).symm
          have e23 : vs 23 = .bool false := (Option.some.inj (hF 23 (by decide))).symm
          have e24 : vs 24 = .bool false := (Option.some.inj (hF 24 (by decide))).symm
          have e25 : vs 25 = .slice (some ⟨g, 0, none⟩) n c := (Option.some.inj (hF 25 (by decide))).symm
          have e26 : vs 26 = .int .i64 (i : Int) := (Option.some.inj (hF 26 (by decide))).symm
          have e27 : vs 27 = .pointer (some ⟨g, i * 12, none⟩) := (Option.some.inj (hF 27 (by decide))).symm
          have e28 : vs 28 = .pointer (some ⟨g, i * 12 + 5, none⟩) := (Option.some.inj (hF 28 (by decide))).symm
          have e29 : vs 29 = .agg (X).bk.cells := (Option.some.inj (hF 29 (by decide))).symm
          have e30 : vs 30 = .slice (some ⟨g, 0, none⟩) n c := (Option.some.inj (hF 30 (by decide))).symm
          have e31 : vs 31 = .int .i64 (j : Int) := (Option.some.inj (hF 31 (by decide))).symm
          have e32 : vs 32 = .pointer (some ⟨g, j * 12, none⟩) := (Option.some.inj (hF 32 (by decide))).symm
          have e33 : vs 33 = .pointer (some ⟨g, j * 12, none⟩) := (Option.some.inj (hF 33 (by decide))).symm
          have e34 : vs 34 = .agg (Y2).th.cells := (Option.some.inj (hF 34 (by decide))).symm
          have e35 : vs 35 = .bool false := (Option.some.inj (hF 35 (by decide))).symm
          have e36 : vs 36 = .bool false := (Option.some.inj (hF 36 (by decide))).symm
          have e37 : vs 37 = .bool false := (Option.some.inj (hF 37 (by decide))).symm
          have e38 : vs 38 = .slice (some ⟨g, 0, none⟩) n c := (Option.some.inj (hF 38 (by decide))).symm
          have e39 : vs 39 = .int .i64 (i : Int) := (Option.some.inj (hF 39 (by decide))).symm
          have e40 : vs 40 = .pointer (some ⟨g, i * 12, none⟩) := (Option.some.inj (hF 40 (by decide))).symm
          have e41 : vs 41 = .pointer (some ⟨g, i * 12 + 5, none⟩) := (Option.some.inj (hF 41 (by decide))).symm
          have e42 : vs 42 = .agg (X).bk.cells := (Option.some.inj (hF 42 (by decide))).symm
          have e43 : vs 43 = .slice (some ⟨g, 0, none⟩) n c := (Option.some.inj (hF 43 (by decide))).symm
          have e44 : vs 44 = .int .i64 (j : Int) := (Option.some.inj (hF 44 (by decide))).symm
          have e45 : vs 45 = .pointer (some ⟨g, j * 12, none⟩) := (Option.some.inj (hF 45 (by decide))).symm
          have e46 : vs 46 = .pointer (some ⟨g, j * 12 + 5, none⟩) := (Option.some.inj (hF 46 (by decide))).symm
          have e47 : vs 47 = .agg (Y2).bk.cells := (Option.some.inj (hF 47 (by decide))).symm
          have e48 : vs 48 = .bool false := (Option.some.inj (hF 48 (by decide))).symm
          clear hF
          simp only [List.drop_succ_cons, List.drop_zero, puts, List.range, List.range.loop, List.foldr, if_true, List.getD_cons_zero, List.getD_cons_succ, e0, e1, e2, e3, e4, e5, e6, e7, e8, e9, e10, e11, e12, e13, e14, e15, e16, e17, e18, e19, e20, e21, e22, e23, e24, e25, e26, e27, e28, e29, e30, e31, e32, e33, e34, e35, e36, e37, e38, e39, e40, e41, e42, e43, e44, e45, e46, e47, e48, Act.put, List.setIfInBounds_toArray, List.set_cons_zero, List.set_cons_succ]
          clear e0 e1 e2 e3 e4 e5 e6 e7 e8 e9 e10 e11 e12 e13 e14 e15 e16 e17 e18 e19 e20 e21 e22 e23 e24 e25 e26 e27 e28 e29 e30 e31 e32 e33 e34 e35 e36 e37 e38 e39 e40 e41 e42 e43 e44 e45 e46 e47 e48
          have HBV := hid (HB2.out.trans (hI.mono HB2.out.size))
          clear hI HE HF
          go_wp2_with fail
          go_roundw
          case rel => exact ⟨j + 1, rfl, by omega, HBV⟩
          case measure => simp; omega
        · have hji' : ¬ (j : Int) < (i : Int) := by omega
          go_wp2_with fail
          go_roundw
          case rel => exact ⟨i + 1, rfl, by omega, HB2⟩
          case measure => simp; omega
    · have hin' : ¬ (i : Int) < (n : Int) := by omega
      go_wp2_with fail
      go_ret
      exact ⟨rfl, HB.out⟩
theorem sameF_any (w : World) (B B2 : Nat) (a a2 : Option Addr) (n n2 c c2 : Nat) (R : List Fw) (ho : Ow.Own kF w B (.slice a n c) R) (ho2 : Ow.Own kF w B2 (.slice a2 n2 c2) R) (hl : R.length ≤ 1000000) :
    Calls Tryz.prog 11 #[.slice a n c, .slice a2 n2 c2] w fun e w' => e = .returned (.bool true) ∧ Below w.heap.size w w' := by
  obtain ⟨_, _, _, e0, HN, -, -⟩ := ho.shape
  simp only [Value.slice.injEq] at e0
  obtain ⟨rfl, rfl, rfl⟩ := e0
  obtain ⟨_, _, _, e0, hn2, -, -⟩ := ho2.shape
  simp only [Value.slice.injEq] at e0
  obtain ⟨rfl, rfl, rfl⟩ := e0
  obtain rfl : n2 = n := by rw [HN.out]; exact hn2
  have HAT := hid (ents ho)
  have HAT2 := hid (ents ho2)
  have hn6 : n2 ≤ 1000000 := by rw [HN.out]; exact hl
  obtain ⟨n, HNN⟩ : ∃ k, Hid (k = n2) := ⟨_, rfl⟩
  rw [← HNN.out] at hn6 HN ⊢
  have HBR : Hid (Below w.heap.size w w) := Below.refl _ _
  clear ho ho2 hl hn2 HNN
  go_enter Tryz.func11, Tryz.ntmps11
  go_wp2_with fail
  go_loopw [5] (fun kv wr => ∃ i : Nat, kv = .int .i64 (i : Int) ∧ i ≤ n ∧ Hid (Below w.heap.size w wr)) (fun kv _ => match kv with | .int _ z => n - z.toNat | _ => 0)
  case atStart => exact ⟨0, rfl, Nat.zero_le _, HBR⟩
  case round =>
    obtain ⟨i, rfl, hi, HB⟩ := hrel
    by_cases hin : i < n
    · have hil : i < R.length := by rw [← HN.out]; exact hin
      obtain ⟨g, rfl, hent⟩ := HAT.out i hil
      obtain ⟨g2, rfl, hent2⟩ := HAT2.out i hil
      obtain ⟨X, HX⟩ : ∃ x : Fw, Hid (x = R[i]'hil) := ⟨_, rfl⟩
      rw [← HX.out] at hent hent2
      have HIN := hid hin
      have HE : Hid (∀ u : World, Below wr.heap.size wr u → EntF u g i X) := fun u hu => hent u (HB.out.trans (hu.mono HB.out.size))
      have HF : Hid (∀ u : World, Below wr.heap.size wr u → EntF u g2 i X) := fun u hu => hent2 u (HB.out.trans (hu.mono HB.out.size))
      clear hent hent2
      go_upto_region 6 with fail
      refine wp_region_guarded' 8 (fun i => ([17, 18, 19, 20, 21, 22, 23, 24] : List Tmp).getD i 0) (Vs [.slice (some ⟨g, 0, none⟩) n c, .int .i64 (i : Int), .pointer (some ⟨g, i * 12, none⟩), .agg X.cells, .slice (some ⟨g2, 0, none⟩) n c2, .int .i64 (i : Int), .pointer (some ⟨g2, i * 12, none⟩), .agg X.cells]) (fun u => Below wr.heap.size wr u) (fun _ u u' => Below u.heap.size u u') (by kernel_rfl) (by kernel_rfl) ⟨rfl, rfl, rfl, Nat.le_refl _, fun _ _ => rfl⟩ (fun _ _ _ _ _ _ h _ _ => h) ?_ ?_
      · simp only [List.take_succ_cons, List.take_zero, stepsG]
        refine ⟨?_, ?_, ?_, ?_, ?_, ?_, ?_, ?_, trivial⟩
        · intro a u vs hI hold hdep
          exact opAt_plain rfl (wp_still (ex_move (.tmp 0) _ rfl (hold 0 (dlM (L := [17, 18, 19, 20, 21, 22, 23, 24]) (by decide)))) rfl rfl hI)
        · intro a u vs hI hold hdep
          exact opAt_plain rfl (wp_still (ex_move (.tmp 5) _ rfl (hold 5 (dlM (L := [17, 18, 19, 20, 21, 22, 23, 24]) (by decide)))) rfl rfl hI)
        · intro a u vs hI hold hdep
          exact opAt_plain rfl (wp_still (ex_index 41 (.tmp 17) (.tmp 18) _ _ _ rfl (Vs.dep (hdep ⟨0, .data⟩ (by simp) rfl (by decide)) rfl) (Vs.dep (hdep ⟨1, .data⟩ (by simp) rfl (by decide)) rfl) (idxFl HIN.out u)) rfl rfl hI)
        · intro a u vs hI hold hdep
          exact opAt_plain rfl (wp_still (ex_load _ ⟨g, i * 12, none⟩ (.tmp 19) _ rfl (Vs.dep (hdep ⟨2, .data⟩ (by simp) rfl (by decide)) rfl) ((HE.out u hI).fl)) rfl rfl hI)
        · intro a u vs hI hold hdep
          exact opAt_plain rfl (wp_still (ex_move (.tmp 1) _ rfl (hold 1 (dlM (L := [17, 18, 19, 20, 21, 22, 23, 24]) (by decide)))) rfl rfl hI)
        · intro a u vs hI hold hdep
          exact opAt_plain rfl (wp_still (ex_move (.tmp 5) _ rfl (hold 5 (dlM (L := [17, 18, 19, 20, 21, 22, 23, 24]) (by decide)))) rfl rfl hI)
        · intro a u vs hI hold hdep
          exact opAt_plain rfl (wp_still (ex_index 41 (.tmp 21) (.tmp 22) _ _ _ rfl (Vs.dep (hdep ⟨4, .data⟩ (by simp) rfl (by decide)) rfl) (Vs.dep (hdep ⟨5, .data⟩ (by simp) rfl (by decide)) rfl) (idxFl HIN.out u)) rfl rfl hI)
        · intro a u vs hI hold hdep
          exact opAt_plain rfl (wp_still (ex_load _ ⟨g2, i * 12, none⟩ (.tmp 23) _ rfl (Vs.dep (hdep ⟨6, .data⟩ (by simp) rfl (by decide)) rfl) ((HF.out u hI).fl)) rfl rfl hI)
      intro vs u hI hF
      have e0 : vs 0 = .slice (some ⟨g, 0, none⟩) n c := (Option.some.inj (hF 0 (by decide))).symm
      have e1 : vs 1 = .int .i64 (i : Int) := (Option.some.inj (hF 1 (by decide))).symm
      have e2 : vs 2 = .pointer (some ⟨g, i * 12, none⟩) := (Option.some.inj (hF 2 (by decide))).symm
      have e3 : vs 3 = .agg X.cells := (Option.some.inj (hF 3 (by decide))).symm
      have e4 : vs 4 = .slice (some ⟨g2, 0, none⟩) n c2 := (Option.some.inj (hF 4 (by decide))).symm
      have e5 : vs 5 = .int .i64 (i : Int) := (Option.some.inj (hF 5 (by decide))).symm
      have e6 : vs 6 = .pointer (some ⟨g2, i * 12, none⟩) := (Option.some.inj (hF 6 (by decide))).symm
      have e7 : vs 7 = .agg X.cells := (Option.some.inj (hF 7 (by decide))).symm
      clear hF
      simp only [List.drop_succ_cons, List.drop_zero, puts, List.range, List.range.loop, List.foldr, if_true, List.getD_cons_zero, List.getD_cons_succ, e0, e1, e2, e3, e4, e5, e6, e7, Act.put, List.setIfInBounds_toArray, List.set_cons_zero, List.set_cons_succ]
      clear e0 e1 e2 e3 e4 e5 e6 e7
      have HBU := hid (HB.out.trans (hI.mono HB.out.size))
      clear hI HE HF
      go_wp2_with (first | (refine wpList_val (ex_neF (.tmp 20) (.tmp 24) _ X rfl rfl rfl) rfl ?_) | fail)
      go_roundw
      case rel => exact ⟨i + 1, rfl, by omega, HBU⟩
      case measure => simp; omega
    · have hin' : ¬ (i : Int) < (n : Int) := by omega
      go_wp2_with fail
      go_ret
      exact ⟨rfl, HB.out⟩
end Go.Proofs.YtkkfioebpppffaaGreatDoor.Fl
