import Derived.Test.YtpdnnikkaojnkaaGreatYKLN
namespace Go.Proofs.YtpdnnikkaojnkaaGreat.Rt
open Go.Proofs.YtpdnnikkaojnkaaGreat Go.ChangeShapes Go.WideShapes Go.ChangeAt Go.RowKit Go.Maps Tri N
set_option maxHeartbeats 8000000
set_option maxRecDepth 100000
theorem keysF_len {L : List Fd} {ss : List Mc} (hn : Nod Fd.mac L) (hk : ∀ e ∈ L, gF.kOk (Fd.mac e)) (hnd : ss.Nodup) (h : ∀ k, k ∈ ss ↔ gF.kOk k /\ (lk Fd.mac L k).isSome = true) : ss.length = L.length := by
 have h1 : ss.length <= (L.map Fd.mac).length := nodup_le hnd fun k hk' => by
  obtain ⟨_, h2⟩ := (h k).1 hk'
  obtain ⟨e, he⟩ := Option.isSome_iff_exists.1 h2
  obtain ⟨h3, h4⟩ := lk_some he
  exact List.mem_map.2 ⟨e, h3, h4⟩
 have h2 : (L.map Fd.mac).length <= ss.length := nodup_le hn fun k hk' => by
  obtain ⟨e, he, rfl⟩ := List.mem_map.1 hk'
  exact (h _).2 ⟨hk e he, by rw [lk_mem hn he]; rfl⟩
 simp only [List.length_map] at h1 h2
 omega
theorem risF_nodup {ss : List Mc} (h : RisBy Mc.num ss) : ss.Nodup := by
 unfold RisBy Ris at h
 rw [List.pairwise_map] at h
 exact h.imp fun hlt e => by rw [e] at hlt; exact Nat.lt_irrefl _ hlt
theorem srtF_of {L : List Fd} {ss : List Mc} (hn : Nod Fd.mac L) (hk : ∀ e ∈ L, gF.kOk (Fd.mac e)) (hr : RisBy Mc.num ss) (h : ∀ k, k ∈ ss ↔ gF.kOk k /\ (lk Fd.mac L k).isSome = true) : SrtK (fun e : Fd => e.mac.num) (ss.map fun k => (lk Fd.mac L k).getD gF.z) L :=
 srt_gen (key := Fd.mac) (kn := Mc.num) hn hk hr h
def ecF (L : List Fd) : List Value := L.flatMap fun e => e.cells.toList
def OwnEF (w : World) (base : Nat) (v : Value) (L : List Fd) : Prop := w.ownsRow base 44 7 v L.length (ecF L)
theorem ecF_snoc (L : List Fd) (e : Fd) : ecF L ++ [.int .u8 (e.mac.b0 : Int), .int .u8 (e.mac.b1 : Int), .int .u8 (e.mac.b2 : Int), .int .u8 (e.mac.b3 : Int), .int .u8 (e.mac.b4 : Int), .int .u8 (e.mac.b5 : Int), .int .u32 (e.dest : Int)] = ecF (L ++ [e]) := by
 unfold ecF
 rw [List.flatMap_append]
 rfl
theorem ex_lenF {o : Oper} {a : Act} {w : World} (x : Operand) (p : Option Addr) (n c : Nat) (ho : o.op = .call { callee := .builtin .len, args := #[x], argTypes := #[121] }) (hx : a.eval x = .slice p n c) : (execOp a.eval o).run Tryz.prog w = .ok (.value (.int .i64 (n : Int))) w := by
 have hu : Tryz.prog.underlying 121 = some (.slice 40) := by kernel_rfl
 have hr : (Builtin.len_ #[121] o.type #[.slice p n c]).run Tryz.prog w = .ok (.int .i64 (n : Int)) w := by simp [Builtin.len_, run_underlying hu, goInt, Result.andThen]
 simp [execOp, ho, resolve, invoke, builtin, hx, hr, Result.andThen]
def FLF (nb bm B n : Nat) (f : Mc -> Option Fd) (i : Nat) (vs : Nat -> Value) (w : World) : Prop :=
 match i with
 | 0 => vs 0 = .pointer (some ⟨nb, 0, none⟩)
 | 1 => vs 1 = .pointer (some ⟨nb, 0, none⟩)
 | 2 => vs 2 = .pointer (some ⟨nb, 1, none⟩)
 | 3 => vs 3 = .map (some bm)
 | 4 => ∃ b, vs 4 = .func (.func 76) #[] #[.pointer (some ⟨b, 0, none⟩)] /\ w.heap[b]? = some (.cells #[.map (some bm)] 126)
 | 5 => vs 5 = .pointer (some ⟨nb, 0, none⟩)
 | 6 => vs 6 = .pointer (some ⟨nb, 0, none⟩)
 | 7 => vs 7 = .pointer (some ⟨nb, 3, none⟩)
 | 8 => vs 8 = .func (.func 40) #[] #[]
 | 9 => ∃ a c ss, vs 9 = .slice a n c /\ OwnKF w B (.slice a n c) ss /\ SrtF f ss
 | 10 => vs 10 = .int .i64 (n : Int)
 | 11 => vs 11 = .int .i64 0
 | _ => True
theorem FLF.keeps (nb bm B n : Nat) (f : Mc -> Option Fd) (ops : List Oper) (I : World -> Prop) : ∀ (i j : Nat) (o : Oper) (vs : Nat -> Value) (v : Value) (w w' : World), i ≠ j -> ops[i]? = some o -> (∀ e ∈ o.after, Region.binds .any e = true -> e.on ≠ j) -> FLF nb bm B n f i vs w -> I w -> Below w.heap.size w w' -> FLF nb bm B n f i (upd vs j v) w' := fun i j o vs v w w' hij _ _ h _ hb => by
 unfold FLF at *
 rcases i with _ | _ | _ | _ | _ | _ | _ | _ | _ | _ | _ | _ | i
 all_goals simp only at h ⊢
 ·rw [upd_ne _ hij]; exact h
 ·rw [upd_ne _ hij]; exact h
 ·rw [upd_ne _ hij]; exact h
 ·rw [upd_ne _ hij]; exact h
 ·obtain ⟨b, h1, h2⟩ := h
  exact ⟨b, by rw [upd_ne _ hij]; exact h1, below_keeps hb h2 (gsl h2)⟩
 ·rw [upd_ne _ hij]; exact h
 ·rw [upd_ne _ hij]; exact h
 ·rw [upd_ne _ hij]; exact h
 ·rw [upd_ne _ hij]; exact h
 ·obtain ⟨a, c, ss, h1, h2, h3⟩ := h
  exact ⟨a, c, ss, by rw [upd_ne _ hij]; exact h1, owns_below h2 hb, h3⟩
 ·rw [upd_ne _ hij]; exact h
 ·rw [upd_ne _ hij]; exact h
theorem flF_still {P : Program} {nb bm B n : Nat} {f : Mc -> Option Fd} {i : Nat} {o : Oper} {a : Act} {W w : World} {Q : Exit -> Act -> World -> Prop} {vs : Nat -> Value} {d : Option Tmp} (v : Value) (hr : (execOp a.eval o).run P w = .ok (.value v) w) (ht : o.dst = d) (hF : FLF nb bm B n f i (upd vs i v) w) (hb : Below W.heap.size W w) :
  o.wp P a w (fun a' w' => ∃ v', a' = a.put d v' /\ FLF nb bm B n f i (upd vs i v') w' /\ Below W.heap.size W w' /\ Below w.heap.size w w') Q :=
 wp_val hr (by rw [ht]; exact ⟨v, rfl, hF, hb, bR⟩)
def mcL (k : Mc) : List Value := [.int .u8 (k.b0 : Int), .int .u8 (k.b1 : Int), .int .u8 (k.b2 : Int), .int .u8 (k.b3 : Int), .int .u8 (k.b4 : Int), .int .u8 (k.b5 : Int)]
theorem keyF_at {w : World} {B n c : Nat} {a : Option Addr} {ss : List Mc} (h : OwnKF w B (.slice a n c) ss) {j : Nat} (hj : j < n) (hn : n = ss.length) : ∃ g k, a = some ⟨g, 0, none⟩ /\ ss[j]? = some k /\ (Instr.loadAt 40 (.pointer (some ⟨g, j * 6, none⟩))).run Tryz.prog w = .ok k.v w := by
 rcases h.2 with ⟨h0, hn0⟩ | ⟨g, cap, cur, h0, hbb, hg, h1, h2, h3, h4⟩
 ·omega
 ·simp only [Value.slice.injEq] at h0
  obtain ⟨rfl, rfl, rfl⟩ := h0
  have hjs : j < ss.length := by omega
  refine ⟨g, ss[j], rfl, List.getElem?_eq_getElem hjs, ?_⟩
  refine run_loadAt_mid w g (j * 6) 40 (mcL ss[j]) _ (fun t v hv => ?_) uM rfl (by kernel_rfl)
  have ht : t < 6 := by have := (List.getElem?_eq_some_iff.1 hv).1; simpa [mcL] using this
  rw [cell_of_row _ _ _ _ _ _ hg]
  have hlt : j * 6 + t < ss.length * 6 := by omega
  have e : (cur.toList.take (ss.length * 6))[j * 6 + t]? = some v := by
   rw [h4, show kcF ss = ss.flatMap mcL from rfl, flat_get mcL 6 (by decide) (fun _ => rfl) ss (j * 6 + t) hlt]
   have e1 : (j * 6 + t) / 6 = j := by omega
   have e2 : (j * 6 + t) % 6 = t := by omega
   simp only [e1, e2]
   exact hv
  rw [List.getElem?_take, if_pos (by omega)] at e
  simpa using e
theorem infoEF : (Tryz.prog.info? 44).map (fun i => (i.zero, i.size, i.bytes)) = some (some (.agg #[.int .u8 0, .int .u8 0, .int .u8 0, .int .u8 0, .int .u8 0, .int .u8 0, .int .u32 0]), 7, 12) := by kernel_rfl
def FBE (l : List (Value ⊕ Nw)) (cs : Array Value) (B : Nat) (i : Nat) (v : Value) (w : World) : Prop :=
 (i = 7 -> ∃ b, v = .slice (some ⟨b, 0, none⟩) 1 1 /\ B <= b /\ w.heap[b]? = some (.cells cs 44)) /\ (i ≠ 7 -> FA l 0 i v w)
theorem FBE.keeps (l : List (Value ⊕ Nw)) (cs : Array Value) (B : Nat) : ∀ (i : Nat) (v : Value) (w w' : World), FBE l cs B i v w -> Below w.heap.size w w' -> FBE l cs B i v w' := fun i v w w' h hb =>
 ⟨fun h7 => by
  obtain ⟨b, h1, h2, h3⟩ := h.1 h7
  exact ⟨b, h1, h2, below_keeps hb h3 (gsl h3)⟩, fun h7 => FA.keeps _ _ _ _ _ _ (h.2 h7) hb⟩
theorem FBE.dep {l : List (Value ⊕ Nw)} {cs : Array Value} {B i : Nat} {a : Act} {t : Operand} {x y : Value} {w : World} (h : a.eval t = x /\ FBE l cs B i x w) (h7 : i ≠ 7) (hy : l[i]? = some (.inl y)) : a.eval t = y := FA.dep ⟨h.1, h.2.2 h7⟩ hy
theorem fb_still {P : Program} {o : Oper} {a : Act} {W w : World} {Q : Exit -> Act -> World -> Prop} {l : List (Value ⊕ Nw)} {cs : Array Value} {B i : Nat} {t : Tmp} (v : Value) (hr : (execOp a.eval o).run P w = .ok (.value v) w) (ht : o.dst = some t) (hF : FBE l cs B i v w) (hW : Below W.heap.size W w) :
  o.wp P a w (fun a' w' => ∃ v', a' = a.put (some t) v' /\ FBE l cs B i v' w' /\ Below W.heap.size W w' /\ Below w.heap.size w w') Q :=
 wp_val hr (by rw [ht]; exact ⟨v, rfl, hF, hW, bR⟩)
theorem ex_bsE {P : Program} {o : Oper} {a : Act} {w w' : World} (T : TypeId) (n : Nat) (parts : Array (Nat × Operand)) (ps : Array (Nat × Value)) (v : Value) (ho : o.op = .buildSlice T n parts) (hp : (parts.map fun (i, x) => (i, a.eval x)) = ps) (hr : (Instr.buildSlice T n ps).run P w = .ok v w') : (execOp a.eval o).run P w = .ok (.value v) w' := by
 unfold execOp
 simp only [ho, hp, Sem.run_bind, hr, Result.andThen_ok, Sem.run_pure]
theorem build1F (ee : Fd) (u : World) : (Instr.buildSlice 49 1 #[(0, .agg ee.cells)]).run Tryz.prog u = .ok (.slice (some ⟨u.heap.size, 0, none⟩) 1 1) (u.alloc (.cells ee.cells 44)) := by
 obtain ⟨ie, hi, hz, hs, -⟩ := info_parts infoEF
 refine run_buildSlice u _ _ 1 _ _ ie _ (by kernel_rfl) hi hz (by rw [hs]; decide) (by rw [hs]; decide) ?_
 simp only [hs, Nat.one_mul, show Array.range 7 = #[0, 1, 2, 3, 4, 5, 6] from rfl]
 simp [Instr.fill, Value.cells, Fd.cells]
theorem seven_row {W : World} {b : Nat} {ee : Fd} (h : W.heap[b]? = some (.cells ee.cells 44)) : ∀ (j : Nat) (u : Value), [.int .u8 (ee.mac.b0 : Int), .int .u8 (ee.mac.b1 : Int), .int .u8 (ee.mac.b2 : Int), .int .u8 (ee.mac.b3 : Int), .int .u8 (ee.mac.b4 : Int), .int .u8 (ee.mac.b5 : Int), .int .u32 (ee.dest : Int)][j]? = some u -> W.cell? ((⟨b, 0, none⟩ : Addr).add j) = some u := by
 intro j u hu
 have e : (⟨b, 0, none⟩ : Addr).add j = ⟨b, j, none⟩ := by simp [Addr.add]; exact fun h => h.symm
 rw [e, cell_of_row _ _ _ _ _ _ h]
 simpa [Fd.cells] using hu
theorem listF_any {nb bm room : Nat} {L : List Fd} (w : World) (h : BdF w nb bm room L) (hk : ∀ e ∈ L, gF.kOk (Fd.mac e)) :
  Calls Tryz.prog 23 #[.pointer (some ⟨nb, 0, none⟩)] w fun e w' => ∃ v ES, e = .returned v /\ OwnEF w' w.heap.size v ES /\ SrtK (fun e : Fd => e.mac.num) ES L /\ Below w.heap.size w w' := by
 obtain ⟨i0, hi0, hz0, hz1, hz2⟩ := info_parts infoEF
 have HIP : Hid (Tryz.prog.info? 44 = some i0) := hi0
 have HBD := hid h
 have HK := hid hk
 clear h hk hi0
 go_enter Tryz.func23, Tryz.ntmps23
 go_upto_region 2 with fail
 refine wp_region_all' 12 (fun i => ([some 6, some 7, some 8, some 9, some 10, some 11, some 12, some 13, some 14, some 15, some 16, some 17] : List (Option Tmp)).getD i none) (FLF nb bm w.heap.size L.length (lk Fd.mac L)) (fun u => Below w.heap.size w u) (fun _ u u' => Below u.heap.size u u') (by kernel_rfl) (by kernel_rfl) ⟨rfl, rfl, rfl, nL, fun _ _ => rfl⟩ (FLF.keeps _ _ _ _ _ _ _) ?_ ?_
 ·simp only [N.stepsAll]
  refine ⟨?_, ?_, ?_, ?_, ?_, ?_, ?_, ?_, ?_, ?_, ?_, ?_, trivial⟩
  ·intro a u vs hI hold hdep
   exact flF_still (.pointer (some ⟨nb, 0, none⟩)) (ex_move (.tmp 0) _ rfl (hold 0 (dl_of (L := [some 6, some 7, some 8, some 9, some 10, some 11, some 12, some 13, some 14, some 15, some 16, some 17]) (by decide)))) rfl (by show upd vs 0 _ 0 = _; rw [upd_eq]) hI
  ·intro a u vs hI hold hdep
   have d0 := hdep ⟨0, .data⟩ (by simp) rfl
   exact flF_still _ (ex_nil ⟨nb, 0, none⟩ (.tmp 6) rfl ((d0.2 6 rfl).trans d0.1)) rfl (by show upd vs 1 _ 1 = _; rw [upd_eq]) hI
  ·intro a u vs hI hold hdep
   have d1 := hdep ⟨1, .data⟩ (by simp) rfl
   exact flF_still (.pointer (some ⟨nb, 1, none⟩)) (ex_field _ ⟨nb, 0, none⟩ (.tmp 7) 1 _ rfl ((d1.2 7 rfl).trans d1.1) (by kernel_rfl)) rfl (by show upd vs 2 _ 2 = _; rw [upd_eq]) hI
  ·intro a u vs hI hold hdep
   have d2 := hdep ⟨2, .data⟩ (by simp) rfl
   have hc := (HBD.out.below hI).cells.2.1
   exact flF_still (.map (some bm)) (ex_load _ ⟨nb, 1, none⟩ (.tmp 8) _ rfl ((d2.2 8 rfl).trans d2.1) (by simp [go_sem, hc])) rfl (by show upd vs 3 _ 3 = _; rw [upd_eq]) hI
  ·intro a u vs hI hold hdep
   have d3 := hdep ⟨3, .data⟩ (by simp) rfl
   have e0 : a.eval (.tmp 9) = .map (some bm) := ((d3.2 9 rfl).trans d3.1)
   refine wp_call 54 _ _ rfl (enters_of Tryz.func54 (by kernel_rfl) rfl) #[.map (some bm)] (by simp only [List.map_toArray, List.map_cons, List.map_nil, e0]) ?_
   refine (keysF_new bm u).mono ?_
   rintro e u' ⟨rfl, rfl⟩
   have hb : Below u.heap.size u (u.alloc (.cells #[.map (some bm)] 126)) := bR.alloc nL _
   exact ⟨_, rfl, _, rfl, ⟨u.heap.size, by rw [upd_eq], heap_alloc_new u _⟩, hI.trans (hb.mono hI.size), hb⟩
  ·intro a u vs hI hold hdep
   exact flF_still (.pointer (some ⟨nb, 0, none⟩)) (ex_move (.tmp 0) _ rfl (hold 0 (dl_of (L := [some 6, some 7, some 8, some 9, some 10, some 11, some 12, some 13, some 14, some 15, some 16, some 17]) (by decide)))) rfl (by show upd vs 5 _ 5 = _; rw [upd_eq]) hI
  ·intro a u vs hI hold hdep
   have d5 := hdep ⟨5, .data⟩ (by simp) rfl
   exact flF_still _ (ex_nil ⟨nb, 0, none⟩ (.tmp 11) rfl ((d5.2 11 rfl).trans d5.1)) rfl (by show upd vs 6 _ 6 = _; rw [upd_eq]) hI
  ·intro a u vs hI hold hdep
   have d6 := hdep ⟨6, .data⟩ (by simp) rfl
   exact flF_still (.pointer (some ⟨nb, 3, none⟩)) (ex_field _ ⟨nb, 0, none⟩ (.tmp 12) 3 _ rfl ((d6.2 12 rfl).trans d6.1) (by kernel_rfl)) rfl (by show upd vs 7 _ 7 = _; rw [upd_eq]) hI
  ·intro a u vs hI hold hdep
   have d7 := hdep ⟨7, .data⟩ (by simp) rfl
   have hc := (HBD.out.below hI).cells.2.2.2
   exact flF_still (.func (.func 40) #[] #[]) (ex_load _ ⟨nb, 3, none⟩ (.tmp 13) _ rfl ((d7.2 13 rfl).trans d7.1) (by simp [go_sem, hc])) rfl (by show upd vs 8 _ 8 = _; rw [upd_eq]) hI
  ·intro a u vs hI hold hdep
   have d4 := hdep ⟨4, .data⟩ (by simp) rfl
   have d8 := hdep ⟨8, .data⟩ (by simp) rfl
   obtain ⟨b, g1, g2⟩ := d4.1
   have e0 : a.eval (.tmp 10) = .func (.func 76) #[] #[.pointer (some ⟨b, 0, none⟩)] := (d4.2 10 rfl).trans g1
   have e1 : a.eval (.tmp 14) = .func (.func 40) #[] #[] := ((d8.2 14 rfl).trans d8.1)
   refine wp_call 53 _ _ rfl (enters_of Tryz.func53 (by kernel_rfl) rfl) #[.func (.func 76) #[] #[.pointer (some ⟨b, 0, none⟩)], .func (.func 40) #[] #[]] (by simp only [List.map_toArray, List.map_cons, List.map_nil, e0, e1]) ?_
   have hle := HBD.out.le
   refine (sortedF_any b bm L.length u g2 (HBD.out.below hI).map (by omega) (fun ss hs => by rw [keysF_len HBD.out.nod HK.out hs.1 hs.2]; omega)).mono ?_
   rintro e u' ⟨v, ss, rfl, hS, ho, hb⟩
   obtain ⟨ao, m, c, rfl⟩ : ∃ a n c, v = .slice a n c := by
    rcases ho.2 with ⟨hv, _⟩ | ⟨g, cap, cur, hv, _⟩
    ·exact ⟨_, _, _, hv⟩
    ·exact ⟨_, _, _, hv⟩
   have hm : m = L.length := by
    rw [<- keysF_len HBD.out.nod HK.out (risF_nodup hS.1) hS.2]
    rcases ho.2 with ⟨hv, h0⟩ | ⟨g, cap, cur, hv, _⟩
    ·simp only [Value.slice.injEq] at hv; omega
    ·simp only [Value.slice.injEq] at hv; omega
   subst hm
   exact ⟨_, rfl, _, rfl, ⟨ao, c, ss, by rw [upd_eq], row_base ho hI.size, hS⟩, hI.trans (hb.mono hI.size), hb⟩
  ·intro a u vs hI hold hdep
   have d9 := hdep ⟨9, .data⟩ (by simp) rfl
   obtain ⟨ao, c, ss, g1, _⟩ := d9.1
   exact flF_still _ (ex_lenF (.tmp 15) ao L.length c rfl ((d9.2 15 rfl).trans g1)) rfl (by show upd vs 10 _ 10 = _; rw [upd_eq]) hI
  ·intro a u vs hI hold hdep
   exact flF_still (.int .i64 0) (ex_move (.const (.int .i64 0)) _ rfl rfl) rfl (by show upd vs 11 _ 11 = _; rw [upd_eq]) hI
 intro vs u hI hF
 have e0 : vs 0 = .pointer (some ⟨nb, 0, none⟩) := hF 0 (by decide)
 have e1 : vs 1 = .pointer (some ⟨nb, 0, none⟩) := hF 1 (by decide)
 have e2 : vs 2 = .pointer (some ⟨nb, 1, none⟩) := hF 2 (by decide)
 have e3 : vs 3 = .map (some bm) := hF 3 (by decide)
 obtain ⟨b4, e4, -⟩ := hF 4 (by decide)
 have e5 : vs 5 = .pointer (some ⟨nb, 0, none⟩) := hF 5 (by decide)
 have e6 : vs 6 = .pointer (some ⟨nb, 0, none⟩) := hF 6 (by decide)
 have e7 : vs 7 = .pointer (some ⟨nb, 3, none⟩) := hF 7 (by decide)
 have e8 : vs 8 = .func (.func 40) #[] #[] := hF 8 (by decide)
 obtain ⟨ao, c, ss, e9, hown, hsrt⟩ := hF 9 (by decide)
 have e10 : vs 10 = .int .i64 (L.length : Int) := hF 10 (by decide)
 have e11 : vs 11 = .int .i64 0 := hF 11 (by decide)
 clear hF
 simp only [putsO, List.range, List.range.loop, List.foldr, if_true, List.getD_cons_zero, List.getD_cons_succ, e0, e1, e2, e3, e4, e5, e6, e7, e8, e9, e10, e11, Act.put, List.setIfInBounds_toArray, List.set_cons_zero, List.set_cons_succ]
 clear e0 e1 e2 e3 e4 e5 e6 e7 e8 e9 e10 e11
 have hlen := keysF_len HBD.out.nod HK.out (risF_nodup hsrt.1) hsrt.2
 have HFIN := hid (srtF_of HBD.out.nod HK.out hsrt.1 hsrt.2)
 have HSR := hid hsrt
 have HBU := hid (HBD.out.below hI)
 have HOK := hid hown
 have HI := hid hI
 obtain ⟨n, hn⟩ : ∃ n, n = L.length := ⟨_, rfl⟩
 have HN : Hid (n = ss.length) := by unfold Hid; omega
 have HN256 : Hid (n <= 256) := by have := HBD.out.le; unfold Hid; omega
 rw [<- hn] at HOK ⊢
 obtain ⟨EE, HEE⟩ : ∃ EE, Hid (EE = ss.map fun k => (lk Fd.mac L k).getD gF.z) := ⟨_, rfl⟩
 have HNE : Hid (EE.length = n) := by unfold Hid; rw [HEE.out, List.length_map]; exact HN.out.symm
 rw [<- HEE.out] at HFIN
 clear hn hsrt hown hI hlen
 go_upto_region 3 with fail
 go_loopw [3, 17] (fun v i wr => ∃ (j : Nat) (wx : World), wx = wr /\ i = .int .i64 (j : Int) /\ j <= n /\ Hid (OwnEF wx u.heap.size v (EE.take j)) /\ Hid (Below u.heap.size u wx)) (fun _ i _ => n - (intOf i).toNat)
 case atStart => exact ⟨0, _, rfl, rfl, Nat.zero_le _, World.ownsRow_nil _ _ _ _, bR⟩
 case round =>
 obtain ⟨j, wx, rfl, rfl, hj, HO, HB⟩ := hrel
 have hn256 := HN256.out
 by_cases hjn : j < n
 ·have b1 : (j : Int) < (n : Int) := by omega
  have b2 : (0 : Int) <= (j : Int) := by omega
  obtain ⟨g, k, hao, hks, hc⟩ := keyF_at (owns_below HOK.out HB.out) hjn HN.out
  subst hao
  have hkk : gF.kOk k /\ (lk Fd.mac L k).isSome = true := (HSR.out.2 k).1 (List.mem_of_getElem? hks)
  have hbx := HBU.out.below HB.out
  obtain ⟨-, c1, -, -⟩ := hbx.cells
  obtain ⟨ee, hee⟩ : ∃ ee, ee = (lk Fd.mac L k).getD gF.z := ⟨_, rfl⟩
  have hej : EE[j]? = some ee := by rw [HEE.out, List.getElem?_map, hks, hee]; rfl
  have hlk := hbx.map.look1 (G := gF) hkk.1
  rw [<- hee] at hlk
  have HLK : ∀ y, Below wx.heap.size wx y -> Hid ((Instr.lookup 126 (.map (some bm)) k.v false).run Tryz.prog y = .ok (.agg ee.cells) y) := fun y hy => by
   have h := (hbx.below hy).map.look1 (G := gF) hkk.1
   rw [<- hee] at h
   exact h
  have HEJ := hid hej
  have HLD := hid hc
  have HBX := hid hbx
  have HLT : Hid ((EE.take j).length < n) := by unfold Hid; rw [List.length_take]; omega
  obtain ⟨w1, HW1⟩ : ∃ w1, Hid (w1 = wx.alloc (.cells #[.int .u8 (k.b0 : Int), .int .u8 (k.b1 : Int), .int .u8 (k.b2 : Int), .int .u8 (k.b3 : Int), .int .u8 (k.b4 : Int), .int .u8 (k.b5 : Int)] 40)) := ⟨_, rfl⟩
  have HB1 : Hid (Below wx.heap.size wx w1) := by unfold Hid; rw [HW1.out]; exact bR.alloc nL _
  have HR1 : Hid (w1.heap[wx.heap.size]? = some (.cells #[.int .u8 (k.b0 : Int), .int .u8 (k.b1 : Int), .int .u8 (k.b2 : Int), .int .u8 (k.b3 : Int), .int .u8 (k.b4 : Int), .int .u8 (k.b5 : Int)] 40)) := by unfold Hid; rw [HW1.out]; exact heap_alloc_new wx _
  have HS1 : Hid (w1.heap.size = wx.heap.size + 1) := by unfold Hid; rw [HW1.out]; simp
  have HBU1 : Hid (Below u.heap.size u w1) := HB.out.trans (HB1.out.mono HB.out.size)
  have HO1 : Hid (OwnEF w1 u.heap.size u3 (EE.take j)) := owns_below HO.out HB1.out
  clear hlk hej hee hkk hks hbx hc c1
  go_upto_region 5 with (first | (refine wpList_ld 40 ⟨g, j * 6, none⟩ (.tmp 19) rfl rfl HLD.out rfl ?_; unfold Mc.v) | fail)
  rw [<- HW1.out]
  refine wp_region_mono' 8 (fun i => ([21, 22, 23, 24, 25, 26, 27, 28] : List Tmp).getD i 0) (FBE [.inl u3, .inl (.pointer (some ⟨nb, 0, none⟩)), .inl (.pointer (some ⟨nb, 0, none⟩)), .inl (.pointer (some ⟨nb, 1, none⟩)), .inl (.map (some bm)), .inl k.v, .inl (.agg ee.cells)] ee.cells w1.heap.size) (by kernel_rfl) (by kernel_rfl) (FBE.keeps _ _ _) ?_ ?_
  ·simp only [List.take_succ_cons, List.take_zero, stepsOk]
   refine ⟨?_, ?_, ?_, ?_, ?_, ?_, ?_, ?_, trivial⟩
   ·intro a y vs hb hold hdep
    exact fb_still u3 (ex_move (.tmp 3) _ rfl (hold 3 (dlM (L := [21, 22, 23, 24, 25, 26, 27, 28]) (by decide)))) rfl ⟨fun h => absurd h (by decide), fun _ => fa_mk rfl⟩ hb
   ·intro a y vs hb hold hdep
    exact fb_still (.pointer (some ⟨nb, 0, none⟩)) (ex_move (.tmp 0) _ rfl (hold 0 (dlM (L := [21, 22, 23, 24, 25, 26, 27, 28]) (by decide)))) rfl ⟨fun h => absurd h (by decide), fun _ => fa_mk rfl⟩ hb
   ·intro a y vs hb hold hdep
    exact fb_still (.pointer (some ⟨nb, 0, none⟩)) (ex_nil ⟨nb, 0, none⟩ (.tmp 22) rfl (FBE.dep (hdep ⟨1, .data⟩ (by simp) rfl (by decide)) (by decide) rfl)) rfl ⟨fun h => absurd h (by decide), fun _ => fa_mk rfl⟩ hb
   ·intro a y vs hb hold hdep
    exact fb_still (.pointer (some ⟨nb, 1, none⟩)) (ex_field _ ⟨nb, 0, none⟩ (.tmp 23) 1 _ rfl (FBE.dep (hdep ⟨2, .data⟩ (by simp) rfl (by decide)) (by decide) rfl) (by kernel_rfl)) rfl ⟨fun h => absurd h (by decide), fun _ => fa_mk rfl⟩ hb
   ·intro a y vs hb hold hdep
    have hc := (HBX.out.below (HB1.out.trans (hb.mono HB1.out.size))).cells.2.1
    exact fb_still (.map (some bm)) (ex_load _ ⟨nb, 1, none⟩ (.tmp 24) _ rfl (FBE.dep (hdep ⟨3, .data⟩ (by simp) rfl (by decide)) (by decide) rfl) (by simp [go_sem, hc])) rfl ⟨fun h => absurd h (by decide), fun _ => fa_mk rfl⟩ hb
   ·intro a y vs hb hold hdep
    exact fb_still k.v (ex_load _ ⟨wx.heap.size, 0, none⟩ (.tmp 5) _ rfl (hold 5 (dlM (L := [21, 22, 23, 24, 25, 26, 27, 28]) (by decide))) (load_at (cs := mcL k) (below_keeps hb HR1.out (gsl HR1.out)) rfl uM rfl (by kernel_rfl))) rfl ⟨fun h => absurd h (by decide), fun _ => fa_mk rfl⟩ hb
   ·intro a y vs hb hold hdep
    exact fb_still (.agg ee.cells) (ex_lookup _ (.tmp 25) (.tmp 26) false _ _ _ rfl (FBE.dep (hdep ⟨4, .data⟩ (by simp) rfl (by decide)) (by decide) rfl) (FBE.dep (hdep ⟨5, .data⟩ (by simp) rfl (by decide)) (by decide) rfl) (HLK y (HB1.out.trans (hb.mono HB1.out.size))).out) rfl ⟨fun h => absurd h (by decide), fun _ => fa_mk rfl⟩ hb
   ·intro a y vs hb hold hdep
    have e6 : a.eval (.tmp 27) = .agg ee.cells := (FBE.dep (hdep ⟨6, .data⟩ (by simp) rfl (by decide)) (by decide) rfl)
    have hb' : Below y.heap.size y (y.alloc (.cells ee.cells 44)) := bR.alloc nL _
    exact wp_val (ex_bsE 49 1 #[(0, .tmp 27)] #[(0, .agg ee.cells)] _ rfl (by simp only [List.map_toArray, List.map_cons, List.map_nil, e6]) (build1F ee y)) ⟨_, rfl, ⟨fun _ => ⟨y.heap.size, rfl, hb.size, heap_alloc_new y _⟩, fun h => absurd rfl h⟩, hb.trans (hb'.mono hb.size), hb'⟩
  intro vs y hb hF
  have e0 : vs 0 = u3 := ((hF 0 (by decide)).2 (by decide)).is rfl
  have e1 : vs 1 = .pointer (some ⟨nb, 0, none⟩) := ((hF 1 (by decide)).2 (by decide)).is rfl
  have e2 : vs 2 = .pointer (some ⟨nb, 0, none⟩) := ((hF 2 (by decide)).2 (by decide)).is rfl
  have e3 : vs 3 = .pointer (some ⟨nb, 1, none⟩) := ((hF 3 (by decide)).2 (by decide)).is rfl
  have e4 : vs 4 = .map (some bm) := ((hF 4 (by decide)).2 (by decide)).is rfl
  have e5 : vs 5 = k.v := ((hF 5 (by decide)).2 (by decide)).is rfl
  have e6 : vs 6 = .agg ee.cells := ((hF 6 (by decide)).2 (by decide)).is rfl
  obtain ⟨b7, e7, hB7, hr7⟩ := (hF 7 (by decide)).1 rfl
  clear hF
  simp only [List.drop_succ_cons, List.drop_zero, puts, List.range, List.range.loop, List.foldr, if_true, List.getD_cons_zero, List.getD_cons_succ, e0, e1, e2, e3, e4, e5, e6, e7, Act.put, List.setIfInBounds_toArray, List.set_cons_zero, List.set_cons_succ]
  clear e0 e1 e2 e3 e4 e5 e6 e7
  have HBY : Hid (Below u.heap.size u y) := HBU1.out.trans (hb.mono HBU1.out.size)
  have HOY : Hid (OwnEF y u.heap.size u3 (EE.take j)) := owns_below HO1.out hb
  have HR7 := hid hr7
  clear hb hr7 hB7 HLK HBX HB1 HR1 HW1 HBU1 HO1 HLD HB
  go_wp2_with (at_builtin; refine wpList_append_own _ rfl (.tmp 21) (.tmp 28) 49 rfl u.heap.size 44 i0 (.agg #[.int .u8 0, .int .u8 0, .int .u8 0, .int .u8 0, .int .u8 0, .int .u8 0, .int .u32 0]) 7 12 (by kernel_rfl) HIP.out hz0 hz1 hz2 rfl (by decide) _ _ _ rfl (HOY.out) ⟨b7, 0, none⟩ 1 1 [.int .u8 (ee.mac.b0 : Int), .int .u8 (ee.mac.b1 : Int), .int .u8 (ee.mac.b2 : Int), .int .u8 (ee.mac.b3 : Int), .int .u8 (ee.mac.b4 : Int), .int .u8 (ee.mac.b5 : Int), .int .u32 (ee.dest : Int)] rfl rfl ?aa1 ?aa2 ?aa3 ?aa4 ?aa5 ?_)
  case aa1 => exact seven_row HR7.out
  case aa2 => intro u hu; simp at hu; rcases hu with rfl | rfl | rfl | rfl | rfl | rfl | rfl <;> rfl
  case aa3 => unfold maxLen; have := HLT.out; have := HN256.out; omega
  case aa4 => have := HLT.out; have := HN256.out; omega
  case aa5 => have := HBY.out.size; omega
  intro v6 w6 hown6 hgrow _
  rw [ecF_snoc] at hown6
  have HO6 : Hid (OwnEF w6 u.heap.size v6 (EE.take (j + 1))) := by rw [take_snoc HEJ.out]; unfold Hid OwnEF; rw [List.length_append, List.length_take]; exact hown6
  have HB6 : Hid (Below u.heap.size u w6) := HBY.out.grown hgrow HBY.out.size (fun k hk => (HOY.out.lt k hk).1)
  clear hown6 hgrow
  go_wp2_with fail
  go_roundw
  case rel => exact ⟨j + 1, _, rfl, by go_num, by omega, HO6.out, HB6.out⟩
  case measure => simp [intOf]; omega
 ·have b1 : ¬ (j : Int) < (n : Int) := by omega
  obtain rfl : j = n := by omega
  have HR : Hid (OwnEF wx w.heap.size u3 EE /\ SrtK (fun e : Fd => e.mac.num) EE L /\ Below w.heap.size w wx) := by
   have ho := HO.out
   rw [List.take_of_length_le (by rw [HNE.out]; omega)] at ho
   exact ⟨row_base ho HI.out.size, HFIN.out, HI.out.trans (HB.out.mono HI.out.size)⟩
  clear HO HB
  go_wp2_with fail
  go_ret
  exact ⟨_, rfl, EE, HR.out⟩
end Go.Proofs.YtpdnnikkaojnkaaGreat.Rt
