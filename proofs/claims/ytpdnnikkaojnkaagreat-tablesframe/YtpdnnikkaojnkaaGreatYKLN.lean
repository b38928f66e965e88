import Derived.Test.YtpdnnikkaojnkaaGreatYKMN
namespace Go.Proofs.YtpdnnikkaojnkaaGreat.Rt
open Go.Proofs.YtpdnnikkaojnkaaGreat Go.ChangeShapes Go.WideShapes Go.ChangeAt Go.RowKit Go.Maps Tri N
set_option maxHeartbeats 8000000
set_option maxRecDepth 100000
theorem srt_gen {α κ : Type} [DecidableEq κ] {key : α -> κ} {kn : κ -> Nat} {ok : κ -> Prop} {z : α} {L : List α} {ss : List κ} (hn : Nod key L) (hk : ∀ e ∈ L, ok (key e)) (hr : RisBy kn ss) (h : ∀ k, k ∈ ss ↔ ok k /\ (lk key L k).isSome = true) : SrtK (fun e => kn (key e)) (ss.map fun k => (lk key L k).getD z) L := by
 have hg : ∀ k ∈ ss, ∃ e, lk key L k = some e /\ e ∈ L /\ key e = k := fun k hk' => by
  obtain ⟨_, h2⟩ := (h k).1 hk'
  obtain ⟨e, he⟩ := Option.isSome_iff_exists.1 h2
  exact ⟨e, he, lk_some he⟩
 refine ⟨?_, fun e => ⟨fun he => ?_, fun he => ?_⟩⟩
 ·unfold RisBy Ris at *
  rw [List.map_map, List.pairwise_map]
  rw [List.pairwise_map] at hr
  refine hr.imp_of_mem fun {a b} ha hb hab => ?_
  obtain ⟨e1, g1, _, k1⟩ := hg a ha
  obtain ⟨e2, g2, _, k2⟩ := hg b hb
  simp only [Function.comp, g1, g2, Option.getD_some, k1, k2]
  exact hab
 ·obtain ⟨k, hk', rfl⟩ := List.mem_map.1 he
  obtain ⟨e1, g1, m1, _⟩ := hg k hk'
  rw [g1]; exact m1
 ·exact List.mem_map.2 ⟨key e, (h _).2 ⟨hk e he, by rw [lk_mem hn he]; rfl⟩, by rw [lk_mem hn he]; rfl⟩
theorem keysN_len {L : List Nb} {ss : List Nat} (hn : Nod Nb.ip L) (hk : ∀ e ∈ L, gN.kOk (Nb.ip e)) (hnd : ss.Nodup) (h : ∀ k, k ∈ ss ↔ gN.kOk k /\ (lk Nb.ip L k).isSome = true) : ss.length = L.length := by
 have h1 : ss.length <= (L.map Nb.ip).length := nodup_le hnd fun k hk' => by
  obtain ⟨_, h2⟩ := (h k).1 hk'
  obtain ⟨e, he⟩ := Option.isSome_iff_exists.1 h2
  obtain ⟨h3, h4⟩ := lk_some he
  exact List.mem_map.2 ⟨e, h3, h4⟩
 have h2 : (L.map Nb.ip).length <= ss.length := nodup_le hn fun k hk' => by
  obtain ⟨e, he, rfl⟩ := List.mem_map.1 hk'
  exact (h _).2 ⟨hk e he, by rw [lk_mem hn he]; rfl⟩
 simp only [List.length_map] at h1 h2
 omega
theorem risN_nodup {ss : List Nat} (h : RisBy (fun k : Nat => k) ss) : ss.Nodup := by
 unfold RisBy Ris at h
 rw [List.pairwise_map] at h
 exact h.imp fun hlt e => by rw [e] at hlt; exact Nat.lt_irrefl _ hlt
theorem srtN_of {L : List Nb} {ss : List Nat} (hn : Nod Nb.ip L) (hk : ∀ e ∈ L, gN.kOk (Nb.ip e)) (hr : RisBy (fun k : Nat => k) ss) (h : ∀ k, k ∈ ss ↔ gN.kOk k /\ (lk Nb.ip L k).isSome = true) : SrtK (fun e : Nb => e.ip) (ss.map fun k => (lk Nb.ip L k).getD gN.z) L :=
 srt_gen (key := Nb.ip) (kn := (fun k : Nat => k)) hn hk hr h
def ecN (L : List Nb) : List Value := L.flatMap fun e => e.cells.toList
def OwnEN (w : World) (base : Nat) (v : Value) (L : List Nb) : Prop := w.ownsRow base 42 7 v L.length (ecN L)
theorem ecN_snoc (L : List Nb) (e : Nb) : ecN L ++ [.int .u32 (e.ip : Int), .int .u8 (e.mac.b0 : Int), .int .u8 (e.mac.b1 : Int), .int .u8 (e.mac.b2 : Int), .int .u8 (e.mac.b3 : Int), .int .u8 (e.mac.b4 : Int), .int .u8 (e.mac.b5 : Int)] = ecN (L ++ [e]) := by
 unfold ecN
 rw [List.flatMap_append]
 rfl
theorem ex_lenN {o : Oper} {a : Act} {w : World} (x : Operand) (p : Option Addr) (n c : Nat) (ho : o.op = .call { callee := .builtin .len, args := #[x], argTypes := #[25] }) (hx : a.eval x = .slice p n c) : (execOp a.eval o).run Tryz.prog w = .ok (.value (.int .i64 (n : Int))) w := by
 have hu : Tryz.prog.underlying 25 = some (.slice 34) := by kernel_rfl
 have hr : (Builtin.len_ #[25] o.type #[.slice p n c]).run Tryz.prog w = .ok (.int .i64 (n : Int)) w := by simp [Builtin.len_, run_underlying hu, goInt, Result.andThen]
 simp [execOp, ho, resolve, invoke, builtin, hx, hr, Result.andThen]
def FLN (nb bm B n : Nat) (f : Nat -> Option Nb) (i : Nat) (vs : Nat -> Value) (w : World) : Prop :=
 match i with
 | 0 => vs 0 = .pointer (some ⟨nb, 0, none⟩)
 | 1 => vs 1 = .pointer (some ⟨nb, 0, none⟩)
 | 2 => vs 2 = .pointer (some ⟨nb, 1, none⟩)
 | 3 => vs 3 = .map (some bm)
 | 4 => ∃ b, vs 4 = .func (.func 73) #[] #[.pointer (some ⟨b, 0, none⟩)] /\ w.heap[b]? = some (.cells #[.map (some bm)] 118)
 | 5 => vs 5 = .pointer (some ⟨nb, 0, none⟩)
 | 6 => vs 6 = .pointer (some ⟨nb, 0, none⟩)
 | 7 => vs 7 = .pointer (some ⟨nb, 3, none⟩)
 | 8 => vs 8 = .func (.func 38) #[] #[]
 | 9 => ∃ a c ss, vs 9 = .slice a n c /\ OwnKN w B (.slice a n c) ss /\ SrtN f ss
 | 10 => vs 10 = .int .i64 (n : Int)
 | 11 => vs 11 = .int .i64 0
 | _ => True
theorem FLN.keeps (nb bm B n : Nat) (f : Nat -> Option Nb) (ops : List Oper) (I : World -> Prop) : ∀ (i j : Nat) (o : Oper) (vs : Nat -> Value) (v : Value) (w w' : World), i ≠ j -> ops[i]? = some o -> (∀ e ∈ o.after, Region.binds .any e = true -> e.on ≠ j) -> FLN nb bm B n f i vs w -> I w -> Below w.heap.size w w' -> FLN nb bm B n f i (upd vs j v) w' := fun i j o vs v w w' hij _ _ h _ hb => by
 unfold FLN at *
 rcases i with _ | _ | _ | _ | _ | _ | _ | _ | _ | _ | _ | _ | i
 all_goals simp only at h ⊢
 ·rw [upd_ne _ hij]; exact h
 ·rw [upd_ne _ hij]; exact h
 ·rw [upd_ne _ hij]; exact h
 ·rw [upd_ne _ hij]; exact h
 ·obtain ⟨b, h1, h2⟩ := h
  exact ⟨b, by rw [upd_ne _ hij]; exact h1, below_keeps hb h2 (gsl h2)⟩
 ·rw [upd_ne _ hij]; exact h
 ·rw [upd_ne _ hij]; exact h
 ·rw [upd_ne _ hij]; exact h
 ·rw [upd_ne _ hij]; exact h
 ·obtain ⟨a, c, ss, h1, h2, h3⟩ := h
  exact ⟨a, c, ss, by rw [upd_ne _ hij]; exact h1, owns_below h2 hb, h3⟩
 ·rw [upd_ne _ hij]; exact h
 ·rw [upd_ne _ hij]; exact h
theorem flN_still {P : Program} {nb bm B n : Nat} {f : Nat -> Option Nb} {i : Nat} {o : Oper} {a : Act} {W w : World} {Q : Exit -> Act -> World -> Prop} {vs : Nat -> Value} {d : Option Tmp} (v : Value) (hr : (execOp a.eval o).run P w = .ok (.value v) w) (ht : o.dst = d) (hF : FLN nb bm B n f i (upd vs i v) w) (hb : Below W.heap.size W w) :
  o.wp P a w (fun a' w' => ∃ v', a' = a.put d v' /\ FLN nb bm B n f i (upd vs i v') w' /\ Below W.heap.size W w' /\ Below w.heap.size w w') Q :=
 wp_val hr (by rw [ht]; exact ⟨v, rfl, hF, hb, bR⟩)
theorem keyN_at {w : World} {B n c : Nat} {a : Option Addr} {ss : List Nat} (h : OwnKN w B (.slice a n c) ss) {j : Nat} (hj : j < n) (hn : n = ss.length) : ∃ g k, a = some ⟨g, 0, none⟩ /\ ss[j]? = some k /\ w.cell? ⟨g, j, none⟩ = some (.int .u32 (k : Int)) := by
 rcases h.2 with ⟨h0, hn0⟩ | ⟨g, cap, cur, h0, hbb, hg, h1, h2, h3, h4⟩
 ·omega
 ·simp only [Value.slice.injEq] at h0
  obtain ⟨rfl, rfl, rfl⟩ := h0
  have hjs : j < ss.length := by omega
  refine ⟨g, ss[j], rfl, List.getElem?_eq_getElem hjs, ?_⟩
  rw [cell_of_row _ _ _ _ _ _ hg]
  have e : (cur.toList.take (ss.length * 1))[j]? = some (.int .u32 (ss[j] : Int)) := by
   rw [h4, kcN_map, List.getElem?_map, List.getElem?_eq_getElem hjs]; rfl
  rw [List.getElem?_take, if_pos (by omega)] at e
  simpa using e
theorem seven_at {W : World} {n : Nat} (hn : W.heap.size = n) (a b c d e f g : Value) (T : TypeId) : ∀ (j : Nat) (u : Value), [a, b, c, d, e, f, g][j]? = some u -> (W.alloc (.cells #[a, b, c, d, e, f, g] T)).cell? ((⟨n, 0, none⟩ : Addr).add j) = some u := by
 intro j u hu
 subst hn
 have e : (⟨W.heap.size, 0, none⟩ : Addr).add j = ⟨W.heap.size, j, none⟩ := by simp [Addr.add]; exact fun h => h.symm
 rw [e, cell_of_row _ _ _ _ _ _ (heap_alloc_new W _)]
 simpa using hu
theorem infoEN : (Tryz.prog.info? 42).map (fun i => (i.zero, i.size, i.bytes)) = some (some (.agg #[.int .u32 0, .int .u8 0, .int .u8 0, .int .u8 0, .int .u8 0, .int .u8 0, .int .u8 0]), 7, 12) := by kernel_rfl
theorem listN_any {nb bm room : Nat} {L : List Nb} (w : World) (h : BdN w nb bm room L) (hk : ∀ e ∈ L, gN.kOk (Nb.ip e)) :
  Calls Tryz.prog 22 #[.pointer (some ⟨nb, 0, none⟩)] w fun e w' => ∃ v ES, e = .returned v /\ OwnEN w' w.heap.size v ES /\ SrtK (fun e : Nb => e.ip) ES L /\ Below w.heap.size w w' := by
 obtain ⟨i0, hi0, hz0, hz1, hz2⟩ := info_parts infoEN
 have HIP : Hid (Tryz.prog.info? 42 = some i0) := hi0
 have HBD := hid h
 have HK := hid hk
 clear h hk hi0
 go_enter Tryz.func22, Tryz.ntmps22
 go_upto_region 2 with fail
 refine wp_region_all' 12 (fun i => ([some 6, some 7, some 8, some 9, some 10, some 11, some 12, some 13, some 14, some 15, some 16, some 17] : List (Option Tmp)).getD i none) (FLN nb bm w.heap.size L.length (lk Nb.ip L)) (fun u => Below w.heap.size w u) (fun _ u u' => Below u.heap.size u u') (by kernel_rfl) (by kernel_rfl) ⟨rfl, rfl, rfl, nL, fun _ _ => rfl⟩ (FLN.keeps _ _ _ _ _ _ _) ?_ ?_
 ·simp only [N.stepsAll]
  refine ⟨?_, ?_, ?_, ?_, ?_, ?_, ?_, ?_, ?_, ?_, ?_, ?_, trivial⟩
  ·intro a u vs hI hold hdep
   exact flN_still (.pointer (some ⟨nb, 0, none⟩)) (ex_move (.tmp 0) _ rfl (hold 0 (dl_of (L := [some 6, some 7, some 8, some 9, some 10, some 11, some 12, some 13, some 14, some 15, some 16, some 17]) (by decide)))) rfl (by show upd vs 0 _ 0 = _; rw [upd_eq]) hI
  ·intro a u vs hI hold hdep
   have d0 := hdep ⟨0, .data⟩ (by simp) rfl
   exact flN_still _ (ex_nil ⟨nb, 0, none⟩ (.tmp 6) rfl ((d0.2 6 rfl).trans d0.1)) rfl (by show upd vs 1 _ 1 = _; rw [upd_eq]) hI
  ·intro a u vs hI hold hdep
   have d1 := hdep ⟨1, .data⟩ (by simp) rfl
   exact flN_still (.pointer (some ⟨nb, 1, none⟩)) (ex_field _ ⟨nb, 0, none⟩ (.tmp 7) 1 _ rfl ((d1.2 7 rfl).trans d1.1) (by kernel_rfl)) rfl (by show upd vs 2 _ 2 = _; rw [upd_eq]) hI
  ·intro a u vs hI hold hdep
   have d2 := hdep ⟨2, .data⟩ (by simp) rfl
   have hc := (HBD.out.below hI).cells.2.1
   exact flN_still (.map (some bm)) (ex_load _ ⟨nb, 1, none⟩ (.tmp 8) _ rfl ((d2.2 8 rfl).trans d2.1) (by simp [go_sem, hc])) rfl (by show upd vs 3 _ 3 = _; rw [upd_eq]) hI
  ·intro a u vs hI hold hdep
   have d3 := hdep ⟨3, .data⟩ (by simp) rfl
   have e0 : a.eval (.tmp 9) = .map (some bm) := ((d3.2 9 rfl).trans d3.1)
   refine wp_call 52 _ _ rfl (enters_of Tryz.func52 (by kernel_rfl) rfl) #[.map (some bm)] (by simp only [List.map_toArray, List.map_cons, List.map_nil, e0]) ?_
   refine (keysN_new bm u).mono ?_
   rintro e u' ⟨rfl, rfl⟩
   have hb : Below u.heap.size u (u.alloc (.cells #[.map (some bm)] 118)) := bR.alloc nL _
   exact ⟨_, rfl, _, rfl, ⟨u.heap.size, by rw [upd_eq], heap_alloc_new u _⟩, hI.trans (hb.mono hI.size), hb⟩
  ·intro a u vs hI hold hdep
   exact flN_still (.pointer (some ⟨nb, 0, none⟩)) (ex_move (.tmp 0) _ rfl (hold 0 (dl_of (L := [some 6, some 7, some 8, some 9, some 10, some 11, some 12, some 13, some 14, some 15, some 16, some 17]) (by decide)))) rfl (by show upd vs 5 _ 5 = _; rw [upd_eq]) hI
  ·intro a u vs hI hold hdep
   have d5 := hdep ⟨5, .data⟩ (by simp) rfl
   exact flN_still _ (ex_nil ⟨nb, 0, none⟩ (.tmp 11) rfl ((d5.2 11 rfl).trans d5.1)) rfl (by show upd vs 6 _ 6 = _; rw [upd_eq]) hI
  ·intro a u vs hI hold hdep
   have d6 := hdep ⟨6, .data⟩ (by simp) rfl
   exact flN_still (.pointer (some ⟨nb, 3, none⟩)) (ex_field _ ⟨nb, 0, none⟩ (.tmp 12) 3 _ rfl ((d6.2 12 rfl).trans d6.1) (by kernel_rfl)) rfl (by show upd vs 7 _ 7 = _; rw [upd_eq]) hI
  ·intro a u vs hI hold hdep
   have d7 := hdep ⟨7, .data⟩ (by simp) rfl
   have hc := (HBD.out.below hI).cells.2.2.2
   exact flN_still (.func (.func 38) #[] #[]) (ex_load _ ⟨nb, 3, none⟩ (.tmp 13) _ rfl ((d7.2 13 rfl).trans d7.1) (by simp [go_sem, hc])) rfl (by show upd vs 8 _ 8 = _; rw [upd_eq]) hI
  ·intro a u vs hI hold hdep
   have d4 := hdep ⟨4, .data⟩ (by simp) rfl
   have d8 := hdep ⟨8, .data⟩ (by simp) rfl
   obtain ⟨b, g1, g2⟩ := d4.1
   have e0 : a.eval (.tmp 10) = .func (.func 73) #[] #[.pointer (some ⟨b, 0, none⟩)] := (d4.2 10 rfl).trans g1
   have e1 : a.eval (.tmp 14) = .func (.func 38) #[] #[] := ((d8.2 14 rfl).trans d8.1)
   refine wp_call 51 _ _ rfl (enters_of Tryz.func51 (by kernel_rfl) rfl) #[.func (.func 73) #[] #[.pointer (some ⟨b, 0, none⟩)], .func (.func 38) #[] #[]] (by simp only [List.map_toArray, List.map_cons, List.map_nil, e0, e1]) ?_
   have hle := HBD.out.le
   refine (sortedN_any b bm L.length u g2 (HBD.out.below hI).map (by omega) (fun ss hs => by rw [keysN_len HBD.out.nod HK.out hs.1 hs.2]; omega)).mono ?_
   rintro e u' ⟨v, ss, rfl, hS, ho, hb⟩
   obtain ⟨ao, m, c, rfl⟩ : ∃ a n c, v = .slice a n c := by
    rcases ho.2 with ⟨hv, _⟩ | ⟨g, cap, cur, hv, _⟩
    ·exact ⟨_, _, _, hv⟩
    ·exact ⟨_, _, _, hv⟩
   have hm : m = L.length := by
    rw [<- keysN_len HBD.out.nod HK.out (risN_nodup hS.1) hS.2]
    rcases ho.2 with ⟨hv, h0⟩ | ⟨g, cap, cur, hv, _⟩
    ·simp only [Value.slice.injEq] at hv; omega
    ·simp only [Value.slice.injEq] at hv; omega
   subst hm
   exact ⟨_, rfl, _, rfl, ⟨ao, c, ss, by rw [upd_eq], row_base ho hI.size, hS⟩, hI.trans (hb.mono hI.size), hb⟩
  ·intro a u vs hI hold hdep
   have d9 := hdep ⟨9, .data⟩ (by simp) rfl
   obtain ⟨ao, c, ss, g1, _⟩ := d9.1
   exact flN_still _ (ex_lenN (.tmp 15) ao L.length c rfl ((d9.2 15 rfl).trans g1)) rfl (by show upd vs 10 _ 10 = _; rw [upd_eq]) hI
  ·intro a u vs hI hold hdep
   exact flN_still (.int .i64 0) (ex_move (.const (.int .i64 0)) _ rfl rfl) rfl (by show upd vs 11 _ 11 = _; rw [upd_eq]) hI
 intro vs u hI hF
 have e0 : vs 0 = .pointer (some ⟨nb, 0, none⟩) := hF 0 (by decide)
 have e1 : vs 1 = .pointer (some ⟨nb, 0, none⟩) := hF 1 (by decide)
 have e2 : vs 2 = .pointer (some ⟨nb, 1, none⟩) := hF 2 (by decide)
 have e3 : vs 3 = .map (some bm) := hF 3 (by decide)
 obtain ⟨b4, e4, -⟩ := hF 4 (by decide)
 have e5 : vs 5 = .pointer (some ⟨nb, 0, none⟩) := hF 5 (by decide)
 have e6 : vs 6 = .pointer (some ⟨nb, 0, none⟩) := hF 6 (by decide)
 have e7 : vs 7 = .pointer (some ⟨nb, 3, none⟩) := hF 7 (by decide)
 have e8 : vs 8 = .func (.func 38) #[] #[] := hF 8 (by decide)
 obtain ⟨ao, c, ss, e9, hown, hsrt⟩ := hF 9 (by decide)
 have e10 : vs 10 = .int .i64 (L.length : Int) := hF 10 (by decide)
 have e11 : vs 11 = .int .i64 0 := hF 11 (by decide)
 clear hF
 simp only [putsO, List.range, List.range.loop, List.foldr, if_true, List.getD_cons_zero, List.getD_cons_succ, e0, e1, e2, e3, e4, e5, e6, e7, e8, e9, e10, e11, Act.put, List.setIfInBounds_toArray, List.set_cons_zero, List.set_cons_succ]
 clear e0 e1 e2 e3 e4 e5 e6 e7 e8 e9 e10 e11
 have hlen := keysN_len HBD.out.nod HK.out (risN_nodup hsrt.1) hsrt.2
 have HFIN := hid (srtN_of HBD.out.nod HK.out hsrt.1 hsrt.2)
 have HSR := hid hsrt
 have HBU := hid (HBD.out.below hI)
 have HOK := hid hown
 have HI := hid hI
 obtain ⟨n, hn⟩ : ∃ n, n = L.length := ⟨_, rfl⟩
 have HN : Hid (n = ss.length) := by unfold Hid; omega
 have HN256 : Hid (n <= 256) := by have := HBD.out.le; unfold Hid; omega
 rw [<- hn] at HOK ⊢
 obtain ⟨EE, HEE⟩ : ∃ EE, Hid (EE = ss.map fun k => (lk Nb.ip L k).getD gN.z) := ⟨_, rfl⟩
 have HNE : Hid (EE.length = n) := by unfold Hid; rw [HEE.out, List.length_map]; exact HN.out.symm
 rw [<- HEE.out] at HFIN
 clear hn hsrt hown hI hlen
 go_upto_region 3 with fail
 go_loopw [3, 17] (fun v i wr => ∃ (j : Nat) (wx : World), wx = wr /\ i = .int .i64 (j : Int) /\ j <= n /\ Hid (OwnEN wx u.heap.size v (EE.take j)) /\ Hid (Below u.heap.size u wx)) (fun _ i _ => n - (intOf i).toNat)
 case atStart => exact ⟨0, _, rfl, rfl, Nat.zero_le _, World.ownsRow_nil _ _ _ _, bR⟩
 case round =>
 obtain ⟨j, wx, rfl, rfl, hj, HO, HB⟩ := hrel
 have hn256 := HN256.out
 by_cases hjn : j < n
 ·have b1 : (j : Int) < (n : Int) := by omega
  have b2 : (0 : Int) <= (j : Int) := by omega
  obtain ⟨g, k, hao, hks, hc⟩ := keyN_at (owns_below HOK.out HB.out) hjn HN.out
  subst hao
  have hkk : gN.kOk k /\ (lk Nb.ip L k).isSome = true := (HSR.out.2 k).1 (List.mem_of_getElem? hks)
  have hbx := HBU.out.below HB.out
  obtain ⟨-, c1, -, -⟩ := hbx.cells
  obtain ⟨ee, hee⟩ : ∃ ee, ee = (lk Nb.ip L k).getD gN.z := ⟨_, rfl⟩
  have hej : EE[j]? = some ee := by rw [HEE.out, List.getElem?_map, hks, hee]; rfl
  have hlk := hbx.map.look1 (G := gN) hkk.1
  rw [<- hee] at hlk
  have HLK : Hid ((Instr.lookup 118 (.map (some bm)) (.int .u32 (k : Int)) false).run Tryz.prog wx = .ok (.agg #[.int .u32 (ee.ip : Int), .int .u8 (ee.mac.b0 : Int), .int .u8 (ee.mac.b1 : Int), .int .u8 (ee.mac.b2 : Int), .int .u8 (ee.mac.b3 : Int), .int .u8 (ee.mac.b4 : Int), .int .u8 (ee.mac.b5 : Int)]) wx) := hlk
  have HEJ := hid hej
  have HLT : Hid ((EE.take j).length < n) := by unfold Hid; rw [List.length_take]; omega
  clear hlk hej hee hkk hks hbx
  go_upto_region 5 with fail
  go_wp2_with (first | (at_lookup; refine wpList_lookup_run _ rfl _ _ _ _ rfl _ _ _ rfl rfl HLK.out ?_) | (at_builtin; refine wpList_append_own _ rfl (.tmp 21) (.tmp 28) 48 rfl u.heap.size 42 i0 (.agg #[.int .u32 0, .int .u8 0, .int .u8 0, .int .u8 0, .int .u8 0, .int .u8 0, .int .u8 0]) 7 12 (by kernel_rfl) HIP.out hz0 hz1 hz2 rfl (by decide) _ _ _ rfl (World.ownsRow.alloc HO.out _) ⟨wx.heap.size, 0, none⟩ 1 1 [.int .u32 (ee.ip : Int), .int .u8 (ee.mac.b0 : Int), .int .u8 (ee.mac.b1 : Int), .int .u8 (ee.mac.b2 : Int), .int .u8 (ee.mac.b3 : Int), .int .u8 (ee.mac.b4 : Int), .int .u8 (ee.mac.b5 : Int)] rfl rfl ?aa1 ?aa2 ?aa3 ?aa4 ?aa5 ?_))
  case aa1 => exact seven_at rfl _ _ _ _ _ _ _ _
  case aa2 => intro u hu; simp at hu; rcases hu with rfl | rfl | rfl | rfl | rfl | rfl | rfl <;> rfl
  case aa3 => unfold maxLen; have := HLT.out; have := HN256.out; omega
  case aa4 => have := HLT.out; have := HN256.out; omega
  case aa5 => have := HB.out.size; simp; omega
  intro v6 w6 hown6 hgrow _
  rw [ecN_snoc] at hown6
  have HO6 : Hid (OwnEN w6 u.heap.size v6 (EE.take (j + 1))) := by rw [take_snoc HEJ.out]; unfold Hid OwnEN; rw [List.length_append, List.length_take]; exact hown6
  have HB6 : Hid (Below u.heap.size u w6) := (HB.out.alloc HB.out.size _).grown hgrow (by have := HB.out.size; simp; omega) (fun k hk => (HO.out.lt k hk).1)
  clear hown6 hgrow
  go_wp2_with fail
  go_roundw
  case rel => exact ⟨j + 1, _, rfl, by go_num, by omega, HO6.out, HB6.out⟩
  case measure => simp [intOf]; omega
 ·have b1 : ¬ (j : Int) < (n : Int) := by omega
  obtain rfl : j = n := by omega
  have HR : Hid (OwnEN wx w.heap.size u3 EE /\ SrtK (fun e : Nb => e.ip) EE L /\ Below w.heap.size w wx) := by
   have ho := HO.out
   rw [List.take_of_length_le (by rw [HNE.out]; omega)] at ho
   exact ⟨row_base ho HI.out.size, HFIN.out, HI.out.trans (HB.out.mono HI.out.size)⟩
  clear HO HB
  go_wp2_with fail
  go_ret
  exact ⟨_, rfl, EE, HR.out⟩
end Go.Proofs.YtpdnnikkaojnkaaGreat.Rt
