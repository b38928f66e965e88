import Derived.Test.YtkkfioebpppffaaGreatDoorEJ
namespace Go.Proofs.YtkkfioebpppffaaGreatDoor.Fl
open Go.Proofs.YtkkfioebpppffaaGreatDoor Go.ChangeShapes Go.WideShapes Go.ChangeAt Go.RowKit Go.Maps N
open Go.Shelf Go.Lib
set_option maxHeartbeats 8000000
set_option maxRecDepth 100000

theorem wpList_bsF {ops : Array Oper} {Q : Exit → Act → World → Prop} {a : Act} {w : World} {rest : List Oper} {o : Oper} (hgd : o.guard = none) (x : Fw) (s : Operand) (ho : o.op = .buildSlice 41 1 #[(0, s)]) (hs : a.eval s = .agg x.cells)
    (h : ∀ w', Below w.heap.size w w' → w'.heap[w.heap.size]? = some (.cells x.cells 45 (0, 0)) → wpList Tryz.prog ops Q rest (a.put o.dst (.slice (some ⟨w.heap.size, 0, none⟩) 1 1)) w') : wpList Tryz.prog ops Q (o :: rest) a w :=
  wpList_plain hgd fun _ hK => wp_val (ex_bslice 41 1 #[(0, s)] #[(0, .agg x.cells)] ho (by simp only [List.map_toArray, List.map_cons, List.map_nil, hs]) (build1F x w)) (hK _ _ (h _ ((Below.refl _ _).alloc (Nat.le_refl _) _) (heap_alloc_new w _)))
theorem ownF_some {w : World} {B : Nat} {v : Value} {L : List Fw} {x : Fw} (h : Ow.Own kF w B v (L ++ [x])) : ∃ g n c, v = .slice (some ⟨g, 0, none⟩) n c := by
  rcases h.2 with ⟨_, h0⟩ | ⟨g, cap, cur, rfl, _⟩
  · simp at h0
  · exact ⟨g, _, cap, rfl⟩
theorem wpList_apF {ops : Array Oper} {Q : Exit → Act → World → Prop} {a : Act} {w : World} {rest : List Oper} {o : Oper} (hgd : o.guard = none) (d s : Operand) (ho : o.op = .call { callee := .builtin .append, args := #[d, s], argTypes := #[41, 41] }) {B : Nat} {v : Value} {L : List Fw} (x : Fw) (b : Nat) {T : TypeId} (hd : a.eval d = v) (hs : a.eval s = .slice (some ⟨b, 0, none⟩) 1 1)
    (hv : Ow.Own kF w B v L) (hb : w.heap[b]? = some (.cells x.cells T (0, 0))) (hB : B ≤ w.heap.size) (hbig : L.length + 1 ≤ 1073741824)
    (h : ∀ g' n' c' w', Ow.Own kF w' B (.slice (some ⟨g', 0, none⟩) n' c') (L ++ [x]) → w.grownBy w' v.ownBlock → wpList Tryz.prog ops Q rest (a.put o.dst (.slice (some ⟨g', 0, none⟩) n' c')) w') : wpList Tryz.prog ops Q (o :: rest) a w := by
  obtain ⟨v', w', hr, ho', hg, -⟩ := Ow.append_one (K := kF) o.type x b hv hb hB hbig
  obtain ⟨g', n', c', rfl⟩ := ownF_some ho'
  exact wpList_plain hgd fun _ hK => wp_val (ex_append d s _ _ ho hd hs hr) (hK _ _ (h _ _ _ _ ho' hg))
theorem take_one {α : Type} {L : List α} {j : Nat} (hj : j < L.length) : L.take (j + 1) = L.take j ++ [L[j]] := by
  rw [List.take_add_one, List.getElem?_eq_getElem hj]; rfl
theorem ex_delete {P : Program} {o : Oper} {a : Act} {w : World} (d s : Operand) (t t' : TypeId)
    (ho : o.op = .call { callee := .builtin .delete, args := #[d, s], argTypes := #[t, t'] }) (v u : Value) (hd : a.eval d = v) (hs : a.eval s = u) {v' : Value} {w' : World}
    (hr : (Builtin.delete_ #[t, t'] o.type #[v, u]).run P w = .ok v' w') : (execOp a.eval o).run P w = .ok (.value v') w' := by
  unfold execOp
  simp only [ho, resolve, invoke, builtin, Sem.run_bind, Sem.run_pure, Result.andThen_ok, List.map_toArray, List.map_cons, List.map_nil, hd, hs, hr]

/-- What stands in the table amid Due. -/
def dueAt (q : Raw) (L : List (Int × Fw)) (I : List Int) (j : Nat) (q' : Raw) (S : List Tm.H.Dl) : Prop :=
  InvM q' (L.filter fun p => decide (p.1 ∉ I.take j)) ∧ q'.last = q.last ∧ q'.S = S
theorem dueAt_start {q : Raw} {L : List (Int × Fw)} (h : InvM q L) (I : List Int) (S : List Tm.H.Dl) : dueAt q L I 0 { q with S := S } S := by
  refine ⟨?_, rfl, rfl⟩
  have e : (L.filter fun p => decide (p.1 ∉ I.take 0)) = L := List.filter_eq_self.2 fun p _ => by simp
  rw [e]
  exact ⟨h.srt, h.pos, h.gk, h.fk, h.cg, h.cf, h.ok⟩
theorem dueAt_step {q q' : Raw} {L : List (Int × Fw)} {I : List Int} {S : List Tm.H.Dl} {j : Nat} {f : Fw} (h : dueAt q L I j q' S) (hj : j < I.length) (hm : (I[j], f) ∈ L) (hnd : I.Nodup) : q'.g I[j] = some f ∧ dueAt q L I (j + 1) (delQ q' I[j] f) S ∧ InvM q' (L.filter fun p => decide (p.1 ∉ I.take j)) ∧ (I[j], f) ∈ (L.filter fun p => decide (p.1 ∉ I.take j)) := by
  obtain ⟨h1, h2, h3⟩ := h
  have hn : I[j] ∉ I.take j := fun e => by
    obtain ⟨i, hi, e2⟩ := List.mem_iff_getElem.1 e
    rw [List.length_take] at hi
    rw [List.getElem_take] at e2
    have := (List.pairwise_iff_getElem.1 hnd) i j (by omega) hj (by omega)
    exact this e2
  have hmf : (I[j], f) ∈ (L.filter fun p => decide (p.1 ∉ I.take j)) := List.mem_filter.2 ⟨hm, by simpa using hn⟩
  refine ⟨(h1.gk _ _).2 hmf, ⟨?_, h2, h3⟩, h1, hmf⟩
  have hd := inv_del h1 hmf
  have e : (L.filter fun p => decide (p.1 ∉ I.take (j + 1))) = ((L.filter fun p => decide (p.1 ∉ I.take j)).filter fun p => decide (p.1 ≠ I[j])) := by
    rw [List.filter_filter]
    refine List.filter_congr fun p _ => ?_
    rw [take_one hj]
    simp only [List.mem_append, List.mem_singleton, not_or, ne_eq]
    by_cases a1 : p.1 ∈ I.take j <;> by_cases a2 : p.1 = I[j] <;> simp [a1, a2]
  rw [e]
  exact hd
theorem due_nodup {q : Raw} {L : List (Int × Fw)} {lim now : Int} (I : Inv lim q L) : ((Tm.dueT q.S now).map (·.1)).Nodup := by
  refine List.pairwise_map.2 ?_
  have hs : (Tm.dueT q.S now).Pairwise Tm.H.Lt := I.s.so.sublist (List.takeWhile_sublist _)
  refine List.Pairwise.imp_of_mem (R := Tm.H.Lt) (fun {a b} ha hb hlt e => ?_) hs
  obtain ⟨p, hp, rfl⟩ := (I.s.sm a).1 ((List.takeWhile_sublist _).subset ha)
  obtain ⟨r, hr, rfl⟩ := (I.s.sm b).1 ((List.takeWhile_sublist _).subset hb)
  simp only at e
  have : p.2 = r.2 := I.m.uniq (k := p.1) hp (by rw [e]; exact hr)
  unfold Tm.H.Lt at hlt
  simp only at hlt
  rw [this, e] at hlt
  omega
/-- Whose time is over; who stays. -/
def lateB (now : Int) (p : Int × Fw) : Bool := decide (p.2.til ≤ now)
def stayB (now : Int) (p : Int × Fw) : Bool := decide (now < p.2.til)
theorem stay_eq (now : Int) : (fun p : Int × Fw => decide (¬ p.2.til ≤ now)) = stayB now := funext fun p => by
  unfold stayB
  exact decide_eq_decide.2 (by omega)
theorem dueAt_end {q q' : Raw} {L : List (Int × Fw)} {lim now : Int} (I : Inv lim q L) (h : dueAt q L ((Tm.dueT q.S now).map (·.1)) ((Tm.dueT q.S now).map (·.1)).length q' (Tm.dueR q.S now)) : Inv lim q' (L.filter (stayB now)) ∧ q'.last = q.last := by
  rw [← stay_eq]
  obtain ⟨h1, h2, h3⟩ := h
  have e : (L.filter fun p => decide (p.1 ∉ ((Tm.dueT q.S now).map (·.1)).take ((Tm.dueT q.S now).map (·.1)).length)) = (L.filter fun p => decide (¬ p.2.til ≤ now)) := by
    refine List.filter_congr fun p hp => ?_
    rw [List.take_length]
    have := due_num I now hp
    simp only [this]
  rw [e] at h1
  refine ⟨⟨h1, ?_, ?_, by rw [h2]; exact I.l0⟩, h2⟩
  · rw [h3]; exact inv_dueS I.s now
  · have := List.length_filter_le (fun p : Int × Fw => decide (¬ p.2.til ≤ now)) L
    have := I.lm
    omega
end Go.Proofs.YtkkfioebpppffaaGreatDoor.Fl

namespace Go.Proofs.YtkkfioebpppffaaGreatDoor.Fl
open Go.Proofs.YtkkfioebpppffaaGreatDoor Go.ChangeShapes Go.WideShapes Go.ChangeAt Go.RowKit Go.Maps N
open Go.Shelf Go.Lib
set_option maxHeartbeats 8000000
set_option maxRecDepth 100000

theorem TAt.delF {u : World} {b : Nat} {lim : Int} {q : Raw} {p : Pl} (h : TAt u b lim q p) {k : Int} (hk : Tm.In64 k) (ty : TypeId) :
    ∃ u', (Builtin.delete_ #[59, 3] ty #[.map (some p.fb), .int .i64 k]).run Tryz.prog u = .ok (.tuple #[]) u' ∧ TAt u' b lim { q with g := fun y => if y = k then none else q.g y, cg := if (q.g k).isSome then q.cg - 1 else q.cg } p ∧ Me.Keeps (fun j => j = p.fb) u u' := by
  obtain ⟨u', hr, hm, ht⟩ := h.fm.drop (k := k) (wf64 hk) ty
  exact ⟨u', hr, h.fmap ht hm, turned_to ht⟩
theorem TAt.delN {u : World} {b : Nat} {lim : Int} {q : Raw} {p : Pl} (h : TAt u b lim q p) {t : Tu} (hk : t.Ok) (ty : TypeId) :
    ∃ u', (Builtin.delete_ #[58, 37] ty #[.map (some p.nb), .agg t.cells]).run Tryz.prog u = .ok (.tuple #[]) u' ∧ TAt u' b lim { q with f := fun y => if y = t then none else q.f y, cf := if (q.f t).isSome then q.cf - 1 else q.cf } p ∧ Me.Keeps (fun j => j = p.nb) u u' := by
  obtain ⟨u', hr, hm, ht⟩ := h.nm.drop (k := t) hk ty
  exact ⟨u', hr, h.nmap ht hm, turned_to ht⟩
theorem map_nocell {κ ε : Type} {G : Mq.Sg κ ε} {w : World} {bm c : Nat} {f : κ → Option ε} (h : Mq.MapG G w bm f c) (j : Nat) (v : Value) : w.cell? ⟨bm, j, none⟩ ≠ some v := by
  obtain ⟨D, ⟨es, clock, hb, _⟩, _⟩ := h
  simp [World.cell?, hb]
theorem grown_keeps {w w' : World} {r : Option Nat} {S : Nat → Prop} (hg : w.grownBy w' r) (hr : ∀ k, r = some k → S k) : Me.Keeps S w w' := Me.Keeps.grown hg hr

/-- What a round of Due keeps. -/
structure DuR (w1 : World) (b : Nat) (lim : Int) (q : Raw) (p1 : Pl) (L : List (Int × Fw)) (I : List Int) (S : List Tm.H.Dl) (wr : World) (j : Nat) (v : Value) : Prop where
  own : Ow.Own kF wr w1.heap.size v ((I.take j).map fun x => (q.g x).getD zFw)
  tab : ∃ qj, TAt wr b lim qj p1 ∧ dueAt q L I j qj S
  kp : Me.Keeps (fun k => k = p1.nb ∨ k = p1.fb) w1 wr

theorem dues_any (w : World) (b : Nat) (lim : Int) (q : Raw) (F : Nat → Prop) (L : List (Int × Fw)) (now : Int) (hs : St w b lim q F) (I : Inv lim q L) (hlim : lim ≤ 65536) (hlast : q.last < 4611686018427387904) (hnow : Tm.In64 now) :
    Calls Tryz.prog 15 #[.pointer (some ⟨b, 0, none⟩), .int .i64 now] w fun e w' => ∃ ao n cp R q', e = .returned (.slice ao n cp) ∧ R.Perm ((L.filter (lateB now)).map (·.2)) ∧ R.Pairwise (fun x y => ltOf cmpEn y x = false) ∧ Ow.Own kF w' w.heap.size (.slice ao n cp) R ∧ Inv lim q' (L.filter (stayB now)) ∧ q'.last = q.last ∧ ∃ F', St w' b lim q' F' ∧ (∀ k, F' k → F k ∨ w.heap.size ≤ k) ∧ Me.Keeps F w w' ∧ ∀ k, (Value.slice ao n cp).ownBlock = some k → ¬ F' k := by
  obtain ⟨p, hp, hF⟩ := hs
  have c4 : w.cell? ⟨b, 4, none⟩ = some (.pointer (some ⟨p.tb, 0, none⟩)) := hp.cells (j := 4) rfl
  obtain ⟨tb, HTB⟩ : ∃ b, Hid (b = p.tb) := ⟨_, rfl⟩
  rw [← HTB.out] at c4
  obtain ⟨S1, HS1⟩ : ∃ S1, Hid (S1 = Tm.dueR q.S now) := ⟨_, rfl⟩
  obtain ⟨q1, HQ1⟩ : ∃ q1 : Raw, Hid (q1 = ({ q with S := S1 } : Raw)) := ⟨_, rfl⟩
  obtain ⟨Ids, HI⟩ : ∃ Ids : List Int, Hid (Ids = (Tm.dueT q.S now).map (·.1)) := ⟨_, rfl⟩
  have hIL : ∀ x ∈ Ids, ∃ f, (x, f) ∈ L := fun x hx => by
    rw [HI.out] at hx
    obtain ⟨d, hd, rfl⟩ := List.mem_map.1 hx
    obtain ⟨r, hr, rfl⟩ := (I.s.sm d).1 ((List.takeWhile_sublist _).subset hd)
    exact ⟨r.2, hr⟩
  have HII : Hid (∀ x ∈ Ids, Tm.In64 x) := fun x hx => by
    obtain ⟨f, hf⟩ := hIL x hx
    have := I.m.pos _ hf
    simp only at this
    exact ⟨by omega, by omega⟩
  have HIL := hid hIL
  have HLE : Hid (Ids.length ≤ 1000000) := by
    unfold Hid
    rw [HI.out, List.length_map]
    have h1 : (Tm.dueT q.S now).length ≤ q.S.length := (List.takeWhile_sublist _).length_le
    have h2 := I.s.len I.m.srt
    have h3 := I.lm
    omega
  have HND : Hid Ids.Nodup := by unfold Hid; rw [HI.out]; exact due_nodup I
  have HDUE : Hid (Calls Tryz.prog 27 #[.pointer (some ⟨tb, 0, none⟩), .int .i64 now] w fun e w' => ∃ ao n cap, e = .returned (.slice ao n cap) ∧ Hid (n = Ids.length) ∧ Hid (Tm.SeesI w' (.slice ao n cap) Ids) ∧ Hid (StD w w' b lim q1 F)) := by
    unfold Hid
    rw [HTB.out]
    refine (Tm.due_any p.tb p.tbm p.tgo lim q.S now w hp.tm hnow).mono ?_
    rintro e w' ⟨vv, rfl, h1, h2, h3⟩
    rw [← HI.out] at h1
    rw [← HS1.out] at h2
    have h4 := h1.sees HII.out
    obtain ⟨ao, n, cap, rfl, hn, -, -⟩ := Tm.SeesI.shape h4
    refine ⟨ao, n, cap, rfl, hn, h4, ?_⟩
    rw [HQ1.out]
    exact std_tms hp hF h3 h2 fun x hx => .inl hx
  have HST : Hid (∀ T : List Tm.H.Dl, dueAt q L Ids 0 { q with S := T } T) := fun T => dueAt_start I.m Ids T
  have HEND : Hid (∀ q', dueAt q L Ids Ids.length q' S1 → Inv lim q' (L.filter (stayB now)) ∧ q'.last = q.last) := fun q' h => by
    rw [HI.out, HS1.out] at h
    exact dueAt_end I h
  have HPERM : Hid ((Ids.map fun k => (q.g k).getD zFw).Perm ((L.filter (lateB now)).map (·.2))) := by
    unfold Hid; rw [HI.out]; exact due_perm I now
  have HOK : Hid (∀ k f, (k, f) ∈ L → q.g k = some f ∧ f.th.Ok ∧ f.bk.Ok) := fun k f h => ⟨(I.m.gk k f).2 h, (I.m.ok _ h).1, (I.m.ok _ h).2.1⟩
  clear hp hF hnow I hIL hlim hlast
  go_enter Tryz.func15, Tryz.ntmps15
  go_wp2_with fail
  refine HDUE.out.mono ?_
  rintro _ w1 ⟨ao, n, cap, rfl, HN, HO, HD⟩
  obtain ⟨F1, ⟨p1, hp1, hF1⟩, hF2, hk1⟩ := HD.out
  have HP1 := hid hp1
  have HF1 := hid hF1
  have HF2 := hid hF2
  have HKW := hid hk1
  have HSEE : Hid (∀ j (h : j < Ids.length), ∃ g off, ao = some ⟨g, off, none⟩ ∧ g < w1.heap.size ∧ g ≠ p1.nb ∧ g ≠ p1.fb ∧ w1.cell? ⟨g, off + j, none⟩ = some (.int .i64 Ids[j]) ∧ Tm.In64 Ids[j]) := fun j hj => by
    obtain ⟨ao', cap', e, -, -, h⟩ := HO.out
    simp only [Value.slice.injEq] at e
    obtain ⟨rfl, -, rfl⟩ := e
    obtain ⟨g, off, h1, h2, h3, h4⟩ := h j hj
    exact ⟨g, off, h1, h2, fun e => map_nocell HP1.out.nm (off + j) _ (e ▸ h3), fun e => map_nocell HP1.out.fm (off + j) _ (e ▸ h3), h3, h4⟩
  have hnn : n ≤ 1000000 := by rw [HN.out]; exact HLE.out
  have HBN : Hid (p1.nb < w1.heap.size ∧ p1.fb < w1.heap.size) := ⟨HP1.out.nm.lt, HP1.out.fm.lt⟩
  have HR0 : Hid (DuR w1 b lim q p1 L Ids S1 w1 0 (.slice none 0 0)) := ⟨Ow.Own.nil _ _, ⟨q1, HP1.out, by rw [HQ1.out]; exact HST.out S1⟩, Me.Keeps.refl _ _⟩
  clear hp1 hF1 hF2 hk1 HDUE c4 HD
  go_wp2_with fail
  go_loopw [5, 16] (fun av kv wr => ∃ (j : Nat) (a2 : Option Addr) (n2 c2 : Nat), av = .slice a2 n2 c2 ∧ kv = .int .i64 (j : Int) ∧ j ≤ n ∧ Hid (DuR w1 b lim q p1 L Ids S1 wr j (.slice a2 n2 c2))) (fun _ kv _ => match kv with | .int _ z => n - z.toNat | _ => 0)
  case atStart => exact ⟨0, none, 0, 0, rfl, rfl, Nat.zero_le _, HR0⟩
  case round =>
    obtain ⟨j, a2, n2, c2, rfl, rfl, hj, HR⟩ := hrel
    by_cases hjn : j < n
    · have hjI : j < Ids.length := by rw [← HN.out]; exact hjn
      obtain ⟨g, off, hao, hg, hgn, hgf, hcell, h64⟩ := HSEE.out j hjI
      subst hao
      obtain ⟨f, hf⟩ := HIL.out Ids[j] (List.getElem_mem hjI)
      obtain ⟨hqg, hth, hbk⟩ := HOK.out _ _ hf
      obtain ⟨⟨qj, hT, hdu⟩, -⟩ := And.intro HR.out.tab trivial
      obtain ⟨hgj, hdn, -, -⟩ := dueAt_step hdu hjI hf HND.out
      have ec : wr.cell? ⟨g, off + j, none⟩ = some (.int .i64 Ids[j]) := by
        have hb := HR.out.kp.block g hg (fun e => e.elim hgn hgf)
        unfold World.cell? at hcell ⊢
        simp only at hcell ⊢
        rw [hb]; exact hcell
      obtain ⟨x, HX⟩ : ∃ x : Int, Hid (x = Ids[j]'hjI) := ⟨Ids[j]'hjI, rfl⟩
      have HTK : Hid (((Ids.take (j + 1)).map fun x => (q.g x).getD zFw) = ((Ids.take j).map fun x => (q.g x).getD zFw) ++ [f]) := by
        unfold Hid
        rw [take_one hjI, List.map_append, List.map_singleton, hqg]; rfl
      rw [← HX.out] at ec h64 hgj hdn
      have hlk : (Instr.lookup 59 (.map (some p1.fb)) (.int .i64 x) false).run Tryz.prog wr = .ok (.agg f.cells) wr := by
        have := hT.flow h64
        rw [hgj] at this
        exact this
      have k3 : wr.cell? ⟨b, 3, none⟩ = some (.map (some p1.fb)) := hT.cells (j := 3) rfl
      obtain ⟨w2, HW2⟩ : ∃ w2, Hid (w2 = wr.alloc (.cells #[.int .u32 0, .int .u32 0, .int .u8 0, .int .u16 0, .int .u16 0, .int .u32 0, .int .u32 0, .int .u8 0, .int .u16 0, .int .u16 0, .int .i64 0, .int .i64 0] 45)) := ⟨_, rfl⟩
      have HRN : Hid (w2.heap[wr.heap.size]? = some (.cells zFw.cells 45 (0, 0))) := by unfold Hid; rw [HW2.out]; exact heap_alloc_new _ _
      have HB2 : Hid (Below wr.heap.size wr w2) := by unfold Hid; rw [HW2.out]; exact (Below.refl _ _).alloc (Nat.le_refl _) _
      have HT := hid hT
      have HDN := hid hdn
      have H64 := hid h64
      have HTH := hid hth
      have HBK := hid hbk
      have HZ : Hid (w1.heap.size ≤ wr.heap.size) := HR.out.kp.size
      obtain ⟨g8, HG8⟩ : ∃ g, Hid (g = wr.heap.size) := ⟨_, rfl⟩
      clear hT hdn h64 hth hbk hcell hg hgn hgf hdu hgj hqg hf
      go_upto_region 6 with (first | (refine wpList_st rfl 45 (.tmp 8) (.tmp 25) rfl wr.heap.size f.cells rfl rfl _ zFw.cells (by rw [← HW2.out]; exact HRN.out) (by kernel_rfl) rfl f.one ?_; rw [← HW2.out]; intro w3 hw3 hbut3) | fail)
      rw [← HG8.out] at hw3 hbut3 ⊢
      have hb3 : Below wr.heap.size wr w3 := hbut3.below HB2.out HB2.out.size (by rw [HG8.out]; exact Nat.le_refl _)
      have hT3 := HT.out.below hb3
      obtain ⟨w4, hr4, hT4, hk4⟩ := hT3.delF H64.out 0
      obtain ⟨w5, hr5, hT5, hk5⟩ := (hT4.below (below_drew (Below.refl _ _))).delN HTH.out 0
      obtain ⟨w6, hr6, hT6, hk6⟩ := (hT5.below (below_drew (Below.refl _ _))).delN HBK.out 0
      have hgl : w1.heap.size ≤ g8 := by rw [HG8.out]; exact HZ.out
      have hs3 : g8 < w3.heap.size := (Array.getElem?_eq_some_iff.1 hw3).1
      have hbn := HBN.out
      have hw4 : w4.heap[g8]? = some (.cells f.cells 45 (0, 0)) := (hk4.block g8 hs3 (by omega)).trans hw3
      have hs4 : g8 < w4.heap.size := (Array.getElem?_eq_some_iff.1 hw4).1
      have hw5 : w5.heap[g8]? = some (.cells f.cells 45 (0, 0)) := (hk5.block g8 hs4 (by omega)).trans hw4
      have hs5 : g8 < w5.heap.size := (Array.getElem?_eq_some_iff.1 hw5).1
      have hw6 : w6.heap[g8]? = some (.cells f.cells 45 (0, 0)) := (hk6.block g8 hs5 (by omega)).trans hw5
      have l3 : w3.cell? ⟨b, 3, none⟩ = some (.map (some p1.fb)) := hT3.cells (j := 3) rfl
      have l4 : w4.cell? ⟨b, 2, none⟩ = some (.map (some p1.nb)) := hT4.cells (j := 2) rfl
      have l5 : w5.cell? ⟨b, 2, none⟩ = some (.map (some p1.nb)) := hT5.cells (j := 2) rfl
      have HR4 := hid hr4
      have HR5 := hid hr5
      have HR6 := hid hr6
      have HL4 : Hid ((Instr.loadAt 37 (.pointer (some ⟨g8, 0, none⟩))).run Tryz.prog w4.drew = .ok (.agg f.th.cells) w4.drew) := load_th (u := w4.drew) hw4
      have HL5 : Hid ((Instr.loadAt 37 (.pointer (some ⟨g8, 5, none⟩))).run Tryz.prog w5.drew = .ok (.agg f.bk.cells) w5.drew) := load_bk (u := w5.drew) hw5
      have HL6 := hid (load_fw hw6)
      have kp6 : Me.Keeps (fun k => k = p1.nb ∨ k = p1.fb) wr w6 :=
        ((Me.Keeps.of hb3).trans (hk4.mono fun k _ e => .inr e)).trans (((Me.Keeps.of (below_drew (Below.refl _ _))).trans (hk5.mono fun k _ e => .inl e)).trans ((Me.Keeps.of (below_drew (Below.refl _ _))).trans (hk6.mono fun k _ e => .inl e)))
      have HK6 := hid kp6
      have HT6 := hid hT6
      have HO6 : Hid (Ow.Own kF w6 w1.heap.size (.slice a2 n2 c2) ((Ids.take j).map fun x => (q.g x).getD zFw)) := HR.out.own.keeps kp6 fun k hk e => by
        have := (HR.out.own.lt hk).1
        omega
      have HZ6 : Hid (w1.heap.size ≤ w6.heap.size) := Nat.le_trans HZ.out kp6.size
      have HBIG : Hid (((Ids.take j).map fun x => (q.g x).getD zFw).length + 1 ≤ 1073741824) := by unfold Hid; simp; omega
      clear hw3 hbut3 hb3 hT3 hr4 hT4 hk4 hr5 hT5 hk5 hr6 hT6 hk6 hs3 hs4 hs5 hw4 hw5 hw6 kp6 k3 hlk ec
      go_upto_region 7 with (first | (refine wpList_delete_run _ rfl _ _ _ _ rfl _ _ rfl rfl HR4.out ?_) | fail)
      clear l3
      refine wp_region_still_tail 6 (by kernel_rfl) (by kernel_rfl) ?_
      simp only [List.take_succ_cons, List.take_zero, List.drop_succ_cons, List.drop_zero]
      iterate 5 still_step
      refine wpStill_ld 37 ⟨g8, 0, none⟩ (.tmp 35) rfl rfl rfl HL4.out ?_
      refine wpStill_nil ?_
      go_upto_region 8 with (first | (refine wpList_delete_run _ rfl _ _ _ _ rfl _ _ rfl rfl HR5.out ?_) | fail)
      clear l4
      refine wp_region_still_tail 6 (by kernel_rfl) (by kernel_rfl) ?_
      simp only [List.take_succ_cons, List.take_zero, List.drop_succ_cons, List.drop_zero]
      iterate 5 still_step
      refine wpStill_ld 37 ⟨g8, 5, none⟩ (.tmp 41) rfl rfl rfl HL5.out ?_
      refine wpStill_nil ?_
      go_upto_region 9 with (first | (refine wpList_delete_run _ rfl _ _ _ _ rfl _ _ rfl rfl HR6.out ?_) | fail)
      clear l5
      go_wp2_with (first | (refine wpList_ld 45 ⟨g8, 0, none⟩ (.tmp 8) rfl rfl HL6.out rfl ?_) | (refine wpList_bsF rfl f (.tmp 44) rfl rfl ?_; intro w7 hb7 hr7) | (refine wpList_apF rfl (.tmp 43) (.tmp 45) rfl f w6.heap.size rfl rfl (HO6.out.below hb7) hr7 (Nat.le_trans HZ6.out hb7.size) HBIG.out ?_; intro g9 n9 c9 w9 hA9 hg9) | fail)
      rw [← HTK.out] at hA9
      have hlt9 : ∀ k, (Value.slice a2 n2 c2).ownBlock = some k → w1.heap.size ≤ k := fun k hk => (HO6.out.lt hk).1
      have hk9 : Me.Keeps (fun k => (Value.slice a2 n2 c2).ownBlock = some k) w6 w9 := (Me.Keeps.of hb7).trans (Me.Keeps.grown hg9 fun k e => e)
      have HR9 : Hid (DuR w1 b lim q p1 L Ids S1 w9 (j + 1) (.slice (some ⟨g9, 0, none⟩) n9 c9)) := by
        refine ⟨hA9, ⟨delQ qj x f, ?_, HDN.out⟩, ?_⟩
        · refine HT6.out.keeps hk9 (fun k hk e => ?_) (fun k hk e => ?_)
          · have := HP1.out.lt hk
            have := hlt9 k e
            omega
          · have := tab_lt HP1.out.tab k hk
            have := hlt9 k e
            omega
        · exact kp_then (HR.out.kp.trans HK6.out) hk9 fun k e => .inr (hlt9 k e)
      clear hA9 hg9 hb7 hr7 hk9 hlt9
      go_roundw
      case rel => exact ⟨j + 1, _, _, _, rfl, rfl, by omega, HR9⟩
      case measure => simp; omega
    · have hje : j = Ids.length := by rw [← HN.out]; omega
      have HTA : Hid (((Ids.take j).map fun x => (q.g x).getD zFw) = Ids.map fun x => (q.g x).getD zFw) := by unfold Hid; rw [hje, List.take_length]
      have HJ := hid hje
      have HSRT := hid (sortF_any 29 cmpEn swoEn byEnd_any (enters_of Tryz.func29 (by kernel_rfl) rfl) a2 n2 c2 _ w1.heap.size wr HR.out.own HR.out.kp.size (by simp; omega))
      clear hje
      go_wp2_with fail
      refine HSRT.out.mono ?_
      rintro _ w5 ⟨rfl, R, hperm, hsrt, ho5, hb5⟩
      rw [HTA.out] at hperm
      obtain ⟨qj, hT, hdu⟩ := HR.out.tab
      rw [HJ.out] at hdu
      obtain ⟨hI, hla⟩ := HEND.out qj hdu
      have hkz : Me.Keeps (fun k => w1.heap.size ≤ k) wr w5 := ⟨hb5.os, hb5.tape, hb5.output, hb5.size, fun k hk hn => hb5.block k (by omega)⟩
      have hT5 : TAt w5 b lim qj p1 := hT.keeps hkz (fun k hk e => by have := HP1.out.lt hk; omega) fun k hk e => by have := tab_lt HP1.out.tab k hk; omega
      have hww : w.heap.size ≤ w1.heap.size := HKW.out.size
      have hkw : Me.Keeps F w w5 := by
        refine kp_then (kp_then HKW.out HR.out.kp fun k e => ?_) hkz fun k e => .inr (Nat.le_trans hww e)
        rcases e with rfl | rfl
        · exact HF2.out _ ((HF1.out _).2 fp_n)
        · exact HF2.out _ ((HF1.out _).2 fp_f)
      have HFIN : Hid (R.Perm ((L.filter (lateB now)).map (·.2)) ∧ R.Pairwise (fun x y => ltOf cmpEn y x = false) ∧ Ow.Own kF w5 w.heap.size (.slice a2 n2 c2) R ∧ Inv lim qj (L.filter (stayB now)) ∧ qj.last = q.last ∧ ∃ F', St w5 b lim qj F' ∧ (∀ k, F' k → F k ∨ w.heap.size ≤ k) ∧ Me.Keeps F w w5 ∧ ∀ k, (Value.slice a2 n2 c2).ownBlock = some k → ¬ F' k) :=
        ⟨hperm.trans HPERM.out, hsrt, ho5.low hww, hI, hla, F1, ⟨p1, hT5, HF1.out⟩, HF2.out, hkw, fun k hk e => by
          have h1 := (ho5.lt hk).1
          have h2 := HP1.out.lt ((HF1.out k).1 e)
          omega⟩
      clear hperm hsrt ho5 hb5 hT hdu hI hla hkz hT5 hww hkw
      go_wp2_with fail
      go_ret
      exact ⟨_, _, _, R, qj, rfl, HFIN.out⟩
end Go.Proofs.YtkkfioebpppffaaGreatDoor.Fl
