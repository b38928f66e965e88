import Derived.Test.YthpokoiclfbddaaDoorYNqI
import Derived.Maps.OwnIn
namespace Go.Proofs.YthpokoiclfbddaaDoor.Nq
open Go.Proofs.YthpokoiclfbddaaDoor Go.ChangeShapes Go.WideShapes Go.ChangeAt Go.RowKit Go.Maps Fl
open Go.Proofs.YthpokoiclfbddaaDoor.N hiding But But.set But.of_below But.refl But.trans But.below But.drew wpList_ld
open Go.Shelf
set_option maxHeartbeats 2000000
set_option maxRecDepth 100000

theorem wpList_update_run {P : Program} (w : World) {ops : Array Oper} {rest : List Oper} {o : Oper} {a : Act} {Q : Exit → Act → World → Prop} (hgd : o.guard = none) (t : TypeId) (x y z : Operand) (ho : o.op = .mapUpdate t x y z) (vx vy vz : Value) (hx : a.eval x = vx) (hy : a.eval y = vy) (hz : a.eval z = vz) {w' : World}
    (hr : (Instr.mapUpdate t vx vy vz).run P w = .ok () w') (h : wpList P ops Q rest (a.put o.dst undef) w') : wpList P ops Q (o :: rest) a w :=
  wpList_plain hgd fun _ hK => by
    unfold Oper.wp
    simp [execOp, ho, hx, hy, hz, hr, Result.andThen]
    exact hK _ _ h
theorem wpList_lookup_run {P : Program} (w : World) {ops : Array Oper} {rest : List Oper} {o : Oper} {a : Act} {Q : Exit → Act → World → Prop} (hgd : o.guard = none) (t : TypeId) (x y : Operand) (c : Bool) (ho : o.op = .lookup t x y c) (vx vy v : Value) (hx : a.eval x = vx) (hy : a.eval y = vy)
    (hr : (Instr.lookup t vx vy c).run P w = .ok v w) (h : wpList P ops Q rest (a.put o.dst v) w) : wpList P ops Q (o :: rest) a w :=
  wpList_plain hgd fun _ hK => by
    unfold Oper.wp
    simp only [execOp, ho, hx, hy, hr, Sem.run_bind, Result.andThen_ok, Sem.run_pure]
    exact hK _ _ h
theorem wpList_delete_run {P : Program} (w : World) {ops : Array Oper} {rest : List Oper} {o : Oper} {a : Act} {Q : Exit → Act → World → Prop} (hgd : o.guard = none) (d s : Operand) (t t' : TypeId)
    (ho : o.op = .call { callee := .builtin .delete, args := #[d, s], argTypes := #[t, t'] }) (v u : Value) (hd : a.eval d = v) (hs : a.eval s = u) {v' : Value} {w' : World}
    (hr : (Builtin.delete_ #[t, t'] o.type #[v, u]).run P w = .ok v' w') (h : wpList P ops Q rest (a.put o.dst v') w') : wpList P ops Q (o :: rest) a w :=
  wpList_plain hgd fun _ hK => by
    unfold Oper.wp execOp
    simp only [ho, resolve, invoke, builtin, Sem.run_bind, Sem.run_pure, Result.andThen_ok, List.map_toArray, List.map_cons, List.map_nil, hd, hs, hr]
    exact hK _ _ h

theorem turned_to {a b : World} {bm : Nat} (h : a.mapTurned b bm) : Me.Keeps (fun k => k = bm) a b := by
  have hg := h.grown
  exact ⟨hg.os, hg.tape, hg.output, hg.size, fun k hk hn => hg.block k hk fun e => hn (by cases e; rfl)⟩
theorem kp_then {S S' : Nat → Prop} {a b c : World} (h : Me.Keeps S a b) (h' : Me.Keeps S' b c) (hs : ∀ k, S' k → S k ∨ a.heap.size ≤ k) : Me.Keeps S a c :=
  ⟨h'.os.trans h.os, h'.tape.trans h.tape, h'.output.trans h.output, Nat.le_trans h.size h'.size, fun k hk hn => (h'.block k (Nat.lt_of_lt_of_le hk h.size) fun e => by
    rcases hs k e with e | e
    · exact hn e
    · omega).trans (h.block k hk hn)⟩
def zW : List Nat := List.replicate 1024 0
theorem zW_ok : PsW zW := ⟨by simp [zW], fun x hx => by rw [(List.mem_replicate.1 hx).2]; omega⟩
theorem zW_own : Own [] zW := ⟨List.nodup_nil, fun p hp => (by cases hp), fun p _ => by
  have : tk zW p = false := by
    unfold tk zW
    rw [List.getD_eq_getElem?_getD, List.getElem?_replicate]
    split <;> simp
  rw [this]
  simp⟩
theorem zps_eq : Tryd.zeroCells76 = psC zW 0 := by kernel_rfl
section
variable {w w' : World} {pb lo hi : Nat} {T : Nat → List Nat} {f : Nat → Option (Option Nat)} {mb k g : Nat} {W : List Nat}
/-- A set of its own comes into the map. -/
theorem PAt.add (h : PAt w pb lo hi T (some mb) f) (hk : k < 256) (hf : f k = none) (hn : ¬ fpP pb (some mb) f g) (hp : PsAt w g W (0 : Nat)) (hW : PsW W) (hL : Own [] W) (ht : w.mapTurned w' mb)
    (hm : Mq.MapG gP w' mb (fun y => if y = k then some (some g) else f y) (if (f k).isSome then cnt f else cnt f + 1)) : PAt w' pb lo hi T (some mb) (fun y => if y = k then some (some g) else f y) := by
  have hkp := turned_to ht
  have hmb := h.map mb rfl
  have h0 := h.no k hk hf
  refine ⟨(hkp.block pb (h.lt (.inl rfl)) fun e => map_ne hmb h.row e.symm).trans h.row, fun e => (by cases e), fun m e => ?_, fun j hj e => ?_, fun j e hj hfj => ?_, fun j j' b hj hj' h1 h2 => ?_, h.rng, h.lim⟩
  · cases e
    rw [← cnt_put f hk]
    exact hm
  · split at e
    · cases e
    · exact h.no j hj e
  · by_cases hjk : j = k
    · subst hjk
      rw [if_pos rfl] at hfj
      cases hfj
      rw [h0]
      exact ⟨g, W, rfl, hp.at (hkp.block _ hp.lt fun e => map_ne hmb hp e.symm), hW, hL⟩
    · rw [if_neg hjk] at hfj
      obtain ⟨b1, W1, e1, h1, h2, h3⟩ := h.yes j e hj hfj
      exact ⟨b1, W1, e1, h1.at (hkp.block _ h1.lt fun e => map_ne hmb h1 e.symm), h2, h3⟩
  · by_cases e1 : j = k <;> by_cases e2 : j' = k
    · rw [e1, e2]
    · rw [if_pos e1] at h1
      rw [if_neg e2] at h2
      cases h1
      exact absurd (.inr (.inr ⟨j', hj', h2⟩)) hn
    · rw [if_pos e2] at h2
      rw [if_neg e1] at h1
      cases h2
      exact absurd (.inr (.inr ⟨j, hj, h1⟩)) hn
    · rw [if_neg e1] at h1
      rw [if_neg e2] at h2
      exact h.apart j j' b hj hj' h1 h2
/-- The map is made. -/
theorem PAt.make (h : PAt w pb lo hi T none f) : PAt ((w.alloc (.map #[] 0)).setCell ⟨pb, 2, none⟩ (.map (some w.heap.size))) pb lo hi T (some w.heap.size) f ∧ Me.Keeps (fpP pb none f) w ((w.alloc (.map #[] 0)).setCell ⟨pb, 2, none⟩ (.map (some w.heap.size))) := by
  have hf : f = fun _ => none := funext (h.nomap rfl)
  have hpl := (Array.getElem?_eq_some_iff.1 h.row).1
  have hb : Below w.heap.size w (w.alloc (.map #[] 0)) := (Below.refl _ _).alloc (Nat.le_refl _) _
  have h1 : PAt (w.alloc (.map #[] 0)) pb lo hi T none f := h.below hb
  have hk : But pb (w.alloc (.map #[] 0)) ((w.alloc (.map #[] 0)).setCell ⟨pb, 2, none⟩ (.map (some w.heap.size))) := But.set _ _ _ _
  have hm := Mq.MapG.made gP w
  refine ⟨⟨?_, fun e => (by cases e), fun m e => ?_, fun j hj e => h.no j hj e, fun j e hj hfj => ?_, h.apart, h.rng, h.lim⟩, ?_⟩
  · have := h1.row
    simp only [World.setCell, Array.getElem?_modify, this]
    simp [poC]
  · cases e
    have hc : cnt f = 0 := by rw [hf]; decide
    rw [hc, hf]
    exact hm.kept (hk.block _ hm.lt (by omega))
  · rw [h.nomap rfl j] at hfj
    cases hfj
  · refine (Me.Keeps.of hb).trans ⟨hk.os, hk.tape, hk.output, hk.size, fun k hkl hn => hk.block k hkl fun e => hn (.inl e)⟩
end
/-- What setOf leaves. -/
def SetR (w : World) (pb lo hi : Nat) (T : Nat → List Nat) (mo : Option Nat) (f : Nat → Option (Option Nat)) (k : Nat) (e : Ending) (w' : World) : Prop :=
  ∃ b mo' f', e = .returned (.pointer (some ⟨b, 0, none⟩)) ∧ PAt w' pb lo hi T mo' f' ∧ f' k = some (some b) ∧ (∀ j, fpP pb mo' f' j → fpP pb mo f j ∨ w.heap.size ≤ j) ∧ Me.Keeps (fpP pb mo f) w w'
theorem po_fl (b : Nat) (u : World) : (Instr.fieldAt 62 (.pointer (some ⟨b, 0, none⟩)) 0).run Tryd.prog u = .ok (.pointer (some ⟨b, 0, none⟩)) u ∧ (Instr.fieldAt 62 (.pointer (some ⟨b, 0, none⟩)) 1).run Tryd.prog u = .ok (.pointer (some ⟨b, 1, none⟩)) u ∧ (Instr.fieldAt 62 (.pointer (some ⟨b, 0, none⟩)) 2).run Tryd.prog u = .ok (.pointer (some ⟨b, 2, none⟩)) u := by
  refine ⟨?_, ?_, ?_⟩ <;> kernel_rfl

theorem eq_map0 (u : World) : (binOp .eql 60 (.map none) (.map none)).run Tryd.prog u = .ok (.bool true) u := by kernel_rfl
theorem eq_map1 (m : Nat) (u : World) : (binOp .eql 60 (.map (some m)) (.map none)).run Tryd.prog u = .ok (.bool false) u := by kernel_rfl

/-- A fresh set comes in, for a map that lies there. -/
theorem setOf_fresh {w : World} {pb lo hi : Nat} {T : Nat → List Nat} {mb : Nat} {f : Nat → Option (Option Nat)} {k : Nat} (h : PAt w pb lo hi T (some mb) f) (hk : k < 256) (hf : f k = none) (zp : Array Value) (hz : zp = psC zW 0) :
    ∃ w2, (Instr.mapUpdate 60 (.map (some mb)) (.int .u8 (k : Int)) (.pointer (some ⟨w.heap.size, 0, none⟩))).run Tryd.prog (w.alloc (.cells zp 76)) = .ok () w2 ∧ SetR w pb lo hi T (some mb) f k (.returned (.pointer (some ⟨w.heap.size, 0, none⟩))) w2 := by
  have hb : Below w.heap.size w (w.alloc (.cells zp 76)) := (Below.refl _ _).alloc (Nat.le_refl _) _
  have h1 := h.below hb
  have hn : ¬ fpP pb (some mb) f w.heap.size := fun e => by have := h.lt e; omega
  have hp : PsAt (w.alloc (.cells zp 76)) w.heap.size zW (0 : Nat) := by
    unfold PsAt
    rw [hz]
    exact heap_alloc_new _ _
  obtain ⟨w2, hup, hm, ht⟩ := (h1.map mb rfl).store (by have := cnt_le f; omega) (k := k) hk (some w.heap.size)
  refine ⟨w2, hup, w.heap.size, some mb, _, rfl, h1.add hk hf hn hp zW_ok zW_own ht hm, by simp, fun j hj => ?_, ?_⟩
  · rcases hj with e | e | ⟨i, hi, e⟩
    · exact .inl (.inl e)
    · exact .inl (.inr (.inl e))
    · simp only at e
      split at e
      · cases e
        exact .inr (Nat.le_refl _)
      · exact .inl (.inr (.inr ⟨i, hi, e⟩))
  · exact (Me.Keeps.of hb).trans ((turned_to ht).mono fun j _ e => .inr (.inl (by rw [e])))

theorem setOf_any (pb lo hi k : Nat) (T : Nat → List Nat) (mo : Option Nat) (f : Nat → Option (Option Nat)) (w : World) (h : PAt w pb lo hi T mo f) (hk : k < 256) :
    Calls Tryd.prog 21 #[.pointer (some ⟨pb, 0, none⟩), .int .u8 (k : Int)] w fun e w' => SetR w pb lo hi T mo f k e w' := by
  have HZP : Hid (Tryd.zeroCells76 = psC zW 0) := zps_eq
  have c2 := h.cell2
  have q0 := eq_map0
  have q1 := eq_map1
  cases mo with
  | none =>
    have fr2 := h.free 2
    have hf : f k = none := h.nomap rfl k
    obtain ⟨w2, HW2⟩ : ∃ w2, Hid (w2 = (w.alloc (.map #[] 0)).setCell ⟨pb, 2, none⟩ (.map (some w.heap.size))) := ⟨_, rfl⟩
    obtain ⟨hm, hkp⟩ := h.make
    rw [← HW2.out] at hm hkp
    have hpl := h.lt (.inl rfl)
    have d2 : (w.alloc (.map #[] 0)).cell? ⟨pb, 2, none⟩ = some (.map none) := by rw [((Below.refl _ _).alloc (Nat.le_refl _) _ : Below w.heap.size w (w.alloc (.map #[] 0))).cell hpl]; exact c2
    have fr3 : (w.alloc (.map #[] 0)).frozen? ⟨pb, 2, none⟩ = false := (h.below ((Below.refl _ _).alloc (Nat.le_refl _) _)).free 2
    obtain ⟨w3, hup, hsr⟩ := setOf_fresh hm hk hf Tryd.zeroCells76 HZP.out
    have HUP := hid hup
    have HSR : Hid (SetR w pb lo hi T none f k (.returned (.pointer (some ⟨w2.heap.size, 0, none⟩))) w3) := by
      obtain ⟨b, mo', f', e1, e2, e3, e4, e5⟩ := hsr
      refine ⟨b, mo', f', e1, e2, e3, fun j hj => ?_, kp_then hkp e5 fun j hj => ?_⟩
      · rcases e4 j hj with (e | e | e) | e
        · exact .inl (.inl e)
        · cases e; exact .inr (Nat.le_refl _)
        · exact .inl (.inr (.inr e))
        · exact .inr (Nat.le_trans hkp.size e)
      · rcases hj with e | e | e
        · exact .inl (.inl e)
        · cases e; exact .inr (Nat.le_refl _)
        · exact .inl (.inr (.inr e))
    have n2 := hm.cell2
    have HLK : Hid ((Instr.lookup 60 (.map (some w.heap.size)) (.int .u8 (k : Int)) false).run Tryd.prog w2 = .ok (.pointer none) w2) := by
      have := hm.look rfl hk
      rw [hf] at this
      exact this
    have n3 : (w2.alloc (.cells Tryd.zeroCells76 76)).cell? ⟨pb, 2, none⟩ = some (.map (some w.heap.size)) := (hm.below ((Below.refl _ _).alloc (Nat.le_refl _) _)).cell2
    have hmm := @run_makeMap Tryd.prog
    clear h hm hkp hup hsr hf hpl hk
    go_enter Tryd.func21, Tryd.ntmps21
    go_upto_region 3 with fail
    rw [← HW2.out]
    clear c2 fr2 d2 fr3
    generalize w.heap.size = g0 at *
    go_wp2_with (first | (refine wpList_val (ex_lookup _ (.tmp 18) (.tmp 19) false _ _ _ rfl rfl rfl HLK.out) rfl ?_) | (at_mapUpdate; refine wpList_update_run _ rfl _ _ _ _ rfl _ _ _ rfl rfl rfl HUP.out ?_) | fail)
    go_ret
    exact HSR.out
  | some mb =>
    have hg := h.get hk
    have hlk := h.look rfl hk
    rcases hg with ⟨e1, hf, -⟩ | ⟨b, W, e1, hf, -⟩
    · obtain ⟨w3, hup, hsr⟩ := setOf_fresh h hk hf Tryd.zeroCells76 HZP.out
      have HUP := hid hup
      have HSR := hid hsr
      have HLK : Hid ((Instr.lookup 60 (.map (some mb)) (.int .u8 (k : Int)) false).run Tryd.prog w = .ok (.pointer none) w) := by rw [e1] at hlk; exact hlk
      have n3 : (w.alloc (.cells Tryd.zeroCells76 76)).cell? ⟨pb, 2, none⟩ = some (.map (some mb)) := (h.below ((Below.refl _ _).alloc (Nat.le_refl _) _)).cell2
      clear h hup hsr hlk e1 hf hk
      go_enter Tryd.func21, Tryd.ntmps21
      go_wp2_with (first | (refine wpList_val (ex_lookup _ (.tmp 18) (.tmp 19) false _ _ _ rfl rfl rfl HLK.out) rfl ?_) | (at_mapUpdate; refine wpList_update_run _ rfl _ _ _ _ rfl _ _ _ rfl rfl rfl HUP.out ?_) | fail)
      go_ret
      exact HSR.out
    · have HLK : Hid ((Instr.lookup 60 (.map (some mb)) (.int .u8 (k : Int)) false).run Tryd.prog w = .ok (.pointer (some ⟨b, 0, none⟩)) w) := by rw [e1] at hlk; exact hlk
      have HSR : Hid (SetR w pb lo hi T (some mb) f k (.returned (.pointer (some ⟨b, 0, none⟩))) w) := ⟨b, some mb, f, rfl, h, hf, fun j hj => .inl hj, Me.Keeps.refl _ _⟩
      clear h hlk e1 hf hk
      go_enter Tryd.func21, Tryd.ntmps21
      go_wp2_with (first | (refine wpList_val (ex_lookup _ (.tmp 18) (.tmp 19) false _ _ _ rfl rfl rfl HLK.out) rfl ?_) | fail)
      go_ret
      exact HSR.out
end Go.Proofs.YthpokoiclfbddaaDoor.Nq
