import Derived.Test.YthpokoiclfbddaaDoorYNqL
namespace Go.Proofs.YthpokoiclfbddaaDoor.Nq
open Go.Proofs.YthpokoiclfbddaaDoor Go.ChangeShapes Go.WideShapes Go.ChangeAt Go.RowKit Go.Maps Fl
open Go.Proofs.YthpokoiclfbddaaDoor.N hiding But But.set But.of_below But.refl But.trans But.below But.drew wpList_ld
open Go.Shelf
set_option maxHeartbeats 2000000
set_option maxRecDepth 100000

section
variable {w w' : World} {pb lo hi : Nat} {T : Nat → List Nat} {f : Nat → Option (Option Nat)} {mb k b : Nat}
/-- An empty set leaves the map. -/
theorem PAt.del (h : PAt w pb lo hi T (some mb) f) (hk : k < 256) (hl : T k = []) (ht : w.mapTurned w' mb)
    (hm : Mq.MapG gP w' mb (fun y => if y = k then none else f y) (if (f k).isSome then cnt f - 1 else cnt f)) : PAt w' pb lo hi T (some mb) (fun y => if y = k then none else f y) := by
  have hkp := turned_to ht
  have hmb := h.map mb rfl
  refine ⟨(hkp.block pb (h.lt (.inl rfl)) fun e => map_ne hmb h.row e.symm).trans h.row, fun e => (by cases e), fun m e => ?_, fun j hj e => ?_, fun j e hj hfj => ?_, fun j j' b hj hj' h1 h2 => ?_, h.rng, h.lim⟩
  · cases e
    rw [← cnt_del f hk]
    exact hm
  · by_cases hjk : j = k
    · rw [hjk]; exact hl
    · rw [if_neg hjk] at e
      exact h.no j hj e
  · by_cases hjk : j = k
    · rw [if_pos hjk] at hfj
      cases hfj
    · rw [if_neg hjk] at hfj
      obtain ⟨b1, W1, e1, h1, h2, h3⟩ := h.yes j e hj hfj
      exact ⟨b1, W1, e1, h1.at (hkp.block _ h1.lt fun e => map_ne hmb h1 e.symm), h2, h3⟩
  · split at h1
    · cases h1
    · split at h2
      · cases h2
      · exact h.apart j j' b hj hj' h1 h2
end
def out (T : Nat → List Nat) (k p : Nat) : Nat → List Nat := updT T k ((T k).filter fun x => decide (x ≠ p))
/-- What Give answers. -/
def GivR (w : World) (pb lo hi : Nat) (T : Nat → List Nat) (F : Nat → Prop) (k p : Nat) (e : Ending) (w' : World) : Prop :=
  (p ∉ T k ∧ e = .returned (.int .i64 231) ∧ w' = w) ∨ (p ∈ T k ∧ e = .returned (.int .i64 0) ∧ StPD w w' pb lo hi (out T k p) F)

theorem give_any (pb lo hi k p : Nat) (T : Nat → List Nat) (F : Nat → Prop) (w : World) (h : StP w pb lo hi T F) (hk : k < 256) (hp : p < 65536) :
    Calls Tryd.prog 11 #[.pointer (some ⟨pb, 0, none⟩), .int .u8 (k : Int), .int .u16 (p : Int)] w fun e w' => GivR w pb lo hi T F k p e w' := by
  obtain ⟨mo, f, h, hF⟩ := h
  have c2 := h.cell2
  have hpi : IntKind.i64.wrap (p : Int) = (p : Int) := by rw [IntKind.wrap_i64]; omega
  cases mo with
  | none =>
    have hl : T k = [] := h.no k hk (h.nomap rfl k)
    have HLK : Hid ((Instr.lookup 60 (.map none) (.int .u8 (k : Int)) false).run Tryd.prog w = .ok (.pointer none) w) := look_nil k w
    have HR : Hid (∀ e, e = .returned (.int .i64 231) → GivR w pb lo hi T F k p e w) := fun e he => .inl ⟨by rw [hl]; simp, he, rfl⟩
    clear h hl hk hF hp hpi
    go_enter Tryd.func11, Tryd.ntmps11
    go_wp2_with (first | (refine wpList_val (ex_lookup _ (.tmp 11) (.tmp 12) false _ _ _ rfl rfl rfl HLK.out) rfl ?_) | fail)
    go_ret
    exact HR.out _ rfl
  | some mb =>
    have hlk := h.look rfl hk
    rcases h.get hk with ⟨e1, hf, hl⟩ | ⟨b, W, e1, hf, hps, hW, hO⟩
    · have HLK : Hid ((Instr.lookup 60 (.map (some mb)) (.int .u8 (k : Int)) false).run Tryd.prog w = .ok (.pointer none) w) := by rw [e1] at hlk; exact hlk
      have HR : Hid (∀ e, e = .returned (.int .i64 231) → GivR w pb lo hi T F k p e w) := fun e he => .inl ⟨by rw [hl]; simp, he, rfl⟩
      clear h hl hk hlk e1 hf hF hp hpi
      go_enter Tryd.func11, Tryd.ntmps11
      go_wp2_with (first | (refine wpList_val (ex_lookup _ (.tmp 11) (.tmp 12) false _ _ _ rfl rfl rfl HLK.out) rfl ?_) | fail)
      go_ret
      exact HR.out _ rfl
    · have HLK : Hid ((Instr.lookup 60 (.map (some mb)) (.int .u8 (k : Int)) false).run Tryd.prog w = .ok (.pointer (some ⟨b, 0, none⟩)) w) := by rw [e1] at hlk; exact hlk
      have HH := hid (has_any b p W _ w hps hW hp)
      have hmem := hO.2.2 p hp
      cases htk : tk W p with
      | false =>
        rw [htk] at HH
        have HR : Hid (∀ e, e = .returned (.int .i64 231) → GivR w pb lo hi T F k p e w) := fun e he => .inl ⟨fun e2 => (by rw [hmem.1 e2] at htk; cases htk), he, rfl⟩
        generalize (T k).length = n at *
        clear h hk hlk e1 hf hps hW hO hmem htk hF hp
        go_enter Tryd.func11, Tryd.ntmps11
        go_wp2_with (first | (refine wpList_val (ex_lookup _ (.tmp 11) (.tmp 12) false _ _ _ rfl rfl rfl HLK.out) rfl ?_) | fail)
        refine HH.out.mono ?_
        rintro _ _ ⟨rfl, rfl⟩
        go_wp2_with fail
        go_ret
        exact HR.out _ rfl
      | true =>
        rw [htk] at HH
        have hpm : p ∈ T k := hmem.2 htk
        have HTU := hid (turnP_any b p W _ w hps hW hp)
        obtain ⟨hsub, hlen⟩ := hO.sub hW hp htk
        obtain ⟨m, HM⟩ : ∃ m, Hid (m = ((T k).filter fun x => decide (x ≠ p)).length) := ⟨_, rfl⟩
        have hOl := hO.len
        have hwm : IntKind.i64.wrap (((T k).length : Int) - 1) = (m : Int) := by rw [IntKind.wrap_i64]; have := HM.out; omega
        have HST : Hid (∀ w2, PsAt w2 b (flip W p) ((T k).length : Nat) → But b w w2 → ∃ w3, w3 = w2.setCell ⟨b, 1024, none⟩ (.int .i64 (m : Int)) ∧ PAt w3 pb lo hi (out T k p) (some mb) f ∧ PsAt w3 b (flip W p) (m : Int) ∧ But b w w3) := fun w2 hp2 hb2 => by
          have hb3 := hb2.trans (But.set b 1024 w2 (.int .i64 (m : Int)))
          have hp3 := hp2.setC (flip_ok hW p) (m : Int)
          refine ⟨_, rfl, ?_, hp3, hb3⟩
          exact h.set hk hf hb3 (by rw [← HM.out]; exact hp3) (flip_ok hW p) hsub fun x hx => h.rng k x (List.mem_filter.1 hx).1
        have HKP : Hid (∀ w3, But b w w3 → Me.Keeps F w w3) := fun w3 hb3 => ⟨hb3.os, hb3.tape, hb3.output, hb3.size, fun j hj hn => hb3.block j hj fun e => hn ((hF j).2 (.inr (.inr ⟨k, hk, by rw [hf, e]⟩)))⟩
        have HFW := hid (flip_ok hW p)
        have HE : Hid (∀ e w', e = .returned (.int .i64 0) → StPD w w' pb lo hi (out T k p) F → GivR w pb lo hi T F k p e w') := fun e w' he h2 => .inr ⟨hpm, he, h2⟩
        have HK := hid hk
        have HF := hid hF
        have HMB : Hid (Me.Keeps F w w ∧ F mb) := ⟨Me.Keeps.refl _ _, (hF mb).2 (.inr (.inl rfl))⟩
        have HOUT : Hid (m = (out T k p k).length) := by unfold Hid out updT; rw [if_pos rfl]; exact HM.out
        generalize (T k).length = n at *
        clear h hk hlk e1 hf hps hW hO hmem htk hF hp hpm hsub hlen hOl HM
        go_enter Tryd.func11, Tryd.ntmps11
        go_wp2_with (first | (refine wpList_val (ex_lookup _ (.tmp 11) (.tmp 12) false _ _ _ rfl rfl rfl HLK.out) rfl ?_) | fail)
        refine HH.out.mono ?_
        rintro _ w ⟨rfl, rfl⟩
        go_wp2_with fail
        refine HTU.out.mono ?_
        rintro _ w2 ⟨rfl, hp2, hb2⟩
        have c3 := hp2.count HFW.out
        have f3 := hp2.free 1024
        obtain ⟨w3, hw3, hpa, hp3, hb3⟩ := HST.out w2 hp2 hb2
        have HW3 := hid hw3
        have c4 := hp3.count HFW.out
        have d2 := hpa.cell2
        have hkp := HKP.out w3 hb3
        by_cases hm0 : m = 0
        · have HM0 := hid hm0
          obtain ⟨w4, hdel, hm4, ht4⟩ := (hpa.map mb rfl).drop (k := k) HK.out 0
          have hlt := hpa.lt (k := mb) (.inr (.inl rfl))
          have HDEL : Hid (∀ ty, (Builtin.delete_ #[60, 5] ty #[.map (some mb), .int .u8 (k : Int)]).run Tryd.prog w3 = .ok (.tuple #[]) w4) := fun ty => hdel
          have HD : Hid (StPD w w4 pb lo hi (out T k p) F) := by
            have hpd := hpa.del HK.out (List.eq_nil_of_length_eq_zero (by rw [← HOUT.out]; exact hm0)) ht4 hm4
            refine ⟨_, ⟨some mb, _, hpd, fun k => Iff.rfl⟩, fun j hj => .inl ((HF.out j).2 ?_), hkp.trans ((turned_to ht4).mono fun j _ e => by rw [e]; exact HMB.out.2)⟩
            rcases hj with e | e | ⟨i, hi, e⟩
            · exact .inl e
            · exact .inr (.inl e)
            · have e2 : (if i = k then none else f i) = some (some j) := e
              split at e2
              · cases e2
              · exact .inr (.inr ⟨i, hi, e2⟩)
          have HR := hid (HE.out (.returned (.int .i64 0)) w4 rfl HD.out)
          clear hp2 hb2 hw3 hpa hp3 hb3 hkp hdel hm4 ht4 hlt HST HKP HFW HE HF HMB HOUT HTU HH HD hm0
          go_upto_region 6 with (first | (refine wpList_val (ex_field _ ⟨b, 0, none⟩ (.tmp 28) 1 _ rfl rfl (ps_fl b _).2) rfl ?_) | (refine wpList_val (ex_field _ ⟨b, 0, none⟩ (.tmp 32) 1 _ rfl rfl (ps_fl b _).2) rfl ?_) | fail)
          rw [← HW3.out]
          have hmi : (m : Int) = 0 := by have := HM0.out; omega
          clear c3 f3
          go_wp2_with (first | (refine wpList_val (ex_field _ ⟨b, 0, none⟩ (.tmp 35) 1 _ rfl rfl (ps_fl b _).2) rfl ?_) | (at_delete; refine wpList_delete_run _ rfl (.tmp 42) (.tmp 43) _ _ rfl _ _ rfl rfl (HDEL.out _) ?_) | fail)
          go_ret
          exact HR.out
        · have hmi : ¬ (m : Int) = 0 := by omega
          have HD : Hid (StPD w w3 pb lo hi (out T k p) F) := ⟨F, ⟨some mb, f, hpa, HF.out⟩, fun j hj => .inl hj, hkp⟩
          have HR := hid (HE.out (.returned (.int .i64 0)) w3 rfl HD.out)
          clear hp2 hb2 hw3 hpa hp3 hb3 hkp HST HKP HFW HE HF HMB HOUT HTU HH HD hm0
          go_upto_region 6 with (first | (refine wpList_val (ex_field _ ⟨b, 0, none⟩ (.tmp 28) 1 _ rfl rfl (ps_fl b _).2) rfl ?_) | (refine wpList_val (ex_field _ ⟨b, 0, none⟩ (.tmp 32) 1 _ rfl rfl (ps_fl b _).2) rfl ?_) | fail)
          rw [← HW3.out]
          clear c3 f3
          go_wp2_with (first | (refine wpList_val (ex_field _ ⟨b, 0, none⟩ (.tmp 35) 1 _ rfl rfl (ps_fl b _).2) rfl ?_) | fail)
          go_ret
          exact HR.out
end Go.Proofs.YthpokoiclfbddaaDoor.Nq
