import Derived.Test.YthpokoiclfbddaaDoorYNqK
namespace Go.Proofs.YthpokoiclfbddaaDoor.Nq
open Go.Proofs.YthpokoiclfbddaaDoor Go.ChangeShapes Go.WideShapes Go.ChangeAt Go.RowKit Go.Maps Fl
open Go.Proofs.YthpokoiclfbddaaDoor.N hiding But But.set But.of_below But.refl But.trans But.below But.drew wpList_ld
open Go.Shelf
set_option maxHeartbeats 2000000
set_option maxRecDepth 100000

/-- What New answers. -/
def NewR (w : World) (lo hi : Nat) (e : Ending) (w' : World) : Prop :=
  (if lo = 0 ∨ hi < lo then e = .returned (.tuple #[.pointer none, .int .i64 1]) else ∃ b F, e = .returned (.tuple #[.pointer (some ⟨b, 0, none⟩), .int .i64 0]) ∧ StP w' b lo hi (fun _ => []) F ∧ ∀ k, F k → w.heap.size ≤ k) ∧ Below w.heap.size w w'
theorem new_any (lo hi : Nat) (w : World) (h1 : lo < 65536) (h2 : hi < 65536) :
    Calls Tryd.prog 6 #[.int .u16 (lo : Int), .int .u16 (hi : Int)] w fun e w' => NewR w lo hi e w' := by
  have wl : IntKind.i64.wrap (lo : Int) = (lo : Int) := by rw [IntKind.wrap_i64]; omega
  have wh : IntKind.i64.wrap (hi : Int) = (hi : Int) := by rw [IntKind.wrap_i64]; omega
  by_cases hz : lo = 0
  · subst hz
    have HR : Hid (∀ e, e = .returned (.tuple #[.pointer none, .int .i64 1]) → NewR w 0 hi e w) := fun e he => ⟨by rw [if_pos (.inl rfl)]; exact he, Below.refl _ _⟩
    clear h1 h2 wl wh
    go_enter Tryd.func6, Tryd.ntmps6
    go_wp2_with fail
    refine bodyPost_ret (results_tmp2 Tryd.results6 _ _ _) rfl ?_
    exact HR.out _ rfl
  · have g0 : ¬ (lo : Int) = 0 := by omega
    by_cases hc : hi < lo
    · have g1 : (hi : Int) < (lo : Int) := by omega
      have HR : Hid (∀ e, e = .returned (.tuple #[.pointer none, .int .i64 1]) → NewR w lo hi e w) := fun e he => ⟨by rw [if_pos (.inr hc)]; exact he, Below.refl _ _⟩
      clear h1 h2 wl wh hz hc
      go_enter Tryd.func6, Tryd.ntmps6
      go_wp2_with fail
      refine bodyPost_ret (results_tmp2 Tryd.results6 _ _ _) rfl ?_
      exact HR.out _ rfl
    · have g1 : ¬ (hi : Int) < (lo : Int) := by omega
      have HR : Hid (∀ e, e = .returned (.tuple #[.pointer (some ⟨w.heap.size, 0, none⟩), .int .i64 0]) → NewR w lo hi e (w.alloc (.cells (poC lo hi none) 62))) := fun e he => by
        have hb : Below w.heap.size w (w.alloc (.cells (poC lo hi none) 62)) := (Below.refl _ _).alloc (Nat.le_refl _) _
        refine ⟨?_, hb⟩
        rw [if_neg (by omega)]
        refine ⟨w.heap.size, _, he, ⟨none, fun _ => none, ⟨heap_alloc_new _ _, fun _ _ => rfl, fun m e => (by cases e), fun _ _ _ => rfl, fun k e _ e2 => (by cases e2), fun k k' b _ _ e => (by cases e), fun k p hp => (by cases hp), ⟨by omega, by omega, h2⟩⟩, fun k => Iff.rfl⟩, fun k hk => ?_⟩
        rcases hk with e | e | ⟨j, _, e⟩
        · omega
        · cases e
        · cases e
      have HC : Hid (poC lo hi none = #[.int .i64 (lo : Int), .int .i64 (hi : Int), .map none]) := rfl
      rw [HC.out] at HR
      clear h1 h2 hz hc
      go_enter Tryd.func6, Tryd.ntmps6
      go_wp2_with fail
      refine bodyPost_ret (results_tmp2 Tryd.results6 _ _ _) rfl ?_
      exact HR.out _ rfl

theorem taken_any (pb lo hi k : Nat) (T : Nat → List Nat) (F : Nat → Prop) (w : World) (h : StP w pb lo hi T F) (hk : k < 256) :
    Calls Tryd.prog 12 #[.pointer (some ⟨pb, 0, none⟩), .int .u8 (k : Int)] w fun e w' => e = .returned (.int .i64 ((T k).length : Nat)) ∧ w' = w := by
  obtain ⟨mo, f, h, -⟩ := h
  have c2 := h.cell2
  cases mo with
  | none =>
    have hl : T k = [] := h.no k hk (h.nomap rfl k)
    have HLK : Hid ((Instr.lookup 60 (.map none) (.int .u8 (k : Int)) false).run Tryd.prog w = .ok (.pointer none) w) := look_nil k w
    rw [hl]
    clear h hl hk
    go_enter Tryd.func12, Tryd.ntmps12
    go_wp2_with (first | (refine wpList_val (ex_lookup _ (.tmp 9) (.tmp 10) false _ _ _ rfl rfl rfl HLK.out) rfl ?_) | fail)
    go_ret
    exact ⟨rfl, rfl⟩
  | some mb =>
    have hlk := h.look rfl hk
    rcases h.get hk with ⟨e1, hf, hl⟩ | ⟨b, W, e1, hf, hp, hW, hO⟩
    · have HLK : Hid ((Instr.lookup 60 (.map (some mb)) (.int .u8 (k : Int)) false).run Tryd.prog w = .ok (.pointer none) w) := by rw [e1] at hlk; exact hlk
      rw [hl]
      clear h hl hk hlk e1 hf
      go_enter Tryd.func12, Tryd.ntmps12
      go_wp2_with (first | (refine wpList_val (ex_lookup _ (.tmp 9) (.tmp 10) false _ _ _ rfl rfl rfl HLK.out) rfl ?_) | fail)
      go_ret
      exact ⟨rfl, rfl⟩
    · have HLK : Hid ((Instr.lookup 60 (.map (some mb)) (.int .u8 (k : Int)) false).run Tryd.prog w = .ok (.pointer (some ⟨b, 0, none⟩)) w) := by rw [e1] at hlk; exact hlk
      have cc := hp.count hW
      generalize (T k).length = n at *
      clear h hk hlk e1 hf hp hW hO
      go_enter Tryd.func12, Tryd.ntmps12
      go_wp2_with (first | (refine wpList_val (ex_lookup _ (.tmp 9) (.tmp 10) false _ _ _ rfl rfl rfl HLK.out) rfl ?_) | (refine wpList_val (ex_field _ ⟨b, 0, none⟩ (.tmp 15) 1 _ rfl rfl (ps_fl b _).2) rfl ?_) | fail)
      go_ret
      exact ⟨rfl, rfl⟩

theorem tab_at {g : Nat} {tab : List Nat} {w w' : World} (h : TabAt g tab w) (e : w'.heap[g]? = w.heap[g]?) : TabAt g tab w' := fun j hj => by
  rw [← h j hj]
  unfold World.cell?
  simp only [e]

/-- What Take answers. -/
def TakR (w : World) (pb lo hi : Nat) (T : Nat → List Nat) (F : Nat → Prop) (k want : Nat) (e : Ending) (w' : World) : Prop :=
  (∃ q : Nat, e = .returned (.tuple #[.int .u16 (q : Int), .int .i64 0]) ∧ q ∉ T k ∧ lo ≤ q ∧ q ≤ hi ∧
    ((stt lo hi want ≤ q ∧ ∀ p, stt lo hi want ≤ p → p < q → p ∈ T k) ∨ (q < stt lo hi want ∧ (∀ p, stt lo hi want ≤ p → p ≤ hi → p ∈ T k) ∧ ∀ p, lo ≤ p → p < q → p ∈ T k)) ∧
    StPD w w' pb lo hi (updT T k (T k ++ [q])) F) ∨
  (e = .returned (.tuple #[.int .u16 0, .int .i64 231]) ∧ (∀ p, lo ≤ p → p ≤ hi → p ∈ T k) ∧ StPD w w' pb lo hi T F)

theorem take_any (pb lo hi k want : Nat) (T : Nat → List Nat) (F : Nat → Prop) (w : World) (h : StP w pb lo hi T F) (hk : k < 256) (hw : want < 65536) (hT : TabAt 0 Lib.deBruijn64tab w) (hTl : 0 < w.heap.size) (hTF : ¬ F 0) :
    Calls Tryd.prog 8 #[.pointer (some ⟨pb, 0, none⟩), .int .u8 (k : Int), .int .u16 (want : Int)] w fun e w' => TakR w pb lo hi T F k want e w' := by
  obtain ⟨mo, f, h, hF⟩ := h
  have HSET := hid (setOf_any pb lo hi k T mo f w h hk)
  have hwi : IntKind.i64.wrap (want : Int) = (want : Int) := by rw [IntKind.wrap_i64]; omega
  have HTF : Hid (∀ w1, Me.Keeps (fpP pb mo f) w w1 → TabAt 0 Lib.deBruijn64tab w1) := fun w1 hk1 => tab_at hT (hk1.block _ hTl fun e => hTF ((hF _).2 e))
  have HF := hid hF
  have HK := hid (And.intro hk hw)
  clear h hF hT hTl hTF hk hw
  go_enter Tryd.func8, Tryd.ntmps8
  go_wp2_with fail
  refine HSET.out.mono ?_
  rintro _ w1 ⟨b, mo', f', rfl, h1, hf1, hfp, hkp⟩
  obtain ⟨b', W, e, hp, hW, hO⟩ := h1.yes k _ HK.out.1 hf1
  cases e
  have HSE := hid (search_any pb lo hi b want T mo' f' W _ w1 h1 hp hW HK.out.2 (HTF.out w1 hkp))
  have HFP := hid (And.intro hfp hkp)
  have H1 := hid (And.intro h1 hf1)
  have HP := hid (And.intro hp (And.intro hW hO))
  clear h1 hf1 hfp hkp hp hW hO HSET HTF
  go_wp2_with fail
  refine HSE.out.mono ?_
  rintro _ w1 ⟨⟨r, ok, rfl, hr1, hr2⟩, rfl⟩
  cases ok with
  | false =>
    have hr := hr2 rfl
    have HR : Hid (∀ e, e = .returned (.tuple #[.int .u16 0, .int .i64 231]) → TakR w pb lo hi T F k want e w1) := fun e he => .inr ⟨he, fun p p1 p2 => (HP.out.2.2.2.2 p (by have := H1.out.1.lim; omega)).2 (hr p p1 p2), ⟨_, ⟨mo', f', H1.out.1, fun k => Iff.rfl⟩, fun j hj => (HFP.out.1 j hj).imp (HF.out j).2 id, HFP.out.2.mono fun j _ e => (HF.out j).2 e⟩⟩
    clear hr hr1 hr2 HP H1 HFP HF HSE
    go_wp2_with fail
    refine bodyPost_ret (results_tmp2 Tryd.results8 _ _ _) rfl ?_
    exact HR.out _ rfl
  | true =>
    obtain ⟨q, rfl, q1, q2, q3, q4⟩ := hr1 rfl
    have hlim := H1.out.1.lim
    have hq : q < 65536 := by omega
    have HTU := hid (turnP_any b q W _ w1 HP.out.1 HP.out.2.1 hq)
    have hq16 : IntKind.u16.wrap (q : Int) = (q : Int) := by rw [IntKind.wrap_u16]; omega
    have hlen := HP.out.2.2.len
    have HFIN : Hid (∀ w2, PsAt w2 b (flip W q) ((T k).length : Nat) → But b w1 w2 → ∀ e, e = .returned (.tuple #[.int .u16 (q : Int), .int .i64 0]) → TakR w pb lo hi T F k want e (w2.setCell ⟨b, 1024, none⟩ (.int .i64 (((T k).length : Int) + 1)))) := fun w2 hp2 hb2 e he => by
      have hm : ∀ p, p ≤ hi → (tk W p = true → p ∈ T k) := fun p hp e => (HP.out.2.2.2.2 p (by omega)).2 e
      have hb3 := hb2.trans (But.set b 1024 w2 (.int .i64 (((T k).length : Int) + 1)))
      have hp3 := hp2.setC (flip_ok HP.out.2.1 q) (((T k).length : Int) + 1)
      refine .inl ⟨q, he, fun e => (by rw [(HP.out.2.2.2.2 q hq).1 e] at q3; cases q3), q1, q2, ?_, ?_⟩
      · rcases q4 with ⟨a1, a2⟩ | ⟨a1, a2, a3⟩
        · exact .inl ⟨a1, fun p p1 p2 => hm p (by omega) (a2 p p1 p2)⟩
        · exact .inr ⟨a1, fun p p1 p2 => hm p p2 (a2 p p1 p2), fun p p1 p2 => hm p (by omega) (a3 p p1 p2)⟩
      · have hpa := H1.out.1.set HK.out.1 H1.out.2 hb3 (L := T k ++ [q]) (by rw [List.length_append]; exact hp3) (flip_ok HP.out.2.1 q) (HP.out.2.2.add HP.out.2.1 hq q3) (fun p hp => by
          rcases List.mem_append.1 hp with e | e
          · exact H1.out.1.rng k p e
          · simp at e; omega)
        have hbf : fpP pb mo' f' b := .inr (.inr ⟨k, HK.out.1, H1.out.2⟩)
        refine ⟨_, ⟨mo', f', hpa, fun k => Iff.rfl⟩, fun j hj => (HFP.out.1 j hj).imp (HF.out j).2 id, ?_⟩
        refine kp_then (HFP.out.2.mono fun j _ e => (HF.out j).2 e) (S' := fun j => j = b) ⟨hb3.os, hb3.tape, hb3.output, hb3.size, fun j hj hn => hb3.block j hj hn⟩ fun j e => ?_
        rw [e]
        exact (HFP.out.1 b hbf).imp (HF.out b).2 id
    have HCN : Hid (∀ w2, PsAt w2 b (flip W q) ((T k).length : Nat) → w2.cell? ⟨b, 1024, none⟩ = some (.int .i64 ((T k).length : Int))) := fun w2 hp2 => hp2.count (flip_ok HP.out.2.1 q)
    have hwc : IntKind.i64.wrap (((T k).length : Int) + 1) = ((T k).length : Int) + 1 := by rw [IntKind.wrap_i64]; omega
    generalize (T k).length = n at *
    clear hr1 hr2 q1 q2 q3 q4 HP H1 HFP HF HSE hlim hq hlen
    go_wp2_with fail
    refine HTU.out.mono ?_
    rintro _ w2 ⟨rfl, hp2, hb2⟩
    have c3 := HCN.out w2 hp2
    have f3 := hp2.free 1024
    have HE := hid (HFIN.out w2 hp2 hb2)
    clear hp2 hb2 HFIN HCN HTU
    go_wp2_with (first | (refine wpList_val (ex_field _ ⟨b, 0, none⟩ (.tmp 28) 1 _ rfl rfl (ps_fl b _).2) rfl ?_) | (refine wpList_val (ex_field _ ⟨b, 0, none⟩ (.tmp 32) 1 _ rfl rfl (ps_fl b _).2) rfl ?_) | fail)
    refine bodyPost_ret (results_tmp2 Tryd.results8 _ _ _) rfl ?_
    exact HE.out _ rfl
end Go.Proofs.YthpokoiclfbddaaDoor.Nq
