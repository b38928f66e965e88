import Derived.Test.YthbjfbalgejndaaTV
namespace Go.Proofs.Ythbjfbalgejndaa
open Go.ChangeShapes Go.WideShapes Go.ChangeAt Go.RowKit Go.Maps H
set_option maxHeartbeats 4000000
set_option maxRecDepth 100000

/-- A Timers of the program and one of the document, apart, that hold the same. -/
structure Pr (w : World) (b1 m1 : Nat) (g1 : Option Nat) (b2 : Nat) (g2 : Option Nat) (lim : Int) (S : List Dl) : Prop where
  tm : Tm w b1 m1 g1 lim S
  rf : ∃ R, Rf w b2 g2 lim R ∧ Srt R S
  dis : ∀ x ∈ fp b1 m1 g1, x ∉ fpR b2 g2

def fpP (b1 m1 : Nat) (g1 : Option Nat) (b2 : Nat) (g2 : Option Nat) : List Nat := fp b1 m1 g1 ++ fpR b2 g2

theorem mem_fpP {b1 m1 : Nat} {g1 : Option Nat} {b2 : Nat} {g2 : Option Nat} {x : Nat} : x ∈ fpP b1 m1 g1 b2 g2 ↔ x ∈ fp b1 m1 g1 ∨ x ∈ fpR b2 g2 := List.mem_append

theorem Pr.lt {w : World} {b1 m1 : Nat} {g1 : Option Nat} {b2 : Nat} {g2 : Option Nat} {lim : Int} {S : List Dl} (h : Pr w b1 m1 g1 b2 g2 lim S) : ∀ x ∈ fpP b1 m1 g1 b2 g2, x < w.heap.size := fun x hx => by
  obtain ⟨R, hR, _⟩ := h.rf
  rcases mem_fpP.1 hx with hx | hx
  · exact h.tm.lt x hx
  · exact hR.lt x hx

theorem Pr.fr {w w' : World} {F : List Nat} {b1 m1 : Nat} {g1 : Option Nat} {b2 : Nat} {g2 : Option Nat} {lim : Int} {S : List Dl} (h : Pr w b1 m1 g1 b2 g2 lim S) (hf : Fr F w w') (hd : ∀ x ∈ fpP b1 m1 g1 b2 g2, x ∉ F) : Pr w' b1 m1 g1 b2 g2 lim S := by
  obtain ⟨R, hR, hS⟩ := h.rf
  exact ⟨h.tm.fr hf (fun x hx => hd x (mem_fpP.2 (.inl hx))), ⟨R, hR.fr hf (fun x hx => hd x (mem_fpP.2 (.inr hx))), hS⟩, h.dis⟩

theorem Pr.below {w w' : World} {b1 m1 : Nat} {g1 : Option Nat} {b2 : Nat} {g2 : Option Nat} {lim : Int} {S : List Dl} (h : Pr w b1 m1 g1 b2 g2 lim S) (hb : Below w.heap.size w w') : Pr w' b1 m1 g1 b2 g2 lim S :=
  h.fr (Fr.of_below hb []) (by simp)

/-- What is there behind a step. -/
def Nxt (w : World) (b1 m1 : Nat) (g1 : Option Nat) (b2 : Nat) (g2 : Option Nat) (lim : Int) (w2 : World) : Prop :=
  ∃ g1' g2' S', Pr w2 b1 m1 g1' b2 g2' lim S' ∧ (∀ x ∈ fpP b1 m1 g1' b2 g2', x ∈ fpP b1 m1 g1 b2 g2 ∨ w.heap.size ≤ x) ∧ Fr (fpP b1 m1 g1 b2 g2) w w2

theorem Nxt.below {w w2 w3 : World} {b1 m1 : Nat} {g1 : Option Nat} {b2 : Nat} {g2 : Option Nat} {lim : Int} (h : Nxt w b1 m1 g1 b2 g2 lim w2) (hb : Below w2.heap.size w2 w3) : Nxt w b1 m1 g1 b2 g2 lim w3 := by
  obtain ⟨g1', g2', S', hP, hx, hf⟩ := h
  exact ⟨g1', g2', S', hP.below hb, hx, hf.trans (Fr.of_below hb _)⟩

theorem Pr.stay {w w2 : World} {b1 m1 : Nat} {g1 : Option Nat} {b2 : Nat} {g2 : Option Nat} {lim : Int} {S : List Dl} (h : Pr w b1 m1 g1 b2 g2 lim S) (hb : Below w.heap.size w w2) : Nxt w b1 m1 g1 b2 g2 lim w2 :=
  ⟨g1, g2, S, h.below hb, fun _ hx => .inl hx, Fr.of_below hb _⟩

theorem Pr.next {w w1 w2 : World} {b1 m1 : Nat} {g1 g1' : Option Nat} {b2 : Nat} {g2 g2' : Option Nat} {lim : Int} {S S' R' : List Dl} (h : Pr w b1 m1 g1 b2 g2 lim S) (hT1 : Tm w1 b1 m1 g1' lim S') (hg1 : ∀ x ∈ g1'.toList, x ∈ g1.toList ∨ w.heap.size ≤ x) (hf1 : Fr (fp b1 m1 g1) w w1)
    (hR : Rf w2 b2 g2' lim R') (hS : Srt R' S') (hg2 : ∀ x ∈ g2'.toList, x ∈ g2.toList ∨ w1.heap.size ≤ x) (hf2 : Fr (fpR b2 g2) w1 w2) : Nxt w b1 m1 g1 b2 g2 lim w2 := by
  obtain ⟨R, hR0, _⟩ := h.rf
  have hfp1 : ∀ x ∈ fp b1 m1 g1', x ∈ fp b1 m1 g1 ∨ w.heap.size ≤ x := fun x hx => by
    simp only [fp, List.mem_cons] at hx ⊢
    rcases hx with rfl | rfl | hx
    · exact .inl (.inl rfl)
    · exact .inl (.inr (.inl rfl))
    · rcases hg1 x hx with h1 | h1
      · exact .inl (.inr (.inr h1))
      · exact .inr h1
  have hfp2 : ∀ x ∈ fpR b2 g2', x ∈ fpR b2 g2 ∨ w1.heap.size ≤ x := fun x hx => by
    simp only [fpR, List.mem_cons] at hx ⊢
    rcases hx with rfl | hx
    · exact .inl (.inl rfl)
    · rcases hg2 x hx with h1 | h1
      · exact .inl (.inr h1)
      · exact .inr h1
  have hd1 : ∀ x ∈ fp b1 m1 g1', x ∉ fpR b2 g2 := fun x hx hy => by
    rcases hfp1 x hx with h1 | h1
    · exact h.dis x h1 hy
    · have := hR0.lt x hy; omega
  refine ⟨g1', g2', S', ⟨hT1.fr hf2 hd1, ⟨R', hR, hS⟩, fun x hx hy => ?_⟩, fun x hx => ?_, ?_⟩
  · rcases hfp2 x hy with h1 | h1
    · exact hd1 x hx h1
    · have := hT1.lt x hx; omega
  · rcases mem_fpP.1 hx with hx | hx
    · rcases hfp1 x hx with h1 | h1
      · exact .inl (mem_fpP.2 (.inl h1))
      · exact .inr h1
    · rcases hfp2 x hx with h1 | h1
      · exact .inl (mem_fpP.2 (.inr h1))
      · exact .inr (Nat.le_trans hf1.size h1)
  · exact (hf1.mono (fun x hx => mem_fpP.2 (.inl hx))).trans (hf2.mono (fun x hx => mem_fpP.2 (.inr hx)))

section
variable {w : World} {b1 m1 : Nat} {g1 : Option Nat} {b2 : Nat} {g2 : Option Nat} {lim : Int} {S : List Dl}

theorem Pr.rf1 (h : Pr w b1 m1 g1 b2 g2 lim S) {w1 : World} (hf : Fr (fp b1 m1 g1) w w1) : ∃ R, Rf w1 b2 g2 lim R ∧ Srt R S := by
  obtain ⟨R, hR, hS⟩ := h.rf
  exact ⟨R, hR.fr hf (fun x hx hy => h.dis x hy hx), hS⟩

theorem Pr.set (h : Pr w b1 m1 g1 b2 g2 lim S) (i a : Int) (hi : In64 i) (ha : In64 a) :
    Calls Try.prog 13 #[.pointer (some ⟨b1, 0, none⟩), .int .i64 i, .int .i64 a] w fun e w1 => ∃ z, e = .returned (.int .i64 z) ∧ Fr (fp b1 m1 g1) w w1 ∧
      Calls Try.prog 29 #[.pointer (some ⟨b2, 0, none⟩), .int .i64 i, .int .i64 a] w1 fun e w2 => e = .returned (.int .i64 z) ∧ Nxt w b1 m1 g1 b2 g2 lim w2 := by
  refine (set_any b1 m1 g1 lim S i a w h.tm hi ha).mono ?_
  rintro e w1 ⟨g1', rfl, hT1, hg1, hf1⟩
  refine ⟨_, rfl, hf1, ?_⟩
  obtain ⟨R, hR, hS⟩ := h.rf1 hf1
  refine (rset_any b2 g2 lim R S i a w1 hR hS hi ha).mono ?_
  rintro e w2 ⟨g2', R', rfl, hR2, hS2, hg2, hf2⟩
  exact ⟨rfl, h.next hT1 hg1 hf1 hR2 hS2 hg2 hf2⟩

theorem Pr.drop (h : Pr w b1 m1 g1 b2 g2 lim S) (i : Int) (hi : In64 i) :
    Calls Try.prog 21 #[.pointer (some ⟨b1, 0, none⟩), .int .i64 i] w fun e w1 => ∃ z, e = .returned (.int .i64 z) ∧ Fr (fp b1 m1 g1) w w1 ∧
      Calls Try.prog 30 #[.pointer (some ⟨b2, 0, none⟩), .int .i64 i] w1 fun e w2 => e = .returned (.int .i64 z) ∧ Nxt w b1 m1 g1 b2 g2 lim w2 := by
  refine (drop_any b1 m1 g1 lim S i w h.tm hi).mono ?_
  rintro e w1 ⟨rfl, hT1, hf1⟩
  refine ⟨_, rfl, hf1, ?_⟩
  obtain ⟨R, hR, hS⟩ := h.rf1 hf1
  refine (rdrop_any b2 g2 lim R i w1 hR).mono ?_
  rintro e w2 ⟨g2', rfl, hR2, hg2, hf2⟩
  refine ⟨by rw [hS.has], h.next hT1 (fun _ hx => .inl hx) hf1 hR2 (S' := drp i S) ⟨drp_sorted hS.sorted, fun x => by rw [mem_drp, mem_drp, hS.mem]⟩ hg2 (hf2.mono (by simp [fpR]))⟩

theorem Srt.when {R S : List Dl} (h : Srt R S) (hi : Ids R) (i : Int) : whenS R i = whenS S i := by
  by_cases hh : ∃ x ∈ R, x.1 = i
  · obtain ⟨x, hx, rfl⟩ := hh
    rw [whenS_held (idsM_of hi) hx, whenS_held (fun y hy z hz e => idsM_of hi y ((h.mem y).1 hy) z ((h.mem z).1 hz) e) ((h.mem x).2 hx)]
  · rw [whenS_free (fun x hx e => hh ⟨x, hx, e⟩), whenS_free (fun x hx e => hh ⟨x, (h.mem x).1 hx, e⟩)]

theorem Pr.when (h : Pr w b1 m1 g1 b2 g2 lim S) (i : Int) (hi : In64 i) :
    Calls Try.prog 16 #[.pointer (some ⟨b1, 0, none⟩), .int .i64 i] w fun e w1 => ∃ y z, e = .returned (.tuple #[.int .i64 y, .int .i64 z]) ∧ Fr (fp b1 m1 g1) w w1 ∧
      Calls Try.prog 31 #[.pointer (some ⟨b2, 0, none⟩), .int .i64 i] w1 fun e w2 => e = .returned (.tuple #[.int .i64 y, .int .i64 z]) ∧ Nxt w b1 m1 g1 b2 g2 lim w2 := by
  refine (when_any b1 m1 g1 lim S i w h.tm hi).mono ?_
  rintro e w1 ⟨rfl, rfl⟩
  refine ⟨_, _, rfl, Fr.refl _ _, ?_⟩
  obtain ⟨R, hR, hS⟩ := h.rf
  refine (rwhen_any b2 g2 lim R i w1 hR).mono ?_
  rintro e w2 ⟨rfl, rfl⟩
  exact ⟨by rw [hS.when hR.ids], h.stay (Below.refl _ _)⟩

theorem Pr.nextc (h : Pr w b1 m1 g1 b2 g2 lim S) :
    Calls Try.prog 20 #[.pointer (some ⟨b1, 0, none⟩)] w fun e w1 => ∃ x y z, e = .returned (.tuple #[.int .i64 x, .int .i64 y, .int .i64 z]) ∧ Fr (fp b1 m1 g1) w w1 ∧
      Calls Try.prog 32 #[.pointer (some ⟨b2, 0, none⟩)] w1 fun e w2 => e = .returned (.tuple #[.int .i64 x, .int .i64 y, .int .i64 z]) ∧ Nxt w b1 m1 g1 b2 g2 lim w2 := by
  refine (next_any b1 m1 g1 lim S w h.tm).mono ?_
  rintro e w1 ⟨rfl, hb⟩
  obtain ⟨x, y, z, hns⟩ := nextS_shape S
  refine ⟨x, y, z, by rw [hns], Fr.of_below hb _, ?_⟩
  obtain ⟨R, hR, hS⟩ := h.rf
  refine (rnext_any b2 g2 lim R S w1 (hR.below hb) hS).mono ?_
  rintro e w2 ⟨rfl, hb2⟩
  exact ⟨by rw [hns], h.stay (hb.trans (hb2.mono hb.size))⟩

theorem Pr.len (h : Pr w b1 m1 g1 b2 g2 lim S) :
    Calls Try.prog 14 #[.pointer (some ⟨b1, 0, none⟩)] w fun e w1 => ∃ z, e = .returned (.int .i64 z) ∧ Fr (fp b1 m1 g1) w w1 ∧
      Calls Try.prog 34 #[.pointer (some ⟨b2, 0, none⟩)] w1 fun e w2 => e = .returned (.int .i64 z) ∧ Nxt w b1 m1 g1 b2 g2 lim w2 := by
  refine (len_any b1 m1 g1 lim S w h.tm).mono ?_
  rintro e w1 ⟨rfl, rfl⟩
  refine ⟨_, rfl, Fr.refl _ _, ?_⟩
  obtain ⟨R, hR, hS⟩ := h.rf
  refine (rlen_any b2 g2 lim R w1 hR).mono ?_
  rintro e w2 ⟨rfl, rfl⟩
  exact ⟨by rw [hS.len hR.ids], h.stay (Below.refl _ _)⟩

theorem Pr.due (h : Pr w b1 m1 g1 b2 g2 lim S) (now : Int) (hn : In64 now) :
    Calls Try.prog 15 #[.pointer (some ⟨b1, 0, none⟩), .int .i64 now] w fun e w1 => ∃ v, e = .returned v ∧ Fr (fp b1 m1 g1) w w1 ∧
      Calls Try.prog 33 #[.pointer (some ⟨b2, 0, none⟩), .int .i64 now] w1 fun e w2 => ∃ v2, e = .returned v2 ∧
        Calls Try.prog 17 #[v, v2] w2 fun e w3 => e = .returned (.bool true) ∧ Nxt w b1 m1 g1 b2 g2 lim w3 := by
  have hin : ∀ z ∈ (dueT S now).map (·.1), In64 z := fun z hz => by
    obtain ⟨y, hy, rfl⟩ := List.mem_map.1 hz
    obtain ⟨e1, _⟩ := dueT_take S now
    rw [e1] at hy
    exact (h.tm.in64 y (List.mem_of_mem_take hy)).1
  refine (due_any b1 m1 g1 lim S now w h.tm hn).mono ?_
  rintro e w1 ⟨v, rfl, ho, hT1, hf1⟩
  refine ⟨v, rfl, hf1, ?_⟩
  obtain ⟨R, hR, hS⟩ := h.rf1 hf1
  refine (rdue_any b2 g2 lim R S now w1 hR hS).mono ?_
  rintro e w2 ⟨v2, g2', R', rfl, ho2, hR2, hS2, hg2, hf2⟩
  refine ⟨v2, rfl, ?_⟩
  obtain ⟨R0, hR0, _⟩ := h.rf
  have hb2 : b2 < w.heap.size := hR0.lt b2 (by simp [fpR])
  have ho1 := ho.fr hf2 (by simpa using hb2)
  have := sameInts_any _ _ _ _ w2 (ho1.sees hin) (ho2.sees hin)
  rw [decide_eq_true rfl] at this
  refine this.mono ?_
  rintro e w3 ⟨rfl, hb⟩
  exact ⟨rfl, (h.next hT1 (fun _ hx => .inl hx) hf1 hR2 hS2 hg2 (hf2.mono (by simp [fpR]))).below hb⟩
end
end Go.Proofs.Ythbjfbalgejndaa
