/-
  The reference's pool in memory.
-/
import Derived.Test.YtahoileampdnkaaMR
namespace Go.Proofs.Ytahoileampdnkaa
open Go.ChangeShapes Go.WideShapes Go.ChangeAt Go.RowKit Ru N Tri
set_option maxHeartbeats 1000000
set_option maxRecDepth 100000

theorem u75 : Try.prog.underlying 75 = some (.slice 3) := by kernel_rfl

theorem ncells_one (L : List Nat) : ∀ u ∈ L.map (fun n : Nat => Value.int .i64 (n : Int)), u.oneCell' = true := by
  intro u hu
  obtain ⟨n, _, rfl⟩ := List.mem_map.1 hu
  rfl

/-- A number is laid behind an own list of numbers. -/
theorem append_int (w : World) (ty : TypeId) (B : Nat) (v : Value) (T : List Nat) (n b : Nat) (hv : OwnN w B v T) (hc : w.cell? ⟨b, 0, none⟩ = some (.int .i64 (n : Int))) (hB : B ≤ w.heap.size) (hbig : T.length + 1 ≤ 8589934592) :
    ∃ v' w', (Builtin.append_ #[75, 75] ty #[v, .slice (some ⟨b, 0, none⟩) 1 1]).run Try.prog w = .ok v' w' ∧ OwnN w' B v' (T ++ [n]) ∧ w.grownBy w' v.ownBlock ∧ NewBlk v v' w.heap.size := by
  obtain ⟨i0, hi0, hz0, hz1, hz2⟩ := infoI_at
  have hsrc : ∀ j u, [Value.int .i64 (n : Int)][j]? = some u → w.cell? ((⟨b, 0, none⟩ : Addr).add j) = some u := fun j u hj => by
    obtain ⟨h1, h2⟩ := List.getElem?_eq_some_iff.1 hj
    have : j = 0 := by simpa using h1
    subst this
    rw [Addr.add_lit, ← h2]
    exact hc
  have h1c : ∀ u ∈ [Value.int .i64 (n : Int)], u.oneCell' = true := by simp [Value.oneCell']
  obtain ⟨v', w', hr, h5, h6, -⟩ := run_append_own (P := Try.prog) w B 75 ty 3 i0 _ 1 8 u75 hi0 hz0 hz1 hz2 rfl (by decide) v T.length (T.map fun n : Nat => Value.int .i64 (n : Int)) hv ⟨b, 0, none⟩ 1 1 [.int .i64 (n : Int)] rfl hsrc h1c (by unfold maxLen; omega) (by omega) hB
  refine ⟨v', w', hr, ?_, h6, ?_⟩
  · unfold OwnN
    rw [List.length_append, List.map_append]
    exact h5
  · have h50 : 0 < T.length + 1 := by omega
    rcases h5.2 with ⟨_, h0⟩ | ⟨g', cap', cur', rfl, k1, k2, k3, k4, k5, k6⟩
    · omega
    · rcases hv.2 with ⟨rfl, hv0⟩ | ⟨g, cap, cur0, rfl, hb0, hg0, hn0, hc0, hs0, ht0⟩
      · have hr2 := run_append_nil (P := Try.prog) w 75 ty 3 i0 _ u75 hi0 hz0 ⟨b, 0, none⟩ 1 1 [.int .i64 (n : Int)] (by rw [hz1]; rfl) hsrc (by omega) (by omega) (by rw [hz2]; omega)
        rw [hr2] at hr
        simp only [Result.ok.injEq, Value.slice.injEq, Option.some.injEq, Addr.mk.injEq] at hr
        exact .inr ⟨g', rfl, by omega⟩
      · by_cases hroom : T.length + 1 ≤ cap
        · have hr2 := run_append_room (P := Try.prog) w 75 ty 3 i0 u75 hi0 g T.length cap cur0 hg0 ⟨b, 0, none⟩ 1 1 [.int .i64 (n : Int)] (by rw [hz1]; rfl) hsrc h1c hroom (by rw [hz1]; simp only [List.length_cons, List.length_nil]; omega)
          rw [hr2] at hr
          simp only [Result.ok.injEq, Value.slice.injEq, Option.some.injEq, Addr.mk.injEq] at hr
          exact .inl (by simp [Value.ownBlock, hr.1.1.1])
        · have hr2 := run_append_grow (P := Try.prog) w 75 ty 3 i0 _ u75 hi0 hz0 ⟨g, 0, none⟩ T.length cap (T.map fun n : Nat => Value.int .i64 (n : Int)) (by rw [hz1]; exact hv.1) (World.ownsRow.cells hv (g := g) rfl) ⟨b, 0, none⟩ 1 1 [.int .i64 (n : Int)] (by rw [hz1]; rfl) hsrc (by omega) (by omega) (growslice_fits (by omega) (by rw [hz2]; omega))
          rw [hr2] at hr
          simp only [Result.ok.injEq, Value.slice.injEq, Option.some.injEq, Addr.mk.injEq] at hr
          exact .inr ⟨g', rfl, by omega⟩

/-- The reference's pool: A the kept addresses, T the taken ones. -/
structure RAt (w : World) (rb x : Nat) (y : Int) (sub lo hi : Nat) (vk vt : Value) (A T : List Nat) : Prop where
  row : w.heap[rb]? = some (.cells (rcells x y sub lo hi vk vt) 77 (0, 0))
  ok : OwnN w 0 vk A
  ot : OwnN w 0 vt T
  ap : vk.ownBlock = none ∨ vk.ownBlock ≠ vt.ownBlock
  hs : sub ≤ 32
  hl : lo < 4294967296
  hh : hi < 4294967296
  la : A.length ≤ 1024
  lt : T.length ≤ 4294967296
  ba : ∀ n ∈ A, n < 4294967296
  bt : ∀ n ∈ T, n < 4294967296

theorem OwnN.keeps {S : Nat → Prop} {w w' : World} {B : Nat} {v : Value} {L : List Nat} (h : OwnN w B v L) (hb : Keeps S w w') (hn : ∀ k, v.ownBlock = some k → ¬ S k) : OwnN w' B v L := by
  refine ⟨h.1, ?_⟩
  rcases h.2 with hn | ⟨g, cap, cur, rfl, hbb, hg, rest⟩
  · exact .inl hn
  · exact .inr ⟨g, cap, cur, rfl, hbb, (hb.block g (Array.getElem?_eq_some_iff.1 hg).1 (hn g rfl)).trans hg, rest⟩

theorem RAt.below {w w' : World} {rb x sub lo hi : Nat} {y : Int} {vk vt : Value} {A T : List Nat} (h : RAt w rb x y sub lo hi vk vt A T) (hb : Below w.heap.size w w') : RAt w' rb x y sub lo hi vk vt A T :=
  ⟨below_keeps hb h.row (Array.getElem?_eq_some_iff.1 h.row).1, h.ok.below hb, h.ot.below hb, h.ap, h.hs, h.hl, h.hh, h.la, h.lt, h.ba, h.bt⟩

theorem RAt.keeps {S : Nat → Prop} {w w' : World} {rb x sub lo hi : Nat} {y : Int} {vk vt : Value} {A T : List Nat} (h : RAt w rb x y sub lo hi vk vt A T) (hk : Keeps S w w') (h1 : ¬ S rb) (h2 : ∀ k, vk.ownBlock = some k → ¬ S k) (h3 : ∀ k, vt.ownBlock = some k → ¬ S k) : RAt w' rb x y sub lo hi vk vt A T :=
  ⟨(hk.block rb (Array.getElem?_eq_some_iff.1 h.row).1 h1).trans h.row, h.ok.keeps hk h2, h.ot.keeps hk h3, h.ap, h.hs, h.hl, h.hh, h.la, h.lt, h.ba, h.bt⟩

theorem RAt.cells {w : World} {rb x sub lo hi : Nat} {y : Int} {vk vt : Value} {A T : List Nat} (h : RAt w rb x y sub lo hi vk vt A T) : w.cell? ⟨rb, 0, none⟩ = some (.int .u32 (x : Int)) ∧ w.cell? ⟨rb, 1, none⟩ = some (.int .i64 y) ∧ w.cell? ⟨rb, 2, none⟩ = some (.int .i64 (sub : Int)) ∧ w.cell? ⟨rb, 3, none⟩ = some (.int .i64 (lo : Int)) ∧ w.cell? ⟨rb, 4, none⟩ = some (.int .i64 (hi : Int)) ∧ w.cell? ⟨rb, 5, none⟩ = some vk ∧ w.cell? ⟨rb, 6, none⟩ = some vt ∧ w.frozen? ⟨rb, 6, none⟩ = false := by
  have hr := h.row
  refine ⟨?_, ?_, ?_, ?_, ?_, ?_, ?_, frozen_of_row _ _ _ _ _ hr⟩ <;> (rw [cell_of_row _ _ _ _ _ _ hr]; rfl)

/-- The block of v', if it is not that of v, is new. -/
def NwB (v v' : Value) (n : Nat) : Prop := ∀ g, v'.ownBlock = some g → v.ownBlock = some g ∨ n ≤ g

theorem NewBlk.nw {v v' : Value} {n : Nat} (h : NewBlk v v' n) : NwB v v' n := fun g hg => by
  rcases h with h | ⟨g', h1, h2⟩
  · exact .inl (h ▸ hg)
  · rw [hg] at h1
    simp at h1
    subst h1
    exact .inr h2

/-- What a call of the reference leaves that takes or gives back. -/
structure RTurn (rb x : Nat) (y : Int) (sub lo hi : Nat) (vk vt : Value) (A : List Nat) (w w' : World) (vt' : Value) (T' : List Nat) : Prop where
  pool : RAt w' rb x y sub lo hi vk vt' A T'
  new : NwB vt vt' w.heap.size
  keeps : Keeps (fun k => k = rb ∨ vt.ownBlock = some k) w w'

theorem RTurn.from {rb x sub lo hi : Nat} {y : Int} {vk vt vt' : Value} {A T' : List Nat} {w u u' : World} (h : RTurn rb x y sub lo hi vk vt A u u' vt' T') (hb : Below w.heap.size w u) : RTurn rb x y sub lo hi vk vt A w u' vt' T' :=
  ⟨h.pool, fun g hg => (h.new g hg).imp id fun h2 => Nat.le_trans hb.size h2, (Keeps.of hb).trans h.keeps⟩

theorem RTurn.more {rb x sub lo hi : Nat} {y : Int} {vk vt vt' : Value} {A T' : List Nat} {w u u' : World} (h : RTurn rb x y sub lo hi vk vt A w u vt' T') (hb : Below u.heap.size u u') : RTurn rb x y sub lo hi vk vt A w u' vt' T' :=
  ⟨h.pool.below hb, h.new, h.keeps.trans (Keeps.of hb)⟩

/-- The list is stored. -/
theorem RAt.store {w u : World} {rb x sub lo hi : Nat} {y : Int} {vk vt v' : Value} {A T T' : List Nat} (h : RAt w rb x y sub lo hi vk vt A T) (hk : Keeps (fun k => vt.ownBlock = some k) w u) (ho : OwnN u 0 v' T') (hn : NwB vt v' w.heap.size) (hl : T'.length ≤ 4294967296) (hb : ∀ n ∈ T', n < 4294967296) :
    RTurn rb x y sub lo hi vk vt A w (u.setCell ⟨rb, 6, none⟩ v') v' T' := by
  have hrl := (Array.getElem?_eq_some_iff.1 h.row).1
  have hne := ownN_ne h.ot h.row
  have hr : u.heap[rb]? = some (.cells (rcells x y sub lo hi vk vt) 77 (0, 0)) := (hk.block rb hrl hne).trans h.row
  have hks : Keeps (fun k => k = rb) u (u.setCell ⟨rb, 6, none⟩ v') := Keeps.set (S := fun k => k = rb) (Keeps.refl _ _) ⟨rb, 6, none⟩ rfl _
  refine ⟨⟨?_, ?_, ?_, ?_, h.hs, h.hl, h.hh, h.la, hl, h.ba, hb⟩, hn, ?_⟩
  · rw [set_cells hr]; rfl
  · refine (h.ok.keeps hk fun k hk1 e => ?_).keeps hks fun k hk1 e => ?_
    · rcases h.ap with h0 | h0
      · rw [h0] at hk1; cases hk1
      · exact h0 (by rw [hk1, e])
    · exact ownN_ne h.ok h.row (by rw [hk1, e])
  · refine ho.keeps hks fun k hk1 e => ?_
    exact ownN_ne ho hr (by rw [hk1, e])
  · rcases h.ap with h0 | h0
    · exact .inl h0
    · cases hvk : vk.ownBlock with
      | none => exact .inl rfl
      | some g =>
        refine .inr fun e => ?_
        rcases hn g e.symm with h1 | h1
        · exact h0 (by rw [hvk, h1])
        · have := (World.ownsRow.lt h.ok g hvk).2
          omega
  · exact ⟨hks.os.trans hk.os, hks.tape.trans hk.tape, hks.output.trans hk.output, Nat.le_trans hk.size hks.size, fun k hk1 hk2 => (hks.block k (Nat.lt_of_lt_of_le hk1 hk.size) (fun e => hk2 (.inl e))).trans (hk.block k hk1 fun e => hk2 (.inr e))⟩

theorem nod_small {T : List Nat} (h : T.Nodup) (hb : ∀ n ∈ T, n < 4294967296) {a : Nat} (ha : a ∉ T) (hab : a < 4294967296) : T.length < 4294967296 := by
  have h1 := nod_le (A := a :: T) (B := List.range 4294967296) (List.nodup_cons.2 ⟨ha, h⟩) fun x hx => by
    rw [List.mem_range]
    rcases List.mem_cons.1 hx with rfl | hx
    · exact hab
    · exact hb x hx
  rw [List.length_range, List.length_cons] at h1
  exact h1

theorem sizeR10 (n : Nat) (w : World) (hn : n ≤ 32) :
    Calls Try.prog 53 #[.int .i64 (n : Int)] w fun e w' => e = .returned (.int .i64 ((2 ^ (32 - n) : Nat) : Int)) ∧ w' = w := by
  go_enter Try.func53, Try.ntmps53
  go_upto_region 3 with fail
  go_loopw [3, 4] (fun a b wr => ∃ (k p : Nat), b = .int .i64 (k : Int) ∧ a = .int .i64 (p : Int) ∧ n ≤ k ∧ k ≤ 32 ∧ p ≤ 4294967296 ∧ Hid (p = 2 ^ (k - n)) ∧ wr = w) (fun _ b _ => 32 - (intOf b).toNat)
  case atStart => exact ⟨n, 1, rfl, rfl, Nat.le_refl _, hn, by decide, hid (by simp), rfl⟩
  case round =>
    obtain ⟨k, p, rfl, rfl, h1, h2, h3, HP, rfl⟩ := hrel
    by_cases hk : k < 32
    · have HP2 : Hid (2 * p = 2 ^ (k + 1 - n)) := by unfold Hid; rw [HP.out, show k + 1 - n = (k - n) + 1 by omega, Nat.pow_succ, Nat.mul_comm]
      have hp2 : 2 * p ≤ 4294967296 := by
        rw [HP2.out, show (4294967296 : Nat) = 2 ^ 32 by decide]
        exact Nat.pow_le_pow_right (by omega) (by omega)
      go_wp2_with fail
      go_roundw
      case rel => exact ⟨k + 1, 2 * p, by go_num, by go_num, by omega, by omega, hp2, HP2, trivial⟩
      case measure => simp [intOf]; omega
    · have : k = 32 := by omega
      subst this
      go_wp2_with fail
      go_ret
      exact ⟨ret_int (by rw [HP.out]), rfl⟩
end Go.Proofs.Ytahoileampdnkaa
