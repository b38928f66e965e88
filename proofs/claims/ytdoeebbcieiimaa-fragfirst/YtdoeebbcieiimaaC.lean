import Derived.Test.YtdoeebbcieiimaaB
import Derived.Laws.AppendOwnNone
namespace Go.Proofs.Ytdoeebbcieiimaa
open Go.ChangeShapes Go.WideShapes Go.ChangeAt Go.RowKit
set_option maxHeartbeats 400000
set_option maxRecDepth 100000

def bs (L : List Nat) : List Value := L.map fun (x : Nat) => Value.int .u8 (x : Int)

/-- v is a list of bytes of the call's own, in a block not below base. -/
def OwnB (w : World) (base : Nat) (v : Value) (L : List Nat) : Prop := w.ownsRow base 5 1 v L.length (bs L)

theorem Try.info5 : (Try.prog.info? 5).map (fun i => (i.zero, i.size, i.bytes)) = some (some (.int .u8 0), 1, 1) := by kernel_rfl

theorem ownB_nil (w : World) (base : Nat) : OwnB w base (.slice none 0 0) [] := World.ownsRow_nil _ _ _ _

theorem OwnB.sees {w : World} {base : Nat} {v : Value} {L : List Nat} (h : OwnB w base v L) (hb : ∀ x ∈ L, x < 256) : SeesB w v L := by
  rcases h.2 with ⟨rfl, hn⟩ | ⟨g, cap, cur, rfl, hbg, hg, hnc, hcm, hcs, htake⟩
  · have : L = [] := List.eq_nil_of_length_eq_zero hn
    subst this
    exact sees_nil w
  · refine ⟨some ⟨g, 0, none⟩, cap, rfl, ⟨hnc, fun h => by cases h⟩, hcm, fun j hj => ⟨g, 0, rfl, (Array.getElem?_eq_some_iff.1 hg).1, ?_, hb _ (List.getElem_mem hj)⟩⟩
    rw [Nat.zero_add, World.ownsRow.cellAt h j (by omega)]
    simp [bs, hj]

theorem below_grown {w w' : World} (h : Below w.heap.size w w') (row : Option Nat) : w.grownBy w' row := ⟨h.os, h.tape, h.output, h.size, fun k hk _ => h.block k hk⟩

theorem OwnB.below {w w' : World} {base : Nat} {v : Value} {L : List Nat} (h : OwnB w base v L) (hb : Below w.heap.size w w') : OwnB w' base v L :=
  World.ownsRow.kept h (below_grown hb none) (by cases hv : v.ownBlock <;> simp)

theorem below_of_grown {base : Nat} {w w' : World} {v : Value} {L : List Nat} (h : OwnB w base v L) (hbase : base ≤ w.heap.size) (hg : w.grownBy w' v.ownBlock) : Below base w w' :=
  (Below.refl _ _).grown hg hbase (fun k hk => (World.ownsRow.lt h k hk).1)

theorem wpList_append_bytes {w : World} {ops : Array Oper} {rest : List Oper} {o : Oper} {a : Act} {Q : Exit → Act → World → Prop} (hgd : o.guard = none) (s x : Operand)
    (ho : o.op = .call { callee := .builtin .append, args := #[s, x], argTypes := #[22, 22] })
    (base : Nat) (v : Value) (M : List Nat) (hs : a.eval s = v) (hown : OwnB w base v M) (u : Value) (L : List Nat) (hx : a.eval x = u) (hu : SeesB w u L)
    (hbytes : M.length + L.length ≤ 140737488355328) (hbase : base ≤ w.heap.size)
    (h : ∀ v' w', OwnB w' base v' (M ++ L) → Below base w w' → wpList Try.prog ops Q rest (a.put o.dst v') w') : wpList Try.prog ops Q (o :: rest) a w := by
  obtain ⟨i0, hi0, hz0, hz1, hz2⟩ := info_parts Try.info5
  have hu0 := hu
  obtain ⟨ao, cap, rfl, h1, h2, h3⟩ := hu
  cases ao with
  | none =>
    have hL : L = [] := by
      cases L with
      | nil => rfl
      | cons y L => obtain ⟨_, _, hc, _⟩ := h3 0 (by simp); cases hc
    subst hL
    have := h1.2 rfl
    subst this
    refine wpList_append_own_none hgd s x 22 ho base 5 i0 1 Try.underlying22 hi0 v _ _ hs hown hx ?_
    exact h v w (by rw [List.append_nil]; exact hown) (Below.refl _ _)
  | some ad =>
    refine wpList_append_own w hgd s x 22 ho base 5 i0 (.int .u8 0) 1 1 Try.underlying22 hi0 hz0 hz1 hz2 rfl (by decide) v _ _ hs hown ad L.length cap (bs L) hx (by simp [bs]) ?_ ?_ ?_ (by omega) hbase ?_
    · intro j q hj
      have hjl : j < L.length := by
        have := (List.getElem?_eq_some_iff.1 hj).1; simpa [bs] using this
      obtain ⟨g, off, hc, hg, hcell, _⟩ := h3 j hjl
      simp at hc; subst hc
      have e : (⟨g, off, none⟩ : Addr).add j = ⟨g, off + j, none⟩ := by
        rcases Nat.eq_zero_or_pos j with rfl | h0
        · simp [Addr.add]
        · simp [Addr.add]; omega
      rw [e, hcell]
      simp [bs, hjl] at hj
      rw [hj]
    · intro q hq
      obtain ⟨y, _, rfl⟩ := List.mem_map.1 hq
      rfl
    · unfold maxLen; omega
    · intro v' w' ho' hg _
      exact h v' w' (by unfold OwnB; rw [List.length_append, show bs (M ++ L) = bs M ++ bs L by simp [bs]]; exact ho') (below_of_grown hown hbase hg)

theorem total_any (v : Value) (L : List Nat) (w : World) (hv : SeesB w v L) (hl : L.length ≤ 1099511627776) :
    Calls Try.prog 97 #[v] w fun e w' => e = .returned (.int .i64 ((M.tot false L : Nat) : Int)) ∧ w' = w := by
  obtain ⟨ao, n, cap, rfl, HN, hn1, hn2⟩ := hv.shape
  have HT : Hid (∀ k, M.tot false (L.take k) ≤ 71776119061217280) := fun k => by
    have h1 := M.tot_le (L.take k) false (fun x hx => hv.bytes x (List.mem_of_mem_take hx))
    have h2 : (L.take k).length ≤ L.length := by rw [List.length_take]; omega
    omega
  have HV := hid hv
  clear hv hl
  unfold maxLen at hn2
  go_enter Try.func97, Try.ntmps97
  go_wp2_with fail
  go_loop [3, 4] (fun t i => ∃ (k s : Nat), i = .int .i64 k ∧ k ≤ n ∧ t = .int .i64 s ∧ Hid (s = M.tot false (L.take k))) (fun _ i => n - (intOf i).toNat)
  case atStart => exact ⟨0, 0, rfl, by omega, rfl, rfl⟩
  case round =>
    obtain ⟨k, s, rfl, hk, rfl, HS⟩ := hrel
    have hs : s ≤ 71776119061217280 := by have := HT.out k; have := HS.out; omega
    by_cases hlt : k < n
    · obtain ⟨g, off, x, rfl, hg, hc, hx, HX⟩ := HV.out.at k hlt
      have HS2 : Hid (M.tot false (L.take (k + 1)) = s + M.tot (M.par false k) [x]) := by
        unfold Hid; rw [take_snoc HX.out, M.tot_append, HS.out, List.length_take, Nat.min_eq_left (by have := HN.out; omega)]
      by_cases hp : k % 2 = 0
      · have hq : ((k : Int) % 2 == 0) = true := by simp; omega
        have HS3 : Hid (s + x * 256 = M.tot false (L.take (k + 1))) := by
          unfold Hid; rw [HS2.out]; simp [M.tot, M.par, hp]; omega
        clear HS2 HS hp
        go_wp2_with fail
        go_round
        case rel => exact ⟨k + 1, s + x * 256, by go_num, by omega, by go_num, HS3⟩
        case measure => simp [intOf]; omega
      · have hq : ((k : Int) % 2 == 0) = false := by simp; omega
        have HS3 : Hid (s + x = M.tot false (L.take (k + 1))) := by
          unfold Hid; rw [HS2.out]; simp [M.tot, M.par, hp]
        clear HS2 HS hp
        go_wp2_with fail
        go_round
        case rel => exact ⟨k + 1, s + x, by go_num, by omega, by go_num, HS3⟩
        case measure => simp [intOf]; omega
    · have HE : Hid (s = M.tot false L) := by
        have := HS.out
        rw [List.take_of_length_le (by have := HN.out; omega)] at this
        exact this
      go_wp2_with fail
      go_ret
      exact ⟨ret_int (by rw [HE.out]), rfl⟩

theorem flat_take_le {Ls : List (List Nat)} {k : Nat} : (Ls.take k).flatten.length ≤ Ls.flatten.length := by
  conv => rhs; rw [← List.take_append_drop k Ls, List.flatten_append, List.length_append]
  omega

theorem sum_ref (v : Value) (Ls : List (List Nat)) (w : World) (hv : SeesBB w v Ls) (hl : Ls.flatten.length ≤ 1099511627776) :
    Calls Try.prog 75 #[v] w fun e w' => e = .returned (.int .u16 ((M.csum Ls.flatten : Nat) : Int)) ∧ Below w.heap.size w w' := by
  obtain ⟨ao, n, cap, rfl, HN, hn1, hn2⟩ := hv.shape
  have HV := hid hv
  have HL := hid hl
  clear hv hl
  unfold maxLen at hn2
  go_enter Try.func75, Try.ntmps75
  go_wp2_with fail
  go_loopw [3, 4] (fun t i wr => ∃ (k : Nat), i = .int .i64 k ∧ k ≤ n ∧ Hid (OwnB wr w.heap.size t (Ls.take k).flatten) ∧ Below w.heap.size w wr) (fun _ i _ => n - (intOf i).toNat)
  case atStart => exact ⟨0, rfl, by omega, ownB_nil _ _, Below.refl _ _⟩
  case round =>
    obtain ⟨k, rfl, hk, HO, hb⟩ := hrel
    by_cases hlt : k < n
    · obtain ⟨g, off, u, l, rfl, hg, hc, hu, HU⟩ := (HV.out.below hb).at k hlt
      have HS := hid hu
      obtain ⟨ar, nr, capr, rfl, _, _, _⟩ := hu.shape
      clear hu
      have HF : Hid ((Ls.take k).flatten ++ l = (Ls.take (k + 1)).flatten) := by unfold Hid; rw [take_snoc HU.out]; simp
      have HF2 : Hid ((Ls.take k).flatten.length + l.length ≤ 1099511627776) := by
        have h1 : (Ls.take (k + 1)).flatten.length ≤ Ls.flatten.length := flat_take_le
        rw [← HF.out, List.length_append] at h1
        have := HL.out
        unfold Hid; omega
      go_wp2_with (at_builtin; refine wpList_append_bytes rfl _ _ rfl w.heap.size _ _ rfl HO.out _ l rfl HS.out ?c1 ?c2 ?_)
      case c1 => have := HF2.out; omega
      case c2 => exact hb.size
      · intro v' w2 ho hb2
        rw [HF.out] at ho
        have HO2 := hid ho
        have hb3 := hb.trans hb2
        clear ho hb2
        go_wp2_with fail
        go_roundw
        case rel => exact ⟨k + 1, by go_num, by omega, HO2, hb3⟩
        case measure => simp [intOf]; omega
    · have HE : Hid ((Ls.take k).flatten = Ls.flatten) := by
        unfold Hid; rw [List.take_of_length_le (by have := HN.out; omega)]
      rw [HE.out] at HO
      have HY : Hid (∀ x ∈ Ls.flatten, x < 256) := fun x hx => by
        obtain ⟨l, hl, hx⟩ := List.mem_flatten.1 hx
        exact HV.out.bytes l hl x hx
      have HC : Hid (M.csum Ls.flatten = 65535 - M.fold (M.tot false Ls.flatten)) := rfl
      have HTL : M.tot false Ls.flatten ≤ 71776119061217280 := by
        have := M.tot_le Ls.flatten false HY.out; have := HL.out; omega
      have HFL := M.fold_le (M.tot false Ls.flatten)
      go_wp2_with fail
      refine (total_any _ _ _ (HO.out.sees HY.out) HL.out).mono ?_
      rintro _ _ ⟨rfl, rfl⟩
      generalize M.tot false Ls.flatten = t at *
      go_wp2_with fail
      refine (fold_any t _ (by omega)).mono ?_
      rintro _ _ ⟨rfl, rfl⟩
      generalize M.fold t = f at *
      go_wp2_with fail
      go_ret
      exact ⟨ret_int (by rw [HC.out]; omega), hb⟩
end Go.Proofs.Ytdoeebbcieiimaa
