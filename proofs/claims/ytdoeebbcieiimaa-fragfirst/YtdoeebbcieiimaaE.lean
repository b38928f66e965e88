import Derived.Test.YtdoeebbcieiimaaD
namespace Go.Proofs.Ytdoeebbcieiimaa
open Go.ChangeShapes Go.WideShapes Go.ChangeAt Go.RowKit
set_option maxHeartbeats 400000
set_option maxRecDepth 100000

/-- A packet's header: what its fields hold. -/
structure Hd where
  tos : Nat
  id : Nat
  df : Bool
  mf : Bool
  off : Int
  ttl : Nat
  proto : Nat
  src : Nat
  dst : Nat
  opts : List Nat

structure Hd.Ok (h : Hd) : Prop where
  tos : h.tos < 256
  id : h.id < 65536
  off : -9223372036854775808 ≤ h.off ∧ h.off ≤ 9223372036854775807
  ttl : h.ttl < 256
  proto : h.proto < 256
  src : h.src < 4294967296
  dst : h.dst < 4294967296

def hdCells (h : Hd) (vo : Value) : Array Value := #[.int .u8 (h.tos : Int), .int .u16 (h.id : Int), .bool h.df, .bool h.mf, .int .i64 h.off, .int .u8 (h.ttl : Int), .int .u8 (h.proto : Int), .int .u32 (h.src : Int), .int .u32 (h.dst : Int), vo]

/-- The word of flags and offset. -/
def flagW (df mf : Bool) (f : Nat) : Nat := f / 8 + (if df then 16384 else 0) + (if mf then 8192 else 0)

def hdBytes (h : Hd) (len sum : Nat) : List Nat :=
  [69 + h.opts.length / 4, h.tos, len / 256, len % 256, h.id / 256, h.id % 256, flagW h.df h.mf h.off.toNat / 256, flagW h.df h.mf h.off.toNat % 256, h.ttl, h.proto, sum / 256, sum % 256,
   h.src / 65536 / 256, h.src / 65536 % 256, h.src % 65536 / 256, h.src % 65536 % 256, h.dst / 65536 / 256, h.dst / 65536 % 256, h.dst % 65536 / 256, h.dst % 65536 % 256] ++ h.opts

theorem hd_at {u : World} {n : Nat} {h : Hd} {vo : Value} {t : TypeId} (hb : u.heap[n]? = some (.cells (hdCells h vo) t)) :
    u.cell? ⟨n, 0, none⟩ = some (.int .u8 (h.tos : Int)) ∧ u.cell? ⟨n, 1, none⟩ = some (.int .u16 (h.id : Int)) ∧ u.cell? ⟨n, 2, none⟩ = some (.bool h.df) ∧ u.cell? ⟨n, 3, none⟩ = some (.bool h.mf) ∧ u.cell? ⟨n, 4, none⟩ = some (.int .i64 h.off) ∧
    u.cell? ⟨n, 5, none⟩ = some (.int .u8 (h.ttl : Int)) ∧ u.cell? ⟨n, 6, none⟩ = some (.int .u8 (h.proto : Int)) ∧ u.cell? ⟨n, 7, none⟩ = some (.int .u32 (h.src : Int)) ∧ u.cell? ⟨n, 8, none⟩ = some (.int .u32 (h.dst : Int)) ∧ u.cell? ⟨n, 9, none⟩ = some vo := by
  refine ⟨?_, ?_, ?_, ?_, ?_, ?_, ?_, ?_, ?_, ?_⟩ <;> (rw [cell_of_row u _ _ _ _ _ hb]; rfl)

set_option maxHeartbeats 4000000 in
theorem header_any (h : Hd) (vo : Value) (i : Int) (len sum f : Nat) (w : World) (hok : h.Ok) (hi : i = (len : Int)) (hlen : len < 65536) (hsum : sum < 65536) (hf : h.off = (f : Int)) (hf1 : f ≤ 65528) (hvo : SeesB w vo h.opts) (hol : h.opts.length ≤ 40) :
    Calls Try.prog 74 #[.agg (hdCells h vo), .int .i64 i, .int .u16 (sum : Int)] w fun e w' => ∃ v', e = .returned v' ∧ OwnB w' w.heap.size v' (hdBytes h len sum) ∧ Below w.heap.size w w' := by
  subst hi
  have HVO := hid hvo
  obtain ⟨ao, n, cap, rfl, HN, hn1, hn2⟩ := hvo.shape
  have hn40 : n ≤ 40 := by have := HN.out; omega
  unfold maxLen at hn2
  obtain ⟨k1, k2, k3, k4, k5, k6, k7⟩ := hok
  have HB : Hid (∀ u, Below (w.heap.size + 1) (w.alloc (.cells (hdCells h (.slice ao n cap)) 27)) u → _) := fun u hu => hd_at (u := u) (n := w.heap.size) (h := h) (vo := .slice ao n cap) (t := 27) (by
    rw [hu.block w.heap.size (by omega)]
    exact heap_alloc_new w _)
  have HX : Hid (hdBytes h len sum = [69 + n / 4, h.tos, len / 256, len % 256, h.id / 256, h.id % 256, flagW h.df h.mf f / 256, flagW h.df h.mf f % 256, h.ttl, h.proto, sum / 256, sum % 256,
   h.src / 65536 / 256, h.src / 65536 % 256, h.src % 65536 / 256, h.src % 65536 % 256, h.dst / 65536 / 256, h.dst / 65536 % 256, h.dst % 65536 / 256, h.dst % 65536 % 256] ++ h.opts) := by
    unfold Hid hdBytes; rw [hf, Int.toNat_natCast, HN.out]
  obtain ⟨W, hW⟩ : ∃ W, W = flagW h.df h.mf f := ⟨_, rfl⟩
  rw [← hW] at HX
  have hW1 : W < 65536 := by rw [hW]; unfold flagW; split <;> split <;> omega
  obtain ⟨tos, id, df, mf, off, ttl, proto, src, dst, opts⟩ := h
  simp only at *
  subst hf
  have HW := hid hW
  clear hW hvo hol
  unfold hdCells at *
  simp only at *
  go_enter Try.func74, Try.ntmps74
  go_wp2_with (at_builtin; refine wpList_append_bytes rfl _ _ rfl (w.heap.size + 1) _ [] rfl (ownB_nil _ _) _ [69 + n / 4, tos] rfl (sees_two ?c0 (69 + n / 4) tos ?c1 k1 _) ?c2 ?c3 ?_)
  case c0 => simp
  case c1 => omega
  case c2 => simp
  case c3 => simp
  intro v0 w0 hO hb
  have HO0 := hid hO
  have hb0 := ((Below.refl (w.heap.size + 1) _).alloc (by simp) _).trans hb
  clear hO hb
  go_wp2_with fail
  refine (put2_any _ _ (len) (w.heap.size + 1) _ _ HO0.out (by omega) (by omega) (by have := hb0.size; simp at this; omega) (by simp)).mono ?_
  rintro _ w1 ⟨v1, rfl, hO, hb⟩
  have HO1 := hid hO
  have hb1 := hb0.trans hb
  clear hO hb hb0 HO0
  obtain ⟨-, c1, -, -, -, -, -, -, -, -⟩ := HB.out _ hb1
  go_wp2_with fail
  refine (put2_any _ _ (id) (w.heap.size + 1) _ _ HO1.out (by omega) (by omega) (by have := hb1.size; simp at this; omega) (by simp)).mono ?_
  rintro _ w2 ⟨v2, rfl, hO, hb⟩
  have HO2 := hid hO
  have hb2 := hb1.trans hb
  clear hO hb hb1 HO1 c1
  obtain ⟨-, -, c2, c3, c4, -, -, -, -, -⟩ := HB.out _ hb2
  obtain ⟨W1, hW1'⟩ : ∃ W1, W1 = f / 8 + (if df then 16384 else 0) := ⟨_, rfl⟩
  have hW2 : W = W1 + (if mf then 8192 else 0) := by rw [HW.out, hW1']; rfl
  have hW3 : W1 ≤ 24575 := by rw [hW1']; split <;> omega
  have HW1 := hid hW1'
  have HW2 := hid hW2
  clear hW1' hW2 HW
  go_upto_if 33 with fail
  go_cut [8] from 10 (fun x wx => x = .int .i64 (W1 : Int) ∧ w2 = wx)
  case first =>
    have h1 := HW1.out
    cases df
    · simp at h1
      clear HW1
      have h2 := hid h1
      clear h1
      go_wp2_with fail
      go_meet
      case rel => exact ⟨by rw [h2.out]; go_num, rfl⟩
    · simp at h1
      clear HW1
      have h2 := hid h1
      clear h1
      go_wp2_with fail
      go_meet
      case rel => exact ⟨by rw [h2.out]; go_num, rfl⟩
  case rest =>
  obtain ⟨rfl, rfl⟩ := hcut
  go_upto_if 37 with fail
  go_cut [8] from 10 (fun x wx => x = .int .i64 (W : Int) ∧ w2 = wx)
  case first =>
    have h1 := HW2.out
    cases mf
    · simp at h1
      clear HW2
      have h2 := hid h1
      clear h1
      go_wp2_with fail
      go_meet
      case rel => exact ⟨by rw [h2.out], rfl⟩
    · simp at h1
      clear HW2
      have h2 := hid h1
      clear h1
      go_wp2_with fail
      go_meet
      case rel => exact ⟨by rw [h2.out]; go_num, rfl⟩
  case rest =>
  obtain ⟨rfl, rfl⟩ := hcut
  clear c2 c3 c4 HW1 HW2
  go_wp2_with fail
  refine (put2_any _ _ (W) (w.heap.size + 1) _ _ HO2.out (by omega) (by omega) (by have := hb2.size; simp at this; omega) (by simp)).mono ?_
  rintro _ w3 ⟨v3, rfl, hO, hb⟩
  have HO3 := hid hO
  have hb3 := hb2.trans hb
  clear hO hb hb2 HO2
  obtain ⟨-, -, -, -, -, c5, c6, -, -, -⟩ := HB.out _ hb3
  go_wp2_with (at_builtin; refine wpList_append_bytes rfl _ _ rfl (w.heap.size + 1) _ _ rfl (HO3.out.alloc _) _ [ttl, proto] rfl (sees_two rfl ttl proto k4 k5 _) ?c1 ?c2 ?_)
  case c1 => simp
  case c2 => have := hb3.size; simp at this ⊢; omega
  intro v4 w4 hO hb
  have HO4 := hid hO
  have hb4 := (hb3.alloc (by have := hb3.size; simp at this ⊢; omega) _).trans hb
  clear hO hb hb3 HO3 c5 c6
  go_wp2_with fail
  refine (put2_any _ _ (sum) (w.heap.size + 1) _ _ HO4.out (by omega) (by omega) (by have := hb4.size; simp at this; omega) (by simp)).mono ?_
  rintro _ w5 ⟨v5, rfl, hO, hb⟩
  have HO5 := hid hO
  have hb5 := hb4.trans hb
  clear hO hb hb4 HO4
  obtain ⟨-, -, -, -, -, -, -, c7, -, -⟩ := HB.out _ hb5
  go_wp2_with fail
  refine (put2_any _ _ (src / 65536) (w.heap.size + 1) _ _ HO5.out (by omega) (by omega) (by have := hb5.size; simp at this; omega) (by simp)).mono ?_
  rintro _ w6 ⟨v6, rfl, hO, hb⟩
  have HO6 := hid hO
  have hb6 := hb5.trans hb
  clear hO hb hb5 HO5 c7
  obtain ⟨-, -, -, -, -, -, -, c7, -, -⟩ := HB.out _ hb6
  go_wp2_with fail
  refine (put2_any _ _ (src % 65536) (w.heap.size + 1) _ _ HO6.out (by omega) (by omega) (by have := hb6.size; simp at this; omega) (by simp)).mono ?_
  rintro _ w7 ⟨v7, rfl, hO, hb⟩
  have HO7 := hid hO
  have hb7 := hb6.trans hb
  clear hO hb hb6 HO6 c7
  obtain ⟨-, -, -, -, -, -, -, -, c8, -⟩ := HB.out _ hb7
  go_wp2_with fail
  refine (put2_any _ _ (dst / 65536) (w.heap.size + 1) _ _ HO7.out (by omega) (by omega) (by have := hb7.size; simp at this; omega) (by simp)).mono ?_
  rintro _ w8 ⟨v8, rfl, hO, hb⟩
  have HO8 := hid hO
  have hb8 := hb7.trans hb
  clear hO hb hb7 HO7 c8
  obtain ⟨-, -, -, -, -, -, -, -, c8, -⟩ := HB.out _ hb8
  go_wp2_with fail
  refine (put2_any _ _ (dst % 65536) (w.heap.size + 1) _ _ HO8.out (by omega) (by omega) (by have := hb8.size; simp at this; omega) (by simp)).mono ?_
  rintro _ w9 ⟨v9, rfl, hO, hb⟩
  have HO9 := hid hO
  have hb9 := hb8.trans hb
  clear hO hb hb8 HO8 c8
  obtain ⟨P, HP, HPX, HPL⟩ : ∃ P, Hid (OwnB w9 (w.heap.size + 1) v9 P) ∧ Hid (hdBytes { tos := tos, id := id, df := df, mf := mf, off := (f : Int), ttl := ttl, proto := proto, src := src, dst := dst, opts := opts } len sum = P ++ opts) ∧ Hid (P.length = 20) := ⟨_, HO9, by rw [HX.out]; rfl, rfl⟩
  have HBW : Hid (∀ u, Below (w.heap.size + 1) (w.alloc (.cells #[.int .u8 (tos : Int), .int .u16 (id : Int), .bool df, .bool mf, .int .i64 (f : Int), .int .u8 (ttl : Int), .int .u8 (proto : Int), .int .u32 (src : Int), .int .u32 (dst : Int), .slice ao n cap] 27)) u → Below w.heap.size w u) := fun u hu => ((Below.refl w.heap.size w).alloc (Nat.le_refl _) _).trans (hu.mono (by omega))
  clear HX HO9
  obtain ⟨-, -, -, -, -, -, -, -, -, c9⟩ := HB.out _ hb9
  go_wp2_with fail
  go_loopw [7, 9] (fun t i wr => ∃ q : Nat, i = .int .i64 q ∧ q ≤ n ∧ Hid (OwnB wr (w.heap.size + 1) t (P ++ opts.take q)) ∧ Below (w.heap.size + 1) (w.alloc (.cells #[.int .u8 (tos : Int), .int .u16 (id : Int), .bool df, .bool mf, .int .i64 (f : Int), .int .u8 (ttl : Int), .int .u8 (proto : Int), .int .u32 (src : Int), .int .u32 (dst : Int), .slice ao n cap] 27)) wr) (fun _ i _ => n - (intOf i).toNat)
  case atStart => exact ⟨0, rfl, by omega, by rw [List.take_zero, List.append_nil]; exact HP, hb9⟩
  case round =>
    clear c9
    obtain ⟨q, rfl, hq, HO, hb⟩ := hrel
    obtain ⟨-, -, -, -, -, -, -, -, -, c9⟩ := HB.out _ hb
    by_cases hlt : q < n
    · obtain ⟨ga, oa, x, rfl, hga, hca, hx, HX⟩ := (HVO.out.below (HBW.out _ hb)).at q hlt
      have HF : Hid (P ++ (opts.take q ++ [x]) = P ++ opts.take (q + 1)) := by unfold Hid; rw [take_snoc HX.out]
      go_wp2_with (at_builtin; refine wpList_append_bytes rfl _ _ rfl (w.heap.size + 1) _ _ rfl (HO.out.alloc _) _ [x] rfl (sees_one rfl x hx _) ?c1 ?c2 ?_)
      case c1 => have := HPL.out; have := HN.out; rw [List.length_append, List.length_take]; simp only [List.length_cons, List.length_nil]; omega
      case c2 => have := hb.size; simp at this ⊢; omega
      intro v' w2 ho hb2
      rw [HF.out] at ho
      have HO2 := hid ho
      have hb3 := (hb.alloc (by have := hb.size; simp at this ⊢; omega) _).trans hb2
      clear ho hb2 hca c9
      go_wp2_with fail
      go_roundw
      case rel => exact ⟨q + 1, by go_num, by omega, HO2, hb3⟩
      case measure => simp [intOf]; omega
    · have HE : Hid (P ++ opts.take q = P ++ opts) := by
        unfold Hid; rw [List.take_of_length_le (by have := HN.out; omega)]
      rw [HE.out] at HO
      go_wp2_with fail
      go_ret
      exact ⟨_, rfl, by rw [HPX.out]; exact HO.out.mono (by omega), HBW.out _ hb⟩
end Go.Proofs.Ytdoeebbcieiimaa
