import Derived.Test.YtpdnnikkaojnkaaGreatYKKF
import Derived.Lib.BytesEntry
import Derived.Laws.Externs
import Derived.Shelf.SlSortCmp.WholeK
import Derived.Shelf.SlSortCmp.NoneTotal
import Derived.Shelf.SlGeneric
import Derived.Ground.SlsfProg
namespace Go.Proofs.YtpdnnikkaojnkaaGreat.Rt
open Go.Proofs.YtpdnnikkaojnkaaGreat Go.ChangeShapes Go.WideShapes Go.ChangeAt Go.RowKit Go.Shelf Go.Lib Go.Maps Tri N
set_option maxHeartbeats 8000000
set_option maxRecDepth 100000
shelf_lay_g SlLaysF0.n6 Slsf 6 at Tryz 75 as Tryz.sortM
theorem wtL_lt : ∀ l : List Nat, (∀ x ∈ l, x < 256) -> wtL l < 256 ^ l.length
 | [], _ => by simp [wtL]
 | a :: l, h => by
  have h1 := wtL_lt l fun x hx => h x (List.mem_cons_of_mem _ hx)
  have h2 := h a List.mem_cons_self
  have h3 : (a + 1) * 256 ^ l.length <= 256 * 256 ^ l.length := Nat.mul_le_mul_right _ (by omega)
  rw [List.length_cons, Nat.pow_succ', wtL]
  rw [Nat.add_mul, Nat.one_mul] at h3
  omega
theorem byte_lt {x y : Nat} (hx : x < 256) (hy : y < 256) : ((x : Int).toNat.toUInt8 < (y : Int).toNat.toUInt8) ↔ x < y := by
 rw [UInt8.lt_iff_toNat_lt]
 simp [Nat.mod_eq_of_lt hx, Nat.mod_eq_of_lt hy]
theorem ordK_step {a b P s t : Nat} (hs : s < P) (ht : t < P) : ordK (a * P + s) (b * P + t) = if a < b then -1 else if b < a then 1 else ordK s t := by
 unfold ordK
 by_cases h1 : a < b
 ·have h3 : (a + 1) * P <= b * P := Nat.mul_le_mul_right _ h1
  rw [Nat.add_mul, Nat.one_mul] at h3
  rw [if_pos h1, if_pos (by omega)]
 ·by_cases h2 : b < a
  ·have h3 : (b + 1) * P <= a * P := Nat.mul_le_mul_right _ h2
   rw [Nat.add_mul, Nat.one_mul] at h3
   rw [if_neg h1, if_pos h2, if_neg (by omega), if_pos (by omega)]
  ·obtain rfl : a = b := by omega
   rw [if_neg h1, if_neg h2]
   by_cases h4 : s < t
   ·rw [if_pos h4, if_pos (by omega)]
   ·rw [if_neg h4, if_neg (by omega)]
    by_cases h5 : t < s
    ·rw [if_pos h5, if_pos (by omega)]
    ·rw [if_neg h5, if_neg (by omega)]
theorem cmp_wt : ∀ a b : List Nat, a.length = b.length -> (∀ x ∈ a, x < 256) -> (∀ x ∈ b, x < 256) ->
  Lib.compareBytes (Lib.bytesOf (a.map fun x : Nat => (x : Int))) (Lib.bytesOf (b.map fun x : Nat => (x : Int))) = ordK (wtL a) (wtL b)
 | [], [], _, _, _ => by simp [Lib.bytesOf, Lib.compareBytes, wtL, ordK]
 | [], _ :: _, h, _, _ => by simp at h
 | _ :: _, [], h, _, _ => by simp at h
 | x :: a, y :: b, h, ha, hb => by
  have hl : a.length = b.length := by simpa using h
  have ih := cmp_wt a b hl (fun z hz => ha z (List.mem_cons_of_mem _ hz)) (fun z hz => hb z (List.mem_cons_of_mem _ hz))
  have h1 := wtL_lt a fun z hz => ha z (List.mem_cons_of_mem _ hz)
  have h2 := wtL_lt b fun z hz => hb z (List.mem_cons_of_mem _ hz)
  have hx := ha x List.mem_cons_self
  have hy := hb y List.mem_cons_self
  rw [<- hl] at h2
  rw [wtL, wtL, <- hl, ordK_step h1 h2, <- ih]
  simp only [Lib.bytesOf, List.map_cons, Lib.compareBytes, byte_lt hx hy, byte_lt hy hx]
theorem compare_run (w : World) (g o c g' o' c' : Nat) (a b : List Nat) (hl : a.length = b.length) (ha : ∀ x ∈ a, x < 256) (hb : ∀ x ∈ b, x < 256)
  (h1 : ∀ (j x : Nat), a[j]? = some x -> w.cell? ⟨g, o + j, none⟩ = some (.int .u8 (x : Int))) (h2 : ∀ (j x : Nat), b[j]? = some x -> w.cell? ⟨g', o' + j, none⟩ = some (.int .u8 (x : Int))) :
  (callFunc 63 #[.slice (some ⟨g, o, none⟩) a.length c, .slice (some ⟨g', o', none⟩) b.length c']).run Tryz.prog w = .ok (.value (.int .i64 (ordK (wtL a) (wtL b)))) w := by
 rw [run_callFunc_extern Tryz.func63 (by kernel_rfl) (by kernel_rfl) (by kernel_rfl) (e := Extern.BytealgCompare.compare) (by kernel_rfl)]
 have add : ∀ (g o j : Nat), (⟨g, o, none⟩ : Addr).add j = ⟨g, o + j, none⟩ := fun g o j => by unfold Addr.add; split <;> simp_all
 have l1 := Lib.run_loadBytesX (P := Tryz.prog) w (a.map fun x : Nat => (x : Int)) ⟨g, o, none⟩ .empty (fun j x hj => by
  rw [List.getElem?_map] at hj
  cases e : a[j]? with
  | none => rw [e] at hj; simp at hj
  | some y =>
   rw [e] at hj
   simp only [Option.map_some, Option.some.injEq] at hj
   rw [add, h1 j y e, hj])
 have l2 := Lib.run_loadBytesX (P := Tryz.prog) w (b.map fun x : Nat => (x : Int)) ⟨g', o', none⟩ .empty (fun j x hj => by
  rw [List.getElem?_map] at hj
  cases e : b[j]? with
  | none => rw [e] at hj; simp at hj
  | some y =>
   rw [e] at hj
   simp only [Option.map_some, Option.some.injEq] at hj
   rw [add, h2 j y e, hj])
 rw [List.length_map] at l1 l2
 change ((Sem.run Tryz.prog (do pure (goInt (Extern.BytealgCompare.cmp (<- Extern.Bytes.bytesOf (.slice (some ⟨g, o, none⟩) a.length c)) (<- Extern.Bytes.bytesOf (.slice (some ⟨g', o', none⟩) b.length c'))))) w).andThen _) = _
 simp only [Extern.Bytes.bytesOf, Sem.run_bind, Sem.run_pure, l1, l2, Result.andThen]
 rw [Lib.cmp_eq]
 have e1 : ∀ xs : List Int, (⟨ByteArray.empty.data ++ (Lib.bytesOf xs).toArray⟩ : ByteArray).data.toList = Lib.bytesOf xs := fun xs => by
  show ((#[] : Array UInt8) ++ (Lib.bytesOf xs).toArray).toList = _
  simp
 rw [e1, e1, cmp_wt a b hl ha hb]
 rfl
theorem bytesCompare_any (w : World) (g o c g' o' c' : Nat) (a b : List Nat) (hl : a.length = b.length) (ha : ∀ x ∈ a, x < 256) (hb : ∀ x ∈ b, x < 256)
  (h1 : ∀ (j x : Nat), a[j]? = some x -> w.cell? ⟨g, o + j, none⟩ = some (.int .u8 (x : Int))) (h2 : ∀ (j x : Nat), b[j]? = some x -> w.cell? ⟨g', o' + j, none⟩ = some (.int .u8 (x : Int))) :
  Calls Tryz.prog 41 #[.slice (some ⟨g, o, none⟩) a.length c, .slice (some ⟨g', o', none⟩) b.length c'] w fun e w' => e = .returned (.int .i64 (ordK (wtL a) (wtL b))) /\ w' = w := by
 have hd := compare_run w g o c g' o' c' a b hl ha hb h1 h2
 clear h1 h2 hl ha hb
 go_enter Tryz.func41, Tryz.ntmps41
 go_wp2_with fail
 go_ret
 exact ⟨rfl, rfl⟩
theorem macCmp_any (x y : Mc) (w : World) (hx : x.Ok) (hy : y.Ok) : Calls Tryz.prog 40 #[.agg #[.int .u8 (x.b0 : Int), .int .u8 (x.b1 : Int), .int .u8 (x.b2 : Int), .int .u8 (x.b3 : Int), .int .u8 (x.b4 : Int), .int .u8 (x.b5 : Int)], .agg #[.int .u8 (y.b0 : Int), .int .u8 (y.b1 : Int), .int .u8 (y.b2 : Int), .int .u8 (y.b3 : Int), .int .u8 (y.b4 : Int), .int .u8 (y.b5 : Int)]] w fun e w' => e = .returned (.int .i64 (ordK x.num y.num)) /\ ∃ q os', w' = Sort.grow (w.drewN q) os' := by
 obtain ⟨u, HU⟩ : ∃ u, Hid (u = (w.alloc (.cells #[.int .u8 (x.b0 : Int), .int .u8 (x.b1 : Int), .int .u8 (x.b2 : Int), .int .u8 (x.b3 : Int), .int .u8 (x.b4 : Int), .int .u8 (x.b5 : Int)] 40)).alloc (.cells #[.int .u8 (y.b0 : Int), .int .u8 (y.b1 : Int), .int .u8 (y.b2 : Int), .int .u8 (y.b3 : Int), .int .u8 (y.b4 : Int), .int .u8 (y.b5 : Int)] 40)) := ⟨_, rfl⟩
 have HB : Hid (∃ q os', u.drew = Sort.grow (w.drewN q) os') := ⟨1, _, by rw [HU.out, Sort.alloc_eq_grow, Sort.alloc_eq_grow, Sort.grow_grow]; rfl⟩
 have r1 : u.drew.heap[w.heap.size]? = some (.cells #[.int .u8 (x.b0 : Int), .int .u8 (x.b1 : Int), .int .u8 (x.b2 : Int), .int .u8 (x.b3 : Int), .int .u8 (x.b4 : Int), .int .u8 (x.b5 : Int)] 40 (0, 0)) := by
  show u.heap[w.heap.size]? = _
  rw [HU.out, Below.heap_alloc _ _ _ (by simp)]
  exact heap_alloc_new w _
 have r2 : u.drew.heap[w.heap.size + 1]? = some (.cells #[.int .u8 (y.b0 : Int), .int .u8 (y.b1 : Int), .int .u8 (y.b2 : Int), .int .u8 (y.b3 : Int), .int .u8 (y.b4 : Int), .int .u8 (y.b5 : Int)] 40 (0, 0)) := by
  show u.heap[w.heap.size + 1]? = _
  rw [HU.out]
  have := heap_alloc_new (w.alloc (.cells #[.int .u8 (x.b0 : Int), .int .u8 (x.b1 : Int), .int .u8 (x.b2 : Int), .int .u8 (x.b3 : Int), .int .u8 (x.b4 : Int), .int .u8 (x.b5 : Int)] 40)) (.cells #[.int .u8 (y.b0 : Int), .int .u8 (y.b1 : Int), .int .u8 (y.b2 : Int), .int .u8 (y.b3 : Int), .int .u8 (y.b4 : Int), .int .u8 (y.b5 : Int)] 40 (0, 0))
  simpa using this
 have HC := hid (bytesCompare_any u.drew w.heap.size 0 6 (w.heap.size + 1) 0 6 x.L y.L rfl hx hy
  (fun j z hj => by
   rw [cell_of_row _ _ _ _ _ _ r1]
   rcases j with _ | _ | _ | _ | _ | _ | j <;> simp [Mc.L] at hj <;> subst hj <;> rfl)
  (fun j z hj => by
   rw [cell_of_row _ _ _ _ _ _ r2]
   rcases j with _ | _ | _ | _ | _ | _ | j <;> simp [Mc.L] at hj <;> subst hj <;> rfl))
 rw [HU.out] at HC HB
 clear r1 r2 HU hx hy
 unfold Mc.num
 go_enter Tryz.func40, Tryz.ntmps40
 go_upto_region 1 with fail
 go_region_with (first | (go_at_call 41; refine HC.out.mono ?_; rintro _ _ ⟨rfl, ew⟩; obtain rfl := ew.symm) | fail)
 all_goals (
  go_wp2_with fail
  go_ret
  exact ⟨rfl, HB.out⟩)
abbrev Mk := {m : Mc // m.Ok}
def mkC (m : Mk) : List Value := [.int .u8 (m.1.b0 : Int), .int .u8 (m.1.b1 : Int), .int .u8 (m.1.b2 : Int), .int .u8 (m.1.b3 : Int), .int .u8 (m.1.b4 : Int), .int .u8 (m.1.b5 : Int)]
instance : Inhabited Mk := ⟨⟨zMc, fun x hx => by simp [Mc.L, zMc] at hx; omega⟩⟩
def cmpM (x y : Mk) : Int := ordK x.1.num y.1.num
theorem ltM (x y : Mk) : ltOf cmpM x y = decide (x.1.num < y.1.num) := by
 unfold ltOf cmpM
 by_cases h : x.1.num < y.1.num
 ·simp [h, (ordK_lt _ _).2 h]
 ·simp [h]; exact (ordK_ge _ _).2 (by omega)
theorem swoM : Sort.SWO (ltOf cmpM) where
 irrefl x := by rw [ltM]; simp
 trans x y z h1 h2 := by rw [ltM] at *; simp at *; omega
 ntrans x y z h1 h2 := by rw [ltM] at *; simp at *; omega
theorem cmpLaysM (blk off size : Nat) (w : World) : CmpLays Tryz.prog 40 #[] mkC 6 cmpM blk off size w :=
 fun _ _ _ _ x y => macCmp_any x.1 y.1 _ x.2 y.2
theorem flat_get {α : Type} (enc : α -> List Value) (k : Nat) (hk0 : 0 < k) (hk : ∀ x, (enc x).length = k) : ∀ (L : List α) (t : Nat) (ht : t < L.length * k), (L.flatMap enc)[t]? = (enc (L[t / k]'(Nat.div_lt_of_lt_mul (by rw [Nat.mul_comm]; exact ht))))[t % k]?
 | [], t, ht => by simp at ht
 | x :: L, t, ht => by
  rw [List.flatMap_cons]
  by_cases h : t < k
  ·rw [List.getElem?_append_left (by rw [hk]; exact h)]
   have e1 : t / k = 0 := Nat.div_eq_of_lt h
   have e2 : t % k = t := Nat.mod_eq_of_lt h
   simp only [e1, e2, List.getElem_cons_zero]
  ·rw [List.getElem?_append_right (by rw [hk]; omega), hk]
   have hlt : t - k < L.length * k := by
    have : (x :: L).length * k = L.length * k + k := by simp [Nat.succ_mul]
    omega
   rw [flat_get enc k hk0 hk L (t - k) hlt]
   have e1 : t / k = (t - k) / k + 1 := Nat.div_eq_sub_div hk0 (by omega)
   have e2 : t % k = (t - k) % k := Nat.mod_eq_sub_mod (by omega)
   simp only [e1, e2, List.getElem_cons_succ]
theorem flat_len {α : Type} (enc : α -> List Value) (k : Nat) (hk : ∀ x, (enc x).length = k) : ∀ L : List α, (L.flatMap enc).length = L.length * k
 | [] => by simp
 | x :: L => by rw [List.flatMap_cons, List.length_append, hk, flat_len enc k hk L, List.length_cons, Nat.succ_mul]; omega
theorem kcF_mk (L : List Mk) : kcF (L.map Subtype.val) = L.flatMap mkC := by
 unfold kcF mkC
 rw [List.flatMap_map]
theorem mk_get (L : List Mk) (t : Nat) (h : t < L.length * 6) : (L.flatMap mkC)[t]? = some ((mkC L.toArray[t / 6]!)[t % 6]!) := by
 have h2 : t / 6 < L.length := by omega
 rw [flat_get mkC 6 (by omega) (fun _ => rfl) L t h]
 have e : L.toArray[t / 6]! = L[t / 6] := by simp [h2]
 rw [e]
 have h3 : t % 6 < (mkC L[t / 6]).length := by show t % 6 < 6; omega
 rw [List.getElem?_eq_getElem h3]
 congr 1
 exact (getElem!_pos (mkC L[t / 6]) (t % 6) h3).symm
theorem pw_gen {α : Type} [Inhabited α] (num : α -> Nat) {d : Array α} (hs : ∀ i j, i < j -> j < d.size -> ¬ num d[j]! < num d[i]!) (hne : d.toList.Pairwise fun a b => num a ≠ num b) : d.toList.Pairwise fun a b => num a < num b := by
 rw [List.pairwise_iff_getElem] at hne ⊢
 intro i j hi hj hij
 have h6 := hne i j hi hj hij
 rw [Array.length_toList] at hi hj
 have h5 := hs i j hij hj
 rw [getElem!_pos d i hi, getElem!_pos d j hj] at h5
 rw [Array.getElem_toList, Array.getElem_toList] at h6 ⊢
 omega
theorem ris_map {α β : Type} (f : α -> β) (num : β -> Nat) {L : List α} (h : L.Pairwise fun a b => num (f a) < num (f b)) : RisBy num (L.map f) := by
 unfold RisBy Ris
 rw [List.pairwise_map, List.pairwise_map]
 exact h
theorem ris_of_sorted {d : Array Mk} {n : Nat} (hdl : d.size = n) (hs : Sort.SortedIn (ltOf cmpM) 0 n d) (hnd : (d.toList.map Subtype.val).Nodup) : RisBy Mc.num (d.toList.map Subtype.val) := by
 refine ris_map Subtype.val Mc.num (pw_gen (fun m : Mk => m.1.num) (fun i j hij hj => ?_) ?_)
 ·have h5 := hs i j (Nat.zero_le _) hij (by rw [<- hdl]; exact hj)
  rw [ltM] at h5
  exact of_decide_eq_false h5
 ·exact (List.pairwise_map.1 hnd).imp fun {a b} hab e => hab (Mc.num_inj a.2 b.2 e)
theorem sortF_any (a : Option Addr) (n cp : Nat) (ss : List Mc) (B : Nat) {f : Mc -> Option Fd} (w : World) (ho : OwnKF w B (.slice a n cp) ss) (hB : B <= w.heap.size) (hS : AllF f ss) (hle : ss.length <= 256) :
  Calls Tryz.prog 75 #[.slice a n cp, .func (.func 40) #[] #[]] w fun e w' => e = .returned (.tuple #[]) /\ ∃ ss', RisBy Mc.num ss' /\ (∀ k, k ∈ ss' ↔ gF.kOk k /\ (f k).isSome = true) /\ OwnKF w' B (.slice a n cp) ss' /\ Below B w w' := by
 rcases ho.2 with ⟨h0, hn0⟩ | ⟨g, cap, cur, h0, hbb, hg, h1, h2, h3, h4⟩
 ·simp only [Value.slice.injEq] at h0
  obtain ⟨rfl, rfl, rfl⟩ := h0
  have hss : ss = [] := List.eq_nil_of_length_eq_zero hn0
  subst hss
  have hcon := AnyF.slices_SortFunc_none Tryz.sortM none 0 (.func (.func 40) #[] #[]) w
  change Calls Tryz.prog 75 _ _ _ at hcon
  refine hcon.mono ?_
  rintro e w' ⟨rfl, rfl⟩
  exact ⟨rfl, [], List.Pairwise.nil, hS.2, ho, bR⟩
 ·simp only [Value.slice.injEq] at h0
  obtain ⟨rfl, rfl, rfl⟩ := h0
  have hall : ∀ m ∈ ss, m.Ok := fun m hm => ((hS.2 m).1 hm).1
  obtain ⟨L, hL⟩ : ∃ L : List Mk, L.map Subtype.val = ss := ⟨ss.pmap (fun m h => ⟨m, h⟩) hall, by rw [List.map_pmap]; simp⟩
  have hlen : L.length = ss.length := by rw [<- hL]; simp
  rw [<- hL, kcF_mk, List.length_map] at h4
  have hH : Sort.HoldsK mkC 6 w g 0 L.toArray := by
   intro t ht
   rw [Sort.size_flatK] at ht
   have ht' : t < L.length * 6 := by simpa using ht
   rw [Sort.get_flatK _ _ _ _ ht, Nat.zero_add]
   refine ⟨?_, frozen_of_row _ _ _ _ _ hg⟩
   have e := mk_get L t ht'
   rw [<- h4, List.getElem?_take, if_pos ht'] at e
   rw [cell_of_row _ _ _ _ _ _ hg]
   simpa using e
  have eg : ∀ args w, (callFunc 40 args).run Tryz.prog w = .ok (.enter 40 args) w := enters_of Tryz.func40 (by kernel_rfl) rfl
  have hlt := (gsl hg)
  have hsz : L.toArray.size = ss.length := by simp [hlen]
  have HLS : Hid (L.toArray.size < 4611686018427387904) := by unfold Hid; rw [hsz]; omega
  have hone : ∀ x : Mk, ∀ v ∈ mkC x, v.oneCell' = true := fun x v hv => by simp [mkC] at hv; rcases hv with rfl | rfl | rfl | rfl | rfl | rfl <;> rfl
  have hcon := AnyQ.slices_SortFunc Tryz.sortM 6 Tryz.isAgg40 Tryz.sizeOf40 mkC (fun _ => rfl) hone cmpM swoM 40 #[] g 0 cp L.toArray w eg (cmpLaysM g 0 L.toArray.size w) hH hlt HLS.out
  change Calls Tryz.prog 75 _ _ _ at hcon
  rw [hsz] at hcon
  refine hcon.mono ?_
  rintro e w' ⟨rfl, d, m, os, hp, hs, rfl⟩
  obtain ⟨p1, -, p2⟩ := hp
  have e1 : d.extract 0 ss.length = d := by rw [<- hsz, <- p1]; simp
  have e2 : (L.toArray.extract 0 ss.length).toList = L := by rw [<- hsz]; simp
  rw [e1, e2] at p2
  have hdl : d.size = ss.length := by rw [p1, hsz]
  have hperm : (d.toList.map Subtype.val).Perm ss := by rw [<- hL]; exact p2.map _
  have hnd : (d.toList.map Subtype.val).Nodup := hperm.nodup_iff.2 hS.1
  refine ⟨rfl, d.toList.map Subtype.val, ?_, fun k => by rw [hperm.mem_iff]; exact hS.2 k, ?_, ?_⟩
  ·exact ris_of_sorted hdl hs hnd
  ·have hb : (sortWorldK mkC 6 w g 0 m d os).heap[g]? = some (.cells (Sort.putCells id 0 (Sort.flatK mkC 6 d) cur) 40 (0, 0)) := by
    show ((w.heap.modify g _) ++ os)[g]? = _
    rw [Array.getElem?_append_left (by simpa using hlt), Array.getElem?_modify, if_pos rfl, hg]
    rfl
   have HFL : Hid ((d.toList.flatMap mkC).length = ss.length * 6) := by unfold Hid; rw [flat_len mkC 6 (fun _ => rfl)]; simp [hdl]
   unfold OwnKF
   have hl2 : (d.toList.map Subtype.val).length = ss.length := by simp [hdl]
   rw [hl2, kcF_mk]
   refine ⟨HFL.out, .inr ⟨g, cp, _, rfl, hbb, hb, h1, h2, by simpa [Sort.putCells] using h3, ?_⟩⟩
   apply List.ext_getElem?
   intro t
   rw [List.getElem?_take]
   by_cases ht : t < ss.length * 6
   ·rw [if_pos ht, mk_get d.toList t (by simpa [hdl] using ht)]
    have ht2 : t < cur.size := by omega
    have e1 : t < (Sort.flatK mkC 6 d).size := by rw [Sort.size_flatK, hdl]; omega
    simp only [Sort.putCells, Array.getElem?_toList, Array.getElem?_mapIdx, Array.getElem?_eq_getElem ht2, Option.map_some, Nat.zero_le, Nat.zero_add, Nat.sub_zero, true_and, e1, if_true, id]
    rw [Sort.get_flatK _ _ _ _ (by rw [hdl]; exact ht)]
   ·rw [if_neg ht, List.getElem?_eq_none (by rw [HFL.out]; omega)]
  ·exact ⟨rfl, rfl, rfl, size_sortWorldK_c mkC 6 w g 0 m d os, fun k hk => by
    show ((w.heap.modify g _) ++ os)[k]? = _
    rw [Array.getElem?_append_left (by simp; omega), Array.getElem?_modify, if_neg (by omega)]⟩
def SrtF (f : Mc -> Option Fd) (ss : List Mc) : Prop := RisBy (Mc.num) ss /\ ∀ k, k ∈ ss ↔ gF.kOk k /\ (f k).isSome = true
theorem sortedF_any (Bm bm c : Nat) {f : Mc -> Option Fd} (w : World) (hBm : w.heap[Bm]? = some (.cells #[.map (some bm)] 126)) (hm : MapG gF w bm f c) (hc : c <= 256) (hle : ∀ ss, AllF f ss -> ss.length <= 256) :
  Calls Tryz.prog 53 #[.func (.func 76) #[] #[.pointer (some ⟨Bm, 0, none⟩)], .func (.func 40) #[] #[]] w fun e w' => ∃ v ss, e = .returned v /\ SrtF f ss /\ OwnKF w' w.heap.size v ss /\ Below w.heap.size w w' := by
 have HA := hid (collectF_any Bm bm c w hBm hm hc)
 clear hBm hm hc
 have HLE := hid hle
 clear hle
 go_enter Tryz.func53, Tryz.ntmps53
 go_wp2_with fail
 refine HA.out.mono ?_
 rintro e w1 ⟨v, ss, rfl, hS, ho, hb⟩
 obtain ⟨a, n, cp, hv⟩ : ∃ a n c, v = .slice a n c := by
  rcases ho.2 with ⟨hv, _⟩ | ⟨g, cap, cur, hv, _⟩
  ·exact ⟨_, _, _, hv⟩
  ·exact ⟨_, _, _, hv⟩
 subst hv
 have HC := hid (sortF_any a n cp ss w.heap.size w1 ho hb.size hS (HLE.out ss hS))
 have HB := hid hb
 clear hS ho hb HA
 go_wp2_with fail
 refine HC.out.mono ?_
 rintro e w2 ⟨rfl, ss', hr, hmem, ho2, hb2⟩
 have HF : Hid (SrtF f ss' /\ OwnKF w2 w.heap.size (.slice a n cp) ss' /\ Below w.heap.size w w2) := ⟨⟨hr, hmem⟩, ho2, HB.out.trans hb2⟩
 clear hr hmem ho2 hb2
 go_wp2_with fail
 go_ret
 exact ⟨_, ss', rfl, HF.out⟩
end Go.Proofs.YtpdnnikkaojnkaaGreat.Rt
