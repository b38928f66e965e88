/-
  weftlaw6.plays of the kinds 1 and 2.
-/
import Derived.Test.YtcboenmmkaochabDoorIU
import Derived.Test.YtcboenmmkaochabDoorNWE
import Derived.Test.YtcboenmmkaochabDoorNWH
namespace Go.Proofs.YtcboenmmkaochabDoor.N
open Go.ChangeShapes Go.WideShapes Go.ChangeAt Go.RowKit
set_option maxHeartbeats 4000000
set_option maxRecDepth 100000

def op6 (k : Int) (vy : Value) (m : Im.Ct) (vm : Value) (h : Hd) (vo vb : Value) (t c : Nat) (a : Int) (f : Nat) : List Value :=
  [.int .i64 k, vy, .int .u8 (m.t : Int), .int .u8 (m.c : Int), .int .u32 (m.r : Int), vm, .int .u8 (h.tos : Int), .int .u16 (h.id : Int), .bool h.df, .bool h.mf, .int .i64 h.off, .int .u8 (h.ttl : Int), .int .u8 (h.proto : Int), .int .u32 (h.src : Int), .int .u32 (h.dst : Int), vo, vb, .int .u8 (t : Int), .int .u8 (c : Int), .int .i64 a, .int .u32 (f : Int)]

/-- What was answered lies in a block of its own. -/
theorem put_new {w2 : World} {T : TypeId} {Z pa : Array Value} (hz : pa.size = Z.size) :
    (w2.alloc (.cells Z T)).there w2.heap.size 0 pa.size ∧ Below w2.heap.size w2 ((w2.alloc (.cells Z T)).setCells w2.heap.size 0 pa.toList) ∧ ((w2.alloc (.cells Z T)).setCells w2.heap.size 0 pa.toList).rangeAt w2.heap.size 0 pa.toList ∧ w2.heap.size < ((w2.alloc (.cells Z T)).setCells w2.heap.size 0 pa.toList).heap.size :=
  have h := new_put (u := w2) (T := T) hz
  ⟨new_there hz, h.below, h.range, h.lt⟩

theorem ct_one (m : Im.Ct) {w : World} {v : Value} {L : List Nat} (h : SeesB w v L) : (ctCells m v).all (·.oneCell') = true := by
  obtain ⟨a1, n1, c1, rfl, _, _, _⟩ := h.shape
  simp [ctCells, Value.oneCell']

theorem plays_1 (vy : Value) (L : List Nat) (m : Im.Ct) (vm : Value) (h : Hd) (vo vb : Value) (t c : Nat) (a : Int) (f : Nat) (w : World) (hv : SeesB w vy L) :
    Calls Tryd.prog 11 #[.agg (op6 1 vy m vm h vo vb t c a f).toArray] w fun e w' => e = .returned (.bool true) ∧ Below w.heap.size w w' := by
  obtain ⟨w1, hw1⟩ : ∃ w1, w1 = w.alloc (.cells (op6 1 vy m vm h vo vb t c a f).toArray 37) := ⟨_, rfl⟩
  have hb1 : Below w.heap.size w w1 := by rw [hw1]; exact (Below.refl _ _).alloc (Nat.le_refl _) _
  have hs1 : w1.heap.size = w.heap.size + 1 := by rw [hw1]; simp
  have HC : Hid (∀ u, Below w1.heap.size w1 u → u.cell? ⟨w.heap.size, 1, none⟩ = some vy) := fun u hu =>
    blk_at (cs := op6 1 vy m vm h vo vb t c a f) (t := 37) (by rw [hu.block w.heap.size (by omega), hw1]; exact blk_new _ _ _) 1 vy rfl
  have HP1 := hid (iparse_any vy L w1 (hv.below hb1))
  have HP2 : Hid (∀ u, Below w1.heap.size w1 u → Calls Tryd.prog 16 #[vy] u fun e w' => ∃ ao n cap, e = .returned (.tuple #[.agg (ctCells (Im.prC L) (.slice ao n cap)), .int .i64 (Im.prE L)]) ∧ SeesB w' (.slice ao n cap) (Im.prC L).B ∧ Below u.heap.size u w') := fun u hu => rparse_any vy L u (hv.below (hb1.trans (hu.mono hb1.size)))
  obtain ⟨ao, n, cap, rfl, _, _, _⟩ := hv.shape
  have HW1 : Hid (w1 = w.alloc (.cells (op6 1 (.slice ao n cap) m vm h vo vb t c a f).toArray 37)) := hw1
  have HB1 := hid hb1
  have c1 := HC.out _ (Below.refl _ _)
  clear hw1 hb1 hs1 hv
  generalize Im.prC L = H at *
  generalize Im.prE L = q at *
  have hqq : (q == q) = true := by simp
  unfold op6 at HW1 ⊢
  go_enter Tryd.func11, Tryd.ntmps11
  go_upto_region 3 with fail
  rw [← HW1.out]
  go_wp2_with fail
  refine HP1.out.mono ?_
  rintro _ w2 ⟨a1, n1, k1, rfl, ha, _, hb2⟩
  obtain ⟨pa, hpa⟩ : ∃ pa : Array Value, pa = ctCells H (.slice a1 n1 k1) := ⟨_, rfl⟩
  obtain ⟨w3, hw3⟩ : ∃ w3, w3 = (w2.alloc (.cells zeroC 29)).setCells w2.heap.size 0 pa.toList := ⟨_, rfl⟩
  have HPA := hid hpa
  have HZA : Hid ((Tryd.prog.info? 29).map (·.size) = some pa.size) := by unfold Hid; rw [hpa]; exact size_ct
  have HOA : Hid (pa.all (·.oneCell') = true) := by unfold Hid; rw [hpa]; exact ct_one H ha
  obtain ⟨hta, hb23, hrg3, hlt2⟩ := put_new (w2 := w2) (T := 29) (Z := zeroC) (pa := pa) (by rw [hpa]; rfl)
  rw [← hw3] at hb23 hrg3 hlt2
  have HTA := hid hta
  have hb3 : Below w1.heap.size w1 w3 := hb2.trans (hb23.mono hb2.size)
  have HA := hid (ha.below hb23)
  have HW3 : Hid (w3 = (w2.alloc (.cells #[.int .u8 0, .int .u8 0, .int .u32 0, .slice none 0 0] 29)).setCells w2.heap.size 0 pa.toList) := hw3
  have c3 := HC.out _ hb3
  have HLT2 := hid hlt2
  have HRG3 := hid hrg3
  rw [← hpa]
  clear hpa hw3 ha hb2 hb23 HP1 c1 hta hrg3 hlt2
  go_upto_region 4 with (first
    | (refine wpList_store_mid rfl 29 (.tmp 3) (.tmp 33) rfl w2.heap.size 0 pa rfl rfl HTA.out HZA.out HOA.out ?_)
    | fail)
  rw [← HW3.out]
  go_wp2_with fail
  refine (HP2.out _ hb3).mono ?_
  rintro _ w4 ⟨a2, n2, k2, rfl, hb', hb4⟩
  obtain ⟨pb, hpb⟩ : ∃ pb : Array Value, pb = ctCells H (.slice a2 n2 k2) := ⟨_, rfl⟩
  obtain ⟨w5, hw5⟩ : ∃ w5, w5 = (w4.alloc (.cells zeroC 29)).setCells w4.heap.size 0 pb.toList := ⟨_, rfl⟩
  have HPB := hid hpb
  have HZB : Hid ((Tryd.prog.info? 29).map (·.size) = some pb.size) := by unfold Hid; rw [hpb]; exact size_ct
  have HOB : Hid (pb.all (·.oneCell') = true) := by unfold Hid; rw [hpb]; exact ct_one H hb'
  obtain ⟨htb, hb45, hrg5, hlt4⟩ := put_new (w2 := w4) (T := 29) (Z := zeroC) (pa := pb) (by rw [hpb]; rfl)
  rw [← hw5] at hb45 hrg5 hlt4
  have HTB := hid htb
  have hb35 : Below w3.heap.size w3 w5 := hb4.trans (hb45.mono hb4.size)
  have hb5 : Below w1.heap.size w1 w5 := hb3.trans (hb35.mono hb3.size)
  have HLA := hid (load_range (T := 29) (range_grow HRG3.out hb35 HLT2.out) ⟨_, Tryd.underlying29⟩ HZA.out)
  have HLB := hid (load_range (T := 29) hrg5 ⟨_, Tryd.underlying29⟩ HZB.out)
  have HPK : Hid (Calls Tryd.prog 17 #[.agg pa, .agg pb] w5 fun e w' => e = .returned (.bool true) ∧ Below w5.heap.size w5 w') := by
    unfold Hid
    rw [HPA.out, HPB.out]
    exact controls_same H _ _ w5 (HA.out.below hb35) (hb'.below hb45)
  have HW5 : Hid (w5 = (w4.alloc (.cells #[.int .u8 0, .int .u8 0, .int .u32 0, .slice none 0 0] 29)).setCells w4.heap.size 0 pb.toList) := hw5
  have HB5 := hid hb5
  rw [← hpb]
  clear hpb hw5 hb' hb4 hb45 hb35 hb5 hrg5 HP2 c3 hlt4 htb
  go_upto_region 5 with (first
    | (refine wpList_store_mid rfl 29 (.tmp 5) (.tmp 39) rfl w4.heap.size 0 pb rfl rfl HTB.out HZB.out HOB.out ?_)
    | fail)
  rw [← HW5.out]
  go_wp2_with (first
    | (refine wpList_ld 29 ⟨w2.heap.size, 0, none⟩ (.tmp 3) rfl rfl HLA.out rfl ?_)
    | (refine wpList_ld 29 ⟨w4.heap.size, 0, none⟩ (.tmp 5) rfl rfl HLB.out rfl ?_)
    | fail)
  refine HPK.out.mono ?_
  rintro _ w6 ⟨rfl, hb6⟩
  go_wp2_with fail
  go_ret
  exact ⟨rfl, HB1.out.trans ((HB5.out.trans (hb6.mono HB5.out.size)).mono HB1.out.size)⟩

theorem plays_2 (vy : Value) (m : Im.Ct) (vm : Value) (h : Hd) (vo vb : Value) (t c : Nat) (a : Int) (f : Nat) (w : World) (hok : m.Ok) (hv : SeesB w vm m.B) :
    Calls Tryd.prog 11 #[.agg (op6 2 vy m vm h vo vb t c a f).toArray] w fun e w' => e = .returned (.bool true) ∧ Below w.heap.size w w' := by
  obtain ⟨w1, hw1⟩ : ∃ w1, w1 = w.alloc (.cells (op6 2 vy m vm h vo vb t c a f).toArray 37) := ⟨_, rfl⟩
  have hb1 : Below w.heap.size w w1 := by rw [hw1]; exact (Below.refl _ _).alloc (Nat.le_refl _) _
  have hs1 : w1.heap.size = w.heap.size + 1 := by rw [hw1]; simp
  have HLD : Hid (∀ u, Below w1.heap.size w1 u → (Instr.loadAt 29 (.pointer (some ⟨w.heap.size, 2, none⟩))).run Tryd.prog u = .ok (.agg (ctCells m vm)) u) := fun u hu => by
    have hr := blk_at (cs := op6 2 vy m vm h vo vb t c a f) (t := 37) (u := u) (n := w.heap.size) (by rw [hu.block w.heap.size (by omega), hw1]; exact blk_new _ _ _)
    refine run_loadAt_mid u w.heap.size 2 29 (ctCells m vm).toList (.struct _) (fun j v hv => ?_) Tryd.underlying29 rfl size_ct
    have := hr (2 + j) v (by
      have e : op6 2 vy m vm h vo vb t c a f = [.int .i64 2, vy] ++ ((ctCells m vm).toList ++ (op6 2 vy m vm h vo vb t c a f).drop 6) := rfl
      have hj : j < (ctCells m vm).toList.length := (List.getElem?_eq_some_iff.1 hv).1
      rw [e, List.getElem?_append_right (by simp), List.getElem?_append_left (by simpa using hj)]
      simpa using hv)
    rwa [Nat.zero_add] at this
  have HP1 := hid (ibuild_any m vm w1 hok (hv.below hb1))
  have HP2 : Hid (∀ u, Below w1.heap.size w1 u → Calls Tryd.prog 19 #[.agg (ctCells m vm)] u fun e w' => ∃ v', e = .returned (.tuple #[v', .int .i64 (Im.bdE m)]) ∧ OwnB w' u.heap.size v' (Im.bdL m) ∧ Below u.heap.size u w') := fun u hu => rbuild_any m vm u hok (hv.below (hb1.trans (hu.mono hb1.size)))
  have HBS : Hid (∀ x ∈ Im.bdL m, x < 256) := by
    unfold Hid Im.bdL
    split
    · intro x hx; cases hx
    · exact Im.laid_bytes hok hv.bytes
  have HW1 := hid hw1
  have HB1 := hid hb1
  have HL1 := hid (HLD.out _ (Below.refl _ _))
  clear hw1 hb1 hs1 hv hok
  have HQ : Hid (∃ q : Int, q = Im.bdE m) := ⟨_, rfl⟩
  generalize Im.bdE m = q at *
  have hqq : (q == q) = true := by simp
  generalize Im.bdL m = bl at *
  generalize ctCells m vm = pk at *
  unfold op6 at HW1 ⊢
  go_enter Tryd.func11, Tryd.ntmps11
  go_upto_region 7 with fail
  rw [← HW1.out]
  go_wp2_with (first | (refine wpList_ld 29 ⟨w.heap.size, 2, none⟩ _ rfl rfl HL1.out rfl ?_) | fail)
  refine HP1.out.mono ?_
  rintro _ w2 ⟨a1, n1, c1, rfl, h1, _, hb2⟩
  have HL2 := hid (HLD.out _ hb2)
  have HH1 := hid h1
  clear h1
  go_wp2_with (first | (refine wpList_ld 29 ⟨w.heap.size, 2, none⟩ _ rfl rfl HL2.out rfl ?_) | fail)
  refine (HP2.out _ hb2).mono ?_
  rintro _ w3 ⟨v2, rfl, ho, hb3⟩
  have h2 := ho.sees HBS.out
  obtain ⟨a2, n2, c2, rfl, _, _, _⟩ := h2.shape
  have HSM : Hid (Calls Tryd.prog 20 #[.slice a1 n1 c1, .slice a2 n2 c2] w3 fun e w' => e = .returned (.bool true) ∧ Below w3.heap.size w3 w') := by
    have := same_any (.slice a1 n1 c1) (.slice a2 n2 c2) bl bl w3 (HH1.out.below hb3) h2
    rw [decide_eq_true (rfl : bl = bl)] at this
    exact this
  have HB3 := hid (hb2.trans (hb3.mono hb2.size))
  clear h2 hb3 hb2 ho
  go_wp2_with fail
  refine HSM.out.mono ?_
  rintro _ w4 ⟨rfl, hb4⟩
  go_wp2_with fail
  go_ret
  exact ⟨rfl, HB1.out.trans ((HB3.out.trans (hb4.mono HB3.out.size)).mono HB1.out.size)⟩
end Go.Proofs.YtcboenmmkaochabDoor.N
