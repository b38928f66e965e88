import Derived.Test.YthpokoiclfbddaaDoorYNqD
import Derived.Laws.Bits64
namespace Go.Proofs.YthpokoiclfbddaaDoor.Nq
open Go.Proofs.YthpokoiclfbddaaDoor Go.ChangeShapes Go.WideShapes Go.ChangeAt Go.RowKit Go.Maps Fl
open Go.Proofs.YthpokoiclfbddaaDoor.N hiding But But.set But.of_below But.refl But.trans But.below But.drew wpList_ld
set_option maxHeartbeats 2000000
set_option maxRecDepth 100000

def h8 (h b : Nat) : Nat := (h ^^^ b) * 1099511628211 % 18446744073709551616
def h16 (h v : Nat) : Nat := h8 (h8 h (v / 256)) (v % 256)
def h32 (h v : Nat) : Nat := h16 (h16 h (v / 65536)) (v % 65536)
def hashT (t : Tu) : Nat := h16 (h16 (h8 (h32 (h32 14695981039346656037 t.s) t.d) t.p) t.sp) t.dp
def mixW (x : Nat) : Nat := ((x ^^^ x / 4294967296) * 11400714819323198485 % 18446744073709551616) ^^^ ((x ^^^ x / 4294967296) * 11400714819323198485 % 18446744073709551616) / 536870912
def wgt (h a p : Nat) : Nat := mixW (h16 (h32 h a) p)
theorem h8_lt (h b : Nat) : h8 h b < 18446744073709551616 := Nat.mod_lt _ (by decide)
theorem h16_lt (h b : Nat) : h16 h b < 18446744073709551616 := h8_lt _ _
theorem h32_lt (h b : Nat) : h32 h b < 18446744073709551616 := h8_lt _ _
theorem hashT_lt (t : Tu) : hashT t < 18446744073709551616 := h8_lt _ _
theorem xor64 {a b : Nat} (ha : a < 18446744073709551616) (hb : b < 18446744073709551616) : a ^^^ b < 18446744073709551616 := Nat.xor_lt_two_pow (n := 64) ha hb
theorem mixW_lt {x : Nat} : mixW x < 18446744073709551616 := by
  have h1 : (x ^^^ x / 4294967296) * 11400714819323198485 % 18446744073709551616 < 18446744073709551616 := Nat.mod_lt _ (by decide)
  unfold mixW
  exact xor64 h1 (Nat.lt_of_le_of_lt (Nat.div_le_self _ _) h1)
theorem wgt_lt (h a p : Nat) : wgt h a p < 18446744073709551616 := mixW_lt
theorem wrap_mul (z k : Nat) : IntKind.u64.wrap ((z : Int) * (k : Int)) = ((z * k % 18446744073709551616 : Nat) : Int) := by
  rw [IntKind.wrap_u64, Int.natCast_emod, Int.natCast_mul]; rfl

theorem hash8_any (h b : Nat) (w : World) (hh : h < 18446744073709551616) (hb : b < 256) :
    Calls Tryd.prog 61 #[.int .u64 (h : Int), .int .u8 (b : Int)] w fun e w' => e = .returned (.int .u64 ((h8 h b : Nat) : Int)) ∧ w' = w := by
  have hx : bits .xor .u64 (h : Int) (b : Int) = ((h ^^^ b : Nat) : Int) := bits_xor_u64_nat h b hh (by omega)
  have hm : IntKind.u64.wrap (((h ^^^ b : Nat) : Int) * 1099511628211) = ((h8 h b : Nat) : Int) := wrap_mul _ 1099511628211
  generalize h8 h b = r at *
  generalize h ^^^ b = z at *
  clear hh
  go_enter Tryd.func61, Tryd.ntmps61
  go_wp2_with (simp only [hx, hm])
  go_ret
  exact ⟨rfl, rfl⟩
theorem hash16_any (h v : Nat) (w : World) (hh : h < 18446744073709551616) (hv : v < 65536) :
    Calls Tryd.prog 62 #[.int .u64 (h : Int), .int .u16 (v : Int)] w fun e w' => e = .returned (.int .u64 ((h16 h v : Nat) : Int)) ∧ w' = w := by
  have H1 : Hid (∀ k, k = (v : Int) / 256 → Calls Tryd.prog 61 #[.int .u64 (h : Int), .int .u8 k] w fun e w' => e = .returned (.int .u64 ((h8 h (v / 256) : Nat) : Int)) ∧ w' = w) := fun k hk => by
    rw [hk, show (v : Int) / 256 = ((v / 256 : Nat) : Int) by omega]
    exact hash8_any h (v / 256) w hh (by omega)
  have H2 : Hid (∀ k, k = (v : Int) % 256 → Calls Tryd.prog 61 #[.int .u64 ((h8 h (v / 256) : Nat) : Int), .int .u8 k] w fun e w' => e = .returned (.int .u64 ((h16 h v : Nat) : Int)) ∧ w' = w) := fun k hk => by
    rw [hk, show (v : Int) % 256 = ((v % 256 : Nat) : Int) by omega]
    exact hash8_any _ (v % 256) w (h8_lt _ _) (by omega)
  generalize h16 h v = r at *
  generalize h8 h (v / 256) = z at *
  clear hh
  go_enter Tryd.func62, Tryd.ntmps62
  go_wp2_with fail
  refine (H1.out _ (by first | rfl | omega)).mono ?_
  rintro _ w1 ⟨rfl, hw⟩
  obtain rfl : w = w1 := hw.symm
  go_wp2_with fail
  refine (H2.out _ (by first | rfl | omega)).mono ?_
  rintro _ w1 ⟨rfl, hw⟩
  obtain rfl : w = w1 := hw.symm
  go_wp2_with fail
  go_ret
  exact ⟨rfl, rfl⟩
theorem hash32_any (h v : Nat) (w : World) (hh : h < 18446744073709551616) (hv : v < 4294967296) :
    Calls Tryd.prog 60 #[.int .u64 (h : Int), .int .u32 (v : Int)] w fun e w' => e = .returned (.int .u64 ((h32 h v : Nat) : Int)) ∧ w' = w := by
  have H1 : Hid (∀ k, k = (v : Int) / 65536 → Calls Tryd.prog 62 #[.int .u64 (h : Int), .int .u16 k] w fun e w' => e = .returned (.int .u64 ((h16 h (v / 65536) : Nat) : Int)) ∧ w' = w) := fun k hk => by
    rw [hk, show (v : Int) / 65536 = ((v / 65536 : Nat) : Int) by omega]
    exact hash16_any h (v / 65536) w hh (by omega)
  have H2 : Hid (∀ k, k = (v : Int) % 65536 → Calls Tryd.prog 62 #[.int .u64 ((h16 h (v / 65536) : Nat) : Int), .int .u16 k] w fun e w' => e = .returned (.int .u64 ((h32 h v : Nat) : Int)) ∧ w' = w) := fun k hk => by
    rw [hk, show (v : Int) % 65536 = ((v % 65536 : Nat) : Int) by omega]
    exact hash16_any _ (v % 65536) w (h16_lt _ _) (by omega)
  generalize h32 h v = r at *
  generalize h16 h (v / 65536) = z at *
  clear hh
  go_enter Tryd.func60, Tryd.ntmps60
  go_wp2_with fail
  refine (H1.out _ (by first | rfl | omega)).mono ?_
  rintro _ w1 ⟨rfl, hw⟩
  obtain rfl : w = w1 := hw.symm
  go_wp2_with fail
  refine (H2.out _ (by first | rfl | omega)).mono ?_
  rintro _ w1 ⟨rfl, hw⟩
  obtain rfl : w = w1 := hw.symm
  go_wp2_with fail
  go_ret
  exact ⟨rfl, rfl⟩
theorem hashOf_any (t : Tu) (w : World) (ht : t.Ok) :
    Calls Tryd.prog 39 #[.agg t.cells] w fun e w' => e = .returned (.int .u64 ((hashT t : Nat) : Int)) ∧ Below w.heap.size w w' := by
  obtain ⟨w0, HW0⟩ : ∃ w0, Hid (w0 = w.alloc (.cells t.cells 38)) := ⟨_, rfl⟩
  have hb0 : Below w.heap.size w w0 := by rw [HW0.out]; exact (Below.refl _ _).alloc (Nat.le_refl _) _
  obtain ⟨b, HB⟩ : ∃ b, Hid (b = w.heap.size) := ⟨_, rfl⟩
  have r0 : w0.heap[b]? = some (.cells t.cells 38 (0, 0)) := by rw [HW0.out, HB.out]; exact heap_alloc_new w _
  obtain ⟨-, k2, k3, k4, k0, k1⟩ := tub r0
  have HB0 := hid hb0
  have H1 := hid (hash32_any 14695981039346656037 t.s w0 (by decide) ht.s)
  have H2 := hid (hash32_any _ t.d w0 (h32_lt 14695981039346656037 t.s) ht.d)
  have H3 := hid (hash8_any _ t.p w0 (h32_lt (h32 14695981039346656037 t.s) t.d) ht.p)
  have H4 := hid (hash16_any _ t.sp w0 (h8_lt (h32 (h32 14695981039346656037 t.s) t.d) t.p) ht.sp)
  have H5 : Hid (Calls Tryd.prog 62 #[.int .u64 ((h16 (h8 (h32 (h32 14695981039346656037 t.s) t.d) t.p) t.sp : Nat) : Int), .int .u16 (t.dp : Int)] w0 fun e w' => e = .returned (.int .u64 ((hashT t : Nat) : Int)) ∧ w' = w0) := hash16_any _ t.dp w0 (h16_lt (h8 (h32 (h32 14695981039346656037 t.s) t.d) t.p) t.sp) ht.dp
  have H1' : Hid (Calls Tryd.prog 60 #[.int .u64 14695981039346656037, .int .u32 (t.s : Int)] w0 fun e w' => e = .returned (.int .u64 ((h32 14695981039346656037 t.s : Nat) : Int)) ∧ w' = w0) := H1.out
  clear H1
  generalize hashT t = r5 at *
  generalize h16 (h8 (h32 (h32 14695981039346656037 t.s) t.d) t.p) t.sp = r4 at *
  generalize h8 (h32 (h32 14695981039346656037 t.s) t.d) t.p = r3 at *
  generalize h32 (h32 14695981039346656037 t.s) t.d = r2 at *
  generalize h32 14695981039346656037 t.s = r1 at *
  generalize t.cells = tc at *
  clear hb0 r0 ht
  go_enter Tryd.func39, Tryd.ntmps39
  go_upto_region 1 with fail
  rw [← HW0.out, ← HB.out]
  go_wp2_with fail
  refine H1'.out.mono ?_
  rintro _ w1 ⟨rfl, hw⟩
  obtain rfl : w0 = w1 := hw.symm
  go_wp2_with fail
  refine H2.out.mono ?_
  rintro _ w1 ⟨rfl, hw⟩
  obtain rfl : w0 = w1 := hw.symm
  go_wp2_with fail
  refine H3.out.mono ?_
  rintro _ w1 ⟨rfl, hw⟩
  obtain rfl : w0 = w1 := hw.symm
  go_wp2_with fail
  refine H4.out.mono ?_
  rintro _ w1 ⟨rfl, hw⟩
  obtain rfl : w0 = w1 := hw.symm
  go_wp2_with fail
  refine H5.out.mono ?_
  rintro _ w1 ⟨rfl, hw⟩
  obtain rfl : w0 = w1 := hw.symm
  go_wp2_with fail
  go_ret
  exact ⟨rfl, HB0.out⟩

/-! ### backends -/
def bkC (a p : Nat) : Array Value := #[.int .u32 (a : Int), .int .u16 (p : Int)]
theorem bk_one (a p : Nat) : (bkC a p).all (·.oneCell') = true := by simp [bkC, Value.oneCell']
theorem isBkd : ∃ d, Tryd.prog.underlying 53 = some d ∧ d.isRow = true := ⟨_, Tryd.underlying53, rfl⟩
theorem bk_fl (b : Nat) (u : World) : (Instr.fieldAt 53 (.pointer (some ⟨b, 0, none⟩)) 0).run Tryd.prog u = .ok (.pointer (some ⟨b, 0, none⟩)) u ∧ (Instr.fieldAt 53 (.pointer (some ⟨b, 0, none⟩)) 1).run Tryd.prog u = .ok (.pointer (some ⟨b, 1, none⟩)) u := by
  constructor <;> kernel_rfl
theorem bk_ld {u : World} {g o a p : Nat} (h0 : u.cell? ⟨g, o, none⟩ = some (.int .u32 (a : Int))) (h1 : u.cell? ⟨g, o + 1, none⟩ = some (.int .u16 (p : Int))) : (Instr.loadAt 53 (.pointer (some ⟨g, o, none⟩))).run Tryd.prog u = .ok (.agg (bkC a p)) u := by
  obtain ⟨d, hd1, hd2⟩ := isBkd
  refine run_loadAt_mid u g o 53 (bkC a p).toList d (fun i v hv => ?_) hd1 hd2 (by kernel_rfl)
  have hi : i < 2 := (List.getElem?_eq_some_iff.1 hv).1
  rw [← hv]
  match i, hi with
  | 0, _ => exact h0
  | 1, _ => exact h1
theorem ldAq {u : World} {p : Addr} {x : Int} (h : u.cell? p = some (.int .u32 x)) : (Instr.loadAt 31 (.pointer (some p))).run Tryd.prog u = .ok (.int .u32 x) u := by simp [go_sem, h]

theorem CB1 {f : FuncId} {args : Array Value} {w : World} {v : Value} (h : Calls Tryd.prog f args w fun e w' => e = .returned v ∧ w' = w) : Calls Tryd.prog f args w fun e w' => e = .returned v ∧ Below w.heap.size w w' := h.mono fun e w' ⟨he, hw⟩ => ⟨he, by rw [hw]; exact Below.refl _ _⟩

theorem weight_any (h a p : Nat) (w : World) (hh : h < 18446744073709551616) (ha : a < 4294967296) (hp : p < 65536) :
    Calls Tryd.prog 40 #[.int .u64 (h : Int), .agg (bkC a p)] w fun e w' => e = .returned (.int .u64 ((wgt h a p : Nat) : Int)) ∧ Below w.heap.size w w' := by
  obtain ⟨w0, HW0⟩ : ∃ w0, Hid (w0 = w.alloc (.cells (bkC a p) 53)) := ⟨_, rfl⟩
  have hb0 : Below w.heap.size w w0 := by rw [HW0.out]; exact (Below.refl _ _).alloc (Nat.le_refl _) _
  obtain ⟨b, HB⟩ : ∃ b, Hid (b = w.heap.size) := ⟨_, rfl⟩
  have r0 : w0.heap[b]? = some (.cells (bkC a p) 53 (0, 0)) := by rw [HW0.out, HB.out]; exact heap_alloc_new w _
  have HCE : Hid (∀ u, Below w0.heap.size w0 u → u.cell? ⟨b, 0, none⟩ = some (.int .u32 (a : Int)) ∧ u.cell? ⟨b, 1, none⟩ = some (.int .u16 (p : Int))) := fun u hu => by
    have := below_keeps hu r0 (Array.getElem?_eq_some_iff.1 r0).1
    constructor <;> (rw [cell_of_row _ _ _ _ _ _ this]; rfl)
  have HB0 := hid hb0
  have H1 := hid (fun u => hash32_any h a u hh ha)
  have H2 := hid (fun u => hash16_any _ p u (h32_lt h a) hp)
  have hX := h16_lt (h32 h a) p
  have hx1 : bits .xor .u64 ((h16 (h32 h a) p : Nat) : Int) (((h16 (h32 h a) p : Nat) : Int) / 4294967296) = ((h16 (h32 h a) p ^^^ h16 (h32 h a) p / 4294967296 : Nat) : Int) := by
    rw [show ((h16 (h32 h a) p : Nat) : Int) / 4294967296 = ((h16 (h32 h a) p / 4294967296 : Nat) : Int) by omega]
    exact bits_xor_u64_nat _ _ hX (by omega)
  have hm : IntKind.u64.wrap (((h16 (h32 h a) p ^^^ h16 (h32 h a) p / 4294967296 : Nat) : Int) * 11400714819323198485) = (((h16 (h32 h a) p ^^^ h16 (h32 h a) p / 4294967296) * 11400714819323198485 % 18446744073709551616 : Nat) : Int) := wrap_mul _ 11400714819323198485
  have hY : (h16 (h32 h a) p ^^^ h16 (h32 h a) p / 4294967296) * 11400714819323198485 % 18446744073709551616 < 18446744073709551616 := Nat.mod_lt _ (by decide)
  have hx2 : bits .xor .u64 (((h16 (h32 h a) p ^^^ h16 (h32 h a) p / 4294967296) * 11400714819323198485 % 18446744073709551616 : Nat) : Int) ((((h16 (h32 h a) p ^^^ h16 (h32 h a) p / 4294967296) * 11400714819323198485 % 18446744073709551616 : Nat) : Int) / 536870912) = ((wgt h a p : Nat) : Int) := by
    rw [show ∀ z : Nat, (z : Int) / 536870912 = ((z / 536870912 : Nat) : Int) from fun z => by omega]
    exact bits_xor_u64_nat _ _ hY (by omega)
  generalize wgt h a p = R at *
  generalize (h16 (h32 h a) p ^^^ h16 (h32 h a) p / 4294967296) * 11400714819323198485 % 18446744073709551616 = yy at *
  generalize h16 (h32 h a) p ^^^ h16 (h32 h a) p / 4294967296 = zz at *
  generalize h16 (h32 h a) p = xx at *
  generalize h32 h a = x0 at *
  generalize bkC a p = bc at *
  clear hb0 r0 hh hX hY
  go_enter Tryd.func40, Tryd.ntmps40
  go_upto_region 1 with fail
  rw [← HW0.out, ← HB.out]
  refine wp_region_guarded' 7 (fun i => ([6, 7, 8, 9, 10, 11, 12] : List Tmp).getD i 0) (Vs [.int .u64 (h : Int), .pointer (some ⟨b, 0, none⟩), .int .u32 (a : Int), .int .u64 (x0 : Int), .pointer (some ⟨b, 1, none⟩), .int .u16 (p : Int), .int .u64 (xx : Int)]) (fun u => Below w0.heap.size w0 u) (fun _ u u' => Below u.heap.size u u') (by kernel_rfl) (by kernel_rfl) ⟨rfl, rfl, rfl, Nat.le_refl _, fun _ _ => rfl⟩ (fun _ _ _ _ _ _ h _ _ => h) ?_ ?_
  · simp only [List.take_succ_cons, List.take_zero, stepsG]
    refine ⟨?_, ?_, ?_, ?_, ?_, ?_, ?_, trivial⟩
    · intro ac u vs hI hold hdep
      exact opAt_plain rfl (wp_still (ex_move (.tmp 0) _ rfl (hold 0 (dlM (L := [6, 7, 8, 9, 10, 11, 12]) (by decide)))) rfl rfl hI)
    · intro ac u vs hI hold hdep
      exact opAt_plain rfl (wp_still (ex_field _ ⟨b, 0, none⟩ (.tmp 3) 0 _ rfl (hold 3 (dlM (L := [6, 7, 8, 9, 10, 11, 12]) (by decide))) ((bk_fl b u).1)) rfl rfl hI)
    · intro ac u vs hI hold hdep
      exact opAt_plain rfl (wp_still (ex_load _ ⟨b, 0, none⟩ (.tmp 7) _ rfl (Vs.dep (hdep ⟨1, .data⟩ (by simp) rfl (by decide)) rfl) (ldAq (HCE.out u hI).1)) rfl rfl hI)
    · intro ac u vs hI hold hdep
      have e0 : ac.eval (.tmp 6) = .int .u64 (h : Int) := (Vs.dep (hdep ⟨0, .data⟩ (by simp) rfl (by decide)) rfl)
      have e1 : ac.eval (.tmp 8) = .int .u32 (a : Int) := (Vs.dep (hdep ⟨2, .data⟩ (by simp) rfl (by decide)) rfl)
      refine opAt_plain rfl ?_
      refine wp_call 60 _ _ rfl (enters_of Tryd.func60 (by kernel_rfl) rfl) #[.int .u64 (h : Int), .int .u32 (a : Int)] (by simp only [List.map_toArray, List.map_cons, List.map_nil, e0, e1]) ?_
      refine (CB1 (H1.out u)).mono ?_
      rintro _ u' ⟨rfl, hb'⟩
      exact ⟨_, rfl, _, rfl, rfl, hI.trans (hb'.mono hI.size), hb'⟩
    · intro ac u vs hI hold hdep
      exact opAt_plain rfl (wp_still (ex_field _ ⟨b, 0, none⟩ (.tmp 3) 1 _ rfl (hold 3 (dlM (L := [6, 7, 8, 9, 10, 11, 12]) (by decide))) ((bk_fl b u).2)) rfl rfl hI)
    · intro ac u vs hI hold hdep
      exact opAt_plain rfl (wp_still (ex_load _ ⟨b, 1, none⟩ (.tmp 10) _ rfl (Vs.dep (hdep ⟨4, .data⟩ (by simp) rfl (by decide)) rfl) (ldP (HCE.out u hI).2)) rfl rfl hI)
    · intro ac u vs hI hold hdep
      have e0 : ac.eval (.tmp 9) = .int .u64 (x0 : Int) := (Vs.dep (hdep ⟨3, .data⟩ (by simp) rfl (by decide)) rfl)
      have e1 : ac.eval (.tmp 11) = .int .u16 (p : Int) := (Vs.dep (hdep ⟨5, .data⟩ (by simp) rfl (by decide)) rfl)
      refine opAt_plain rfl ?_
      refine wp_call 62 _ _ rfl (enters_of Tryd.func62 (by kernel_rfl) rfl) #[.int .u64 (x0 : Int), .int .u16 (p : Int)] (by simp only [List.map_toArray, List.map_cons, List.map_nil, e0, e1]) ?_
      refine (CB1 (H2.out u)).mono ?_
      rintro _ u' ⟨rfl, hb'⟩
      exact ⟨_, rfl, _, rfl, rfl, hI.trans (hb'.mono hI.size), hb'⟩
  intro vs u hI hF
  have e0 : vs 0 = .int .u64 (h : Int) := (Option.some.inj (hF 0 (by decide))).symm
  have e1 : vs 1 = .pointer (some ⟨b, 0, none⟩) := (Option.some.inj (hF 1 (by decide))).symm
  have e2 : vs 2 = .int .u32 (a : Int) := (Option.some.inj (hF 2 (by decide))).symm
  have e3 : vs 3 = .int .u64 (x0 : Int) := (Option.some.inj (hF 3 (by decide))).symm
  have e4 : vs 4 = .pointer (some ⟨b, 1, none⟩) := (Option.some.inj (hF 4 (by decide))).symm
  have e5 : vs 5 = .int .u16 (p : Int) := (Option.some.inj (hF 5 (by decide))).symm
  have e6 : vs 6 = .int .u64 (xx : Int) := (Option.some.inj (hF 6 (by decide))).symm
  clear hF
  simp only [List.drop_succ_cons, List.drop_zero, puts, List.range, List.range.loop, List.foldr, if_true, List.getD_cons_zero, List.getD_cons_succ, e0, e1, e2, e3, e4, e5, e6, Act.put, List.setIfInBounds_toArray, List.set_cons_zero, List.set_cons_succ]
  clear e0 e1 e2 e3 e4 e5 e6
  have HI := hid (HB0.out.trans (hI.mono HB0.out.size))
  clear hI H1 H2 HCE
  go_wp2_with (simp only [hx1, hm, hx2])
  go_ret
  exact ⟨rfl, HI.out⟩
end Go.Proofs.YthpokoiclfbddaaDoor.Nq
