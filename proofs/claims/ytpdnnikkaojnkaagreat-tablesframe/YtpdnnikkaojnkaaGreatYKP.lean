import Derived.Test.YtpdnnikkaojnkaaGreatYKO
import Derived.Deep.MidRow
namespace Go.Proofs.YtpdnnikkaojnkaaGreat.Rt
open Go.Proofs.YtpdnnikkaojnkaaGreat Go.ChangeShapes Go.WideShapes Go.ChangeAt Go.RowKit Go.Maps Tri N
set_option maxHeartbeats 8000000
set_option maxRecDepth 100000
def SeesOp (K : Nat -> Prop) (w : World) (a : Option Addr) (n : Nat) (L : List Opv) : Prop :=
 n = L.length /\ (L = [] \/ ∃ g off, a = some ⟨g, off, none⟩ /\ K g /\ g < w.heap.size /\ ∀ j o, L[j]? = some o -> w.rangeAt g (off + j * 19) o.cells.toList)
theorem SeesOp.load {K : Nat -> Prop} {w : World} {a : Option Addr} {n : Nat} {L : List Opv} (h : SeesOp K w a n L) {j : Nat} {o : Opv} (ho : L[j]? = some o) : ∃ g off, a = some ⟨g, off, none⟩ /\ (Instr.loadAt 46 (.pointer (some ⟨g, off + j * 19, none⟩))).run Tryz.prog w = .ok (.agg o.cells) w := by
 rcases h.2 with h0 | ⟨g, off, h1, _, _, h3⟩
 ·rw [h0] at ho; cases ho
 ·exact ⟨g, off, h1, run_loadAt_mid w g (off + j * 19) 46 o.cells.toList _ (h3 j o ho) Tryz.underlying46 rfl (by kernel_rfl)⟩
theorem SeesOp.kept {K : Nat -> Prop} {w w' : World} {a : Option Addr} {n : Nat} {L : List Opv} (h : SeesOp K w a n L) (hk : ∀ g, K g -> g < w.heap.size -> w'.heap[g]? = w.heap[g]?) (hs : w.heap.size <= w'.heap.size) : SeesOp K w' a n L := by
 refine ⟨h.1, ?_⟩
 rcases h.2 with h0 | ⟨g, off, h1, h2, h4, h3⟩
 ·exact .inl h0
 ·exact .inr ⟨g, off, h1, h2, Nat.lt_of_lt_of_le h4 hs, fun j o ho i v hv => (World.cell?_of_block (hk g h2 h4)).trans (h3 j o ho i v hv)⟩
theorem SeesOp.below {K : Nat -> Prop} {w w' : World} {a : Option Addr} {n : Nat} {L : List Opv} (h : SeesOp K w a n L) (hb : Below w.heap.size w w') : SeesOp K w' a n L := h.kept (fun g _ hl => hb.block g hl) hb.size
theorem SeesOp.more {K K' : Nat -> Prop} {w : World} {a : Option Addr} {n : Nat} {L : List Opv} (h : SeesOp K w a n L) (hk : ∀ c, c < w.heap.size -> K c -> K' c) : SeesOp K' w a n L := ⟨h.1, h.2.imp id fun ⟨g, off, h1, h2, h4, h3⟩ => ⟨g, off, h1, hk g h4 h2, h4, h3⟩⟩
theorem SeesOp.nil (K : Nat -> Prop) (w : World) (a : Option Addr) : SeesOp K w a 0 [] := ⟨rfl, .inl rfl⟩
theorem map_no {κ ε : Type} {G : Sg κ ε} {w : World} {bm c : Nat} {f : κ -> Option ε} (h : MapG G w bm f c) {row : Array Value} {T : TypeId} : w.heap[bm]? ≠ some (.cells row T) := by
 obtain ⟨D, ⟨es, clock, h0, _⟩, _⟩ := h
 intro e
 rw [h0] at e
 cases e
theorem chg_ops {K : Nat -> Prop} {w w' : World} {b : Bks} {a : Option Addr} {n : Nat} {L : List Opv} (hs : SeesOp K w a n L) (hK : ∀ c, K c -> c ≠ b.tb /\ c ≠ b.bm /\ c ≠ b.fm) (hc : Chg (fun c => c = b.tb \/ c = b.bm \/ c = b.fm) w w') : SeesOp K w' a n L := hs.kept (fun g hg hl => hc.block g hl fun hx => by
 have := hK g hg
 rcases hx with e | e | e <;> simp [e] at this) hc.size
def opZ : Array Value := #[.int .i64 0, .int .u32 0, .int .i64 0, .int .u32 0, .bool false, .int .u32 0, .int .u8 0, .int .u8 0, .int .u8 0, .int .u8 0, .int .u8 0, .int .u8 0, .int .u8 0, .int .u8 0, .int .u8 0, .int .u8 0, .int .u8 0, .int .u8 0, .int .u32 0]
theorem alloc_op (u : World) : (Instr.alloc 46 true (.tuple #[])).run Tryz.prog u = .ok (.pointer (some ⟨u.heap.size, 0, none⟩)) (u.alloc (.cells opZ 46)) := by kernel_rfl
theorem wpList_alB {ops : Array Oper} {Q : Exit -> Act -> World -> Prop} {a : Act} {w : World} {rest : List Oper} {o : Oper} (hgd : o.guard = none) (T : TypeId) (z : Array Value) (ho : o.op = .alloc T) (hr : ∀ u : World, (Instr.alloc T true (.tuple #[])).run Tryz.prog u = .ok (.pointer (some ⟨u.heap.size, 0, none⟩)) (u.alloc (.cells z T)))
  (h : ∀ w', Below w.heap.size w w' -> w'.heap.size = w.heap.size + 1 -> w'.heap[w.heap.size]? = some (.cells z T) -> wpList Tryz.prog ops Q rest (a.put o.dst (.pointer (some ⟨w.heap.size, 0, none⟩))) w') : wpList Tryz.prog ops Q (o :: rest) a w :=
 wpList_plain hgd fun _ hK => wp_val (ex_alloc w ho hr) (hK _ _ (h _ (bR.alloc nL _) (by simp) (heap_alloc_new w _)))
theorem wpList_stB {ops : Array Oper} {Q : Exit -> Act -> World -> Prop} {a : Act} {w : World} {rest : List Oper} {o : Oper} (hgd : o.guard = none) (T : TypeId) (x y : Operand) (ho : o.op = .store T x y) (g : Nat) (row : Array Value) (hx : a.eval x = .pointer (some ⟨g, 0, none⟩)) (hy : a.eval y = .agg row) (old : Array Value) (hg : w.heap[g]? = some (.cells old T (0, 0))) (hi : (Tryz.prog.info? T).map (·.size) = some row.size) (hs : old.size = row.size) (h1 : row.all (·.oneCell') = true)
  (h : ∀ w', But g w w' -> w'.heap[g]? = some (.cells row T) -> wpList Tryz.prog ops Q rest (a.put o.dst undef) w') : wpList Tryz.prog ops Q (o :: rest) a w :=
 wpList_plain hgd fun _ hK => wp_store_row T x y ho g row hx hy T old hg hi hs h1 (hK _ _ (h _ (But.setRow g w row) (setRow_heap w g old row T (0, 0) hg)))
theorem do_any {X K : Nat -> Prop} {b : Bks} {s : Ks} (w : World) {a : Option Addr} {n : Nat} (c : Nat) {L : List Opv} (h : KAt w X b s) (hs : SeesOp K w a n L) (hK : ∀ c, K c -> c ≠ b.tb /\ c ≠ b.bm /\ c ≠ b.fm) (hL : ∀ o ∈ L, o.Ok) (hn : n <= 9223372036854775807) :
  Calls Tryz.prog 7 #[.pointer (some ⟨b.kb, 0, none⟩), .slice a n c] w fun e w' => e = .returned (.tuple #[.int .i64 (doN s L : Int), .int .i64 (doE s L)]) /\ KAt w' X b (doS s L) /\ Chg (fun c => c = b.tb \/ c = b.bm \/ c = b.fm) w w' := by
 obtain ⟨dn, HDN⟩ : ∃ dn, Hid (dn = doN s L) := ⟨_, rfl⟩
 obtain ⟨de, HDE⟩ : ∃ de, Hid (de = doE s L) := ⟨_, rfl⟩
 rw [<- HDN.out, <- HDE.out]
 have HL := hid hL
 have HNL := hid hs.1
 have HK := hid h
 have HSS := hid hs
 have HKK := hid hK
 clear h hs hL hK
 go_enter Tryz.func7, Tryz.ntmps7
 go_upto_region 2 with fail
 go_loopw [11] (fun i wr => ∃ (j : Nat) (wx : World), wx = wr /\ i = .int .i64 (j : Int) /\ j <= n /\ Hid (∃ t, KAt wx X b t /\ SeesOp K wx a n L /\ Chg (fun c => c = b.tb \/ c = b.bm \/ c = b.fm) w wx /\ doN s L = j + doN t (L.drop j) /\ doE s L = doE t (L.drop j) /\ doS s L = doS t (L.drop j))) (fun i _ => n - (intOf i).toNat)
 case atStart => exact ⟨0, _, rfl, rfl, Nat.zero_le _, s, HK.out, HSS.out, Chg.refl _ _, by simp, by simp, by simp⟩
 case round =>
 obtain ⟨j, wx, rfl, rfl, hj, HI⟩ := hrel
 obtain ⟨t, hk, hso, hch, q1, q2, q3⟩ := HI.out
 by_cases hjn : j < n
 ·have b1 : (j : Int) < (n : Int) := by omega
  have b2 : (0 : Int) <= (j : Int) := by omega
  have hjl : j < L.length := by have := HNL.out; omega
  obtain ⟨o, ho⟩ : ∃ o, L[j]? = some o := ⟨_, List.getElem?_eq_getElem hjl⟩
  obtain ⟨g, off, rfl, hld⟩ := hso.load ho
  have HLD := hid hld
  have HO := hid ho
  have HKX := hid hk
  have HSX := hid hso
  have HCX := hid hch
  have HOK : Hid (o.Ok) := HL.out o (List.mem_of_getElem? ho)
  have hdr : L.drop j = o :: L.drop (j + 1) := by
   obtain ⟨h1, h2⟩ := List.getElem?_eq_some_iff.1 ho
   rw [List.drop_eq_getElem_cons h1, h2]
  rw [hdr] at q1 q2 q3
  have HQ := hid (And.intro q1 (And.intro q2 q3))
  clear hld ho hk hso hch q1 q2 q3 hdr HI HK HSS hjl
  go_upto_region 4 with (first | (refine wpList_ld 46 ⟨g, off + j * 19, none⟩ (.tmp 14) rfl rfl HLD.out rfl ?_) | (refine wpList_alB rfl 46 opZ rfl alloc_op ?_; intro w1 hb1 hs1 hr1) | (refine wpList_stB rfl 46 (.tmp 7) (.tmp 15) rfl wx.heap.size o.cells rfl rfl opZ hr1 (by kernel_rfl) rfl (by simp [Opv.cells, Value.oneCell']) ?_; intro w2 hbt hr2) | fail)
  have hb2 : Below wx.heap.size wx w2 := ⟨hbt.os.trans hb1.os, hbt.tape.trans hb1.tape, hbt.output.trans hb1.output, Nat.le_trans hb1.size hbt.size, fun k hk => (hbt.block k (by omega) (by omega)).trans (hb1.block k hk)⟩
  have HLD2 := hid (OpB.load (w := w2) (b := wx.heap.size) (o := o) hr2)
  have hk2 := HKX.out.below hb2
  have HC := hid (change_any w2 o hk2 HOK.out)
  have HS2 := hid (HSX.out.below hb2)
  have HK2 := hid hk2
  have HC2 : Hid (Chg (fun c => c = b.tb \/ c = b.bm \/ c = b.fm) w w2) := HCX.out.trans (Chg.of_below hb2)
  obtain ⟨x, HX⟩ : ∃ x, Hid (x = oneE t o) := ⟨_, rfl⟩
  rw [<- HX.out] at HC
  clear hb2 hk2 hr2 hbt hb1 hs1 hr1 HKX HSX HCX HLD
  go_wp2_with (first | (refine wpList_ld 46 ⟨wx.heap.size, 0, none⟩ (.tmp 7) rfl rfl HLD2.out rfl ?_) | fail)
  refine HC.out.mono ?_
  rintro _ w3 ⟨rfl, hk3, hc3⟩
  have hso3 := chg_ops HS2.out HKK.out hc3
  have hch3 := HC2.out.trans hc3
  obtain ⟨q1, q2, q3⟩ := HQ.out
  by_cases hx : x = 0
  ·have h0 : oneE t o = 0 := HX.out ▸ hx
   subst hx
   simp only [doN, doE, doS, h0, if_true] at q1 q2 q3
   have HI3 : Hid (∃ t, KAt w3 X b t /\ SeesOp K w3 (some ⟨g, off, none⟩) n L /\ Chg (fun c => c = b.tb \/ c = b.bm \/ c = b.fm) w w3 /\ doN s L = (j + 1) + doN t (L.drop (j + 1)) /\ doE s L = doE t (L.drop (j + 1)) /\ doS s L = doS t (L.drop (j + 1))) := ⟨_, hk3, hso3, hch3, by omega, q2, q3⟩
   clear hk3 hc3 hso3 hch3 q1 q2 q3 HQ h0 HC HK2 HS2 HC2 HX
   go_wp2_with fail
   go_roundw
   case rel => exact ⟨j + 1, _, rfl, by go_num, by omega, HI3.out⟩
   case measure => simp [intOf]; omega
  ·have h0 : oneE t o ≠ 0 := HX.out ▸ hx
   simp only [doN, doE, doS, h0, if_false] at q1 q2 q3
   rw [oneS_ne h0] at hk3
   have e1 : dn = j := by rw [HDN.out, q1]; rfl
   have e2 : de = x := by rw [HDE.out, q2, HX.out]
   have HF : Hid (KAt w3 X b (doS s L) /\ Chg (fun c => c = b.tb \/ c = b.bm \/ c = b.fm) w w3) := ⟨by rw [q3]; exact hk3, hch3⟩
   subst e1 e2
   clear hk3 hc3 hso3 hch3 q1 q2 q3 HQ h0 HC HK2 HS2 HC2 HX
   go_wp2_with fail
   go_ret2
   exact ⟨rfl, HF.out⟩
 ·have b1 : ¬ (j : Int) < (n : Int) := by omega
  obtain rfl : j = n := by omega
  have hdr : L.drop j = [] := List.drop_of_length_le (by rw [<- HNL.out]; exact nL)
  rw [hdr] at q1 q2 q3
  have e1 : dn = j := by rw [HDN.out, q1]; simp [doN]
  have e2 : de = 0 := by rw [HDE.out, q2]; rfl
  have HF : Hid (KAt wx X b (doS s L) /\ Chg (fun c => c = b.tb \/ c = b.bm \/ c = b.fm) w wx) := ⟨by rw [q3]; exact hk, hch⟩
  subst e1 e2
  clear hk hso hch q1 q2 q3 hdr HI HK HSS
  go_wp2_with fail
  go_ret2
  exact ⟨rfl, HF.out⟩
end Go.Proofs.YtpdnnikkaojnkaaGreat.Rt
