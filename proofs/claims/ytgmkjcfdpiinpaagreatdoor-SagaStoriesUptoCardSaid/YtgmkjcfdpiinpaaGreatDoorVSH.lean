import Derived.Lib.SlBytesConst
import Derived.Test.YtgmkjcfdpiinpaaGreatDoorVS8
namespace Go.Proofs.YtgmkjcfdpiinpaaGreatDoor
open Go Go.RowKit
open Wb

def upK (x : SN) (j : Nat) : List Int := (([2, 3, 4, 5, 6, 7] : List Int).take (j - 2)).filter x.may
theorem snum_any (z : Int) (w : World) : Calls Tryz.prog 11 #[.int .i64 z] w fun e w' => e = .returned (.int .i64 z) ∧ w = w' := by
 go_enter Tryz.func11, Tryz.ntmps11
 go_wp2
 go_ret
 exact ⟨rfl, rfl⟩
theorem results_cell_cell {P : Program} {fn : Func} {p q : Tmp} {ty ty2 : TypeId} (h : fn.results = #[.cell p ty, .cell q ty2]) (tmps : Array Value) (w : World) (g g2 : Nat) (cs cs2 : List Value) (d d2 : TypeDesc)
  (hp : tmps.getD p undef = .pointer (some ⟨g, 0, none⟩)) (hc : w.rangeAt g 0 cs) (hu : P.underlying ty = some d) (hd : d.isRow = true) (hi : (P.info? ty).map (·.size) = some cs.length)
  (hp2 : tmps.getD q undef = .pointer (some ⟨g2, 0, none⟩)) (hc2 : w.rangeAt g2 0 cs2) (hu2 : P.underlying ty2 = some d2) (hd2 : d2.isRow = true) (hi2 : (P.info? ty2).map (·.size) = some cs2.length) :
  (results fn tmps).run P w = .ok (.tuple #[.agg cs.toArray, .agg cs2.toArray]) w := by
 have hp' : tmps[p]?.getD undef = .pointer (some ⟨g, 0, none⟩) := by simpa using hp
 have hp2' : tmps[q]?.getD undef = .pointer (some ⟨g2, 0, none⟩) := by simpa using hp2
 simp [results, h, hp', hp2', asAddr, run_loadVar_mid w g 0 ty cs d hc hu hd hi, run_loadVar_mid w g2 0 ty2 cs2 d2 hc2 hu2 hd2 hi2]
def buy : ByteArray := ⟨#[98, 117, 121]⟩
def rec1 : Rec := ⟨⟨3, 1, 7, 0, 0, 5, 0, 0, 2, 1⟩, buy, [105, 110]⟩
def sg1 : Sg := ⟨⟨7, 2, 1, 5, 5, 1, 0, false, 0, 0, 0⟩, buy, [105, 110], [], [], []⟩
theorem in_newM (w : World) : Bs (w.alloc (.cells #[.int .u8 105, .int .u8 110] 5 (2, 3))) (.slice (some ⟨w.heap.size, 0, none⟩) 2 2) [105, 110] := by
 refine ⟨⟨some ⟨w.heap.size, 0, none⟩, 2, rfl, Nat.le_refl _, by simp [maxLen], fun e => (by cases e), fun _ => ⟨w.heap.size, 0, rfl, fun j hj => ?_⟩⟩, by intro x hx; simp at hx; omega⟩
 have e := heap_new w (.cells #[.int .u8 105, .int .u8 110] 5 (2, 3))
 rw [Nat.zero_add]
 match j, hj with
 | 0, _ => unfold World.cell?; rw [e]; rfl
 | 1, _ => unfold World.cell?; rw [e]; rfl
def FirstPost (w : World) (e : Ending) (w' : World) : Prop := ∃ a, ∃ c : Nat, ∃ h1 : SH, e = .returned (.tuple #[rv rec1.x rec1.nm (.slice a rec1.l.length c), sv sg1 h1]) ∧ Bs w' (.slice a rec1.l.length c) rec1.l ∧ SgAt w' sg1 h1 ∧ Below w.heap.size w w'
set_option maxRecDepth 100000 in
set_option maxHeartbeats 4000000 in
theorem first_any (w : World) : Calls Tryz.prog 9 #[] w fun e w' => FirstPost w e w' := by
 obtain ⟨Z, hZ⟩ : ∃ Z, Z = zcl := ⟨_, rfl⟩
 obtain ⟨ZR, hZR⟩ : ∃ ZR, ZR = zrl := ⟨_, rfl⟩
 have HZ : Hid (Z = zcl) := hZ
 have HZR : Hid (ZR = zrl) := hZR
 clear hZ hZR
 obtain ⟨L, hL⟩ : ∃ L : List Value, [.int .i64 3, .int .i64 1, .int .i64 7, .int .i64 0, .int .i64 0, .int .i64 5, .int .i64 0, .int .i64 0, .int .i64 2, .int .i64 1, .string ⟨#[98, 117, 121]⟩, .slice (some ⟨w.heap.size + 1 + 1, 0, none⟩) 2 2] = L := ⟨_, rfl⟩
 have HL : Hid (L = rcE rec1.x rec1.nm (.slice (some ⟨w.heap.size + 1 + 1, 0, none⟩) 2 2)) := hL.symm
 have HLI : Hid ((Tryz.prog.info? 28).map (·.size) = some L.length) := by show _ = _; rw [HL.out]; exact infoRec
 have HL1 : Hid (∀ v ∈ L, v.oneCell' = true) := by show ∀ v ∈ L, _; rw [HL.out]; exact rcE_one _ _ _ rfl
 have HLZ : Hid (L.length = ZR.length) := by show _ = _; rw [HL.out, HZR.out]; rfl
 -- behind b's box
 have H3 : Hid (∃ W3, W3 = ((((w.alloc (.cells ZR.toArray 28)).alloc (.cells Z.toArray 31)).alloc (.cells #[.int .u8 105, .int .u8 110] 5 (2, 3))).alloc (.cells ZR.toArray 28)).setCells (w.heap.size + 1 + 1 + 1) 0 L ∧ LB W3 w.heap.size 28 ZR ∧ LB W3 (w.heap.size + 1) 31 Z ∧ LB W3 (w.heap.size + 1 + 1 + 1) 28 L ∧ Bs W3 (.slice (some ⟨w.heap.size + 1 + 1, 0, none⟩) 2 2) [105, 110] ∧ w.heap.size + 1 + 1 + 1 < W3.heap.size ∧ Below w.heap.size w W3) := by
  obtain ⟨a1, a2, a3⟩ := lb_new2 w ZR Z 28 31
  have b1 := in_newM ((w.alloc (.cells ZR.toArray 28)).alloc (.cells Z.toArray 31))
  rw [heap_one, heap_one] at b1
  have c1 := lb_new (((w.alloc (.cells ZR.toArray 28)).alloc (.cells Z.toArray 31)).alloc (.cells #[.int .u8 105, .int .u8 110] 5 (2, 3))) ZR 28
  rw [heap_one, heap_one, heap_one] at c1
  have hb := (b1.alloc (.cells ZR.toArray 28))
  refine ⟨_, rfl, ((a1.kept (up0 _ _)).kept (up0 _ _)).others _ _ _ (by omega), ((a2.kept (up0 _ _)).kept (up0 _ _)).others _ _ _ (by omega), c1.sets L HLZ.out, bs_off hb _ _ _ (fun _ b off n cap e => ?_), by rw [size_cells, heap_one, heap_one, heap_one, heap_one]; omega, below_cells (by omega) _ 0 _ (up (up a3 _) _)⟩
  simp only [Value.slice.injEq, Option.some.injEq, Addr.mk.injEq] at e
  omega
 have kc : (convert 26 26 (.slice (some ⟨w.heap.size + 1 + 1, 0, none⟩) 2 2)).run Tryz.prog (((w.alloc (.cells ZR.toArray 28)).alloc (.cells Z.toArray 31)).alloc (.cells #[.int .u8 105, .int .u8 110] 5)) = .ok (.slice (some ⟨w.heap.size + 1 + 1, 0, none⟩) 2 2) (((w.alloc (.cells ZR.toArray 28)).alloc (.cells Z.toArray 31)).alloc (.cells #[.int .u8 105, .int .u8 110] 5 (2, 3))) := by
  have e := Lib.run_convert_bytes_const (P := Tryz.prog) ((w.alloc (.cells ZR.toArray 28)).alloc (.cells Z.toArray 31)) 26 5 #[.int .u8 105, .int .u8 110] 2 2 Tryz.underlying26 Tryz.underlying5
  rw [heap_one, heap_one] at e
  exact e
 have HZL : Hid (Z.length = 16) := by show _ = _; rw [HZ.out]; rfl
 go_enter Tryz.func9, Tryz.ntmps9
 go_wp2_with (first | (refine wpList_alloc_R HZR.out rfl rfl ?_; (try simp only [heap_one])) | (refine wpList_alloc_Z HZ.out rfl rfl ?_; (try simp only [heap_one])) | (refine wpList_store_mid rfl 28 (.tmp 2) (.tmp 5) rfl (w.heap.size + 1 + 1 + 1) 0 L.toArray rfl rfl (there_of (Z := ZR) (by have c1 := lb_new (((w.alloc (.cells ZR.toArray 28)).alloc (.cells Z.toArray 31)).alloc (.cells #[.int .u8 105, .int .u8 110] 5 (2, 3))) ZR 28; rw [heap_one, heap_one, heap_one] at c1; exact c1) (by simpa using HLZ.out)) (by simpa using HLI.out) (all_oneCell_toArray HL1.out) ?_; (obtain ⟨W3, hW3, hq⟩ := H3.out); (have H4 : Hid _ := hq); (rw [List.toList_toArray, ← hW3]); (have kc3 : (convert 26 26 (.slice (some ⟨W3.heap.size, 0, none⟩) 2 2)).run Tryz.prog (W3.alloc (.cells #[.int .u8 105, .int .u8 110] 5)) = .ok (.slice (some ⟨W3.heap.size, 0, none⟩) 2 2) (W3.alloc (.cells #[.int .u8 105, .int .u8 110] 5 (2, 3))) := Lib.run_convert_bytes_const (P := Tryz.prog) W3 26 5 #[.int .u8 105, .int .u8 110] 2 2 Tryz.underlying26 Tryz.underlying5); (clear hW3 hq H3); (obtain ⟨M, hM⟩ : ∃ M : List Value, [.int .i64 7, .string ⟨#[98, 117, 121]⟩, .int .i64 2, .int .i64 1, .int .i64 5, .int .i64 5, .slice (some ⟨W3.heap.size, 0, none⟩) 2 2, .int .i64 1, .int .i64 0, .bool false, .int .i64 0, .slice none 0 0, .slice none 0 0, .int .i64 0, .int .i64 0, .slice none 0 0] = M := ⟨_, rfl⟩); (have HM : Hid (M = scl sg1 ⟨some ⟨W3.heap.size, 0, none⟩, 2, none, 0, none, 0, none, 0⟩) := hM.symm); (have HMI : Hid ((Tryz.prog.info? 31).map (·.size) = some M.length) := (by show _ = _; rw [HM.out]; exact infoSaga)); (have HM1 : Hid (∀ v ∈ M, v.oneCell' = true) := (by show ∀ v ∈ M, _; rw [HM.out]; exact scl_one _ _)); (have HMZ : Hid (M.length = Z.length) := (by show _ = _; rw [HM.out, HZL.out]; rfl))) | (refine wpList_load_mid rfl 28 _ rfl (w.heap.size + 1 + 1 + 1) 0 rfl L _ H4.out.2.2.1.range Tryz.underlying28 rfl HLI.out ?_) | (refine wpList_store_mid rfl 28 (.tmp 0) (.tmp 6) rfl w.heap.size 0 L.toArray rfl rfl (there_of (H4.out.1.kept (up0 _ _)) (by simpa using HLZ.out)) (by simpa using HLI.out) (all_oneCell_toArray HL1.out) ?_; (rw [List.toList_toArray])) | (refine wpList_store_mid rfl 31 (.tmp 1) (.tmp 9) rfl (w.heap.size + 1) 0 M.toArray rfl rfl (there_of ((H4.out.2.1.kept (up0 _ _)).others _ _ _ (by omega)) (by simpa using HMZ.out)) (by simpa using HMI.out) (all_oneCell_toArray HM1.out) ?_; (rw [List.toList_toArray])) | fail)
 have HN : Hid (LB (((W3.alloc (.cells #[.int .u8 105, .int .u8 110] 5 (2, 3))).setCells w.heap.size 0 L).setCells (w.heap.size + 1) 0 M) w.heap.size 28 L ∧ LB (((W3.alloc (.cells #[.int .u8 105, .int .u8 110] 5 (2, 3))).setCells w.heap.size 0 L).setCells (w.heap.size + 1) 0 M) (w.heap.size + 1) 31 M ∧ Bs (((W3.alloc (.cells #[.int .u8 105, .int .u8 110] 5 (2, 3))).setCells w.heap.size 0 L).setCells (w.heap.size + 1) 0 M) (.slice (some ⟨w.heap.size + 1 + 1, 0, none⟩) 2 2) [105, 110] ∧ Bs (((W3.alloc (.cells #[.int .u8 105, .int .u8 110] 5 (2, 3))).setCells w.heap.size 0 L).setCells (w.heap.size + 1) 0 M) (.slice (some ⟨W3.heap.size, 0, none⟩) 2 2) [105, 110] ∧ Below w.heap.size w (((W3.alloc (.cells #[.int .u8 105, .int .u8 110] 5 (2, 3))).setCells w.heap.size 0 L).setCells (w.heap.size + 1) 0 M)) := by
  obtain ⟨q1, q2, q3, q4, q5, q6⟩ := H4.out
  have hoff : ∀ (b g : Nat), b ≠ g → Off g (.slice (some ⟨b, 0, none⟩) 2 2) [105, 110] := fun b g hne _ b' off n cap e => by
   simp only [Value.slice.injEq, Option.some.injEq, Addr.mk.injEq] at e
   omega
  exact ⟨((q1.kept (up0 _ _)).sets L HLZ.out).others _ _ _ (by omega), ((q2.kept (up0 _ _)).others _ _ _ (by omega)).sets M HMZ.out, bs_off (bs_off (q4.alloc _) _ _ _ (hoff _ _ (by omega))) _ _ _ (hoff _ _ (by omega)), bs_off (bs_off (in_newM W3) _ _ _ (hoff _ _ (by omega))) _ _ _ (hoff _ _ (by omega)), below_cells (by omega) _ 0 _ (below_cells (Nat.le_refl _) _ 0 _ (up q6 _))⟩
 refine bodyPost_ret (results_cell_cell (p := 0) (q := 1) (ty := 28) (ty2 := 31) rfl _ (((W3.alloc (.cells #[.int .u8 105, .int .u8 110] 5 (2, 3))).setCells w.heap.size 0 L).setCells (w.heap.size + 1) 0 M) w.heap.size (w.heap.size + 1) L M _ _ rfl HN.out.1.range Tryz.underlying28 rfl HLI.out rfl HN.out.2.1.range Tryz.underlying31 rfl HMI.out) rfl ?_
 exact ⟨some ⟨w.heap.size + 1 + 1, 0, none⟩, 2, ⟨some ⟨W3.heap.size, 0, none⟩, 2, none, 0, none, 0, none, 0⟩, by rw [HL.out, HM.out]; rfl, HN.out.2.2.1, ⟨HN.out.2.2.2.1, ⟨none, 0, rfl, by simp [sg1], fun e => absurd rfl e⟩, ⟨none, 0, rfl, by simp [sg1], fun e => absurd rfl e⟩, Bs.nil _⟩, HN.out.2.2.2.2⟩
def OutT (B : Nat) (w : World) (v : Value) (ps : List (Rec × Value)) : Prop := w.ownsRow B 28 12 v ps.length (ps.flatMap rcl) ∧ ∀ p ∈ ps, Own B w p.2 p.1.l
theorem OutT.nil (B : Nat) (w : World) : OutT B w (.slice none 0 0) [] := ⟨World.ownsRow_nil _ _ _ _, fun _ h => by cases h⟩
theorem OutT.kept {B : Nat} {w w' : World} {v : Value} {ps : List (Rec × Value)} (h : OutT B w v ps) (hb : Below w.heap.size w w') : OutT B w' v ps := ⟨ownsRec_kept h.1 hb, fun p hp => (h.2 p hp).kept hb⟩
theorem rrow_typed {B : Nat} {w : World} {v : Value} {n : Nat} {cs : List Value} (h : w.ownsRow B 28 12 v n cs) (b : Nat) (e : v.ownBlock = some b) : ∃ cs z, w.heap[b]? = some (.cells cs 28 z) := by
 rcases h.2 with ⟨rfl, _⟩ | ⟨g', cap, cur, rfl, _, hg', _⟩
 ·simp [Value.ownBlock] at e
 ·simp [Value.ownBlock] at e
  subst e
  exact ⟨_, _, hg'⟩
theorem rrow_kept2 {B : Nat} {w w' : World} {v : Value} {n : Nat} {cs : List Value} (h : w.ownsRow B 28 12 v n cs) (hb : ∀ g, v.ownBlock = some g → w'.heap[g]? = w.heap[g]?) : w'.ownsRow B 28 12 v n cs := by
 refine ⟨h.1, ?_⟩
 rcases h.2 with h1 | ⟨g, cap, cur, rfl, h1, hg, rest⟩
 ·exact .inl h1
 ·exact .inr ⟨g, cap, cur, rfl, h1, (hb g rfl).trans hg, rest⟩
theorem own_typed {B : Nat} {w : World} {d : Value} {l : List Nat} (h : Own B w d l) (b : Nat) (e : d.ownBlock = some b) : ∃ cs z, w.heap[b]? = some (.cells cs 5 z) := by
 rcases h.row.2 with ⟨e3, _⟩ | ⟨g', cap, cur, e3, _, hg', _⟩
 ·rw [e3] at e; simp [Value.ownBlock] at e
 ·rw [e3] at e; simp [Value.ownBlock] at e; subst e; exact ⟨_, _, hg'⟩
def ExT (t : Nat) (w w' : World) : Prop := ∀ b, b ≠ t → b < w.heap.size → w'.heap[b]? = w.heap[b]?
theorem OutT.but {B : Nat} {w w' : World} {v : Value} {ps : List (Rec × Value)} {t : Nat} {ty : TypeId} {C : List Value} (h : OutT B w v ps) (L : LB w t ty C) (h1 : ty ≠ 28) (h2 : ty ≠ 5) (ho : ExT t w w') : OutT B w' v ps :=
 ⟨rrow_kept2 h.1 fun g e => ho g (by rintro rfl; obtain ⟨cs, z, h9⟩ := rrow_typed h.1 g e; rw [L] at h9; simp at h9; exact h1 h9.2.1) (World.ownsRow.lt h.1 g e).2,
  fun p hp => own_keptB (h.2 p hp) fun g e => ho g (by rintro rfl; obtain ⟨cs, z, h9⟩ := own_typed (h.2 p hp) g e; rw [L] at h9; simp at h9; exact h2 h9.2.1) (own_block (h.2 p hp) g e).2⟩
def Fr (t : Nat) (w w' : World) : Prop := ∀ b ty C, b ≠ t → ty ≠ 28 → LB w b ty C → LB w' b ty C
theorem Fr.trans {t : Nat} {w w' w'' : World} (h : Fr t w w') (h2 : Fr t w' w'') : Fr t w w'' := fun b ty C h1 h3 h4 => h2 b ty C h1 h3 (h b ty C h1 h3 h4)
theorem Fr.below {t : Nat} {w w' : World} (h : Below w.heap.size w w') : Fr t w w' := fun _ _ _ _ _ h4 => h4.kept h
theorem Fr.ext {t : Nat} {w w' : World} (h : ExT t w w') : Fr t w w' := fun b _ _ h1 _ h4 => (h b h1 h4.lt).trans h4
theorem step_append_rec {P : Program} {ops : Array Oper} {o : Oper} {a : Act} {w : World} {K : Act → World → Prop} {Q : Exit → Act → World → Prop} {E : Prop} (hgd : o.guard = none) (s x : Operand) (t : TypeId)
  (ho : o.op = .call { callee := .builtin .append, args := #[s, x], argTypes := #[t, t] })
  (B : Nat) (hinfo : (P.info? 28).map (fun i => (i.zero, i.size, i.bytes)) = some (some (.agg #[.int .i64 0, .int .i64 0, .int .i64 0, .int .i64 0, .int .i64 0, .int .i64 0, .int .i64 0, .int .i64 0, .int .i64 0, .int .i64 0, .string ⟨#[]⟩, .slice none 0 0]), 12, 120)) (ht : P.underlying t = some (.slice 28))
  (v : Value) (ps : List (Rec × Value)) (q : Rec × Value) (hv : a.eval s = v) (h : OutT B w v ps) (g : Nat) (hx : a.eval x = .slice (some ⟨g, 0, none⟩) 1 1)
  (hc : w.rangeAt g 0 (rcl q)) (hq2 : Own B w q.2 q.1.l)
  (hmax : (ps.length + 1) * 120 ≤ 140737488355328) (hB : B ≤ w.heap.size)
  (hK : ∀ v' w', OutT B w' v' (ps ++ [q]) → Below B w w' → w.grownBy w' v.ownBlock → K (a.put o.dst v') w') :
  if Region.wanted o (yielded ops a.tmps) = true then Oper.wp P o a w K Q else E := by
 have hw : Region.wanted o (yielded ops a.tmps) = true := by simp [Region.wanted, hgd]
 rw [if_pos hw]
 obtain ⟨i0, hi, hz0, hz1, hz2⟩ := Lft.info_parts3 hinfo
 have hq : q.2.oneCell' = true := by rcases hq2.shape with ⟨e, _⟩ | ⟨_, _, e, _⟩ <;> (rw [e]; rfl)
 obtain ⟨v', w', hrun, h2, h3, _⟩ := run_append_own (P := P) w B t o.type 28 i0 _ 12 120 ht hi hz0 hz1 hz2 rfl (by decide) v ps.length (ps.flatMap rcl) h.1 ⟨g, 0, none⟩ 1 1 (rcl q) rfl (by
  intro j u hj
  have := hc j u hj
  rw [Addr.add_lit]
  exact this) (by
  intro u hu
  simp only [rcl, List.mem_cons, List.not_mem_nil, or_false] at hu
  rcases hu with rfl | rfl | rfl | rfl | rfl | rfl | rfl | rfl | rfl | rfl | rfl | rfl
  all_goals first | rfl | exact hq) (by unfold maxLen; omega) (by omega) hB
 unfold Oper.wp
 simp [execOp, ho, resolve, invoke, builtin, hv, hx, hrun, Result.andThen]
 have hown : w'.ownsRow B 28 12 v' (ps ++ [q]).length ((ps ++ [q]).flatMap rcl) := by
  rw [List.length_append, List.flatMap_append]
  simpa using h2
 have hne : ∀ (d : Value) (l : List Nat), Own B w d l → Own B w' d l := fun d l hd => own_keptB hd fun b e => h3.block b (own_block hd b e).2 fun e2 => by
  obtain ⟨cs, z, h8⟩ := own_typed hd b e
  obtain ⟨cs', z', h9⟩ := rrow_typed h.1 b e2.symm
  rw [h8] at h9
  simp at h9
 refine hK v' w' ⟨hown, fun p hp => ?_⟩ ((Below.refl B w).grown h3 hB (fun k hk => (World.ownsRow.lt h.1 k hk).1)) h3
 rcases List.mem_append.1 hp with hp | hp
 ·exact hne _ _ (h.2 p hp)
 ·obtain rfl := List.mem_singleton.1 hp
  exact hne _ _ hq2
def told (S : Sg) (r : Rec) : Rec := ⟨{ r.x with v := 3, s := S.x.id, a := S.x.la }, r.nm, r.l⟩
def TellPost (B t : Nat) (S : Sg) (h : SH) (ps : List (Rec × Value)) (q : Rec) (w : World) (e : Ending) (w' : World) : Prop := ∃ v' d', e = .returned (.tuple #[]) ∧ LB w' t 95 (scl S h ++ [v']) ∧ OutT B w' v' (ps ++ [(q, d')]) ∧ Below B w w' ∧ Fr t w w'
def TS (B t : Nat) (S : Sg) (h : SH) (rs : List Rec) (w : World) : Prop := ∃ v ps, LB w t 95 (scl S h ++ [v]) ∧ OutT B w v ps ∧ ps.map Prod.fst = rs
theorem TS.kept {B t : Nat} {S : Sg} {h : SH} {rs : List Rec} {w w' : World} (k : TS B t S h rs w) (hb : Below w.heap.size w w') : TS B t S h rs w' := by
 obtain ⟨v, ps, h1, h2, h3⟩ := k
 exact ⟨v, ps, h1.kept hb, h2.kept hb, h3⟩
theorem TS.lt {B t : Nat} {S : Sg} {h : SH} {rs : List Rec} {w : World} (k : TS B t S h rs w) : t < w.heap.size := by
 obtain ⟨v, ps, h1, h2, h3⟩ := k
 exact h1.lt
theorem TS.range {B t : Nat} {S : Sg} {h : SH} {rs : List Rec} {w : World} (k : TS B t S h rs w) : w.rangeAt t 0 (scl S h) := by
 obtain ⟨v, ps, h1, h2, h3⟩ := k
 intro j u hu
 have hj : j < (scl S h).length := (List.getElem?_eq_some_iff.1 hu).1
 exact h1.range j u (by rw [List.getElem?_append_left hj]; exact hu)
theorem TS.cell {B t : Nat} {S : Sg} {h : SH} {rs : List Rec} {w : World} (k : TS B t S h rs w) (j : Nat) (u : Value) (hu : (scl S h)[j]? = some u) : w.cell? ⟨t, j, none⟩ = some u := by
 have := k.range j u hu
 rwa [Nat.zero_add] at this
def TP (B t : Nat) (S : Sg) (h : SH) (rs : List Rec) (w : World) (e : Ending) (w' : World) : Prop := e = .returned (.tuple #[]) ∧ TS B t S h rs w' ∧ Below B w w' ∧ Fr t w w'
end Go.Proofs.YtgmkjcfdpiinpaaGreatDoor
