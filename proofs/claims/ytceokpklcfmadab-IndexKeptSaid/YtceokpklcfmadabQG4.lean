import Derived.Test.YtceokpklcfmadabQG3
/-
  IndexKept: the walk.
-/
namespace Go.Proofs.Ytceokpklcfmadab
open Go Go.RowKit Go.ChangeShapes
open Wb

theorem st_getW {ops : Array Oper} {o : Oper} {a : Act} {W : World} {K : Act → World → Prop} {Q : Exit → Act → World → Prop} {E : Prop} (hw : Region.wanted o (yielded ops a.tmps) = true) (p q : Nat) (ho : o.op = .call { callee := .value (.func 9), args := #[.tmp p, .tmp q], argTypes := #[24, 3] }) {u1 u2 : Value} (hp : a.tmps[p]?.getD undef = u1) (hq : a.tmps[q]?.getD undef = u2) {R : Value → World → Prop} (hC : Calls Try.prog 9 #[u1, u2] W fun e W' => ∃ v', e = .returned v' ∧ R v' W') (h : ∀ v' W', R v' W' → K (a.put o.dst v') W') : if Region.wanted o (yielded ops a.tmps) = true then Oper.wp Try.prog o a W K Q else E := by
  rw [if_pos hw]
  obtain ⟨dst, op', ty, pos, after, guard⟩ := o
  simp only at ho
  subst ho
  have HC : Hid (Calls Try.prog 9 #[u1, u2] W fun e W' => ∃ v', e = .returned v' ∧ R v' W') := hC
  clear hC hw
  go_simp
  refine HC.out.mono ?_
  rintro e W' ⟨v', rfl, r⟩
  exact h v' W' r
theorem st_rgetW {ops : Array Oper} {o : Oper} {a : Act} {W : World} {K : Act → World → Prop} {Q : Exit → Act → World → Prop} {E : Prop} (hw : Region.wanted o (yielded ops a.tmps) = true) (p q : Nat) (ho : o.op = .call { callee := .value (.func 11), args := #[.tmp p, .tmp q], argTypes := #[22, 3] }) {u1 u2 : Value} (hp : a.tmps[p]?.getD undef = u1) (hq : a.tmps[q]?.getD undef = u2) {R : Value → World → Prop} (hC : Calls Try.prog 11 #[u1, u2] W fun e W' => ∃ v', e = .returned v' ∧ R v' W') (h : ∀ v' W', R v' W' → K (a.put o.dst v') W') : if Region.wanted o (yielded ops a.tmps) = true then Oper.wp Try.prog o a W K Q else E := by
  rw [if_pos hw]
  obtain ⟨dst, op', ty, pos, after, guard⟩ := o
  simp only at ho
  subst ho
  have HC : Hid (Calls Try.prog 11 #[u1, u2] W fun e W' => ∃ v', e = .returned v' ∧ R v' W') := hC
  clear hC hw
  go_simp
  refine HC.out.mono ?_
  rintro e W' ⟨v', rfl, r⟩
  exact h v' W' r
theorem st_sameW {ops : Array Oper} {o : Oper} {a : Act} {W : World} {K : Act → World → Prop} {Q : Exit → Act → World → Prop} {E : Prop} (hw : Region.wanted o (yielded ops a.tmps) = true) (p q : Nat) (ho : o.op = .call { callee := .value (.func 10), args := #[.tmp p, .tmp q], argTypes := #[27, 27] }) {u1 u2 : Value} (hp : a.tmps[p]?.getD undef = u1) (hq : a.tmps[q]?.getD undef = u2) {R : Value → World → Prop} (hC : Calls Try.prog 10 #[u1, u2] W fun e W' => ∃ v', e = .returned v' ∧ R v' W') (h : ∀ v' W', R v' W' → K (a.put o.dst v') W') : if Region.wanted o (yielded ops a.tmps) = true then Oper.wp Try.prog o a W K Q else E := by
  rw [if_pos hw]
  obtain ⟨dst, op', ty, pos, after, guard⟩ := o
  simp only at ho
  subst ho
  have HC : Hid (Calls Try.prog 10 #[u1, u2] W fun e W' => ∃ v', e = .returned v' ∧ R v' W') := hC
  clear hC hw
  go_simp
  refine HC.out.mono ?_
  rintro e W' ⟨v', rfl, r⟩
  exact h v' W' r
theorem kzs_len (ps : List (Int × Int)) (q : Nat) : (kzs (Ix.gml ps) q).length ≤ ps.length := by
  have hf := Ix.gml_fine ps
  unfold kzs
  split
  · rw [List.length_map]
    exact hf.len
  · have := Ix.pdel_len ps ((List.map (fun x => x.fst) (Ix.gml ps)).getD ((q - 2) / 2) 0)
    omega
def kadds (keys : List Int) (j : Nat) : List (Int × Int) := (List.range j).map fun q => (keys.getD q 0, -5 - (q : Int))
theorem kadds_succ (keys : List Int) (j : Nat) : kadds keys (j + 1) = kadds keys j ++ [(keys.getD j 0, -5 - (j : Int))] := by
  unfold kadds
  rw [List.range_succ, List.map_append]
  rfl
theorem wf_of_bounds {x : Int} (h1 : -9223372036854775808 ≤ x) (h2 : x ≤ 9223372036854775807) : (Lit.int .i64 x).wf = true := by
  simp [Lit.wf, IntKind.min, IntKind.max, IntKind.signed, IntKind.bits]
  omega
theorem kadds_len (keys : List Int) (j : Nat) : (kadds keys j).length = j := by simp [kadds]
set_option maxRecDepth 100000 in
set_option maxHeartbeats 16000000 in
theorem indexKept_walk (v : Value) (ps0 : List (Int × Int)) (w : World) (h : Pr w v ps0) (hw0 : ∀ p ∈ ps0, (Lit.int .i64 p.1).wf = true ∧ (Lit.int .i64 p.2).wf = true) :
    Calls Try.prog 3 #[v] w fun e w' => e = .returned (.bool true) ∧ Below w.heap.size w w' := by
  have HCUT := ixcutp_any v ps0 w h
  obtain ⟨ps, hps⟩ : ∃ ps, ps = ps0.take 300 := ⟨_, rfl⟩
  rw [← hps] at HCUT
  have hl : ps.length ≤ 300 := by rw [hps, List.length_take]; omega
  have HW : Hid (∀ p ∈ ps, (Lit.int .i64 p.1).wf = true ∧ (Lit.int .i64 p.2).wf = true) := fun p hp => hw0 p (List.mem_of_mem_take (hps ▸ hp))
  have HWB : Hid (∀ p ∈ ps, (-9223372036854775808 ≤ p.1 ∧ p.1 ≤ 9223372036854775807) ∧ (-9223372036854775808 ≤ p.2 ∧ p.2 ≤ 9223372036854775807)) := fun p hp => ⟨i64_wf_bounds (HW.out p hp).1, i64_wf_bounds (HW.out p hp).2⟩
  have HSB : Hid (∀ (W : World) (va vb : Value) (l : List Nat), Bs W va l → Bs W vb l → Calls Try.prog 14 #[va, vb] W fun e w' => e = .returned (.bool true) ∧ Below W.heap.size W w') := fun W va vb l h1 h2 => (ixsameb_any va vb l l W h1 h2).mono fun e w' ⟨h3, h4⟩ => ⟨by rw [h3, decide_eq_true rfl], h4⟩
  have HSI : Hid (∀ (W : World) (va vb : Value) (l : List Int), Ri W va l → Ri W vb l → Calls Try.prog 10 #[va, vb] W fun e w' => e = .returned (.bool true) ∧ Below W.heap.size W w') := fun W va vb l h1 h2 => (ixsamei_any va vb l l W h1 h2).mono fun e w' ⟨h3, h4⟩ => ⟨by rw [h3, decide_eq_true rfl], h4⟩
  have HLN : Hid ((Ix.encA ps).1.length ≤ 60000) := Ix.encA_len ps (by omega)
  obtain ⟨er, her⟩ : ∃ er, er = (Ix.encA ps).2 := ⟨_, rfl⟩
  have HDEC : Hid (er = 0 → Ix.decodeP (Ix.encA ps).1 = (0, Ix.gml ps)) := fun e => Ix.enc_dec ps (by omega) HWB.out (her.symm.trans e)
  have HEN : Hid (∀ (W : World) (g b base : Nat), MI W g b base ps.length (Ix.gml ps) → Calls Try.prog 12 #[.pointer (some ⟨g, 0, none⟩)] W fun e w' => ∃ ad, ∃ m c : Nat, e = .returned (.tuple #[.slice ad m c, .int .i64 (er : Int)]) ∧ Wb.Own W.heap.size w' (.slice ad m c) (Ix.encA ps).1 ∧ Below W.heap.size W w') := fun W g b base hm => by
    rw [her]
    exact ixenc_own g b base _ ps W hm (by omega) (by omega) fun p hp => (HWB.out p hp).1
  have HRE : Hid (∀ (W : World) (u : Value), Pr W u ps → Calls Try.prog 13 #[u] W fun e w' => ∃ ad, ∃ m c : Nat, e = .returned (.tuple #[.slice ad m c, .int .i64 (er : Int)]) ∧ Wb.Own W.heap.size w' (.slice ad m c) (Ix.encA ps).1 ∧ Below W.heap.size W w') := fun W u hp => by
    rw [her]
    exact rixenc_own u ps W hp (by omega) HWB.out
  have HHO : Hid (∀ (W : World) (g b base n : Nat) (u : Value), MI W g b base n (Ix.gml ps) → Pr W u ps → n < 1000000000 → Calls Try.prog 6 #[.pointer (some ⟨g, 0, none⟩), u] W fun e w' => e = .returned (.bool true) ∧ Below W.heap.size W w') := fun W g b base n u hm hp hn => ixholds_any g b base n ps u W hm hp hn (by omega) fun p hp => (HWB.out p hp).1
  have hde : ((er : Int) != (er : Int)) = false := by simp
  have HF : Hid (Ix.Fine ps (Ix.gml ps)) := Ix.gml_fine ps
  obtain ⟨kvs, hkvs⟩ : ∃ kvs, kvs = Ix.gml ps := ⟨_, rfl⟩
  obtain ⟨keys, hkeys⟩ : ∃ keys, keys = kvs.map (·.1) := ⟨_, rfl⟩
  have hkl : keys.length ≤ 300 := by
    rw [hkeys, List.length_map, hkvs]
    have := HF.out.len
    omega
  have HKW : Hid (∀ j (hj : j < keys.length), (Lit.int .i64 keys[j]).wf = true) := fun j hj => by
    have hm : keys[j] ∈ (Ix.gml ps).map (·.1) := by rw [← hkvs, ← hkeys]; exact List.getElem_mem hj
    obtain ⟨p, hp, e⟩ := List.mem_map.1 hm
    obtain ⟨q, hq, e2⟩ := HF.out.key p hp
    rw [← e, ← e2]
    exact (HW.out q hq).1
  have HKV : Hid (kvs = Ix.gml ps ∧ keys = kvs.map (·.1)) := ⟨hkvs, hkeys⟩
  clear h hps hw0 her hkvs hkeys
  go_enter Try.func3, Try.ntmps3
  go_wp2_with fail
  refine HCUT.mono ?_
  rintro e W0 ⟨⟨v1, rfl, p1⟩, rfl⟩
  obtain ⟨va, vc, hve, hv1, hv2, -⟩ := id p1
  subst hve
  have HP : Hid (Pr W0 (.slice va ps.length vc) ps) := p1
  clear p1 HCUT hv1 hv2
  go_wp2_with fail
  refine (ixbuilt_any _ ps W0 HP.out HW.out (by omega)).mono ?_
  rintro e W2 ⟨g, b, base, rfl, m2, b2, -, -⟩
  have H2 : Hid (Below W0.heap.size W0 W2 ∧ MI W2 g b base ps.length (Ix.gml ps)) := ⟨b2, m2⟩
  clear b2 m2
  go_wp2_with fail
  refine (HHO.out W2 g b base _ _ H2.out.2 (HP.out.kept H2.out.1) (by omega)).mono ?_
  rintro e W3 ⟨rfl, b3⟩
  have H3 : Hid (Below W0.heap.size W0 W3 ∧ MI W3 g b base ps.length (Ix.gml ps)) := ⟨andThen H2.out.1 b3, H2.out.2.kept b3⟩
  clear b3 H2
  go_wp2_with fail
  refine (rixkeys_any _ ps W3 (HP.out.kept H3.out.1) (by omega) fun p hp => (HWB.out p hp).1).mono ?_
  rintro e W5 ⟨kv, rfl, rk, b5⟩
  rw [← HKV.out.1, ← HKV.out.2] at rk
  obtain ⟨ak, ck, hke, hk1, -⟩ := id rk
  subst hke
  unfold maxLen at hk1
  have H5 : Hid (Below W0.heap.size W0 W5 ∧ MI W5 g b base ps.length (Ix.gml ps) ∧ Ri W5 (.slice ak keys.length ck) keys) := ⟨andThen H3.out.1 b5, H3.out.2.kept b5, rk⟩
  have HGT : Hid (∀ (W : World) (j : Nat) (hj : j < keys.length) (q : Nat), q = 2 * j + 2 ∨ q = 2 * j + 3 → Below W5.heap.size W5 W → Calls Try.prog 9 #[.pointer (some ⟨g, 0, none⟩), .int .i64 keys[j]] W fun e w' => ∃ v', e = .returned v' ∧ ∃ a c, v' = .slice a (kzs kvs q).length c ∧ w'.ownsRow W.heap.size 3 1 (.slice a (kzs kvs q).length c) (kzs kvs q).length (ivs (kzs kvs q)) ∧ Below W.heap.size W w') := fun W j hj q hq hb => by
    have e : kzs kvs q = Ix.get (Ix.gml ps) keys[j] := by
      unfold kzs
      rw [if_neg (by omega), ← HKV.out.2, ← HKV.out.1]
      have e2 : (q - 2) / 2 = j := by omega
      rw [e2, List.getD_eq_getElem?_getD, List.getElem?_eq_getElem hj]
      rfl
    rw [e]
    exact (ixget_own g b base _ (Ix.gml ps) keys[j] W (H5.out.2.1.kept hb) (HKW.out j hj) (by omega)).mono fun e w' ⟨a, c, h1, h2, h3⟩ => ⟨_, h1, a, c, rfl, h2, h3⟩
  have HRG : Hid (∀ (W : World) (j : Nat) (hj : j < keys.length) (q : Nat), q = 2 * j + 2 ∨ q = 2 * j + 3 → Below W5.heap.size W5 W → Calls Try.prog 11 #[.slice va ps.length vc, .int .i64 keys[j]] W fun e w' => ∃ v', e = .returned v' ∧ Ri w' v' (kzs kvs q) ∧ Below W.heap.size W w') := fun W j hj q hq hb => by
    have e : kzs kvs q = Ix.vals ps keys[j] := by
      rw [Ix.vals_gml]
      unfold kzs
      rw [if_neg (by omega), ← HKV.out.2, ← HKV.out.1]
      have e2 : (q - 2) / 2 = j := by omega
      rw [e2, List.getD_eq_getElem?_getD, List.getElem?_eq_getElem hj]
      rfl
    rw [e]
    exact rixget_any _ ps keys[j] W (HP.out.kept (H5.out.1.trans (hb.mono H5.out.1.size))) (by omega)
  have HKC : Hid (∀ j (hj : j < keys.length), ∃ kb ko, ak = some ⟨kb, ko, none⟩ ∧ ∀ W, Below W5.heap.size W5 W → W.cell? ⟨kb, ko + j, none⟩ = some (.int .i64 keys[j])) := fun j hj => by
    obtain ⟨a', c', e, -, hc⟩ := H5.out.2.2
    simp only [Value.slice.injEq] at e
    obtain ⟨kb, ko, e2, hcell⟩ := hc (List.ne_nil_of_length_pos (by omega))
    exact ⟨kb, ko, e.1.trans e2, fun W hW => (hW.cell (p := ⟨kb, ko + j, none⟩) (World.block_lt_of_cell? _ _ (hcell j hj))).trans (hcell j hj)⟩
  have HKY : Hid (∀ W, Below W5.heap.size W5 W → Calls Try.prog 8 #[.pointer (some ⟨g, 0, none⟩)] W fun e w' => ∃ a c, e = .returned (.slice a keys.length c) ∧ (∀ q, q < 2 → w'.ownsRow W.heap.size 3 1 (.slice a keys.length c) (kzs kvs q).length (ivs (kzs kvs q))) ∧ Below W.heap.size W w') := fun W hW => by
    have h9 := ixkeys_own g b base _ (Ix.gml ps) W (H5.out.2.1.kept hW) (by have := HF.out.len; omega)
    have e : ∀ q, q < 2 → kzs kvs q = (Ix.gml ps).map (·.1) := fun q hq => by
      unfold kzs
      rw [if_pos hq, HKV.out.1]
    have e2 : keys.length = (Ix.gml ps).length := by rw [HKV.out.2, List.length_map, HKV.out.1]
    rw [e2]
    exact h9.mono fun e' w' ⟨a, c, h1, h2, h3⟩ => ⟨a, c, h1, fun q hq => by rw [e q hq, List.length_map]; exact h2, h3⟩
  clear rk b5 H3
  go_wp2_with fail
  refine (HKY.out W5 (Below.refl _ _)).mono ?_
  rintro e W6 ⟨a6, c6, rfl, r6, b6⟩
  have H6 : Hid (∀ q, q < 2 → W6.ownsRow W5.heap.size 3 1 (.slice a6 keys.length c6) (kzs kvs q).length (ivs (kzs kvs q))) := r6
  have B6 : Hid (Below W5.heap.size W5 W6) := b6
  clear r6 b6
  go_wp2_with fail
  refine (HKY.out W6 B6.out).mono ?_
  rintro e W7 ⟨a7, c7, rfl, r7, b7⟩
  have HK8 : Hid (∀ W, W = W7.alloc (.cells #[.slice a6 keys.length c6, .slice a7 keys.length c7] 27) → KL kvs W5 (.slice (some ⟨W7.heap.size, 0, none⟩) 2 2) [.slice a6 keys.length c6, .slice a7 keys.length c7] W) := fun W e => by
    have hb : Below W7.heap.size W7 W := by
      rw [e]
      exact up0 _ _
    have h0 : KL kvs W5 (.slice none 0 0) [] W5 := ⟨Below.refl _ _, World.ownsRow_nil _ _ _ _, Mg.Fam.nil, Mg.Apt.nil⟩
    have h9 := h0.two (vL' := .slice (some ⟨W7.heap.size, 0, none⟩) 2 2) (W4 := W) B6.out (H6.out 0 (by omega)) b7 (r7 1 (by omega)) (Below.refl _ _) (grown_none hb _) (by
      rw [e]
      exact World.ownsRow_lit (base := W5.heap.size) (e := 27) (size := 1) W7 #[.slice a6 keys.length c6, .slice a7 keys.length c7] 2 (Nat.le_trans B6.out.size b7.size) (by simp [maxLen]) rfl)
    exact h9
  clear r7 b7 H6 B6
  go_wp2_with fail
  obtain ⟨N, hN⟩ : ∃ N, N = min keys.length 20 := ⟨_, rfl⟩
  have HNN : Hid (N = min keys.length 20) := hN
  have hN1 : N ≤ keys.length := by omega
  have hN2 : N ≤ 20 := by omega
  have HEX : Hid (N = keys.length ∨ (N < keys.length ∧ N = 20)) := by
    show N = keys.length ∨ (N < keys.length ∧ N = 20)
    omega
  clear hN
  have HK9 : Hid (KL kvs W5 (.slice (some ⟨W7.heap.size, 0, none⟩) 2 2) [.slice a6 keys.length c6, .slice a7 keys.length c7] (W7.alloc (.cells #[.slice a6 keys.length c6, .slice a7 keys.length c7] 27))) := HK8.out _ rfl
  clear HK8
  go_loopw [5, 6] (fun s5 i wr => ∃ j : Nat, ∃ L, j ≤ N ∧ i = .int .i64 (j : Int) ∧ L.length = 2 * j + 2 ∧ (∃ gl, ∃ m c : Nat, s5 = .slice (some ⟨gl, 0, none⟩) m c) ∧ KL kvs W5 s5 L wr) (fun _ i _ => N - (intOf i).toNat)
  case atStart => exact ⟨0, _, Nat.zero_le _, rfl, rfl, ⟨_, _, _, rfl⟩, HK9.out⟩
  case round =>
    clear HK9
    obtain ⟨j, L, hj, rfl, hLl, ⟨gl, ml, cl, rfl⟩, hk⟩ := hrel
    by_cases hlt : j < N
    · have hjk : j < keys.length := by omega
      obtain ⟨kb, ko, rfl, hkc⟩ := HKC.out j hjk
      obtain ⟨x, hx⟩ : ∃ x, x = keys[j] := ⟨_, rfl⟩
      have HGT1 : Hid (∀ (W : World) (q : Nat), q = 2 * j + 2 ∨ q = 2 * j + 3 → Below W5.heap.size W5 W → Calls Try.prog 9 #[.pointer (some ⟨g, 0, none⟩), .int .i64 x] W fun e w' => ∃ v', e = .returned v' ∧ ∃ a c, v' = .slice a (kzs kvs q).length c ∧ w'.ownsRow W.heap.size 3 1 (.slice a (kzs kvs q).length c) (kzs kvs q).length (ivs (kzs kvs q)) ∧ Below W.heap.size W w') := fun W q => by rw [hx]; exact HGT.out W j hjk q
      have HRG1 : Hid (∀ (W : World) (q : Nat), q = 2 * j + 2 ∨ q = 2 * j + 3 → Below W5.heap.size W5 W → Calls Try.prog 11 #[.slice va ps.length vc, .int .i64 x] W fun e w' => ∃ v', e = .returned v' ∧ Ri w' v' (kzs kvs q) ∧ Below W.heap.size W w') := fun W q => by rw [hx]; exact HRG.out W j hjk q
      rw [← hx] at hkc
      have HKC1 : Hid (∀ W, Below W5.heap.size W5 W → W.cell? ⟨kb, ko + j, none⟩ = some (.int .i64 x)) := hkc
      have hd1 : ((j : Int) < (keys.length : Int)) = True := by simp; omega
      have hd2 : ((j : Int) < 20) = True := by simp; omega
      obtain ⟨p2, hp2⟩ : ∃ p2, p2 = 2 * j + 2 := ⟨_, rfl⟩
      obtain ⟨p3, hp3⟩ : ∃ p3, p3 = 2 * j + 3 := ⟨_, rfl⟩
      have hwm : IntKind.i64.wrap (2 * (j : Int)) = 2 * (j : Int) := IntWalk.i64_in _ (by omega)
      have hwa : IntKind.i64.wrap (2 * (j : Int) + 2) = (p2 : Int) := by rw [IntWalk.i64_in _ (by omega)]; omega
      have hwb : IntKind.i64.wrap (2 * (j : Int) + 3) = (p3 : Int) := by rw [IntWalk.i64_in _ (by omega)]; omega
      have HP2 : Hid (p2 = 2 * j + 2) := hp2
      have HP3 : Hid (p3 = 2 * j + 3) := hp3
      have hp2m : p2 ≤ 1000 := by omega
      have hp3m : p3 ≤ 1000 := by omega
      clear hp2 hp3
      have hk2 := hk.kept (show Below wr.heap.size wr wr.drew from ⟨rfl, rfl, rfl, Nat.le_refl _, fun _ _ => rfl⟩)
      obtain ⟨Wa, hWa⟩ : ∃ x, x = wr.drew := ⟨_, rfl⟩
      rw [← hWa] at hk2
      have HKa : Hid (KL kvs W5 (.slice (some ⟨gl, 0, none⟩) ml cl) L Wa) := hk2
      have HLl : Hid (L.length = 2 * j + 2 ∧ L.length ≤ 1000) := ⟨hLl, by omega⟩
      have hS9 := HKC1.out Wa hk2.low
      clear hk hk2 hkc hx hLl
      go_upto_region 10 with fail
      refine wp_region_held_drew (S := fun W : World => W.cell? ⟨kb, ko + j, none⟩ = some (.int .i64 x)) (by kernel_rfl) (by rw [← hWa]; exact hS9) (fun _ => ?_)
      rw [← hWa]
      clear hWa
      refine zqk 0 rfl hS9 ?_
      simp only [Act.put, zq1, zq2, zq3, zq4, zq5]
      refine zqk 1 rfl hS9 ?_
      simp only [Act.put, zq1, zq2, zq3, zq4, zq5, zq6]
      refine zqk 2 rfl hS9 ?_
      simp only [Act.put, zq1, zq2, zq3, zq4, zq5, zq6]
      refine zqk 3 rfl hS9 ?_
      simp only [Act.put, zq1, zq2, zq3, zq4, zq5, zq6]
      refine zqk 4 rfl hS9 ?_
      simp only [Act.put, zq1, zq2, zq3, zq4, zq5, zq6]
      refine zqk 5 rfl hS9 ?_
      simp only [Act.put, zq1, zq2, zq3, zq4, zq5, zq6]
      refine zqk 7 rfl hS9 ?_
      simp only [Act.put, zq1, zq2, zq3, zq4, zq5, zq6]
      refine zqk 8 rfl hS9 ?_
      simp only [Act.put, zq1, zq2, zq3, zq4, zq5, zq6]
      refine zqk 9 rfl hS9 ?_
      simp only [Act.put, zq1, zq2, zq3, zq4, zq5, zq6]
      refine zqk 10 rfl hS9 ?_
      simp only [Act.put, zq1, zq2, zq3, zq4, zq5, zq6]
      refine zqk 11 rfl hS9 ?_
      simp only [Act.put, zq1, zq2, zq3, zq4, zq5, zq6]
      refine zqr 6 rfl (fun K hK => ?_)
      refine st_getW rfl 48 52 rfl rfl rfl (R := fun v' W' => ∃ a c, v' = .slice a (kzs kvs p2).length c ∧ W'.ownsRow Wa.heap.size 3 1 (.slice a (kzs kvs p2).length c) (kzs kvs p2).length (ivs (kzs kvs p2)) ∧ Below Wa.heap.size Wa W') (HGT1.out Wa p2 (.inl HP2.out) HKa.out.low) ?_
      rintro v' Wb ⟨a1, c1, rfl, r1, b1⟩
      refine hK.out _ _ (HKC1.out Wb (andThen HKa.out.low b1)) fun _ => ?_
      simp only [Act.put, zq1, zq2, zq3, zq4, zq5, zq6]
      clear hK K
      refine zqr 12 rfl (fun K hK => ?_)
      refine st_getW rfl 54 58 rfl rfl rfl (R := fun v' W' => ∃ a c, v' = .slice a (kzs kvs p3).length c ∧ W'.ownsRow Wb.heap.size 3 1 (.slice a (kzs kvs p3).length c) (kzs kvs p3).length (ivs (kzs kvs p3)) ∧ Below Wb.heap.size Wb W') (HGT1.out Wb p3 (.inr HP3.out) (andThen HKa.out.low b1)) ?_
      rintro v' Wc ⟨a2, c2, rfl, r2, b2⟩
      refine hK.out _ _ (HKC1.out Wc (andThen (andThen HKa.out.low b1) b2)) fun _ => ?_
      simp only [Act.put, zq1, zq2, zq3, zq4, zq5, zq6]
      clear hK K
      generalize hz2 : (kzs kvs p2).length = z2 at r1 r2 ⊢
      generalize hz3 : (kzs kvs p3).length = z3 at r1 r2 ⊢
      refine zqr 13 rfl (fun K hK => ?_)
      have hb3 := up0 Wc (.cells #[.slice a1 z2 c1, .slice a2 z3 c2] 27)
      have hl3 := lb_new Wc [.slice a1 z2 c1, .slice a2 z3 c2] 27
      go_simp
      obtain ⟨Wd, hWd⟩ : ∃ x, x = Wc.alloc (.cells #[.slice a1 z2 c1, .slice a2 z3 c2] 27) := ⟨_, rfl⟩
      have hl3' : LB Wd Wc.heap.size 27 [.slice a1 z2 c1, .slice a2 z3 c2] := by rw [hWd]; exact hl3
      rw [← hWd] at hb3 ⊢
      have k3 := ((HKa.out.kept b1).kept b2).kept hb3
      refine hK.out _ _ (HKC1.out Wd k3.low) fun _ => ?_
      try simp only [Act.put, zq1, zq2, zq3, zq4, zq5, zq6]
      clear hK K hl3 hWd
      refine zqr 14 rfl (fun K hK => ?_)
      obtain ⟨v5, We, hr5, r5, g5⟩ := app2cI Wd W5.heap.size (.slice (some ⟨gl, 0, none⟩) ml cl) L k3.row Wc.heap.size a1 a2 z2 z3 c1 c2 hl3' HLl.out.2 k3.low.size
      obtain ⟨m5, hm5⟩ : ∃ m5, m5 = L.length + 2 := ⟨_, rfl⟩
      obtain ⟨g7, k7, e7⟩ : ∃ g7, ∃ k7 : Nat, v5 = .slice (some ⟨g7, 0, none⟩) m5 k7 := by
        rcases r5.2 with ⟨e, h0⟩ | ⟨g7, c', cur, e, -⟩
        · omega
        · exact ⟨g7, c', by rw [hm5]; exact e⟩
      subst e7
      have k5 : KL kvs W5 (.slice (some ⟨g7, 0, none⟩) m5 k7) (L ++ [.slice a1 z2 c1, .slice a2 z3 c2]) We := HKa.out.two b1 (by
        rw [HLl.out.1, ← HP2.out, hz2]
        exact r1) b2 (by
        rw [HLl.out.1]
        have e : 2 * j + 2 + 1 = p3 := by have := HP3.out; omega
        rw [e, hz3]
        exact r2) hb3 g5 r5
      refine st_appR rfl 30 (.tmp 47) (.tmp 60) rfl rfl rfl hr5 ?_
      refine hK.out _ _ (HKC1.out We k5.low) fun hS5 => ?_
      simp only [Act.put, zq1, zq2, zq3, zq4, zq5, zq6]
      have HK5 : Hid (KL kvs W5 (.slice (some ⟨g7, 0, none⟩) m5 k7) (L ++ [.slice a1 z2 c1, .slice a2 z3 c2]) We) := k5
      have HZ : Hid ((kzs kvs p2).length = z2 ∧ (kzs kvs p3).length = z3 ∧ m5 = L.length + 2) := ⟨hz2, hz3, hm5⟩
      have hm5b : p3 < m5 := by have := HLl.out.1; have := HP3.out; omega
      have hm5a : p2 < m5 := by have := HLl.out.1; have := HP2.out; omega
      clear hK K hr5 r5 g5 k3 k5 b1 b2 hb3 hl3' r1 r2 HKa hz2 hz3 hm5
      refine zqk 15 rfl hS5 ?_
      simp only [Act.put, zq1, zq2, zq3, zq4, zq5, zq6]
      refine wpAnyH_done (by kernel_rfl) ?_ _
      clear hS5 hS9
      have HC2 : Hid (∀ W, KL kvs W5 (.slice (some ⟨g7, 0, none⟩) m5 k7) (L ++ [.slice a1 z2 c1, .slice a2 z3 c2]) W → W.cell? ⟨kb, ko + j, none⟩ = some (.int .i64 x) ∧ W.cell? ⟨g7, p2, none⟩ = some (.slice a1 z2 c1) ∧ W.cell? ⟨g7, p3, none⟩ = some (.slice a2 z3 c2)) := fun W hW => by
        have hlen := HLl.out.1
        have hp2 := HP2.out
        have hp3 := HP3.out
        refine ⟨HKC1.out W hW.low, ?_, ?_⟩
        · have hr9 := hW.row
          have e9 : (L ++ [Value.slice a1 z2 c1, Value.slice a2 z3 c2]).length = m5 := by rw [List.length_append, HZ.out.2.2]; rfl
          rw [e9] at hr9
          have e := World.ownsRow.cellAt hr9 p2 (by omega)
          rw [e, List.getElem?_append_right (by omega)]
          have e2 : p2 - L.length = 0 := by omega
          rw [e2]
          rfl
        · have hr9 := hW.row
          have e9 : (L ++ [Value.slice a1 z2 c1, Value.slice a2 z3 c2]).length = m5 := by rw [List.length_append, HZ.out.2.2]; rfl
          rw [e9] at hr9
          have e := World.ownsRow.cellAt hr9 p3 (by omega)
          rw [e, List.getElem?_append_right (by omega)]
          have e2 : p3 - L.length = 1 := by omega
          rw [e2]
          rfl
      have HRI : Hid (∀ W, KL kvs W5 (.slice (some ⟨g7, 0, none⟩) m5 k7) (L ++ [.slice a1 z2 c1, .slice a2 z3 c2]) W → Ri W (.slice a1 z2 c1) (kzs kvs p2) ∧ Ri W (.slice a2 z3 c2) (kzs kvs p3)) := fun W hW => by
        have hlen := HLl.out.1
        have hp2 := HP2.out
        have hp3 := HP3.out
        refine ⟨?_, ?_⟩
        · refine Ri.of (hW.fam p2 _ ?_)
          rw [List.getElem?_append_right (by omega)]
          have e2 : p2 - L.length = 0 := by omega
          rw [e2]
          rfl
        · refine Ri.of (hW.fam p3 _ ?_)
          rw [List.getElem?_append_right (by omega)]
          have e2 : p3 - L.length = 1 := by omega
          rw [e2]
          rfl
      have hk2 := HK5.out.kept (show Below We.heap.size We We.drew from ⟨rfl, rfl, rfl, Nat.le_refl _, fun _ _ => rfl⟩)
      obtain ⟨Wf, hWf⟩ : ∃ x, x = We.drew := ⟨_, rfl⟩
      rw [← hWf] at hk2
      have hS9 := HC2.out Wf hk2
      have HKf : Hid (KL kvs W5 (.slice (some ⟨g7, 0, none⟩) m5 k7) (L ++ [.slice a1 z2 c1, .slice a2 z3 c2]) Wf) := hk2
      clear hk2 HK5
      go_upto_region 11 with fail
      refine wp_region_held_drew (S := fun W : World => W.cell? ⟨kb, ko + j, none⟩ = some (.int .i64 x) ∧ W.cell? ⟨g7, p2, none⟩ = some (.slice a1 z2 c1) ∧ W.cell? ⟨g7, p3, none⟩ = some (.slice a2 z3 c2)) (by kernel_rfl) (by rw [← hWf]; exact hS9) (fun _ => ?_)
      rw [← hWf]
      clear hWf
      refine zqk 0 rfl hS9 ?_
      simp only [Act.put, zq1, zq2, zq3, zq4, zq5]
      refine zqk 1 rfl hS9 ?_
      simp only [Act.put, zq1, zq2, zq3, zq4, zq5, zq6]
      refine zqk 2 rfl hS9 ?_
      simp only [Act.put, zq1, zq2, zq3, zq4, zq5, zq6]
      refine zqk 3 rfl hS9 ?_
      simp only [Act.put, zq1, zq2, zq3, zq4, zq5, zq6]
      refine zqk 4 rfl hS9 ?_
      simp only [Act.put, zq1, zq2, zq3, zq4, zq5, zq6]
      refine zqk 5 rfl hS9 ?_
      simp only [Act.put, zq1, zq2, zq3, zq4, zq5, zq6]
      refine zqk 6 rfl hS9 ?_
      simp only [Act.put, zq1, zq2, zq3, zq4, zq5, zq6]
      refine zqk 7 rfl hS9 ?_
      simp only [Act.put, zq1, zq2, zq3, zq4, zq5, zq6]
      refine zqk 8 rfl hS9 ?_
      simp only [Act.put, zq1, zq2, zq3, zq4, zq5, zq6]
      refine zqk 9 rfl hS9 ?_
      simp only [Act.put, zq1, zq2, zq3, zq4, zq5, zq6]
      refine zqk 10 rfl hS9 ?_
      simp only [Act.put, zq1, zq2, zq3, zq4, zq5, zq6]
      refine zqr 11 rfl (fun K hK => ?_)
      refine st_rgetW rfl 68 72 rfl rfl rfl (R := fun v' W' => Ri W' v' (kzs kvs p2) ∧ Below Wf.heap.size Wf W') (HRG1.out Wf p2 (.inl HP2.out) HKf.out.low) ?_
      rintro v4 Wg ⟨ri4, b4⟩
      obtain ⟨a4, c4, e4, -⟩ := id ri4
      generalize (kzs kvs p2).length = z4 at e4
      subst e4
      have kg := HKf.out.kept b4
      refine hK.out _ _ (HC2.out Wg kg) fun _ => ?_
      simp only [Act.put, zq1, zq2, zq3, zq4, zq5, zq6]
      clear hK K
      refine zqr 12 rfl (fun K hK => ?_)
      refine st_sameW rfl 67 73 rfl rfl rfl (R := fun v' W' => v' = .bool true ∧ Below Wg.heap.size Wg W') ((HSI.out Wg _ _ _ (HRI.out Wg kg).1 ri4).mono fun e w' ⟨h1, h2⟩ => ⟨_, h1, rfl, h2⟩) ?_
      rintro v' Wh ⟨rfl, b5⟩
      have kh := kg.kept b5
      have hS6 := HC2.out Wh kh
      refine hK.out _ _ hS6 fun _ => ?_
      simp only [Act.put, zq1, zq2, zq3, zq4, zq5, zq6]
      clear hK K kg ri4 b4 b5
      refine zqk 13 rfl hS6 ?_
      simp only [Act.put, zq1, zq2, zq3, zq4, zq5, zq6]
      refine zqk 14 rfl hS6 ?_
      simp only [Act.put, zq1, zq2, zq3, zq4, zq5, zq6]
      refine zqk 15 rfl hS6 ?_
      simp only [Act.put, zq1, zq2, zq3, zq4, zq5, zq6]
      refine zqk 16 rfl hS6 ?_
      simp only [Act.put, zq1, zq2, zq3, zq4, zq5, zq6]
      refine zqk 17 rfl hS6 ?_
      simp only [Act.put, zq1, zq2, zq3, zq4, zq5, zq6]
      refine zqk 18 rfl hS6 ?_
      simp only [Act.put, zq1, zq2, zq3, zq4, zq5, zq6]
      refine zqk 19 rfl hS6 ?_
      simp only [Act.put, zq1, zq2, zq3, zq4, zq5, zq6]
      refine zqk 20 rfl hS6 ?_
      simp only [Act.put, zq1, zq2, zq3, zq4, zq5, zq6]
      refine zqk 21 rfl hS6 ?_
      simp only [Act.put, zq1, zq2, zq3, zq4, zq5, zq6]
      refine zqk 22 rfl hS6 ?_
      simp only [Act.put, zq1, zq2, zq3, zq4, zq5, zq6]
      refine zqk 23 rfl hS6 ?_
      simp only [Act.put, zq1, zq2, zq3, zq4, zq5, zq6]
      refine zqk 24 rfl hS6 ?_
      simp only [Act.put, zq1, zq2, zq3, zq4, zq5, zq6]
      refine zqk 25 rfl hS6 ?_
      simp only [Act.put, zq1, zq2, zq3, zq4, zq5, zq6]
      refine zqr 26 rfl (fun K hK => ?_)
      refine st_rgetW rfl 83 87 rfl rfl rfl (R := fun v' W' => Ri W' v' (kzs kvs p3) ∧ Below Wh.heap.size Wh W') (HRG1.out Wh p3 (.inr HP3.out) kh.low) ?_
      rintro v6 Wi ⟨ri6, b6⟩
      obtain ⟨a6', c6', e6, -⟩ := id ri6
      generalize (kzs kvs p3).length = z6 at e6
      subst e6
      have ki := kh.kept b6
      refine hK.out _ _ (HC2.out Wi ki) fun _ => ?_
      simp only [Act.put, zq1, zq2, zq3, zq4, zq5, zq6]
      clear hK K
      refine zqr 27 rfl (fun K hK => ?_)
      refine st_sameW rfl 82 88 rfl rfl rfl (R := fun v' W' => v' = .bool true ∧ Below Wi.heap.size Wi W') ((HSI.out Wi _ _ _ (HRI.out Wi ki).2 ri6).mono fun e w' ⟨h1, h2⟩ => ⟨_, h1, rfl, h2⟩) ?_
      rintro v' Wj ⟨rfl, b7⟩
      have kj := ki.kept b7
      have hS7 := HC2.out Wj kj
      refine hK.out _ _ hS7 fun _ => ?_
      simp only [Act.put, zq1, zq2, zq3, zq4, zq5, zq6]
      have HKj : Hid (KL kvs W5 (.slice (some ⟨g7, 0, none⟩) m5 k7) (L ++ [.slice a1 z2 c1, .slice a2 z3 c2]) Wj) := kj
      clear hK K kh ki kj ri6 b6 b7
      refine zqk 28 rfl hS7 ?_
      simp only [Act.put, zq1, zq2, zq3, zq4, zq5, zq6]
      refine zqk 29 rfl hS7 ?_
      simp only [Act.put, zq1, zq2, zq3, zq4, zq5, zq6]
      refine wpAnyH_done (by kernel_rfl) ?_ _
      clear hS7 hS6 hS9 hd1 hd2 hwm hwa hwb
      go_wp2_with fail
      go_roundw
      case rel => exact ⟨j + 1, _, by omega, by go_num, by rw [List.length_append, HLl.out.1]; simp; omega, ⟨_, _, _, rfl⟩, HKj.out⟩
      case measure => simp [intOf]; omega
    · obtain rfl : j = N := by omega
      have HKN : Hid (KL kvs W5 (.slice (some ⟨gl, 0, none⟩) ml cl) L wr) := hk
      have HLN2 : Hid (L.length = 2 * j + 2) := hLl
      clear hk hLl hlt hj
      obtain ⟨o0, h0⟩ : ∃ o, L[0]? = some o := ⟨_, List.getElem?_eq_getElem (by have := HLN2.out; omega)⟩
      obtain ⟨o1, h1⟩ : ∃ o, L[1]? = some o := ⟨_, List.getElem?_eq_getElem (by have := HLN2.out; omega)⟩
      have hz0 : kzs kvs 0 = keys := by unfold kzs; rw [if_pos (by omega), ← HKV.out.2]
      have hz1 : kzs kvs 1 = keys := by unfold kzs; rw [if_pos (by omega), ← HKV.out.2]
      obtain ⟨b0, k0, e0, -⟩ := Mg.row_shape (HKN.out.fam 0 o0 h0)
      obtain ⟨b1, k1, e1, -⟩ := Mg.row_shape (HKN.out.fam 1 o1 h1)
      have e0' : o0 = .slice b0 keys.length k0 := by rw [e0, ← hz0]
      have e1' : o1 = .slice b1 keys.length k1 := by rw [e1, ← hz1]
      subst e0' e1'
      have hml : ml = L.length := by
        obtain ⟨a2, c2, e2, -⟩ := Mg.row_shape HKN.out.row
        simp only [Value.slice.injEq] at e2
        exact e2.2.1
      have hml2 : 2 ≤ ml := by have := HLN2.out; omega
      have HML : Hid (ml = L.length ∧ L.length ≤ 42) := ⟨hml, by have := HLN2.out; omega⟩
      have HC0 : Hid (∀ W, KL kvs W5 (.slice (some ⟨gl, 0, none⟩) ml cl) L W → W.cell? ⟨gl, 0, none⟩ = some (.slice b0 keys.length k0) ∧ W.cell? ⟨gl, 1, none⟩ = some (.slice b1 keys.length k1) ∧ Ri W (.slice b0 keys.length k0) keys ∧ Ri W (.slice b1 keys.length k1) keys ∧ Ri W (.slice ak keys.length ck) keys) := fun W hW => by
        have hr9 := hW.row
        rw [← HML.out.1] at hr9
        have q0 := World.ownsRow.cellAt hr9 0 (by omega)
        have q1 := World.ownsRow.cellAt hr9 1 (by omega)
        rw [h0] at q0
        rw [h1] at q1
        have r0 := Ri.of (hW.fam 0 _ h0)
        have r1 := Ri.of (hW.fam 1 _ h1)
        rw [hz0] at r0
        rw [hz1] at r1
        obtain ⟨a', c', e, hmx, hc⟩ := H5.out.2.2
        refine ⟨q0, q1, r0, r1, ⟨a', c', e, hmx, fun hne => ?_⟩⟩
        obtain ⟨kb, ko, e2, hcell⟩ := hc hne
        exact ⟨kb, ko, e2, fun q hq => (hW.low.cell (p := ⟨kb, ko + q, none⟩) (World.block_lt_of_cell? _ _ (hcell q hq))).trans (hcell q hq)⟩
      have HMI : Hid (∀ W, Below W5.heap.size W5 W → MI W g b base ps.length (Ix.gml ps) ∧ Pr W (.slice va ps.length vc) ps ∧ Below W0.heap.size W0 W) := fun W hW => ⟨H5.out.2.1.kept hW, HP.out.kept (H5.out.1.trans (hW.mono H5.out.1.size)), H5.out.1.trans (hW.mono H5.out.1.size)⟩
      clear h0 h1 hz0 hz1 e0 e1 hml
      have hdec : ((j : Int) < (keys.length : Int)) = True ∧ ((j : Int) < 20) = False ∨ ((j : Int) < (keys.length : Int)) = False := by
        rcases HEX.out with e | ⟨e1, e2⟩
        · exact .inr (by simp; omega)
        · exact .inl ⟨by simp; omega, by simp; omega⟩
      rcases hdec with ⟨hd1, hd2⟩ | hd1
      · go_wp2_with fail
        refine (HEN.out wr g b base (HMI.out wr HKN.out.low).1).mono ?_
        rintro e V1 ⟨ad1, n1, c1, rfl, w1, f1⟩
        have HV1 : Hid (KL kvs W5 (.slice (some ⟨gl, 0, none⟩) ml cl) L V1 ∧ Wb.Own wr.heap.size V1 (.slice ad1 n1 c1) (Ix.encA ps).1 ∧ W5.heap.size ≤ wr.heap.size) := ⟨HKN.out.kept f1, w1, HKN.out.low.size⟩
        clear w1 f1 HKN
        go_wp2_with fail
        refine (HEN.out V1 g b base (HMI.out V1 HV1.out.1.low).1).mono ?_
        rintro e V2 ⟨ad2, n2, c2, rfl, w2, f2⟩
        have HV2 : Hid (KL kvs W5 (.slice (some ⟨gl, 0, none⟩) ml cl) L V2 ∧ Wb.Own W5.heap.size V2 (.slice ad1 n1 c1) (Ix.encA ps).1 ∧ Wb.Own W5.heap.size V2 (.slice ad2 n2 c2) (Ix.encA ps).1 ∧ (∀ k, (Value.slice ad1 n1 c1).ownBlock = some k → (Value.slice ad2 n2 c2).ownBlock ≠ some k)) := ⟨HV1.out.1.kept f2, (HV1.out.2.1.mono HV1.out.2.2).kept f2, w2.mono HV1.out.1.low.size, fun k e1 e2 => by
          have h1 := (own_block HV1.out.2.1 k e1).2
          have h2 := (own_block w2 k e2).1
          omega⟩
        clear w2 f2 HV1
        go_wp2_with fail
        refine (HRE.out V2 _ (HMI.out V2 HV2.out.1.low).2.1).mono ?_
        rintro e V3 ⟨ad3, n3, c3, rfl, w3, f3⟩
        have HV3 : Hid (KL kvs W5 (.slice (some ⟨gl, 0, none⟩) ml cl) L V3 ∧ Wb.Own W5.heap.size V3 (.slice ad1 n1 c1) (Ix.encA ps).1 ∧ Wb.Own W5.heap.size V3 (.slice ad2 n2 c2) (Ix.encA ps).1 ∧ (∀ k, (Value.slice ad1 n1 c1).ownBlock = some k → (Value.slice ad2 n2 c2).ownBlock ≠ some k) ∧ Wb.Own V2.heap.size V3 (.slice ad3 n3 c3) (Ix.encA ps).1 ∧ (∀ k, Ap.Of L [.slice ad1 n1 c1, .slice ad2 n2 c2] k → k < V2.heap.size) ∧ W5.heap.size ≤ V2.heap.size) := ⟨HV2.out.1.kept f3, HV2.out.2.1.kept f3, HV2.out.2.2.1.kept f3, HV2.out.2.2.2, w3, fun k hk => by
          rcases hk with ⟨u, hu, e⟩ | ⟨u, hu, e⟩
          · exact (HV2.out.1.fam.lt u hu k e).2
          · simp only [List.mem_cons, List.not_mem_nil, or_false] at hu
            rcases hu with rfl | rfl
            · exact (own_block HV2.out.2.1 k e).2
            · exact (own_block HV2.out.2.2.1 k e).2, HV2.out.1.low.size⟩
        clear w3 f3 HV2
        go_wp2_with fail
        refine (HSB.out V3 _ _ _ HV3.out.2.1.bs HV3.out.2.2.2.2.1.bs).mono ?_
        rintro e V4 ⟨rfl, f4⟩
        have HB4 : Hid (Below V3.heap.size V3 V4) := f4
        clear f4
        go_wp2_with fail
        refine (HSB.out V4 _ _ _ (HV3.out.2.2.1.kept HB4.out).bs (HV3.out.2.2.2.2.1.kept HB4.out).bs).mono ?_
        rintro e V5 ⟨rfl, f5⟩
        have HB5 : Hid (Below V3.heap.size V3 V5) := andThen HB4.out f5
        obtain ⟨x0, -, -, -, -⟩ := HC0.out V5 (HV3.out.1.kept HB5.out)
        clear f5 HB4
        go_wp2_with fail
        refine (HSI.out V5 _ _ _ (HC0.out V5 (HV3.out.1.kept HB5.out)).2.2.1 (HC0.out V5 (HV3.out.1.kept HB5.out)).2.2.2.2).mono ?_
        rintro e V6 ⟨rfl, f6⟩
        have HB6 : Hid (Below V3.heap.size V3 V6) := andThen HB5.out f6
        clear f6 HB5 x0
        obtain ⟨-, x1, -, -, -⟩ := HC0.out V6 (HV3.out.1.kept HB6.out)
        go_wp2_with fail
        refine (HSI.out V6 _ _ _ (HC0.out V6 (HV3.out.1.kept HB6.out)).2.2.2.1 (HC0.out V6 (HV3.out.1.kept HB6.out)).2.2.2.2).mono ?_
        rintro e V7 ⟨rfl, f7⟩
        have HB7 : Hid (Below V3.heap.size V3 V7) := andThen HB6.out f7
        clear f7 HB6 x1
        have HAP : Hid (∀ W, W = V7.alloc (.cells #[.slice ad1 n1 c1, .slice ad2 n2 c2] 34) → Calls Try.prog 15 #[.slice (some ⟨gl, 0, none⟩) ml cl, .slice (some ⟨V7.heap.size, 0, none⟩) 2 2] W fun e w' => e = .returned (.bool true) ∧ Below W5.heap.size W5 w' ∧ Wb.Own W5.heap.size w' (.slice ad3 n3 c3) (Ix.encA ps).1) := fun W e => by
          have hb8 : Below V7.heap.size V7 W := by
            rw [e]
            exact up0 _ _
          have hb : Below V3.heap.size V3 W := andThen HB7.out hb8
          have hk := HV3.out.1.kept hb
          have t1 := HV3.out.2.1.kept hb
          have t2 := HV3.out.2.2.1.kept hb
          have hs7 : W5.heap.size ≤ V7.heap.size := Nat.le_trans HV3.out.1.low.size HB7.out.size
          have hrT : W.ownsRow W5.heap.size 34 1 (.slice (some ⟨V7.heap.size, 0, none⟩) 2 2) [Value.slice ad1 n1 c1, .slice ad2 n2 c2].length [.slice ad1 n1 c1, .slice ad2 n2 c2] := by
            rw [e]
            exact World.ownsRow_lit (base := W5.heap.size) (e := 34) (size := 1) V7 #[.slice ad1 n1 c1, .slice ad2 n2 c2] 2 hs7 (by simp [maxLen]) rfl
          have fT : Mg.Fam W5.heap.size W 5 1 (fun _ => (Ix.encA ps).1.length) [.slice ad1 n1 c1, .slice ad2 n2 c2] (fun _ => bv (Ix.encA ps).1) := fun q u hq => by
            match q, hq with
            | 0, hq =>
              obtain rfl := Option.some.inj hq
              exact t1.row
            | 1, hq =>
              obtain rfl := Option.some.inj hq
              exact t2.row
            | q + 2, hq => simp at hq
          have aT : Mg.Apt [Value.slice ad1 n1 c1, .slice ad2 n2 c2] := (Mg.Apt.nil.snoc (.slice ad1 n1 c1) (fun u hu => by cases hu)).snoc (.slice ad2 n2 c2) (fun u hu k hk2 => by
            obtain rfl := List.mem_singleton.1 hu
            exact HV3.out.2.2.2.1 k hk2)
          refine (ixapart_any W5.heap.size (.slice (some ⟨gl, 0, none⟩) ml cl) _ L [.slice ad1 n1 c1, .slice ad2 n2 c2] (fun q => (kzs kvs q).length) (fun _ => (Ix.encA ps).1.length) (fun q => ivs (kzs kvs q)) (fun _ => bv (Ix.encA ps).1) W hk.row hrT hk.fam fT hk.apt aT (by have := HML.out.2; omega) (by simp) (fun q => by
            have := kzs_len ps q
            rw [HKV.out.1]
            omega) (fun _ => by have := HLN.out; omega) hk.low.size).mono fun e w' ⟨h1, h2⟩ => ⟨h1, hk.low.trans (h2.below _ hk.low.size fun k hof => ?_), own_keptB ((HV3.out.2.2.2.2.1.mono HV3.out.2.2.2.2.2.2).kept hb) fun k ek => h2.block k (own_block (HV3.out.2.2.2.2.1.kept hb) k ek).2 fun hof => by
              have h8 := HV3.out.2.2.2.2.2.1 k hof
              have h9 := (own_block HV3.out.2.2.2.2.1 k ek).1
              omega⟩
          rcases hof with ⟨u, hu, e⟩ | ⟨u, hu, e⟩
          · exact (hk.fam.lt u hu k e).1
          · exact (fT.lt u hu k e).1
        go_wp2_with fail
        refine (HAP.out _ rfl).mono ?_
        rintro e V8 ⟨rfl, f8, w8⟩
        have HV8 : Hid (Below W5.heap.size W5 V8 ∧ Wb.Own W5.heap.size V8 (.slice ad3 n3 c3) (Ix.encA ps).1) := ⟨f8, w8⟩
        clear f8 w8 HAP HV3 HB7
        go_wp2_with fail
        refine (HHO.out V8 g b base _ _ (HMI.out V8 HV8.out.1).1 (HMI.out V8 HV8.out.1).2.1 (by omega)).mono ?_
        rintro e V9 ⟨rfl, f9⟩
        have HV9 : Hid (Below W5.heap.size W5 V9 ∧ Wb.Own W5.heap.size V9 (.slice ad3 n3 c3) (Ix.encA ps).1) := ⟨andThen HV8.out.1 f9, HV8.out.2.kept f9⟩
        clear f9 HV8
        by_cases hz : er = 0
        · have hd0 : ((er : Int) != 0) = false := by simp; omega
          have HDC : Hid (∀ W, Wb.Own W5.heap.size W (.slice ad3 n3 c3) (Ix.encA ps).1 → Calls Try.prog 16 #[.slice ad3 n3 c3] W fun e w' => ∃ g5 b5 base5 n5, e = .returned (.tuple #[.pointer (some ⟨g5, 0, none⟩), .int .i64 0]) ∧ MI w' g5 b5 base5 n5 (Ix.gml ps) ∧ n5 ≤ 60000 ∧ W.heap.size ≤ b5 ∧ Below W.heap.size W w') := fun W hW => (ixdec_any _ (Ix.encA ps).1 W hW.bs (by have := HLN.out; omega)).mono fun e w' hD => by
            unfold DcPost at hD
            rw [HDEC.out hz] at hD
            rcases hD with ⟨-, g5, b5, base5, n5, e1, e2, e3, e4, e5⟩ | ⟨h0, -⟩
            · exact ⟨g5, b5, base5, n5, e1, e2, by have := HLN.out; omega, e3, e5⟩
            · exact absurd rfl h0
          clear hz
          go_wp2_with fail
          refine (HDC.out V9 HV9.out.2).mono ?_
          rintro e V10 ⟨gx, bx, bsx, nx, rfl, mx, hnx, hbx, f10⟩
          have HX : Hid (MI V10 gx bx bsx nx (Ix.gml ps) ∧ V9.heap.size ≤ bx ∧ Below V9.heap.size V9 V10) := ⟨mx, hbx, f10⟩
          clear mx hbx f10
          go_wp2_with fail
          refine (HDC.out V10 (HV9.out.2.kept HX.out.2.2)).mono ?_
          rintro e V11 ⟨gy, bY, bsy, ny, rfl, my, hny, hby, f11⟩
          have HY : Hid (MI V11 gy bY bsy ny (Ix.gml ps) ∧ V10.heap.size ≤ bY ∧ Below V10.heap.size V10 V11) := ⟨my, hby, f11⟩
          clear my hby f11
          go_wp2_with fail
          refine (HHO.out V11 gx bx bsx nx _ (HX.out.1.kept HY.out.2.2) (HMI.out V11 (andThen (andThen HV9.out.1 HX.out.2.2) HY.out.2.2)).2.1 (by omega)).mono ?_
          rintro e V12 ⟨rfl, f12⟩
          have H12 : Hid (Below V11.heap.size V11 V12) := f12
          clear f12
          go_wp2_with fail
          refine (HHO.out V12 gy bY bsy ny _ (HY.out.1.kept H12.out) (HMI.out V12 (andThen (andThen (andThen HV9.out.1 HX.out.2.2) HY.out.2.2) H12.out)).2.1 (by omega)).mono ?_
          rintro e V13 ⟨rfl, f13⟩
          have H13 : Hid (Below V11.heap.size V11 V13) := andThen H12.out f13
          have HP13 : Hid (Pr V13 (.slice va ps.length vc) ps) := (HMI.out V13 (andThen (andThen (andThen HV9.out.1 HX.out.2.2) HY.out.2.2) (andThen H12.out f13))).2.1
          clear f13 H12
          have HKM : Hid (∀ (a' : Option Addr) (m' c' : Nat) (W : World), W.ownsRow V13.heap.size 47 2 (.slice a' m' c') ps.length (ps.flatMap enP) → Below V13.heap.size V13 W → KM V9 V10 V11 gx bx bsx nx ps (.slice a' m' c') gy bY W) := fun a' m' c' W hr hb => by
            have s1 := HX.out.2.2.size
            have s2 := HY.out.2.2.size
            have s3 := H13.out.size
            have hb11 : Below V11.heap.size V11 W := andThen H13.out hb
            have hb10 : Below V10.heap.size V10 W := andThen HY.out.2.2 hb11
            have hb9 : Below V9.heap.size V9 W := andThen HX.out.2.2 hb10
            have mW := HX.out.1.kept hb10
            have mb := HX.out.1.blt
            have hsame : ∀ q, Mrow W bx q → Mrow V10 bx q := fun q hq => hq.same (hb10.block bx mb.2)
            refine ⟨⟨mW, Mg.row_weak hr (by omega), hb9, fun q hq => ?_, HX.out.2.1, HWB.out⟩, fun q hq => .inl (HX.out.1.row (hsame q hq)).2, mb.2, fun k h1 h2 => hb11.block k h2, HY.out.1.box.kept hb11, fun q e => ?_, hb11.size, HY.out.2.2.size⟩
            · have h9 := (HX.out.1.row (hsame q hq)).1
              have h8 := mb.1
              have h7 := HX.out.2.1
              omega
            · have := (World.ownsRow.lt hr q e).1
              omega
          go_wp2_with (at_builtin; refine wpList_appCP _ rfl (.tmp 185) rfl _ ps rfl HP13.out (by omega) ?_)
          intro a14 c14 m14 V14 r14 f14
          have HM : Hid (KM V9 V10 V11 gx bx bsx nx ps (.slice a14 m14 c14) gy bY V14) := HKM.out _ _ _ _ r14 f14
          clear r14 f14 HKM HP13 H13
          go_wp2_with fail
          go_loopw [15, 16] (fun s i wr => ∃ i' : Nat, i' ≤ keys.length ∧ i = .int .i64 (i' : Int) ∧ (∃ a, ∃ m c : Nat, s = .slice a m c) ∧ KM V9 V10 V11 gx bx bsx (nx + i') (ps ++ kadds keys i') s gy bY wr) (fun _ i _ => keys.length - (intOf i).toNat)
          case atStart => exact ⟨0, Nat.zero_le _, rfl, ⟨_, _, _, rfl⟩, by simpa [kadds] using HM.out⟩
          case round =>
            clear HM
            obtain ⟨i, hi, rfl, ⟨sa, sm, sc, rfl⟩, hm⟩ := hrel
            have HBW : Hid (Below W5.heap.size W5 wr) := HV9.out.1.trans (hm.dp.bel.mono HV9.out.1.size)
            have HM1 : Hid (KM V9 V10 V11 gx bx bsx (nx + i) (ps ++ kadds keys i) (.slice sa sm sc) gy bY wr) := hm
            have HPL : Hid ((ps ++ kadds keys i).length ≤ 600) := by
              show (ps ++ kadds keys i).length ≤ 600
              rw [List.length_append, kadds_len]
              omega
            obtain ⟨qs, hqs⟩ : ∃ qs, qs = ps ++ kadds keys i := ⟨_, rfl⟩
            rw [← hqs] at HM1 HPL
            have HQ : Hid (qs = ps ++ kadds keys i) := hqs
            clear hm hqs
            by_cases hlt : i < keys.length
            · obtain ⟨kb, ko, rfl, hkc⟩ := HKC.out i hlt
              obtain ⟨x, hx⟩ : ∃ x, x = keys[i] := ⟨_, rfl⟩
              rw [← hx] at hkc
              have HKX : Hid (kadds keys (i + 1) = kadds keys i ++ [(x, -5 - (i : Int))]) := by
                show kadds keys (i + 1) = kadds keys i ++ [(x, -5 - (i : Int))]
                rw [kadds_succ, List.getD_eq_getElem?_getD, List.getElem?_eq_getElem hlt, hx]
                rfl
              have hwx : (Lit.int .i64 x).wf = true := by rw [hx]; exact HKW.out i hlt
              have hwi : (Lit.int .i64 (-5 - (i : Int))).wf = true := wf_of_bounds (by omega) (by omega)
              have x0 := hkc wr HBW.out
              have HAD : Hid (Calls Try.prog 17 #[.pointer (some ⟨gx, 0, none⟩), .int .i64 x, .int .i64 (-5 - (i : Int))] wr fun e w' => e = .returned (.tuple #[]) ∧ w'.cell? ⟨kb, ko + i, none⟩ = some (.int .i64 x) ∧ ∀ W1, W1 = w'.alloc (.cells #[.int .i64 x, .int .i64 (-5 - (i : Int))] 47) → W1.ownsRow V9.heap.size 47 2 (.slice sa sm sc) qs.length (qs.flatMap enP) ∧ V9.heap.size ≤ W1.heap.size ∧ W1.rangeAt w'.heap.size 0 (enP (x, -5 - (i : Int))) ∧ ∀ W2 u, W2.ownsRow V9.heap.size 47 2 u (qs.length + 1) ((qs ++ [(x, -5 - (i : Int))]).flatMap enP) → W1.grownBy W2 (Value.slice sa sm sc).ownBlock → (u.ownBlock = (Value.slice sa sm sc).ownBlock ∨ u.ownBlock = some W1.heap.size) → KM V9 V10 V11 gx bx bsx (nx + i + 1) (qs ++ [(x, -5 - (i : Int))]) u gy bY W2) := (ixadd_any gx bx bsx (nx + i) _ x (-5 - (i : Int)) wr HM1.out.dp.mi hwx hwi (by omega)).mono fun e w' ⟨e1, e2, e3, e4⟩ => ⟨e1, by
                  have hb' : Below V9.heap.size V9 w' := HM1.out.dp.bel.trans (e3.below _ HM1.out.dp.bel.size fun k hk => hk.elim (fun e => by rw [e]; exact HM1.out.dp.hb) (HM1.out.dp.mr k))
                  exact hkc w' (HV9.out.1.trans (hb'.mono HV9.out.1.size)), fun W1 hW1 => by
                  have b1' : Below w'.heap.size w' W1 := by
                    rw [hW1]
                    exact up0 _ _
                  have h9 := fun W2 u => HM1.out.add (W2 := W2) x (-5 - (i : Int)) hwx hwi e2 e3 e4 b1' u
                  exact ⟨(h9 W1 (.slice sa sm sc)).1, (h9 W1 (.slice sa sm sc)).2.1, by rw [hW1]; exact (lb_new w' (enP (x, -5 - (i : Int))) 47).range, fun W2 u => (h9 W2 u).2.2⟩⟩
              clear hkc hx hwx hwi HBW HM1
              go_wp2_with fail
              refine HAD.out.mono ?_
              rintro e V20 ⟨rfl, x1, k20⟩
              have K20 : Hid (∀ W1, W1 = V20.alloc (.cells #[.int .i64 x, .int .i64 (-5 - (i : Int))] 47) → W1.ownsRow V9.heap.size 47 2 (.slice sa sm sc) qs.length (qs.flatMap enP) ∧ V9.heap.size ≤ W1.heap.size ∧ W1.rangeAt V20.heap.size 0 (enP (x, -5 - (i : Int))) ∧ ∀ W2 u, W2.ownsRow V9.heap.size 47 2 u (qs.length + 1) ((qs ++ [(x, -5 - (i : Int))]).flatMap enP) → W1.grownBy W2 (Value.slice sa sm sc).ownBlock → (u.ownBlock = (Value.slice sa sm sc).ownBlock ∨ u.ownBlock = some W1.heap.size) → KM V9 V10 V11 gx bx bsx (nx + i + 1) (qs ++ [(x, -5 - (i : Int))]) u gy bY W2) := k20
              clear k20 HAD x0
              go_wp2_with (at_builtin; refine wpList_appPA _ rfl (.tmp 201) (.tmp 209) rfl V9.heap.size (.slice sa sm sc) qs rfl (K20.out _ rfl).1 V20.heap.size 1 (x, -5 - (i : Int)) rfl (K20.out _ rfl).2.2.1 (by have := HPL.out; omega) (K20.out _ rfl).2.1 ?_)
              intro v21 V21 r21 g21 at21
              have k21 := (K20.out _ rfl).2.2.2 V21 v21 (by rw [List.flatMap_append]; simpa using r21) g21 (by rw [heap_one]; exact at21)
              obtain ⟨a21, c21, e21, -⟩ := Mg.row_shape r21
              generalize qs.length + 1 = m21 at e21
              subst e21
              have H21 : Hid (KM V9 V10 V11 gx bx bsx (nx + i + 1) (qs ++ [(x, -5 - (i : Int))]) (.slice a21 m21 c21) gy bY V21) := k21
              clear r21 g21 at21 k21 K20 x1
              go_wp2_with fail
              go_roundw
              case rel => exact ⟨i + 1, by omega, by go_num, ⟨_, _, _, rfl⟩, by rw [HKX.out, ← List.append_assoc, ← HQ.out, ← Nat.add_assoc]; exact H21.out⟩
              case measure => simp [intOf]; omega
            · obtain rfl : i = keys.length := by omega
              have HAD : Hid (Calls Try.prog 17 #[.pointer (some ⟨gx, 0, none⟩), .int .i64 (-77), .int .i64 1] wr fun e w' => e = .returned (.tuple #[]) ∧ ∀ W1, W1 = w'.alloc (.cells #[.int .i64 (-77), .int .i64 1] 47) → W1.ownsRow V9.heap.size 47 2 (.slice sa sm sc) qs.length (qs.flatMap enP) ∧ V9.heap.size ≤ W1.heap.size ∧ W1.rangeAt w'.heap.size 0 (enP (-77, 1)) ∧ ∀ W2 u, W2.ownsRow V9.heap.size 47 2 u (qs.length + 1) ((qs ++ [(-77, 1)]).flatMap enP) → W1.grownBy W2 (Value.slice sa sm sc).ownBlock → (u.ownBlock = (Value.slice sa sm sc).ownBlock ∨ u.ownBlock = some W1.heap.size) → KM V9 V10 V11 gx bx bsx (nx + keys.length + 1) (qs ++ [(-77, 1)]) u gy bY W2) := (ixadd_any gx bx bsx (nx + keys.length) _ (-77) 1 wr HM1.out.dp.mi (by decide) (by decide) (by omega)).mono fun e w' ⟨e1, e2, e3, e4⟩ => ⟨e1, fun W1 hW1 => by
                  have b1' : Below w'.heap.size w' W1 := by
                    rw [hW1]
                    exact up0 _ _
                  have h9 := fun W2 u => HM1.out.add (W2 := W2) (-77) 1 (by decide) (by decide) e2 e3 e4 b1' u
                  exact ⟨(h9 W1 (.slice sa sm sc)).1, (h9 W1 (.slice sa sm sc)).2.1, by rw [hW1]; exact (lb_new w' (enP (-77, 1)) 47).range, fun W2 u => (h9 W2 u).2.2⟩⟩
              clear HBW HM1 hlt hi
              go_wp2_with fail
              refine HAD.out.mono ?_
              rintro e V22 ⟨rfl, k22⟩
              have K22 : Hid (∀ W1, W1 = V22.alloc (.cells #[.int .i64 (-77), .int .i64 1] 47) → W1.ownsRow V9.heap.size 47 2 (.slice sa sm sc) qs.length (qs.flatMap enP) ∧ V9.heap.size ≤ W1.heap.size ∧ W1.rangeAt V22.heap.size 0 (enP (-77, 1)) ∧ ∀ W2 u, W2.ownsRow V9.heap.size 47 2 u (qs.length + 1) ((qs ++ [(-77, 1)]).flatMap enP) → W1.grownBy W2 (Value.slice sa sm sc).ownBlock → (u.ownBlock = (Value.slice sa sm sc).ownBlock ∨ u.ownBlock = some W1.heap.size) → KM V9 V10 V11 gx bx bsx (nx + keys.length + 1) (qs ++ [(-77, 1)]) u gy bY W2) := k22
              clear k22 HAD
              go_wp2_with (at_builtin; refine wpList_appPA _ rfl (.tmp 213) (.tmp 215) rfl V9.heap.size (.slice sa sm sc) qs rfl (K22.out _ rfl).1 V22.heap.size 1 (-77, 1) rfl (K22.out _ rfl).2.2.1 (by have := HPL.out; omega) (K22.out _ rfl).2.1 ?_)
              intro v23 V23 r23 g23 at23
              have k23 := (K22.out _ rfl).2.2.2 V23 v23 (by rw [List.flatMap_append]; simpa using r23) g23 (by rw [heap_one]; exact at23)
              obtain ⟨a23, c23, e23, -⟩ := Mg.row_shape r23
              generalize qs.length + 1 = m23 at e23
              subst e23
              obtain ⟨psF, hpsF⟩ : ∃ psF, psF = qs ++ [(-77, 1)] := ⟨_, rfl⟩
              rw [← hpsF] at k23
              have H23 : Hid (KM V9 V10 V11 gx bx bsx (nx + keys.length + 1) psF (.slice a23 m23 c23) gy bY V23) := k23
              have HLF : Hid (psF.length ≤ 601) := by
                show psF.length ≤ 601
                rw [hpsF, List.length_append]
                have := HPL.out
                simp only [List.length_cons, List.length_nil]
                omega
              have HTW : Hid (∀ h0 : 0 < keys.length, 2 ≤ (Ix.get (Ix.gml psF) keys[0]).length) := fun h0 => by
                rw [hpsF, HQ.out, List.append_assoc]
                refine Ix.twice ps _ keys[0] (-5) ?_ (List.mem_append_left _ ?_)
                · rw [← HKV.out.1, ← HKV.out.2]
                  exact List.getElem_mem h0
                · refine List.mem_map.2 ⟨0, List.mem_range.2 h0, ?_⟩
                  rw [List.getD_eq_getElem?_getD, List.getElem?_eq_getElem h0]
                  rfl
              have HHF : Hid (Calls Try.prog 6 #[.pointer (some ⟨gx, 0, none⟩), .slice a23 m23 c23] V23 fun e w' => e = .returned (.bool true) ∧ Below V23.heap.size V23 w') := ixholds_any gx bx bsx _ psF _ V23 k23.dp.mi (Pr.of k23.dp.row) (by omega) (by have := HLF.out; omega) fun p hp => (k23.dp.bd p hp).1
              clear r23 g23 at23 k23 K22 hpsF
              go_wp2_with fail
              refine HHF.out.mono ?_
              rintro e V24 ⟨rfl, f24⟩
              have H24 : Hid (KM V9 V10 V11 gx bx bsx (nx + keys.length + 1) psF (.slice a23 m23 c23) gy bY V24) := H23.out.kept f24
              clear f24 H23 HHF
              by_cases hk0 : 0 < keys.length
              · obtain ⟨kb, ko, rfl, hkc⟩ := HKC.out 0 hk0
                have x0 := hkc V24 (HV9.out.1.trans (H24.out.dp.bel.mono HV9.out.1.size))
                rw [Nat.add_zero] at x0
                obtain ⟨x, hx⟩ : ∃ x, x = keys[0] := ⟨_, rfl⟩
                rw [← hx] at x0
                have hg0 : ((0 : Int) < (keys.length : Int)) = True := by simp; omega
                obtain ⟨gn, hgn⟩ : ∃ gn, gn = (Ix.get (Ix.gml psF) x).length := ⟨_, rfl⟩
                have hg2 : ((gn : Int) < 2) = False := by
                  have := HTW.out hk0
                  rw [← hx, ← hgn] at this
                  simp
                  omega
                have HDR : Hid (Calls Try.prog 18 #[.pointer (some ⟨gx, 0, none⟩), .int .i64 x] V24 fun e w' => e = .returned (.int .i64 (gn : Int)) ∧ MI w' gy bY bsy ny (Ix.gml ps) ∧ Below V9.heap.size V9 w') := by
                  rw [hgn]
                  exact (ixdrop_any gx bx bsx _ (Ix.gml psF) x V24 H24.out.dp.mi (by rw [hx]; exact HKW.out 0 hk0) (by omega)).mono fun e w' ⟨d1, d2, d3, d4⟩ => ⟨d1, H24.out.miyDrop HY.out.1 HY.out.2.1 d3⟩
                clear hkc hx hgn
                go_wp2_with fail
                refine HDR.out.mono ?_
                rintro e V25 ⟨rfl, my, f25⟩
                have H25 : Hid (MI V25 gy bY bsy ny (Ix.gml ps) ∧ Below V9.heap.size V9 V25) := ⟨my, f25⟩
                clear my f25 HDR H24 x0
                go_wp2_with fail
                refine (HDC.out V25 (HV9.out.2.kept H25.out.2)).mono ?_
                rintro e V26 ⟨gz, bz, bsz, nz, rfl, mz, hnz, -, f26⟩
                have H26 : Hid (MI V26 gz bz bsz nz (Ix.gml ps) ∧ MI V26 gy bY bsy ny (Ix.gml ps) ∧ Below V9.heap.size V9 V26) := ⟨mz, H25.out.1.kept f26, andThen H25.out.2 f26⟩
                clear mz f26 H25
                go_wp2_with fail
                refine (HHO.out V26 gy bY bsy ny _ H26.out.2.1 (HMI.out V26 (HV9.out.1.trans (H26.out.2.2.mono HV9.out.1.size))).2.1 (by omega)).mono ?_
                rintro e V27 ⟨rfl, f27⟩
                have H27 : Hid (MI V27 gz bz bsz nz (Ix.gml ps) ∧ Below V9.heap.size V9 V27) := ⟨H26.out.1.kept f27, andThen H26.out.2.2 f27⟩
                clear f27 H26
                go_wp2_with fail
                refine (HHO.out V27 gz bz bsz nz _ H27.out.1 (HMI.out V27 (HV9.out.1.trans (H27.out.2.mono HV9.out.1.size))).2.1 (by omega)).mono ?_
                rintro e V28 ⟨rfl, f28⟩
                have H28 : Hid (Below W0.heap.size W0 V28) := (HMI.out V28 (HV9.out.1.trans ((andThen H27.out.2 f28).mono HV9.out.1.size))).2.2
                clear f28 H27
                go_wp2_with fail
                go_returns
                exact ⟨rfl, H28.out⟩
              · have hg0 : ((0 : Int) < (keys.length : Int)) = False := eq_false (by omega)
                obtain ⟨V25, hV25⟩ : ∃ V, V = V24 := ⟨_, rfl⟩
                have H25 : Hid (MI V25 gy bY bsy ny (Ix.gml ps) ∧ Below V9.heap.size V9 V25) := by
                  rw [hV25]
                  exact ⟨H24.out.miy HY.out.1 HY.out.2.1, H24.out.dp.bel⟩
                rw [← hV25]
                clear hV25 H24
                go_wp2_with fail
                refine (HDC.out V25 (HV9.out.2.kept H25.out.2)).mono ?_
                rintro e V26 ⟨gz, bz, bsz, nz, rfl, mz, hnz, -, f26⟩
                have H26 : Hid (MI V26 gz bz bsz nz (Ix.gml ps) ∧ MI V26 gy bY bsy ny (Ix.gml ps) ∧ Below V9.heap.size V9 V26) := ⟨mz, H25.out.1.kept f26, andThen H25.out.2 f26⟩
                clear mz f26 H25
                go_wp2_with fail
                refine (HHO.out V26 gy bY bsy ny _ H26.out.2.1 (HMI.out V26 (HV9.out.1.trans (H26.out.2.2.mono HV9.out.1.size))).2.1 (by omega)).mono ?_
                rintro e V27 ⟨rfl, f27⟩
                have H27 : Hid (MI V27 gz bz bsz nz (Ix.gml ps) ∧ Below V9.heap.size V9 V27) := ⟨H26.out.1.kept f27, andThen H26.out.2.2 f27⟩
                clear f27 H26
                go_wp2_with fail
                refine (HHO.out V27 gz bz bsz nz _ H27.out.1 (HMI.out V27 (HV9.out.1.trans (H27.out.2.mono HV9.out.1.size))).2.1 (by omega)).mono ?_
                rintro e V28 ⟨rfl, f28⟩
                have H28 : Hid (Below W0.heap.size W0 V28) := (HMI.out V28 (HV9.out.1.trans ((andThen H27.out.2 f28).mono HV9.out.1.size))).2.2
                clear f28 H27
                go_wp2_with fail
                go_returns
                exact ⟨rfl, H28.out⟩
        · have hd0 : ((er : Int) != 0) = true := by simp; omega
          have H9 : Hid (Below W0.heap.size W0 V9) := (HMI.out V9 HV9.out.1).2.2
          clear HV9 hz
          go_wp2_with fail
          go_ret
          exact ⟨rfl, H9.out⟩
      · go_wp2_with fail
        refine (HEN.out wr g b base (HMI.out wr HKN.out.low).1).mono ?_
        rintro e V1 ⟨ad1, n1, c1, rfl, w1, f1⟩
        have HV1 : Hid (KL kvs W5 (.slice (some ⟨gl, 0, none⟩) ml cl) L V1 ∧ Wb.Own wr.heap.size V1 (.slice ad1 n1 c1) (Ix.encA ps).1 ∧ W5.heap.size ≤ wr.heap.size) := ⟨HKN.out.kept f1, w1, HKN.out.low.size⟩
        clear w1 f1 HKN
        go_wp2_with fail
        refine (HEN.out V1 g b base (HMI.out V1 HV1.out.1.low).1).mono ?_
        rintro e V2 ⟨ad2, n2, c2, rfl, w2, f2⟩
        have HV2 : Hid (KL kvs W5 (.slice (some ⟨gl, 0, none⟩) ml cl) L V2 ∧ Wb.Own W5.heap.size V2 (.slice ad1 n1 c1) (Ix.encA ps).1 ∧ Wb.Own W5.heap.size V2 (.slice ad2 n2 c2) (Ix.encA ps).1 ∧ (∀ k, (Value.slice ad1 n1 c1).ownBlock = some k → (Value.slice ad2 n2 c2).ownBlock ≠ some k)) := ⟨HV1.out.1.kept f2, (HV1.out.2.1.mono HV1.out.2.2).kept f2, w2.mono HV1.out.1.low.size, fun k e1 e2 => by
          have h1 := (own_block HV1.out.2.1 k e1).2
          have h2 := (own_block w2 k e2).1
          omega⟩
        clear w2 f2 HV1
        go_wp2_with fail
        refine (HRE.out V2 _ (HMI.out V2 HV2.out.1.low).2.1).mono ?_
        rintro e V3 ⟨ad3, n3, c3, rfl, w3, f3⟩
        have HV3 : Hid (KL kvs W5 (.slice (some ⟨gl, 0, none⟩) ml cl) L V3 ∧ Wb.Own W5.heap.size V3 (.slice ad1 n1 c1) (Ix.encA ps).1 ∧ Wb.Own W5.heap.size V3 (.slice ad2 n2 c2) (Ix.encA ps).1 ∧ (∀ k, (Value.slice ad1 n1 c1).ownBlock = some k → (Value.slice ad2 n2 c2).ownBlock ≠ some k) ∧ Wb.Own V2.heap.size V3 (.slice ad3 n3 c3) (Ix.encA ps).1 ∧ (∀ k, Ap.Of L [.slice ad1 n1 c1, .slice ad2 n2 c2] k → k < V2.heap.size) ∧ W5.heap.size ≤ V2.heap.size) := ⟨HV2.out.1.kept f3, HV2.out.2.1.kept f3, HV2.out.2.2.1.kept f3, HV2.out.2.2.2, w3, fun k hk => by
          rcases hk with ⟨u, hu, e⟩ | ⟨u, hu, e⟩
          · exact (HV2.out.1.fam.lt u hu k e).2
          · simp only [List.mem_cons, List.not_mem_nil, or_false] at hu
            rcases hu with rfl | rfl
            · exact (own_block HV2.out.2.1 k e).2
            · exact (own_block HV2.out.2.2.1 k e).2, HV2.out.1.low.size⟩
        clear w3 f3 HV2
        go_wp2_with fail
        refine (HSB.out V3 _ _ _ HV3.out.2.1.bs HV3.out.2.2.2.2.1.bs).mono ?_
        rintro e V4 ⟨rfl, f4⟩
        have HB4 : Hid (Below V3.heap.size V3 V4) := f4
        clear f4
        go_wp2_with fail
        refine (HSB.out V4 _ _ _ (HV3.out.2.2.1.kept HB4.out).bs (HV3.out.2.2.2.2.1.kept HB4.out).bs).mono ?_
        rintro e V5 ⟨rfl, f5⟩
        have HB5 : Hid (Below V3.heap.size V3 V5) := andThen HB4.out f5
        obtain ⟨x0, -, -, -, -⟩ := HC0.out V5 (HV3.out.1.kept HB5.out)
        clear f5 HB4
        go_wp2_with fail
        refine (HSI.out V5 _ _ _ (HC0.out V5 (HV3.out.1.kept HB5.out)).2.2.1 (HC0.out V5 (HV3.out.1.kept HB5.out)).2.2.2.2).mono ?_
        rintro e V6 ⟨rfl, f6⟩
        have HB6 : Hid (Below V3.heap.size V3 V6) := andThen HB5.out f6
        clear f6 HB5 x0
        obtain ⟨-, x1, -, -, -⟩ := HC0.out V6 (HV3.out.1.kept HB6.out)
        go_wp2_with fail
        refine (HSI.out V6 _ _ _ (HC0.out V6 (HV3.out.1.kept HB6.out)).2.2.2.1 (HC0.out V6 (HV3.out.1.kept HB6.out)).2.2.2.2).mono ?_
        rintro e V7 ⟨rfl, f7⟩
        have HB7 : Hid (Below V3.heap.size V3 V7) := andThen HB6.out f7
        clear f7 HB6 x1
        have HAP : Hid (∀ W, W = V7.alloc (.cells #[.slice ad1 n1 c1, .slice ad2 n2 c2] 34) → Calls Try.prog 15 #[.slice (some ⟨gl, 0, none⟩) ml cl, .slice (some ⟨V7.heap.size, 0, none⟩) 2 2] W fun e w' => e = .returned (.bool true) ∧ Below W5.heap.size W5 w' ∧ Wb.Own W5.heap.size w' (.slice ad3 n3 c3) (Ix.encA ps).1) := fun W e => by
          have hb8 : Below V7.heap.size V7 W := by
            rw [e]
            exact up0 _ _
          have hb : Below V3.heap.size V3 W := andThen HB7.out hb8
          have hk := HV3.out.1.kept hb
          have t1 := HV3.out.2.1.kept hb
          have t2 := HV3.out.2.2.1.kept hb
          have hs7 : W5.heap.size ≤ V7.heap.size := Nat.le_trans HV3.out.1.low.size HB7.out.size
          have hrT : W.ownsRow W5.heap.size 34 1 (.slice (some ⟨V7.heap.size, 0, none⟩) 2 2) [Value.slice ad1 n1 c1, .slice ad2 n2 c2].length [.slice ad1 n1 c1, .slice ad2 n2 c2] := by
            rw [e]
            exact World.ownsRow_lit (base := W5.heap.size) (e := 34) (size := 1) V7 #[.slice ad1 n1 c1, .slice ad2 n2 c2] 2 hs7 (by simp [maxLen]) rfl
          have fT : Mg.Fam W5.heap.size W 5 1 (fun _ => (Ix.encA ps).1.length) [.slice ad1 n1 c1, .slice ad2 n2 c2] (fun _ => bv (Ix.encA ps).1) := fun q u hq => by
            match q, hq with
            | 0, hq =>
              obtain rfl := Option.some.inj hq
              exact t1.row
            | 1, hq =>
              obtain rfl := Option.some.inj hq
              exact t2.row
            | q + 2, hq => simp at hq
          have aT : Mg.Apt [Value.slice ad1 n1 c1, .slice ad2 n2 c2] := (Mg.Apt.nil.snoc (.slice ad1 n1 c1) (fun u hu => by cases hu)).snoc (.slice ad2 n2 c2) (fun u hu k hk2 => by
            obtain rfl := List.mem_singleton.1 hu
            exact HV3.out.2.2.2.1 k hk2)
          refine (ixapart_any W5.heap.size (.slice (some ⟨gl, 0, none⟩) ml cl) _ L [.slice ad1 n1 c1, .slice ad2 n2 c2] (fun q => (kzs kvs q).length) (fun _ => (Ix.encA ps).1.length) (fun q => ivs (kzs kvs q)) (fun _ => bv (Ix.encA ps).1) W hk.row hrT hk.fam fT hk.apt aT (by have := HML.out.2; omega) (by simp) (fun q => by
            have := kzs_len ps q
            rw [HKV.out.1]
            omega) (fun _ => by have := HLN.out; omega) hk.low.size).mono fun e w' ⟨h1, h2⟩ => ⟨h1, hk.low.trans (h2.below _ hk.low.size fun k hof => ?_), own_keptB ((HV3.out.2.2.2.2.1.mono HV3.out.2.2.2.2.2.2).kept hb) fun k ek => h2.block k (own_block (HV3.out.2.2.2.2.1.kept hb) k ek).2 fun hof => by
              have h8 := HV3.out.2.2.2.2.2.1 k hof
              have h9 := (own_block HV3.out.2.2.2.2.1 k ek).1
              omega⟩
          rcases hof with ⟨u, hu, e⟩ | ⟨u, hu, e⟩
          · exact (hk.fam.lt u hu k e).1
          · exact (fT.lt u hu k e).1
        go_wp2_with fail
        refine (HAP.out _ rfl).mono ?_
        rintro e V8 ⟨rfl, f8, w8⟩
        have HV8 : Hid (Below W5.heap.size W5 V8 ∧ Wb.Own W5.heap.size V8 (.slice ad3 n3 c3) (Ix.encA ps).1) := ⟨f8, w8⟩
        clear f8 w8 HAP HV3 HB7
        go_wp2_with fail
        refine (HHO.out V8 g b base _ _ (HMI.out V8 HV8.out.1).1 (HMI.out V8 HV8.out.1).2.1 (by omega)).mono ?_
        rintro e V9 ⟨rfl, f9⟩
        have HV9 : Hid (Below W5.heap.size W5 V9 ∧ Wb.Own W5.heap.size V9 (.slice ad3 n3 c3) (Ix.encA ps).1) := ⟨andThen HV8.out.1 f9, HV8.out.2.kept f9⟩
        clear f9 HV8
        by_cases hz : er = 0
        · have hd0 : ((er : Int) != 0) = false := by simp; omega
          have HDC : Hid (∀ W, Wb.Own W5.heap.size W (.slice ad3 n3 c3) (Ix.encA ps).1 → Calls Try.prog 16 #[.slice ad3 n3 c3] W fun e w' => ∃ g5 b5 base5 n5, e = .returned (.tuple #[.pointer (some ⟨g5, 0, none⟩), .int .i64 0]) ∧ MI w' g5 b5 base5 n5 (Ix.gml ps) ∧ n5 ≤ 60000 ∧ W.heap.size ≤ b5 ∧ Below W.heap.size W w') := fun W hW => (ixdec_any _ (Ix.encA ps).1 W hW.bs (by have := HLN.out; omega)).mono fun e w' hD => by
            unfold DcPost at hD
            rw [HDEC.out hz] at hD
            rcases hD with ⟨-, g5, b5, base5, n5, e1, e2, e3, e4, e5⟩ | ⟨h0, -⟩
            · exact ⟨g5, b5, base5, n5, e1, e2, by have := HLN.out; omega, e3, e5⟩
            · exact absurd rfl h0
          clear hz
          go_wp2_with fail
          refine (HDC.out V9 HV9.out.2).mono ?_
          rintro e V10 ⟨gx, bx, bsx, nx, rfl, mx, hnx, hbx, f10⟩
          have HX : Hid (MI V10 gx bx bsx nx (Ix.gml ps) ∧ V9.heap.size ≤ bx ∧ Below V9.heap.size V9 V10) := ⟨mx, hbx, f10⟩
          clear mx hbx f10
          go_wp2_with fail
          refine (HDC.out V10 (HV9.out.2.kept HX.out.2.2)).mono ?_
          rintro e V11 ⟨gy, bY, bsy, ny, rfl, my, hny, hby, f11⟩
          have HY : Hid (MI V11 gy bY bsy ny (Ix.gml ps) ∧ V10.heap.size ≤ bY ∧ Below V10.heap.size V10 V11) := ⟨my, hby, f11⟩
          clear my hby f11
          go_wp2_with fail
          refine (HHO.out V11 gx bx bsx nx _ (HX.out.1.kept HY.out.2.2) (HMI.out V11 (andThen (andThen HV9.out.1 HX.out.2.2) HY.out.2.2)).2.1 (by omega)).mono ?_
          rintro e V12 ⟨rfl, f12⟩
          have H12 : Hid (Below V11.heap.size V11 V12) := f12
          clear f12
          go_wp2_with fail
          refine (HHO.out V12 gy bY bsy ny _ (HY.out.1.kept H12.out) (HMI.out V12 (andThen (andThen (andThen HV9.out.1 HX.out.2.2) HY.out.2.2) H12.out)).2.1 (by omega)).mono ?_
          rintro e V13 ⟨rfl, f13⟩
          have H13 : Hid (Below V11.heap.size V11 V13) := andThen H12.out f13
          have HP13 : Hid (Pr V13 (.slice va ps.length vc) ps) := (HMI.out V13 (andThen (andThen (andThen HV9.out.1 HX.out.2.2) HY.out.2.2) (andThen H12.out f13))).2.1
          clear f13 H12
          have HKM : Hid (∀ (a' : Option Addr) (m' c' : Nat) (W : World), W.ownsRow V13.heap.size 47 2 (.slice a' m' c') ps.length (ps.flatMap enP) → Below V13.heap.size V13 W → KM V9 V10 V11 gx bx bsx nx ps (.slice a' m' c') gy bY W) := fun a' m' c' W hr hb => by
            have s1 := HX.out.2.2.size
            have s2 := HY.out.2.2.size
            have s3 := H13.out.size
            have hb11 : Below V11.heap.size V11 W := andThen H13.out hb
            have hb10 : Below V10.heap.size V10 W := andThen HY.out.2.2 hb11
            have hb9 : Below V9.heap.size V9 W := andThen HX.out.2.2 hb10
            have mW := HX.out.1.kept hb10
            have mb := HX.out.1.blt
            have hsame : ∀ q, Mrow W bx q → Mrow V10 bx q := fun q hq => hq.same (hb10.block bx mb.2)
            refine ⟨⟨mW, Mg.row_weak hr (by omega), hb9, fun q hq => ?_, HX.out.2.1, HWB.out⟩, fun q hq => .inl (HX.out.1.row (hsame q hq)).2, mb.2, fun k h1 h2 => hb11.block k h2, HY.out.1.box.kept hb11, fun q e => ?_, hb11.size, HY.out.2.2.size⟩
            · have h9 := (HX.out.1.row (hsame q hq)).1
              have h8 := mb.1
              have h7 := HX.out.2.1
              omega
            · have := (World.ownsRow.lt hr q e).1
              omega
          go_wp2_with (at_builtin; refine wpList_appCP _ rfl (.tmp 185) rfl _ ps rfl HP13.out (by omega) ?_)
          intro a14 c14 m14 V14 r14 f14
          have HM : Hid (KM V9 V10 V11 gx bx bsx nx ps (.slice a14 m14 c14) gy bY V14) := HKM.out _ _ _ _ r14 f14
          clear r14 f14 HKM HP13 H13
          go_wp2_with fail
          go_loopw [15, 16] (fun s i wr => ∃ i' : Nat, i' ≤ keys.length ∧ i = .int .i64 (i' : Int) ∧ (∃ a, ∃ m c : Nat, s = .slice a m c) ∧ KM V9 V10 V11 gx bx bsx (nx + i') (ps ++ kadds keys i') s gy bY wr) (fun _ i _ => keys.length - (intOf i).toNat)
          case atStart => exact ⟨0, Nat.zero_le _, rfl, ⟨_, _, _, rfl⟩, by simpa [kadds] using HM.out⟩
          case round =>
            clear HM
            obtain ⟨i, hi, rfl, ⟨sa, sm, sc, rfl⟩, hm⟩ := hrel
            have HBW : Hid (Below W5.heap.size W5 wr) := HV9.out.1.trans (hm.dp.bel.mono HV9.out.1.size)
            have HM1 : Hid (KM V9 V10 V11 gx bx bsx (nx + i) (ps ++ kadds keys i) (.slice sa sm sc) gy bY wr) := hm
            have HPL : Hid ((ps ++ kadds keys i).length ≤ 600) := by
              show (ps ++ kadds keys i).length ≤ 600
              rw [List.length_append, kadds_len]
              omega
            obtain ⟨qs, hqs⟩ : ∃ qs, qs = ps ++ kadds keys i := ⟨_, rfl⟩
            rw [← hqs] at HM1 HPL
            have HQ : Hid (qs = ps ++ kadds keys i) := hqs
            clear hm hqs
            by_cases hlt : i < keys.length
            · obtain ⟨kb, ko, rfl, hkc⟩ := HKC.out i hlt
              obtain ⟨x, hx⟩ : ∃ x, x = keys[i] := ⟨_, rfl⟩
              rw [← hx] at hkc
              have HKX : Hid (kadds keys (i + 1) = kadds keys i ++ [(x, -5 - (i : Int))]) := by
                show kadds keys (i + 1) = kadds keys i ++ [(x, -5 - (i : Int))]
                rw [kadds_succ, List.getD_eq_getElem?_getD, List.getElem?_eq_getElem hlt, hx]
                rfl
              have hwx : (Lit.int .i64 x).wf = true := by rw [hx]; exact HKW.out i hlt
              have hwi : (Lit.int .i64 (-5 - (i : Int))).wf = true := wf_of_bounds (by omega) (by omega)
              have x0 := hkc wr HBW.out
              have HAD : Hid (Calls Try.prog 17 #[.pointer (some ⟨gx, 0, none⟩), .int .i64 x, .int .i64 (-5 - (i : Int))] wr fun e w' => e = .returned (.tuple #[]) ∧ w'.cell? ⟨kb, ko + i, none⟩ = some (.int .i64 x) ∧ ∀ W1, W1 = w'.alloc (.cells #[.int .i64 x, .int .i64 (-5 - (i : Int))] 47) → W1.ownsRow V9.heap.size 47 2 (.slice sa sm sc) qs.length (qs.flatMap enP) ∧ V9.heap.size ≤ W1.heap.size ∧ W1.rangeAt w'.heap.size 0 (enP (x, -5 - (i : Int))) ∧ ∀ W2 u, W2.ownsRow V9.heap.size 47 2 u (qs.length + 1) ((qs ++ [(x, -5 - (i : Int))]).flatMap enP) → W1.grownBy W2 (Value.slice sa sm sc).ownBlock → (u.ownBlock = (Value.slice sa sm sc).ownBlock ∨ u.ownBlock = some W1.heap.size) → KM V9 V10 V11 gx bx bsx (nx + i + 1) (qs ++ [(x, -5 - (i : Int))]) u gy bY W2) := (ixadd_any gx bx bsx (nx + i) _ x (-5 - (i : Int)) wr HM1.out.dp.mi hwx hwi (by omega)).mono fun e w' ⟨e1, e2, e3, e4⟩ => ⟨e1, by
                  have hb' : Below V9.heap.size V9 w' := HM1.out.dp.bel.trans (e3.below _ HM1.out.dp.bel.size fun k hk => hk.elim (fun e => by rw [e]; exact HM1.out.dp.hb) (HM1.out.dp.mr k))
                  exact hkc w' (HV9.out.1.trans (hb'.mono HV9.out.1.size)), fun W1 hW1 => by
                  have b1' : Below w'.heap.size w' W1 := by
                    rw [hW1]
                    exact up0 _ _
                  have h9 := fun W2 u => HM1.out.add (W2 := W2) x (-5 - (i : Int)) hwx hwi e2 e3 e4 b1' u
                  exact ⟨(h9 W1 (.slice sa sm sc)).1, (h9 W1 (.slice sa sm sc)).2.1, by rw [hW1]; exact (lb_new w' (enP (x, -5 - (i : Int))) 47).range, fun W2 u => (h9 W2 u).2.2⟩⟩
              clear hkc hx hwx hwi HBW HM1
              go_wp2_with fail
              refine HAD.out.mono ?_
              rintro e V20 ⟨rfl, x1, k20⟩
              have K20 : Hid (∀ W1, W1 = V20.alloc (.cells #[.int .i64 x, .int .i64 (-5 - (i : Int))] 47) → W1.ownsRow V9.heap.size 47 2 (.slice sa sm sc) qs.length (qs.flatMap enP) ∧ V9.heap.size ≤ W1.heap.size ∧ W1.rangeAt V20.heap.size 0 (enP (x, -5 - (i : Int))) ∧ ∀ W2 u, W2.ownsRow V9.heap.size 47 2 u (qs.length + 1) ((qs ++ [(x, -5 - (i : Int))]).flatMap enP) → W1.grownBy W2 (Value.slice sa sm sc).ownBlock → (u.ownBlock = (Value.slice sa sm sc).ownBlock ∨ u.ownBlock = some W1.heap.size) → KM V9 V10 V11 gx bx bsx (nx + i + 1) (qs ++ [(x, -5 - (i : Int))]) u gy bY W2) := k20
              clear k20 HAD x0
              go_wp2_with (at_builtin; refine wpList_appPA _ rfl (.tmp 201) (.tmp 209) rfl V9.heap.size (.slice sa sm sc) qs rfl (K20.out _ rfl).1 V20.heap.size 1 (x, -5 - (i : Int)) rfl (K20.out _ rfl).2.2.1 (by have := HPL.out; omega) (K20.out _ rfl).2.1 ?_)
              intro v21 V21 r21 g21 at21
              have k21 := (K20.out _ rfl).2.2.2 V21 v21 (by rw [List.flatMap_append]; simpa using r21) g21 (by rw [heap_one]; exact at21)
              obtain ⟨a21, c21, e21, -⟩ := Mg.row_shape r21
              generalize qs.length + 1 = m21 at e21
              subst e21
              have H21 : Hid (KM V9 V10 V11 gx bx bsx (nx + i + 1) (qs ++ [(x, -5 - (i : Int))]) (.slice a21 m21 c21) gy bY V21) := k21
              clear r21 g21 at21 k21 K20 x1
              go_wp2_with fail
              go_roundw
              case rel => exact ⟨i + 1, by omega, by go_num, ⟨_, _, _, rfl⟩, by rw [HKX.out, ← List.append_assoc, ← HQ.out, ← Nat.add_assoc]; exact H21.out⟩
              case measure => simp [intOf]; omega
            · obtain rfl : i = keys.length := by omega
              have HAD : Hid (Calls Try.prog 17 #[.pointer (some ⟨gx, 0, none⟩), .int .i64 (-77), .int .i64 1] wr fun e w' => e = .returned (.tuple #[]) ∧ ∀ W1, W1 = w'.alloc (.cells #[.int .i64 (-77), .int .i64 1] 47) → W1.ownsRow V9.heap.size 47 2 (.slice sa sm sc) qs.length (qs.flatMap enP) ∧ V9.heap.size ≤ W1.heap.size ∧ W1.rangeAt w'.heap.size 0 (enP (-77, 1)) ∧ ∀ W2 u, W2.ownsRow V9.heap.size 47 2 u (qs.length + 1) ((qs ++ [(-77, 1)]).flatMap enP) → W1.grownBy W2 (Value.slice sa sm sc).ownBlock → (u.ownBlock = (Value.slice sa sm sc).ownBlock ∨ u.ownBlock = some W1.heap.size) → KM V9 V10 V11 gx bx bsx (nx + keys.length + 1) (qs ++ [(-77, 1)]) u gy bY W2) := (ixadd_any gx bx bsx (nx + keys.length) _ (-77) 1 wr HM1.out.dp.mi (by decide) (by decide) (by omega)).mono fun e w' ⟨e1, e2, e3, e4⟩ => ⟨e1, fun W1 hW1 => by
                  have b1' : Below w'.heap.size w' W1 := by
                    rw [hW1]
                    exact up0 _ _
                  have h9 := fun W2 u => HM1.out.add (W2 := W2) (-77) 1 (by decide) (by decide) e2 e3 e4 b1' u
                  exact ⟨(h9 W1 (.slice sa sm sc)).1, (h9 W1 (.slice sa sm sc)).2.1, by rw [hW1]; exact (lb_new w' (enP (-77, 1)) 47).range, fun W2 u => (h9 W2 u).2.2⟩⟩
              clear HBW HM1 hlt hi
              go_wp2_with fail
              refine HAD.out.mono ?_
              rintro e V22 ⟨rfl, k22⟩
              have K22 : Hid (∀ W1, W1 = V22.alloc (.cells #[.int .i64 (-77), .int .i64 1] 47) → W1.ownsRow V9.heap.size 47 2 (.slice sa sm sc) qs.length (qs.flatMap enP) ∧ V9.heap.size ≤ W1.heap.size ∧ W1.rangeAt V22.heap.size 0 (enP (-77, 1)) ∧ ∀ W2 u, W2.ownsRow V9.heap.size 47 2 u (qs.length + 1) ((qs ++ [(-77, 1)]).flatMap enP) → W1.grownBy W2 (Value.slice sa sm sc).ownBlock → (u.ownBlock = (Value.slice sa sm sc).ownBlock ∨ u.ownBlock = some W1.heap.size) → KM V9 V10 V11 gx bx bsx (nx + keys.length + 1) (qs ++ [(-77, 1)]) u gy bY W2) := k22
              clear k22 HAD
              go_wp2_with (at_builtin; refine wpList_appPA _ rfl (.tmp 213) (.tmp 215) rfl V9.heap.size (.slice sa sm sc) qs rfl (K22.out _ rfl).1 V22.heap.size 1 (-77, 1) rfl (K22.out _ rfl).2.2.1 (by have := HPL.out; omega) (K22.out _ rfl).2.1 ?_)
              intro v23 V23 r23 g23 at23
              have k23 := (K22.out _ rfl).2.2.2 V23 v23 (by rw [List.flatMap_append]; simpa using r23) g23 (by rw [heap_one]; exact at23)
              obtain ⟨a23, c23, e23, -⟩ := Mg.row_shape r23
              generalize qs.length + 1 = m23 at e23
              subst e23
              obtain ⟨psF, hpsF⟩ : ∃ psF, psF = qs ++ [(-77, 1)] := ⟨_, rfl⟩
              rw [← hpsF] at k23
              have H23 : Hid (KM V9 V10 V11 gx bx bsx (nx + keys.length + 1) psF (.slice a23 m23 c23) gy bY V23) := k23
              have HLF : Hid (psF.length ≤ 601) := by
                show psF.length ≤ 601
                rw [hpsF, List.length_append]
                have := HPL.out
                simp only [List.length_cons, List.length_nil]
                omega
              have HTW : Hid (∀ h0 : 0 < keys.length, 2 ≤ (Ix.get (Ix.gml psF) keys[0]).length) := fun h0 => by
                rw [hpsF, HQ.out, List.append_assoc]
                refine Ix.twice ps _ keys[0] (-5) ?_ (List.mem_append_left _ ?_)
                · rw [← HKV.out.1, ← HKV.out.2]
                  exact List.getElem_mem h0
                · refine List.mem_map.2 ⟨0, List.mem_range.2 h0, ?_⟩
                  rw [List.getD_eq_getElem?_getD, List.getElem?_eq_getElem h0]
                  rfl
              have HHF : Hid (Calls Try.prog 6 #[.pointer (some ⟨gx, 0, none⟩), .slice a23 m23 c23] V23 fun e w' => e = .returned (.bool true) ∧ Below V23.heap.size V23 w') := ixholds_any gx bx bsx _ psF _ V23 k23.dp.mi (Pr.of k23.dp.row) (by omega) (by have := HLF.out; omega) fun p hp => (k23.dp.bd p hp).1
              clear r23 g23 at23 k23 K22 hpsF
              go_wp2_with fail
              refine HHF.out.mono ?_
              rintro e V24 ⟨rfl, f24⟩
              have H24 : Hid (KM V9 V10 V11 gx bx bsx (nx + keys.length + 1) psF (.slice a23 m23 c23) gy bY V24) := H23.out.kept f24
              clear f24 H23 HHF
              by_cases hk0 : 0 < keys.length
              · obtain ⟨kb, ko, rfl, hkc⟩ := HKC.out 0 hk0
                have x0 := hkc V24 (HV9.out.1.trans (H24.out.dp.bel.mono HV9.out.1.size))
                rw [Nat.add_zero] at x0
                obtain ⟨x, hx⟩ : ∃ x, x = keys[0] := ⟨_, rfl⟩
                rw [← hx] at x0
                have hg0 : ((0 : Int) < (keys.length : Int)) = True := by simp; omega
                obtain ⟨gn, hgn⟩ : ∃ gn, gn = (Ix.get (Ix.gml psF) x).length := ⟨_, rfl⟩
                have hg2 : ((gn : Int) < 2) = False := by
                  have := HTW.out hk0
                  rw [← hx, ← hgn] at this
                  simp
                  omega
                have HDR : Hid (Calls Try.prog 18 #[.pointer (some ⟨gx, 0, none⟩), .int .i64 x] V24 fun e w' => e = .returned (.int .i64 (gn : Int)) ∧ MI w' gy bY bsy ny (Ix.gml ps) ∧ Below V9.heap.size V9 w') := by
                  rw [hgn]
                  exact (ixdrop_any gx bx bsx _ (Ix.gml psF) x V24 H24.out.dp.mi (by rw [hx]; exact HKW.out 0 hk0) (by omega)).mono fun e w' ⟨d1, d2, d3, d4⟩ => ⟨d1, H24.out.miyDrop HY.out.1 HY.out.2.1 d3⟩
                clear hkc hx hgn
                go_wp2_with fail
                refine HDR.out.mono ?_
                rintro e V25 ⟨rfl, my, f25⟩
                have H25 : Hid (MI V25 gy bY bsy ny (Ix.gml ps) ∧ Below V9.heap.size V9 V25) := ⟨my, f25⟩
                clear my f25 HDR H24 x0
                go_wp2_with fail
                refine (HDC.out V25 (HV9.out.2.kept H25.out.2)).mono ?_
                rintro e V26 ⟨gz, bz, bsz, nz, rfl, mz, hnz, -, f26⟩
                have H26 : Hid (MI V26 gz bz bsz nz (Ix.gml ps) ∧ MI V26 gy bY bsy ny (Ix.gml ps) ∧ Below V9.heap.size V9 V26) := ⟨mz, H25.out.1.kept f26, andThen H25.out.2 f26⟩
                clear mz f26 H25
                go_wp2_with fail
                refine (HHO.out V26 gy bY bsy ny _ H26.out.2.1 (HMI.out V26 (HV9.out.1.trans (H26.out.2.2.mono HV9.out.1.size))).2.1 (by omega)).mono ?_
                rintro e V27 ⟨rfl, f27⟩
                have H27 : Hid (MI V27 gz bz bsz nz (Ix.gml ps) ∧ Below V9.heap.size V9 V27) := ⟨H26.out.1.kept f27, andThen H26.out.2.2 f27⟩
                clear f27 H26
                go_wp2_with fail
                refine (HHO.out V27 gz bz bsz nz _ H27.out.1 (HMI.out V27 (HV9.out.1.trans (H27.out.2.mono HV9.out.1.size))).2.1 (by omega)).mono ?_
                rintro e V28 ⟨rfl, f28⟩
                have H28 : Hid (Below W0.heap.size W0 V28) := (HMI.out V28 (HV9.out.1.trans ((andThen H27.out.2 f28).mono HV9.out.1.size))).2.2
                clear f28 H27
                go_wp2_with fail
                go_returns
                exact ⟨rfl, H28.out⟩
              · have hg0 : ((0 : Int) < (keys.length : Int)) = False := eq_false (by omega)
                obtain ⟨V25, hV25⟩ : ∃ V, V = V24 := ⟨_, rfl⟩
                have H25 : Hid (MI V25 gy bY bsy ny (Ix.gml ps) ∧ Below V9.heap.size V9 V25) := by
                  rw [hV25]
                  exact ⟨H24.out.miy HY.out.1 HY.out.2.1, H24.out.dp.bel⟩
                rw [← hV25]
                clear hV25 H24
                go_wp2_with fail
                refine (HDC.out V25 (HV9.out.2.kept H25.out.2)).mono ?_
                rintro e V26 ⟨gz, bz, bsz, nz, rfl, mz, hnz, -, f26⟩
                have H26 : Hid (MI V26 gz bz bsz nz (Ix.gml ps) ∧ MI V26 gy bY bsy ny (Ix.gml ps) ∧ Below V9.heap.size V9 V26) := ⟨mz, H25.out.1.kept f26, andThen H25.out.2 f26⟩
                clear mz f26 H25
                go_wp2_with fail
                refine (HHO.out V26 gy bY bsy ny _ H26.out.2.1 (HMI.out V26 (HV9.out.1.trans (H26.out.2.2.mono HV9.out.1.size))).2.1 (by omega)).mono ?_
                rintro e V27 ⟨rfl, f27⟩
                have H27 : Hid (MI V27 gz bz bsz nz (Ix.gml ps) ∧ Below V9.heap.size V9 V27) := ⟨H26.out.1.kept f27, andThen H26.out.2.2 f27⟩
                clear f27 H26
                go_wp2_with fail
                refine (HHO.out V27 gz bz bsz nz _ H27.out.1 (HMI.out V27 (HV9.out.1.trans (H27.out.2.mono HV9.out.1.size))).2.1 (by omega)).mono ?_
                rintro e V28 ⟨rfl, f28⟩
                have H28 : Hid (Below W0.heap.size W0 V28) := (HMI.out V28 (HV9.out.1.trans ((andThen H27.out.2 f28).mono HV9.out.1.size))).2.2
                clear f28 H27
                go_wp2_with fail
                go_returns
                exact ⟨rfl, H28.out⟩
        · have hd0 : ((er : Int) != 0) = true := by simp; omega
          have H9 : Hid (Below W0.heap.size W0 V9) := (HMI.out V9 HV9.out.1).2.2
          clear HV9 hz
          go_wp2_with fail
          go_ret
          exact ⟨rfl, H9.out⟩
end Go.Proofs.Ytceokpklcfmadab
